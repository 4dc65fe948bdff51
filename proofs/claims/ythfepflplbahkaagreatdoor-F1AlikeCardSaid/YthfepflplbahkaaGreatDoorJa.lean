/- Several texts, joined: FoS, FoT, FoU, FoV. -/
import Derived.Test.YthfepflplbahkaaGreatDoorJa
namespace Go.Proofs.YthfepflplbahkaaGreatDoor
namespace Fo
open Go.RowKit Go.Lib Pg Lim Gl Kv Bk Pw
attribute [local go_sem] Oper.semAt_some
set_option maxRecDepth 100000
set_option linter.unusedVariables false
set_option linter.unusedSimpArgs false
set_option maxHeartbeats 4000000
theorem run_cv {ρ : Operand → Value} {w : World} {o : Oper} (k : Int) (hk : 0 ≤ k ∧ k < 18446744073709551616) (ho : ∃ u, o.op = .convert 3 22 u ∧ ρ u = .int .i64 k := by exact ⟨_, rfl, by kernel_rfl⟩) : (execOp ρ o).run Tryz.prog w = .ok (.value (.int .u64 k)) w := by
  obtain ⟨u, h, h1⟩ := ho
  simp only [execOp, h, h1]
  go_simp
  rw [IntKind.wrap_u64, Int.emod_eq_of_lt hk.1 hk.2]
theorem cellB {w W : World} {b o : Nat} {v : Value} (B : Below w.heap.size w W) (h : w.cell? ⟨b, o, none⟩ = some v) : W.cell? ⟨b, o, none⟩ = some v := by
  rw [World.cell?_of_block (w := w) (B.block b (cell_lt h))]; exact h
theorem run_ixa {P : Program} {ρ : Operand → Value} {o : Oper} {w : World} {ao : Option Addr} (sz b off n c k : Nat) (hk : k < n) (hao : 0 < n → ao = some ⟨b, off, none⟩) (ho : ∃ T x y, o.op = .indexAddr T x y ∧ slT P T sz = true ∧ ρ x = .slice ao n c ∧ ρ y = .int .i64 (k : Int) := by exact ⟨_, _, _, rfl, by kernel_rfl, by kernel_rfl, by kernel_rfl⟩) : (execOp ρ o).run P w = .ok (.value (.pointer (some ⟨b, off + k * sz, none⟩))) w := by
  rw [hao (by omega)] at ho
  exact run_ixs sz b off n c k hk ho
theorem ld_dec {w : World} {g o : Nat} {v : Value} (c : w.cell? ⟨g, o, none⟩ = some v) : (loadVar 32 ⟨g, o, none⟩).run Tryz.prog w = .ok (.agg #[v]) w := by go_simp
theorem ld_nat {w : World} {g o : Nat} {v : Value} (c : w.cell? ⟨g, o, none⟩ = some v) : (loadVar 30 ⟨g, o, none⟩).run Tryz.prog w = .ok v w := by go_simp
theorem run_ldd {ρ : Operand → Value} {o : Oper} {w : World} {b off : Nat} {v : Value} (hc : w.cell? ⟨b, off, none⟩ = some v) (ho : ∃ p, o.op = .load 32 p ∧ ρ p = .pointer (some ⟨b, off, none⟩) := by exact ⟨_, rfl, by kernel_rfl⟩) : (execOp ρ o).run Tryz.prog w = .ok (.value (.agg #[v])) w := by
  obtain ⟨p, h, hp⟩ := ho
  have := ld_dec hc
  simp only [execOp, h, hp]
  simp [Instr.loadAt, Instr.sureAddr, Result.andThen, this]
theorem run_ldn {ρ : Operand → Value} {o : Oper} {w : World} {b off : Nat} {v : Value} (hc : w.cell? ⟨b, off, none⟩ = some v) (ho : ∃ p, o.op = .load 30 p ∧ ρ p = .pointer (some ⟨b, off, none⟩) := by exact ⟨_, rfl, by kernel_rfl⟩) : (execOp ρ o).run Tryz.prog w = .ok (.value v) w := by
  obtain ⟨p, h, hp⟩ := ho
  have := ld_nat hc
  simp only [execOp, h, hp]
  simp [Instr.loadAt, Instr.sureAddr, Result.andThen, this]
theorem run_remu {ρ : Operand → Value} {w : World} {o : Oper} (p q : Int) (hp : 0 ≤ p ∧ p < 18446744073709551616) (hq : 0 < q ∧ q < 18446744073709551616) (ho : ∃ u v, o.op = .binOp .rem 22 u v 22 ∧ ρ u = .int .u64 p ∧ ρ v = .int .u64 q := by exact ⟨_, _, rfl, by kernel_rfl, by kernel_rfl⟩) : (execOp ρ o).run Tryz.prog w = .ok (.value (.int .u64 (p % q))) w := by
  obtain ⟨u, v, h, h1, h2⟩ := ho
  have e : p.tmod q = p % q := Int.tmod_eq_emod_of_nonneg hp.1
  have e1 := Int.emod_nonneg p (show q ≠ 0 by omega)
  have e2 := Int.emod_lt_of_pos p hq.1
  have e3 : p % q % 18446744073709551616 = p % q := Int.emod_eq_of_lt e1 (by omega)
  have e4 : ¬ q = 0 := by omega
  simp only [execOp, h, h1, h2]
  go_simp
  try simp [e, e3, e4]
theorem cmpLe {w : World} {ao ao' : Option Addr} {n c n' c' : Nat} {x y : Int} (h : NatA w ao n c x) (h' : NatA w ao' n' c' y) (hn : n ≤ 1099511627776) (hn' : n' ≤ 1099511627776) (hxy : x ≤ y) : Calls Tryz.prog 26 #[.slice ao n c, .slice ao' n' c'] w fun e w' => ∃ r, e = .returned (.int .i64 r) ∧ r ≤ 0 ∧ Below w.heap.size w w' := by
  refine (nCmp h h' hn hn').mono ?_
  rintro e w' ⟨rfl, B⟩
  exact ⟨_, rfl, by unfold sgn; split <;> (try split) <;> omega, B⟩
theorem cmpGt {w : World} {ao ao' : Option Addr} {n c n' c' : Nat} {x y : Int} (h : NatA w ao n c x) (h' : NatA w ao' n' c' y) (hn : n ≤ 1099511627776) (hn' : n' ≤ 1099511627776) (hxy : y < x) : Calls Tryz.prog 26 #[.slice ao n c, .slice ao' n' c'] w fun e w' => e = .returned (.int .i64 1) ∧ Below w.heap.size w w' := by
  have t := nCmp h h' hn hn'
  rw [sgn_gt hxy] at t
  exact t
theorem dCmpLe {w : World} {ao ao' : Option Addr} {n c n' c' : Nat} {x y : Int} (h : NatA w ao n c x) (h' : NatA w ao' n' c' y) (hn : n ≤ 1099511627776) (hn' : n' ≤ 1099511627776) (hxy : x ≤ y) : Calls Tryz.prog 28 #[.agg #[.slice ao n c], .agg #[.slice ao' n' c']] w fun e w' => ∃ r, e = .returned (.int .i64 r) ∧ r ≤ 0 ∧ Below w.heap.size w w' := by
  refine (dCmp h h' hn hn').mono ?_
  rintro e w' ⟨rfl, B⟩
  exact ⟨_, rfl, by unfold sgn; split <;> (try split) <;> omega, B⟩
theorem dCmpGe {w : World} {ao ao' : Option Addr} {n c n' c' : Nat} {x y : Int} (h : NatA w ao n c x) (h' : NatA w ao' n' c' y) (hn : n ≤ 1099511627776) (hn' : n' ≤ 1099511627776) (hxy : y ≤ x) : Calls Tryz.prog 28 #[.agg #[.slice ao n c], .agg #[.slice ao' n' c']] w fun e w' => ∃ r, e = .returned (.int .i64 r) ∧ 0 ≤ r ∧ Below w.heap.size w w' := by
  refine (dCmp h h' hn hn').mono ?_
  rintro e w' ⟨rfl, B⟩
  exact ⟨_, rfl, by unfold sgn; split <;> (try split) <;> omega, B⟩
theorem dCmpEq {w : World} {ao ao' : Option Addr} {n c n' c' : Nat} {x y : Int} (h : NatA w ao n c x) (h' : NatA w ao' n' c' y) (hn : n ≤ 1099511627776) (hn' : n' ≤ 1099511627776) (hxy : x = y) : Calls Tryz.prog 28 #[.agg #[.slice ao n c], .agg #[.slice ao' n' c']] w fun e w' => e = .returned (.int .i64 0) ∧ Below w.heap.size w w' := by
  have t := dCmp h h' hn hn'
  rw [sgn_eq hxy] at t
  exact t
structure DecsA (w : World) (ao : Option Addr) (n b o : Nat) (aa : Nat → Option Addr) (ns cc : Nat → Nat) (xs : Nat → Int) : Prop where
  ptr : 0 < n → ao = some ⟨b, o, none⟩
  cell : ∀ i, i < n → w.cell? ⟨b, o + i * 1, none⟩ = some (.slice (aa i) (ns i) (cc i))
  nat : ∀ i, i < n → NatA w (aa i) (ns i) (cc i) (xs i)
  few : n ≤ 9223372036854775807 ∧ ∀ i, i < n → ns i ≤ 9223372036854775807
theorem u64r {v : Int} (b : (Lit.int .u64 v).wf = true) : 0 ≤ v ∧ v < 18446744073709551616 := by
  have := bounds_u64 b
  omega
/-- decimals in memory, as an argument lays them -/
structure DecsIn (w : World) (a : Option Addr) (len cap : Nat) : Prop where
  few : len ≤ cap ∧ cap ≤ maxLen
  row : ∀ i, i < len → ∃ b o a0 n0 c0 z0, a = some ⟨b, o, none⟩ ∧ w.cell? ⟨b, o + i, none⟩ = some (.slice a0 n0 c0) ∧ IsRow w a0 n0 c0 z0
theorem DecsIn.open {w : World} {a : Option Addr} {len cap : Nat} (h : DecsIn w a len cap) : ∃ b o aa ns cc xs, DecsA w a len b o aa ns cc xs := by
  have hb : ∃ b o, 0 < len → a = some ⟨b, o, none⟩ := by
    rcases Nat.eq_zero_or_pos len with h0 | h0
    · exact ⟨0, 0, fun h => by omega⟩
    · obtain ⟨b, o, _, _, _, _, e, _⟩ := h.row 0 h0
      exact ⟨b, o, fun _ => e⟩
  obtain ⟨b, o, hp⟩ := hb
  have hr : ∀ i, ∃ p : Option Addr × Nat × Nat × Int, i < len → w.cell? ⟨b, o + i, none⟩ = some (.slice p.1 p.2.1 p.2.2.1) ∧ NatA w p.1 p.2.1 p.2.2.1 p.2.2.2 ∧ p.2.1 ≤ 9223372036854775807 := fun i => by
    by_cases hi : i < len
    · obtain ⟨b', o', a0, n0, c0, z0, e, h1, h2⟩ := h.row i hi
      have e' := hp (by omega)
      rw [e] at e'
      cases e'
      obtain ⟨g1, o1, l1, hl1, hc1, hm1, W1, h3⟩ := h2.open
      exact ⟨(a0, n0, c0, val l1), fun _ => ⟨h1, ⟨g1, o1, l1, hl1, hc1, W1, h3, rfl⟩, hm1⟩⟩
    · exact ⟨(none, 0, 0, 0), fun h => absurd h hi⟩
  obtain ⟨f, hf⟩ := Classical.skolem.1 hr
  have hm := h.few
  unfold maxLen at hm
  exact ⟨b, o, fun i => (f i).1, fun i => (f i).2.1, fun i => (f i).2.2.1, fun i => (f i).2.2.2, hp, fun i hi => by rw [Nat.mul_one]; exact (hf i hi).1, fun i hi => (hf i hi).2.1, by omega, fun i hi => (hf i hi).2.2⟩
theorem row_nat {w : World} {a0 : Option Addr} {n0 c0 : Nat} {z0 : List Int} (h : IsRow w a0 n0 c0 z0) : ∃ x, NatA w a0 n0 c0 x ∧ n0 ≤ 9223372036854775807 := by
  obtain ⟨g1, o1, l1, hl1, hc1, hm1, W1, h3⟩ := h.open
  exact ⟨val l1, ⟨g1, o1, l1, hl1, hc1, W1, h3, rfl⟩, hm1⟩
theorem claim_fs {B : Nat} {w : World} {K : Nat → Prop} {g : Nat} {E : Ents} {W : List Ents} {n N : Nat} {rt tk un pe la fr : Int} {jl bo : Bool} {R : Int → Int} {L : List Int} {C : List (Int × Int × Int)} {a0 a1 a2 a3 a4 a5 : Option Addr} {n0 c0 n1 c1 n2 c2 n3 c3 n4 c4 n5 c5 z5 : Nat} {x5 : Int} (h : Sx B w K g E W n N) (F : Fs E 16 la R L C) (Q5 : Nq w K z5 a5 n5 c5 x5) (m5 : n5 ≤ 1000000) (hf : fr ∈ L) (hp : (pe - 1) % 18446744073709551616 = la) (hC : C.length ≤ 1000) (hn2 : n ≤ 1000000000000000000) (hN : N + 3000 ≤ 100000000) : Calls Tryz.prog 20 #[pg g, .int .u64 16, .agg #[.int .u64 rt, .int .u64 tk, .slice a0 n0 c0, .bool jl, .int .u64 un, .bool bo, .int .u64 pe, .slice a1 n1 c1, .slice a2 n2 c2, .slice a3 n3 c3], .agg #[.slice a4 n4 c4, .int .u64 fr, .slice a5 n5 c5]] w (ClmE B w K g E W n N (aft C fr).length (cmV R (aft C fr) fr la x5)) := by
  subst hp
  have hu := (F.hL fr hf).1
  have e1 := F.cutsA hu
  have e2 := F.claim (x := x5) hf
  have hl : (cutsL E 16 fr ((pe - 1) % 18446744073709551616)).length ≤ 1000 := by
    rw [e1]
    exact Nat.le_trans (List.length_filter_le _ _) hC
  have t := claim_any (x0 := 0) (z0 := 0) (x1 := 0) (z1 := 0) (x2 := 0) (z2 := 0) (x3 := 0) (z3 := 0) (x4 := 0) (z4 := 0) (rt := rt) (tk := tk) (un := un) (jl := jl) (bo := bo) (a0 := a0) (n0 := n0) (c0 := c0) (a1 := a1) (n1 := n1) (c1 := c1) (a2 := a2) (n2 := n2) (c2 := c2) (a3 := a3) (n3 := n3) (c3 := c3) (a4 := a4) (n4 := n4) (c4 := c4) h ⟨by decide, by decide⟩ Q5 m5 (F.frm8 hu F.ul) hn2 hl (by omega) hN
  rw [e1, e2] at t
  exact t
theorem lim_256 {k : Int} (h : k ≤ 1000000 * 18446744073709551616 ^ 4) : k < LIM := by
  have : (1000000 * 18446744073709551616 ^ 4 : Int) < LIM := by unfold LIM; decide +kernel
  omega
end Fo
end Go.Proofs.YthfepflplbahkaaGreatDoor

namespace Go.Proofs.YthfepflplbahkaaGreatDoor
namespace Fo
open Go.RowKit Go.Lib Pg Lim Gl Kv Bk Pw
attribute [local go_sem] Oper.semAt_some
set_option maxRecDepth 100000
set_option linter.unusedVariables false
set_option linter.unusedSimpArgs false
set_option maxHeartbeats 4000000
theorem all_up {ns : Nat → Nat} {i : Nat} (h : ∀ j, j < i → ns j ≤ 4) (hi : ns i ≤ 4) : ∀ j, j < i + 1 → ns j ≤ 4 := fun j hj => by
  rcases Nat.lt_or_ge j i with q | q
  · exact h j q
  · obtain rfl : j = i := by omega
    exact hi
theorem short_any {w : World} {ao : Option Addr} {cnt cp pb po : Nat} {aa : Nat → Option Addr} {ns cc : Nat → Nat} {xs : Nat → Int} (DA : DecsA w ao cnt pb po aa ns cc xs) : Calls Tryz.prog 29 #[.slice ao cnt cp] w fun e w' => ∃ b : Bool, e = .returned (.bool b) ∧ (b = true → cnt ≤ 20 ∧ ∀ i, i < cnt → ns i ≤ 4) ∧ Below w.heap.size w w' := by
  have BB := Below.refl w.heap.size w
  refine gc_enter (n := 24) Tryz.func29 rfl (by kernel_rfl) (by kernel_rfl) ?_
  have hfew := DA.few.1
  refine gc_seq ?_
  refine gc_reg ?_
  refine t 2 (.bool false) ?_
  refine gl_nil ?_
  refine ge_then ?_
  refine gc_seq ?_
  refine gc_seq ?_
  refine gc_reg ?_
  refine t 3 (.int .i64 0) ?_
  refine gl_nil ?_
  refine ge_then ?_
  refine gc_block ?_
  refine gc_loop (fun s => cnt - s) (fun (s : Nat) => [(0, .slice ao cnt cp), (3, .int .i64 (s : Int))]) (fun s w' => (s ≤ cnt ∧ ∀ j, j < s → ns j ≤ 4) ∧ Below w.heap.size w w') (0 : Nat) ⟨⟨Nat.zero_le _, fun _ h => absurd h (Nat.not_lt_zero _)⟩, BB⟩ (by kernel_rfl) ?_
  clear BB
  rintro i v1 ⟨⟨hi, hall⟩, BB⟩
  refine gc_seq ?_
  refine gc_seq ?_
  refine gc_reg ?_
  refine t 4 (.int .i64 (i : Int)) ?_
  refine t 5 (.slice ao cnt cp) ?_
  refine t 6 (.int .i64 ((cnt : Nat) : Int)) ?_
  by_cases ci : (i : Int) < ((cnt : Nat) : Int)
  · have hk_i : i < cnt := by omega
    refine tq 7 (.bool (decide ((i : Int) < ((cnt : Nat) : Int)))) (.bool true) (congrArg Value.bool (decide_eq_true ci)) ?_
    refine t 8 (.bool true) ?_
    refine t 9 (.int .i64 (i : Int)) ?_
    by_cases c2 : (i : Int) ≤ 20
    · refine tq 10 (.bool (decide ((i : Int) ≤ 20))) (.bool true) (congrArg Value.bool (decide_eq_true c2)) ?_
      refine t 11 (.bool true) ?_
      refine gl_nil ?_
      refine ge_then ?_
      refine gc_yes ?_
      refine gc_skip ?_
      refine ge_then ?_
      refine gc_seq ?_
      refine gc_block ?_
      refine gc_seq ?_
      refine gc_reg ?_
      refine t 14 (.slice ao cnt cp) ?_
      refine t 15 (.int .i64 (i : Int)) ?_
      refine tr 16 (pq pb (po + i * 1)) (run_ixa 1 pb po cnt cp i hk_i DA.ptr) ?_
      refine t 17 (pq pb (po + i * 1)) ?_
      refine tr 18 (.slice (aa i) (ns i) (cc i)) (run_ldn (cellB BB (DA.cell i hk_i))) ?_
      refine t 19 (.int .i64 ((ns i : Nat) : Int)) ?_
      by_cases c3 : (4 : Int) < ((ns i : Nat) : Int)
      · refine tq 20 (.bool (decide ((4 : Int) < ((ns i : Nat) : Int)))) (.bool true) (congrArg Value.bool (decide_eq_true c3)) ?_
        refine gl_nil ?_
        refine ge_then ?_
        refine gc_fr [(0, .slice ao cnt cp), (3, .int .i64 (i : Int)), (4, .int .i64 (i : Int)), (5, .slice ao cnt cp), (6, .int .i64 ((cnt : Nat) : Int)), (7, .bool true), (8, .bool true), (9, .int .i64 (i : Int)), (10, .bool true), (11, .bool true), (14, .slice ao cnt cp), (15, .int .i64 (i : Int)), (16, pq pb (po + i * 1)), (17, pq pb (po + i * 1)), (18, .slice (aa i) (ns i) (cc i)), (19, .int .i64 ((ns i : Nat) : Int)), (20, .bool true)] (by kernel_rfl) ?_
        refine gc_yes ?_
        refine gc_seq ?_
        refine gc_reg ?_
        refine t 2 (.bool false) ?_
        refine gl_nil ?_
        refine ge_then ?_
        refine gc_ret ?_
        refine ge_br ?_
        refine ge_tr ?_
        refine ge_tr ?_
        refine ge_br ?_
        refine ge_tr ?_
        refine ge_ret (.bool false) (rs1 2 (by kernel_rfl) (by kernel_rfl)) ?_
        exact ⟨false, rfl, (fun h => by cases h), BB⟩
      · refine tq 20 (.bool (decide ((4 : Int) < ((ns i : Nat) : Int)))) (.bool false) (congrArg Value.bool (decide_eq_false c3)) ?_
        refine gl_nil ?_
        refine ge_then ?_
        refine gc_fr [(0, .slice ao cnt cp), (3, .int .i64 (i : Int)), (4, .int .i64 (i : Int)), (5, .slice ao cnt cp), (6, .int .i64 ((cnt : Nat) : Int)), (7, .bool true), (8, .bool true), (9, .int .i64 (i : Int)), (10, .bool true), (11, .bool true), (14, .slice ao cnt cp), (15, .int .i64 (i : Int)), (16, pq pb (po + i * 1)), (17, pq pb (po + i * 1)), (18, .slice (aa i) (ns i) (cc i)), (19, .int .i64 ((ns i : Nat) : Int)), (20, .bool false)] (by kernel_rfl) ?_
        refine gc_no ?_
        refine gc_skip ?_
        refine ge_bn ?_
        refine ge_then ?_
        refine gc_reg ?_
        refine t 12 (.int .i64 (i : Int)) ?_
        refine tq 13 (.int .i64 (IntKind.i64.wrap ((i : Int) + 1))) (.int .i64 ((i : Int) + 1)) (wi (by omega)) ?_
        refine t 3 (.int .i64 ((i : Int) + 1)) ?_
        refine gl_nil ?_
        exact ge_round (i + 1) (by show cnt - (i + 1) < cnt - i; omega) ⟨⟨hk_i, all_up hall (by omega)⟩, BB⟩ (by kernel_rfl)
    · refine tq 10 (.bool (decide ((i : Int) ≤ 20))) (.bool false) (congrArg Value.bool (decide_eq_false c2)) ?_
      refine t 11 (.bool false) ?_
      refine gl_nil ?_
      refine ge_then ?_
      refine gc_no ?_
      refine gc_exit ?_
      refine ge_tx ?_
      refine ge_tx ?_
      refine ge_bx ?_
      refine ge_then ?_
      refine gc_seq ?_
      refine gc_reg ?_
      refine t 21 (.slice ao cnt cp) ?_
      refine t 22 (.int .i64 ((cnt : Nat) : Int)) ?_
      by_cases c4 : ((cnt : Nat) : Int) ≤ 20
      · refine tq 23 (.bool (decide (((cnt : Nat) : Int) ≤ 20))) (.bool true) (congrArg Value.bool (decide_eq_true c4)) ?_
        refine t 2 (.bool true) ?_
        refine gl_nil ?_
        refine ge_then ?_
        refine gc_fr [(2, .bool true)] (by kernel_rfl) ?_
        refine gc_ret ?_
        refine ge_ret (.bool true) (rs1 2 (by kernel_rfl) (by kernel_rfl)) ?_
        exact ⟨true, rfl, fun _ => ⟨by omega, fun j hj => hall j (by omega)⟩, BB⟩
      · refine tq 23 (.bool (decide (((cnt : Nat) : Int) ≤ 20))) (.bool false) (congrArg Value.bool (decide_eq_false c4)) ?_
        refine t 2 (.bool false) ?_
        refine gl_nil ?_
        refine ge_then ?_
        refine gc_fr [(2, .bool false)] (by kernel_rfl) ?_
        refine gc_ret ?_
        refine ge_ret (.bool false) (rs1 2 (by kernel_rfl) (by kernel_rfl)) ?_
        exact ⟨false, rfl, (fun h => by cases h), BB⟩
  · refine tq 7 (.bool (decide ((i : Int) < ((cnt : Nat) : Int)))) (.bool false) (congrArg Value.bool (decide_eq_false ci)) ?_
    refine t 8 (.bool false) ?_
    refine tn 9 ?_
    refine tn 10 ?_
    refine t 11 (.bool false) ?_
    refine gl_nil ?_
    refine ge_then ?_
    refine gc_no ?_
    refine gc_exit ?_
    refine ge_tx ?_
    refine ge_tx ?_
    refine ge_bx ?_
    refine ge_then ?_
    refine gc_seq ?_
    refine gc_reg ?_
    refine t 21 (.slice ao cnt cp) ?_
    refine t 22 (.int .i64 ((cnt : Nat) : Int)) ?_
    by_cases c5 : ((cnt : Nat) : Int) ≤ 20
    · refine tq 23 (.bool (decide (((cnt : Nat) : Int) ≤ 20))) (.bool true) (congrArg Value.bool (decide_eq_true c5)) ?_
      refine t 2 (.bool true) ?_
      refine gl_nil ?_
      refine ge_then ?_
      refine gc_fr [(2, .bool true)] (by kernel_rfl) ?_
      refine gc_ret ?_
      refine ge_ret (.bool true) (rs1 2 (by kernel_rfl) (by kernel_rfl)) ?_
      exact ⟨true, rfl, fun _ => ⟨by omega, fun j hj => hall j (by omega)⟩, BB⟩
    · refine tq 23 (.bool (decide (((cnt : Nat) : Int) ≤ 20))) (.bool false) (congrArg Value.bool (decide_eq_false c5)) ?_
      refine t 2 (.bool false) ?_
      refine gl_nil ?_
      refine ge_then ?_
      refine gc_fr [(2, .bool false)] (by kernel_rfl) ?_
      refine gc_ret ?_
      refine ge_ret (.bool false) (rs1 2 (by kernel_rfl) (by kernel_rfl)) ?_
      exact ⟨false, rfl, (fun h => by cases h), BB⟩
/-- a short list of decimals, none of which lies in the store -/
structure DcK (w : World) (K : Nat → Prop) (ao : Option Addr) (cnt pb po : Nat) (aa : Nat → Option Addr) (ns cc zz : Nat → Nat) (xs : Nat → Int) : Prop where
  ptr : 0 < cnt → ao = some ⟨pb, po, none⟩
  cell : ∀ i, i < cnt → w.cell? ⟨pb, po + i * 1, none⟩ = some (.slice (aa i) (ns i) (cc i))
  out : ¬ K pb
  nat : ∀ i, i < cnt → Nk w K (zz i) (aa i) (ns i) (cc i) (xs i)
  few : cnt ≤ 20 ∧ ∀ i, i < cnt → ns i ≤ 4
theorem DcK.at {w V : World} {K : Nat → Prop} {ao : Option Addr} {cnt pb po : Nat} {aa : Nat → Option Addr} {ns cc : Nat → Nat} {xs : Nat → Int} {zz : Nat → Nat} (D : DcK w K ao cnt pb po aa ns cc zz xs) (C : Chg K w V) {i : Nat} (hi : i < cnt) : V.cell? ⟨pb, po + i * 1, none⟩ = some (.slice (aa i) (ns i) (cc i)) := by
  have h := D.cell i hi
  rw [World.cell?_of_block (w := w) (C.same pb (cell_lt h) D.out)]
  exact h
theorem DecsA.k {w V : World} {K : Nat → Prop} {ao : Option Addr} {cnt pb po : Nat} {aa : Nat → Option Addr} {ns cc : Nat → Nat} {xs : Nat → Int} (D : DecsA w ao cnt pb po aa ns cc xs) (hs : cnt ≤ 20 ∧ ∀ i, i < cnt → ns i ≤ 4) (B : Below w.heap.size w V) (hK : ∀ b, K b → w.heap.size ≤ b) {x : Nat} (hx : ¬ K x) : ∃ pb zz, DcK V K ao cnt pb po aa ns cc zz xs := by
  have h1 : ∀ i, ∃ z, i < cnt → Nk V K z (aa i) (ns i) (cc i) (xs i) := fun i => by
    by_cases hi : i < cnt
    · obtain ⟨z, hz⟩ := nk_nat (D.nat i hi)
      exact ⟨z, fun _ => nk_out hz B hK⟩
    · exact ⟨0, fun h => absurd h hi⟩
  obtain ⟨zz, hz⟩ := Classical.skolem.1 h1
  rcases Nat.eq_zero_or_pos cnt with h0 | h0
  · subst h0
    exact ⟨x, zz, fun h => by omega, fun i hi => by omega, hx, fun i hi => by omega, hs⟩
  · exact ⟨pb, zz, D.ptr, fun i hi => cellB B (D.cell i hi), fun h => by have := hK _ h; have := cell_lt (D.cell 0 h0); omega, fun i hi => hz i hi, hs⟩
theorem ne5 {k y s z n g : Nat} (h : Fr k s y z n) (hg : g < s) (e : Ap n z g) : Ap k y g := by unfold Fr at h; unfold Ap at e ⊢; omega
theorem sQ_le {n M : Int} (hn : 0 ≤ n) {x : Nat → Int} {k : Nat} (hx : ∀ i, i < k → 0 ≤ x i ∧ x i ≤ M) : ∀ i, i ≤ k → 0 ≤ sQ n x i ∧ sQ n x i ≤ (i : Int) * M
  | 0, _ => by simp [sQ]
  | i + 1, hi => by
    obtain ⟨h1, h2⟩ := sQ_le hn hx i (by omega)
    obtain ⟨g1, g2⟩ := hx i (by omega)
    have d1 := Int.ediv_nonneg g1 hn
    have d2 := Int.ediv_le_self n g1
    unfold sQ
    rw [show (((i + 1 : Nat) : Int)) = (i : Int) + 1 by omega, Int.add_mul, Int.one_mul]
    exact ⟨by omega, by omega⟩
theorem zo {tk x : Int} (h : 0 ≤ x) : (if tk = 0 then subV 0 x else 0) = 0 := by
  unfold subV
  split
  · split <;> omega
  · rfl
structure PyS where
  K : Nat → Prop
  E : Ents
  R : Int → Int
  n : Nat
  N : Nat
  b0 : Option Addr
  k0 : Nat
  d0 : Nat
  y0 : Nat
  b1 : Option Addr
  k1 : Nat
  d1 : Nat
  y1 : Nat
  b2 : Option Addr
  k2 : Nat
  d2 : Nat
  y2 : Nat
  b3 : Option Addr
  k3 : Nat
  d3 : Nat
  y3 : Nat
  i : Nat
/-- what pay leaves: cnt periods more -/
structure PayE (B : Nat) (w : World) (K : Nat → Prop) (g : Nat) (W : List Ents) (n N : Nat) (tk la : Int) (R : Int → Int) (L : List Int) (C : List (Int × Int × Int)) (cnt : Nat) (sq x0 : Int) (n0 z0 n1 z1 n2 z2 n3 z3 : Nat) (e : Ending) (w' : World) : Prop where
  ex : ∃ b0 k0 d0 y0 b1 k1 d1 y1 b2 k2 d2 y2 b3 k3 d3 y3 K' n' N' E' R', e = .returned (.agg #[.int .u64 0, .int .u64 tk, .slice b0 k0 d0, .bool false, .int .u64 0, .bool false, .int .u64 (la + cnt + 1), .slice b1 k1 d1, .slice b2 k2 d2, .slice b3 k3 d3]) ∧ Sx B w' K' g E' W n' N' ∧ n' ≤ n + 20 * cnt ∧ N' ≤ N + 20 * cnt ∧ (∀ b, K' b → K b ∨ w.heap.size ≤ b) ∧ Chg K w w' ∧ (Nq w' K' y0 b0 k0 d0 x0 ∧ k0 ≤ n0 + cnt ∧ Fr k0 w.heap.size y0 z0 n0) ∧ (Nq w' K' y1 b1 k1 d1 0 ∧ k1 ≤ n1 + cnt ∧ Fr k1 w.heap.size y1 z1 n1) ∧ (Nq w' K' y2 b2 k2 d2 0 ∧ k2 ≤ n2 + cnt ∧ Fr k2 w.heap.size y2 z2 n2) ∧ (Nq w' K' y3 b3 k3 d3 0 ∧ k3 ≤ n3 + cnt ∧ Fr k3 w.heap.size y3 z3 n3) ∧ Fs E' 16 (la + cnt) R' L C ∧ (∀ p, p ≤ la → R' p = R p) ∧ R' (la + cnt) = R la + sq
theorem pay_any {B : Nat} {w : World} {K : Nat → Prop} {g : Nat} {E : Ents} {W : List Ents} {n N : Nat} {tk la x0 : Int} {R : Int → Int} {L : List Int} {C : List (Int × Int × Int)} {a0 : Option Addr} {n0 c0 z0 : Nat} {a1 : Option Addr} {n1 c1 z1 : Nat} {a2 : Option Addr} {n2 c2 z2 : Nat} {a3 : Option Addr} {n3 c3 z3 : Nat} {ao : Option Addr} {cnt cp pb po : Nat} {aa : Nat → Option Addr} {ns cc : Nat → Nat} {xs : Nat → Int} {zz : Nat → Nat} (h : Sx B w K g E W n N) (F : Fs E 16 la R L C) (htk : 0 ≤ tk ∧ tk < 18446744073709551616) (Q0 : Nq w K z0 a0 n0 c0 x0) (m0 : n0 ≤ 10000) (Q1 : Nq w K z1 a1 n1 c1 0) (m1 : n1 ≤ 10000) (Q2 : Nq w K z2 a2 n2 c2 0) (m2 : n2 ≤ 10000) (Q3 : Nq w K z3 a3 n3 c3 0) (m3 : n3 ≤ 10000) (D : DcK w K ao cnt pb po aa ns cc zz xs) (hsm : ∀ i, i < cnt → 0 ≤ xs i ∧ xs i ≤ 18446744073709551616 ^ 4) (hl : la ≤ 1000000) (hRl : R la ≤ 400000 * 18446744073709551616 ^ 4) (hn : n ≤ 1000000000000000000) (hN : N + 10000 ≤ 100000000) : Calls Tryz.prog 32 #[pg g, .agg #[.int .u64 0, .int .u64 tk, .slice a0 n0 c0, .bool false, .int .u64 0, .bool false, .int .u64 (la + 1), .slice a1 n1 c1, .slice a2 n2 c2, .slice a3 n3 c3], .slice ao cnt cp] w (PayE B w K g W n N tk la R L C cnt (sQ tk xs cnt) x0 n0 z0 n1 z1 n2 z2 n3 z3) := by
  have A := h.at
  have hla := F.ul
  have hcn := D.few.1
  refine gc_enter (n := 26) Tryz.func32 rfl (by kernel_rfl) (by kernel_rfl) ?_
  refine gc_seq ?_
  refine gc_reg ?_
  refine ta 4 [.int .u64 0, .int .u64 tk, .slice a0 n0 c0, .bool false, .int .u64 0, .bool false, .int .u64 (la + 1), .slice a1 n1 c1, .slice a2 n2 c2, .slice a3 n3 c3] 39 (pg) ?_
  intro v1 g2 Xg2 hg2 B
  have zg2 := Nat.le_trans A.size hg2
  have nXg2 := A.new hg2
  have eQ0g2 : Ap _ _ _ := ne1 Q0.lt hg2
  have eQ1g2 : Ap _ _ _ := ne1 Q1.lt hg2
  have eQ2g2 : Ap _ _ _ := ne1 Q2.lt hg2
  have eQ3g2 : Ap _ _ _ := ne1 Q3.lt hg2
  replace A := A.keep B
  replace Q0 := Q0.keep B
  replace Q1 := Q1.keep B
  replace Q2 := Q2.keep B
  replace Q3 := Q3.keep B
  clear B
  have lXg2 := Xg2.lt
  refine ta 6 [.int .u64 0, .int .u64 0, .slice none 0 0, .bool false, .int .u64 0, .bool false, .int .u64 0, .slice none 0 0, .slice none 0 0, .slice none 0 0] 39 (pg) ?_
  intro v3 g4 Xg4 hg4 B
  have zg4 := Nat.le_trans A.size hg4
  have nXg4 := A.new hg4
  have eQ0g4 : Ap _ _ _ := ne1 Q0.lt hg4
  have eQ1g4 : Ap _ _ _ := ne1 Q1.lt hg4
  have eQ2g4 : Ap _ _ _ := ne1 Q2.lt hg4
  have eQ3g4 : Ap _ _ _ := ne1 Q3.lt hg4
  replace A := A.keep B
  replace Q0 := Q0.keep B
  replace Q1 := Q1.keep B
  replace Q2 := Q2.keep B
  replace Q3 := Q3.keep B
  replace Xg2 := Xg2.keep B
  clear B
  refine gl_nil ?_
  refine ge_then ?_
  refine gc_seq ?_
  refine gc_seq ?_
  refine gc_reg ?_
  refine t 7 (.int .i64 0) ?_
  refine gl_nil ?_
  refine ge_then ?_
  refine gc_block ?_
  refine gc_loop (fun (s : PyS) => cnt - s.i) (fun (s : PyS) => [(0, pg g), (2, .slice ao cnt cp), (4, pg g2), (6, pg g4), (7, .int .i64 (s.i : Int))]) (fun (s : PyS) w' => (s.i ≤ cnt ∧ s.n ≤ n + 20 * s.i ∧ s.N ≤ N + 20 * s.i) ∧ Bk.At B w K w' s.K g s.E W s.n s.N ∧ (Blk w' g2 [.int .u64 0, .int .u64 tk, .slice s.b0 s.k0 s.d0, .bool false, .int .u64 0, .bool false, .int .u64 (la + s.i + 1), .slice s.b1 s.k1 s.d1, .slice s.b2 s.k2 s.d2, .slice s.b3 s.k3 s.d3] 39 ∧ ¬ s.K g2) ∧ (Blk w' g4 [.int .u64 0, .int .u64 0, .slice none 0 0, .bool false, .int .u64 0, .bool false, .int .u64 0, .slice none 0 0, .slice none 0 0, .slice none 0 0] 39 ∧ ¬ s.K g4) ∧ (Nq w' s.K s.y0 s.b0 s.k0 s.d0 x0 ∧ s.k0 ≤ n0 + s.i ∧ Fr s.k0 w.heap.size s.y0 z0 n0 ∧ Ap s.k0 s.y0 g2 ∧ Ap s.k0 s.y0 g4) ∧ (Nq w' s.K s.y1 s.b1 s.k1 s.d1 0 ∧ s.k1 ≤ n1 + s.i ∧ Fr s.k1 w.heap.size s.y1 z1 n1 ∧ Ap s.k1 s.y1 g2 ∧ Ap s.k1 s.y1 g4) ∧ (Nq w' s.K s.y2 s.b2 s.k2 s.d2 0 ∧ s.k2 ≤ n2 + s.i ∧ Fr s.k2 w.heap.size s.y2 z2 n2 ∧ Ap s.k2 s.y2 g2 ∧ Ap s.k2 s.y2 g4) ∧ (Nq w' s.K s.y3 s.b3 s.k3 s.d3 0 ∧ s.k3 ≤ n3 + s.i ∧ Fr s.k3 w.heap.size s.y3 z3 n3 ∧ Ap s.k3 s.y3 g2 ∧ Ap s.k3 s.y3 g4) ∧ Fs s.E 16 (la + s.i) s.R L C ∧ (∀ p, p ≤ la → s.R p = R p) ∧ s.R (la + s.i) = R la + sQ tk xs s.i) (⟨_, E, R, _, _, a0, n0, c0, z0, a1, n1, c1, z1, a2, n2, c2, z2, a3, n3, c3, z3, 0⟩ : PyS) ⟨⟨Nat.zero_le _, by (try dsimp only); omega, by (try dsimp only); omega⟩, A, ⟨by simpa using Xg2, nXg2⟩, ⟨Xg4, nXg4⟩, ⟨Q0, Nat.le_refl _, .inr (.inr ⟨rfl, rfl⟩), eQ0g2, eQ0g4⟩, ⟨Q1, Nat.le_refl _, .inr (.inr ⟨rfl, rfl⟩), eQ1g2, eQ1g4⟩, ⟨Q2, Nat.le_refl _, .inr (.inr ⟨rfl, rfl⟩), eQ2g2, eQ2g4⟩, ⟨Q3, Nat.le_refl _, .inr (.inr ⟨rfl, rfl⟩), eQ3g2, eQ3g4⟩, by simpa using F, fun _ _ => rfl, by show R (la + (0 : Nat)) = R la + 0; simp⟩ (by kernel_rfl) ?_
  clear A
  clear Q0
  clear Q1
  clear Q2
  clear Q3
  clear Xg2
  clear Xg4
  rintro ⟨K', E', R', n', N', b0, k0, d0, y0, b1, k1, d1, y1, b2, k2, d2, y2, b3, k3, d3, y3, i⟩ v5 ⟨⟨hi, hn', hN'⟩, A, ⟨Xg2, nXg2'⟩, ⟨Xg4, nXg4'⟩, ⟨P0, m0', fr0, eP0g2, eP0g4⟩, ⟨P1, m1', fr1, eP1g2, eP1g4⟩, ⟨P2, m2', fr2, eP2g2, eP2g4⟩, ⟨P3, m3', fr3, eP3g2, eP3g4⟩, FS, hsame, rl⟩
  dsimp only at *
  clear nXg2 nXg4
  have nXg2 := nXg2'
  have nXg4 := nXg4'
  clear nXg2' nXg4'
  refine gc_seq ?_
  refine gc_seq ?_
  refine gc_reg ?_
  refine t 8 (.int .i64 (i : Int)) ?_
  refine t 9 (.slice ao cnt cp) ?_
  refine t 10 (.int .i64 ((cnt : Nat) : Int)) ?_
  by_cases ci : (i : Int) < ((cnt : Nat) : Int)
  · have hk_i : i < cnt := by omega
    have QA := (D.nat i hk_i).op A.km A.cc
    have eQAg2 : Ap _ _ _ := ne1 (D.nat i hk_i).lt zg2
    have eQAg4 : Ap _ _ _ := ne1 (D.nat i hk_i).lt zg4
    have hs4 := D.few.2 i hk_i
    have hxi := hsm i hk_i
    have hdv := Int.ediv_nonneg hxi.1 htk.1
    have bd1 := sQ_le htk.1 hsm (i + 1) hk_i
    have sqi : sQ tk xs (i + 1) = sQ tk xs i + xs i / tk := rfl
    have hlim : R' (la + i) + xs i / tk < LIM := by
      have h9 : ((i + 1 : Nat) : Int) * 18446744073709551616 ^ 4 ≤ 100 * 18446744073709551616 ^ 4 := Int.mul_le_mul_of_nonneg_right (by omega) (by decide)
      refine lim_256 ?_
      omega
    have F2 := FS.close (tk := tk) (cur := xs i) (by omega) hdv hlim
    have hsame' : ∀ p, p ≤ la → upd R' (la + i + 1) (R' (la + i) + xs i / tk) p = R p := fun p hp => by
      unfold upd
      rw [if_neg (by omega)]
      exact hsame p hp
    have rl' : upd R' (la + i + 1) (R' (la + i) + xs i / tk) (la + ((i + 1 : Nat) : Int)) = R la + sQ tk xs (i + 1) := by
      unfold upd
      rw [if_pos (by omega)]
      omega
    refine tq 11 (.bool (decide ((i : Int) < ((cnt : Nat) : Int)))) (.bool true) (congrArg Value.bool (decide_eq_true ci)) ?_
    refine gl_nil ?_
    refine ge_then ?_
    refine gc_yes ?_
    refine gc_skip ?_
    refine ge_then ?_
    refine gc_seq ?_
    refine gc_block ?_
    refine gc_seq ?_
    refine gc_reg ?_
    refine t 14 (.slice ao cnt cp) ?_
    refine t 15 (.int .i64 (i : Int)) ?_
    refine tr 16 (pq pb (po + i * 1)) (run_ixa 1 pb po cnt cp i hk_i D.ptr) ?_
    refine tr 17 (.agg #[.slice (aa i) (ns i) (cc i)]) (run_ldd (D.at A.cc hk_i)) ?_
    refine t 18 (pq g2 7) ?_
    refine ts Xg2 7 (.agg #[.slice (aa i) (ns i) (cc i)]) [.slice (aa i) (ns i) (cc i)] [.int .u64 0, .int .u64 tk, .slice b0 k0 d0, .bool false, .int .u64 0, .bool false, .int .u64 (la + i + 1), .slice (aa i) (ns i) (cc i), .slice b2 k2 d2, .slice b3 k3 d3] ?_
    intro v6 Y C
    replace A := Bk.At.cell A Xg2 C zg2 nXg2 (by decide)
    replace Xg4 := Xg4.chg C (show g4 ≠ g2 by omega)
    replace P0 := P0.cell C eP0g2
    replace P1 := P1.cell C eP1g2
    replace P2 := P2.cell C eP2g2
    replace P3 := P3.cell C eP3g2
    replace QA := QA.cell C eQAg2
    clear C Xg2
    have Xg2 := Y
    clear Y
    refine gl_nil ?_
    refine ge_then ?_
    refine gc_reg ?_
    refine t 20 (pg g) ?_
    refine tlr 21 [.int .u64 0, .int .u64 tk, .slice b0 k0 d0, .bool false, .int .u64 0, .bool false, .int .u64 (la + i + 1), .slice (aa i) (ns i) (cc i), .slice b2 k2 d2, .slice b3 k3 d3] Xg2 0 ?_
    refine tc 22 22 #[pg g, .int .u64 16, .agg #[.int .u64 0, .int .u64 tk, .slice b0 k0 d0, .bool false, .int .u64 0, .bool false, .int .u64 (la + i + 1), .slice (aa i) (ns i) (cc i), .slice b2 k2 d2, .slice b3 k3 d3]] (ClE.cast (E' := closeE E' 16 (la + i + 1) tk (xs i)) (pq := la + i + 1 + 1) (close_any A.sx (id := 16) ⟨by decide, by decide⟩ htk P0.nk (by omega) QA (by omega) P2.nk (by omega) P3.nk (by omega) (by omega) (by omega)) (by omega) rfl) ?_
    rintro _ v14 ⟨aq7, nq7, cq7, zq7, aq8, nq8, cq8, zq8, aq9, nq9, cq9, zq9, aq10, nq10, cq10, zq10, K11, n12, N13, rfl, S, qn12, qN13, hK, hC, Qq7, mq7, hq7, Qq8, mq8, hq8, Qq9, mq9, hq9, Qq10, mq10, hq10⟩
    refine ⟨_, rfl, ?_⟩
    have eQq7g2 : Ap _ _ _ := ne2 hq7 Xg2.lt
    have eQq7g4 : Ap _ _ _ := ne2 hq7 Xg4.lt
    have fQq7 : Fh _ _ _ := ne3 hq7 A.size
    have eQq8g2 : Ap _ _ _ := ne2 hq8 Xg2.lt
    have eQq8g4 : Ap _ _ _ := ne2 hq8 Xg4.lt
    have fQq8 : Fh _ _ _ := ne3 hq8 A.size
    have eQq9g2 : Ap _ _ _ := ne2 hq9 Xg2.lt
    have eQq9g4 : Ap _ _ _ := ne2 hq9 Xg4.lt
    have fQq9 : Fh _ _ _ := ne3 hq9 A.size
    have eQq10g2 : Ap _ _ _ := ne2 hq10 Xg2.lt
    have eQq10g4 : Ap _ _ _ := ne2 hq10 Xg4.lt
    have fQq10 : Fh _ _ _ := ne3 hq10 A.size
    clear hq7 hq8 hq9 hq10
    have mXg2 := not_opF Xg2 nXg2 hK
    replace Xg2 := Xg2.chg hC nXg2
    replace nXg2 := mXg2
    clear mXg2
    have mXg4 := not_opF Xg4 nXg4 hK
    replace Xg4 := Xg4.chg hC nXg4
    replace nXg4 := mXg4
    clear mXg4
    replace P0 := P0.op hK hC
    replace P1 := P1.op hK hC
    replace P2 := P2.op hK hC
    replace P3 := P3.op hK hC
    replace QA := QA.op hK hC
    replace A := A.op S hK hC
    clear S hK hC
    replace Qq9 := Qq9.eqv (zo hxi.1)
    clear Qq8
    refine t 19 (.tuple #[.agg #[.int .u64 0, .int .u64 tk, .slice aq7 nq7 cq7, .bool false, .int .u64 0, .bool false, .int .u64 (la + i + 1 + 1), .slice none 0 0, .slice aq9 nq9 cq9, .slice aq10 nq10 cq10], .agg #[.slice aq8 nq8 cq8]]) ?_
    refine t 23 (.agg #[.int .u64 0, .int .u64 tk, .slice aq7 nq7 cq7, .bool false, .int .u64 0, .bool false, .int .u64 (la + i + 1 + 1), .slice none 0 0, .slice aq9 nq9 cq9, .slice aq10 nq10 cq10]) ?_
    refine t 24 (.agg #[.slice aq8 nq8 cq8]) ?_
    refine ts Xg2 0 (.agg #[.int .u64 0, .int .u64 tk, .slice aq7 nq7 cq7, .bool false, .int .u64 0, .bool false, .int .u64 (la + i + 1 + 1), .slice none 0 0, .slice aq9 nq9 cq9, .slice aq10 nq10 cq10]) [.int .u64 0, .int .u64 tk, .slice aq7 nq7 cq7, .bool false, .int .u64 0, .bool false, .int .u64 (la + i + 1 + 1), .slice none 0 0, .slice aq9 nq9 cq9, .slice aq10 nq10 cq10] [.int .u64 0, .int .u64 tk, .slice aq7 nq7 cq7, .bool false, .int .u64 0, .bool false, .int .u64 (la + i + 1 + 1), .slice none 0 0, .slice aq9 nq9 cq9, .slice aq10 nq10 cq10] ?_
    intro v15 Y C
    replace A := Bk.At.cell A Xg2 C zg2 nXg2 (by decide)
    replace Xg4 := Xg4.chg C (show g4 ≠ g2 by omega)
    replace P0 := P0.cell C eP0g2
    replace P1 := P1.cell C eP1g2
    replace P2 := P2.cell C eP2g2
    replace P3 := P3.cell C eP3g2
    replace QA := QA.cell C eQAg2
    replace Qq7 := Qq7.cell C eQq7g2
    replace Qq9 := Qq9.cell C eQq9g2
    replace Qq10 := Qq10.cell C eQq10g2
    clear C Xg2
    have Xg2 := Y
    clear Y
    refine gl_nil ?_
    refine ge_bn ?_
    refine ge_then ?_
    refine gc_fr [(0, pg g), (2, .slice ao cnt cp), (4, pg g2), (6, pg g4), (7, .int .i64 (i : Int)), (8, .int .i64 (i : Int)), (9, .slice ao cnt cp), (10, .int .i64 ((cnt : Nat) : Int)), (11, .bool true), (14, .slice ao cnt cp), (15, .int .i64 (i : Int)), (16, pq pb (po + i * 1)), (17, .agg #[.slice (aa i) (ns i) (cc i)]), (18, pq g2 7), (19, .tuple #[.agg #[.int .u64 0, .int .u64 tk, .slice aq7 nq7 cq7, .bool false, .int .u64 0, .bool false, .int .u64 (la + i + 1 + 1), .slice none 0 0, .slice aq9 nq9 cq9, .slice aq10 nq10 cq10], .agg #[.slice aq8 nq8 cq8]]), (20, pg g), (21, .agg #[.int .u64 0, .int .u64 tk, .slice b0 k0 d0, .bool false, .int .u64 0, .bool false, .int .u64 (la + i + 1), .slice (aa i) (ns i) (cc i), .slice b2 k2 d2, .slice b3 k3 d3]), (22, .tuple #[.agg #[.int .u64 0, .int .u64 tk, .slice aq7 nq7 cq7, .bool false, .int .u64 0, .bool false, .int .u64 (la + i + 1 + 1), .slice none 0 0, .slice aq9 nq9 cq9, .slice aq10 nq10 cq10], .agg #[.slice aq8 nq8 cq8]]), (23, .agg #[.int .u64 0, .int .u64 tk, .slice aq7 nq7 cq7, .bool false, .int .u64 0, .bool false, .int .u64 (la + i + 1 + 1), .slice none 0 0, .slice aq9 nq9 cq9, .slice aq10 nq10 cq10])] (by kernel_rfl) ?_
    refine gc_reg ?_
    refine t 12 (.int .i64 (i : Int)) ?_
    refine tq 13 (.int .i64 (IntKind.i64.wrap ((i : Int) + 1))) (.int .i64 ((i : Int) + 1)) (wi (by omega)) ?_
    refine t 7 (.int .i64 ((i : Int) + 1)) ?_
    refine gl_nil ?_
    have hpe : la + ((i + 1 : Nat) : Int) + 1 = la + i + 1 + 1 := by omega
    have hpf : la + ((i + 1 : Nat) : Int) = la + i + 1 := by omega
    exact ge_round (⟨_, closeE E' 16 (la + i + 1) tk (xs i), upd R' (la + i + 1) (R' (la + i) + xs i / tk), _, _, aq7, nq7, cq7, zq7, none, 0, 0, 0, aq9, nq9, cq9, zq9, aq10, nq10, cq10, zq10, (i + 1)⟩ : PyS) (by show cnt - (i + 1) < cnt - i; omega) ⟨⟨hk_i, by (try dsimp only); omega, by (try dsimp only); omega⟩, A, ⟨by rw [hpe]; exact Xg2, nXg2⟩, ⟨Xg4, nXg4⟩, ⟨Qq7, by (try dsimp only); omega, fQq7.fr, eQq7g2, eQq7g4⟩, ⟨nq_nil _ _, Nat.zero_le _, .inl rfl, .inl rfl, .inl rfl⟩, ⟨Qq9, by (try dsimp only); omega, fQq9.fr, eQq9g2, eQq9g4⟩, ⟨Qq10, by (try dsimp only); omega, fQq10.fr, eQq10g2, eQq10g4⟩, by rw [hpf]; exact F2, hsame', rl'⟩ (by kernel_rfl)
  · refine tq 11 (.bool (decide ((i : Int) < ((cnt : Nat) : Int)))) (.bool false) (congrArg Value.bool (decide_eq_false ci)) ?_
    refine gl_nil ?_
    refine ge_then ?_
    refine gc_no ?_
    refine gc_exit ?_
    refine ge_tx ?_
    refine ge_tx ?_
    refine ge_bx ?_
    refine ge_then ?_
    refine gc_seq ?_
    refine gc_reg ?_
    refine tlr 25 [.int .u64 0, .int .u64 tk, .slice b0 k0 d0, .bool false, .int .u64 0, .bool false, .int .u64 (la + i + 1), .slice b1 k1 d1, .slice b2 k2 d2, .slice b3 k3 d3] Xg2 0 ?_
    refine ts Xg4 0 (.agg #[.int .u64 0, .int .u64 tk, .slice b0 k0 d0, .bool false, .int .u64 0, .bool false, .int .u64 (la + i + 1), .slice b1 k1 d1, .slice b2 k2 d2, .slice b3 k3 d3]) [.int .u64 0, .int .u64 tk, .slice b0 k0 d0, .bool false, .int .u64 0, .bool false, .int .u64 (la + i + 1), .slice b1 k1 d1, .slice b2 k2 d2, .slice b3 k3 d3] [.int .u64 0, .int .u64 tk, .slice b0 k0 d0, .bool false, .int .u64 0, .bool false, .int .u64 (la + i + 1), .slice b1 k1 d1, .slice b2 k2 d2, .slice b3 k3 d3] ?_
    intro v16 Y C
    replace A := Bk.At.cell A Xg4 C zg4 nXg4 (by decide)
    replace Xg2 := Xg2.chg C (show g2 ≠ g4 by omega)
    replace P0 := P0.cell C eP0g4
    replace P1 := P1.cell C eP1g4
    replace P2 := P2.cell C eP2g4
    replace P3 := P3.cell C eP3g4
    clear C Xg4
    have Xg4 := Y
    clear Y
    refine gl_nil ?_
    refine ge_then ?_
    refine gc_ret ?_
    refine ge_ret (.agg #[.int .u64 0, .int .u64 tk, .slice b0 k0 d0, .bool false, .int .u64 0, .bool false, .int .u64 (la + i + 1), .slice b1 k1 d1, .slice b2 k2 d2, .slice b3 k3 d3]) (rsc 6 (T := 39) (by kernel_rfl) (by kernel_rfl) (lr Xg4 0)) ?_
    obtain rfl : i = cnt := by omega
    exact ⟨_, _, _, _, _, _, _, _, _, _, _, _, _, _, _, _, _, _, _, _, _, rfl, A.sx, by omega, by omega, A.km, A.cc, ⟨P0, m0', fr0⟩, ⟨P1, m1', fr1⟩, ⟨P2, m2', fr2⟩, ⟨P3, m3', fr3⟩, FS, hsame, rl⟩
end Fo
end Go.Proofs.YthfepflplbahkaaGreatDoor

namespace Go.Proofs.YthfepflplbahkaaGreatDoor
namespace Fo
open Go.RowKit Go.Lib Pg Lim Gl Kv Bk Pw
attribute [local go_sem] Oper.semAt_some
set_option maxRecDepth 100000
set_option linter.unusedVariables false
set_option linter.unusedSimpArgs false
set_option maxHeartbeats 4000000
theorem DecsA.keep {w V : World} {ao : Option Addr} {cnt pb po : Nat} {aa : Nat → Option Addr} {ns cc : Nat → Nat} {xs : Nat → Int} (D : DecsA w ao cnt pb po aa ns cc xs) (B : Below w.heap.size w V) : DecsA V ao cnt pb po aa ns cc xs := ⟨D.ptr, fun i hi => cellB B (D.cell i hi), fun i hi => (D.nat i hi).keep B, D.few⟩
theorem DecsA.sm {w : World} {ao : Option Addr} {cnt pb po : Nat} {aa : Nat → Option Addr} {ns cc : Nat → Nat} {xs : Nat → Int} (D : DecsA w ao cnt pb po aa ns cc xs) (hs : cnt ≤ 20 ∧ ∀ i, i < cnt → ns i ≤ 4) : ∀ i, i < cnt → 0 ≤ xs i ∧ xs i ≤ 18446744073709551616 ^ 4 := fun i hi => ⟨(D.nat i hi).nonneg, Int.le_of_lt (Int.lt_of_lt_of_le (NatA.ltF (D.nat i hi)) (pow64_m (hs.2 i hi)))⟩
theorem U36_eq : U36 = 1000000000000000000000000000000000000 := by decide
theorem sp_lo (z S T : Int) : z * S / U36 + z * T / U36 ≤ z * (S + T) / U36 := by
  rw [Int.mul_add, U36_eq]
  generalize z * S = a
  generalize z * T = b
  omega
theorem sp_hi (z S T : Int) : z * (S + T) / U36 ≤ z * S / U36 + z * T / U36 + 1 := by
  rw [Int.mul_add, U36_eq]
  generalize z * S = a
  generalize z * T = b
  omega
end Fo
end Go.Proofs.YthfepflplbahkaaGreatDoor

namespace Go.Proofs.YthfepflplbahkaaGreatDoor
namespace Fo
open Go.RowKit Go.Lib Pg Lim Gl Kv Bk Pw
attribute [local go_sem] Oper.semAt_some
set_option maxRecDepth 100000
set_option linter.unusedVariables false
set_option linter.unusedSimpArgs false
set_option maxHeartbeats 4000000
theorem sQ_zero (x : Nat → Int) : ∀ i, sQ 0 x i = 0
  | 0 => rfl
  | i + 1 => by
    unfold sQ
    rw [sQ_zero x i, Int.ediv_zero]
    rfl
theorem cmV_cut {R : Int → Int} {p b fr la x : Int} (h : R fr ≤ R p) : cmV R [(p, b, 0)] fr la x = x * (R p - R fr) / U36 := by
  show 0 + x * subV (R p) (R fr) / U36 + x * (0 * U36) / (b * U36) * subV (R la) (R p) / U36 = _
  unfold subV
  rw [if_pos h, Int.zero_mul, Int.mul_zero, Int.zero_ediv, Int.zero_mul, Int.zero_ediv]
  omega
theorem al_ge (z S : Int) : z * S / U36 + z * S / U36 ≤ (z + z) * S / U36 := by
  rw [Int.add_mul, U36_eq]
  generalize z * S = a
  omega
theorem al_le {z S T : Int} (hz : 0 ≤ z) (hS : 0 ≤ S) : z * T / U36 ≤ z * (S + T) / U36 := Int.ediv_le_ediv (by decide) (Int.mul_le_mul_of_nonneg_left (by omega) hz)
theorem aft_one {p b a fr : Int} (h : fr < p) : aft [(p, b, a)] fr = [(p, b, a)] := by
  unfold aft
  rw [List.filter_cons_of_pos (by simpa using h)]
  rfl
structure JD where
  K : Nat → Prop
  n : Nat
  N : Nat
  gd : Nat
  a0 : Option Addr
  k0 : Nat
  c0 : Nat
  z0 : Nat
  a1 : Option Addr
  k1 : Nat
  c1 : Nat
  z1 : Nat
end Fo
end Go.Proofs.YthfepflplbahkaaGreatDoor
