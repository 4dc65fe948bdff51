/- gleanlaw8.RecBack. -/
import Derived.Test.YthiddfachcpjeaaGreatJfa
namespace Go.Proofs.YthiddfachcpjeaaGreat
namespace Rc
open Go.RowKit Go.Lib Pg Lim
attribute [local go_sem] Oper.semAt_some
theorem boxx46 {vs : List Value} (w : World) : (Instr.box 46 (.agg vs.toArray)).run Tryz.prog w = .ok (.pointer (some ⟨w.heap.size, 0, none⟩)) (w.alloc (.cells vs.toArray 46)) := by
  go_simp
set_option maxRecDepth 100000 in
theorem ldx24 {w : World} {g o : Nat} {v0 : Value} {v1 : Value} {v2 : Value} {v3 : Value} {v4 : Value} {v5 : Value} {v6 : Value} {v7 : Value} {v8 : Value} {v9 : Value} (c0 : w.cell? ⟨g, o, none⟩ = some v0) (c1 : w.cell? ⟨g, o + 1, none⟩ = some v1) (c2 : w.cell? ⟨g, o + 2, none⟩ = some v2) (c3 : w.cell? ⟨g, o + 3, none⟩ = some v3) (c4 : w.cell? ⟨g, o + 4, none⟩ = some v4) (c5 : w.cell? ⟨g, o + 5, none⟩ = some v5) (c6 : w.cell? ⟨g, o + 6, none⟩ = some v6) (c7 : w.cell? ⟨g, o + 7, none⟩ = some v7) (c8 : w.cell? ⟨g, o + 8, none⟩ = some v8) (c9 : w.cell? ⟨g, o + 9, none⟩ = some v9) : (loadVar 24 ⟨g, o, none⟩).run Tryz.prog w = .ok (.agg #[v0, v1, v2, v3, v4, v5, v6, v7, v8, v9]) w := by go_simp
theorem allocx24 (w : World) : (Instr.alloc 24 true (.tuple #[])).run Tryz.prog w = .ok (.pointer (some ⟨w.heap.size, 0, none⟩)) (w.alloc (.cells [.int .u64 0, .int .u64 0, .int .u64 0, .int .u64 0, .int .u64 0, .int .u64 0, .int .u64 0, .int .u64 0, .int .u64 0, .int .u64 0].toArray 24)) := by go_simp
set_option maxRecDepth 100000 in
theorem ldx26 {w : World} {g o : Nat} {v0 : Value} {v1 : Value} (c0 : w.cell? ⟨g, o, none⟩ = some v0) (c1 : w.cell? ⟨g, o + 1, none⟩ = some v1) : (loadVar 26 ⟨g, o, none⟩).run Tryz.prog w = .ok (.agg #[v0, v1]) w := by go_simp
theorem allocx26 (w : World) : (Instr.alloc 26 true (.tuple #[])).run Tryz.prog w = .ok (.pointer (some ⟨w.heap.size, 0, none⟩)) (w.alloc (.cells [.int .u64 0, .int .u64 0].toArray 26)) := by go_simp
set_option maxRecDepth 100000 in
theorem ldx30 {w : World} {g o : Nat} {v0 : Value} (c0 : w.cell? ⟨g, o, none⟩ = some v0) : (loadVar 30 ⟨g, o, none⟩).run Tryz.prog w = .ok (.agg #[v0]) w := by go_simp
theorem allocx30 (w : World) : (Instr.alloc 30 true (.tuple #[])).run Tryz.prog w = .ok (.pointer (some ⟨w.heap.size, 0, none⟩)) (w.alloc (.cells [.slice none 0 0].toArray 30)) := by go_simp
set_option maxRecDepth 100000 in
theorem ldx32 {w : World} {g o : Nat} {v0 : Value} {v1 : Value} (c0 : w.cell? ⟨g, o, none⟩ = some v0) (c1 : w.cell? ⟨g, o + 1, none⟩ = some v1) : (loadVar 32 ⟨g, o, none⟩).run Tryz.prog w = .ok (.agg #[v0, v1]) w := by go_simp
theorem allocx32 (w : World) : (Instr.alloc 32 true (.tuple #[])).run Tryz.prog w = .ok (.pointer (some ⟨w.heap.size, 0, none⟩)) (w.alloc (.cells [.int .u64 0, .int .u64 0].toArray 32)) := by go_simp
set_option maxRecDepth 100000 in
theorem ldx40 {w : World} {g o : Nat} {v0 : Value} {v1 : Value} (c0 : w.cell? ⟨g, o, none⟩ = some v0) (c1 : w.cell? ⟨g, o + 1, none⟩ = some v1) : (loadVar 40 ⟨g, o, none⟩).run Tryz.prog w = .ok (.agg #[v0, v1]) w := by go_simp
theorem allocx40 (w : World) : (Instr.alloc 40 true (.tuple #[])).run Tryz.prog w = .ok (.pointer (some ⟨w.heap.size, 0, none⟩)) (w.alloc (.cells [.int .u64 0, .int .u64 0].toArray 40)) := by go_simp
set_option maxRecDepth 100000 in
theorem ldx42 {w : World} {g o : Nat} {v0 : Value} {v1 : Value} {v2 : Value} {v3 : Value} {v4 : Value} {v5 : Value} (c0 : w.cell? ⟨g, o, none⟩ = some v0) (c1 : w.cell? ⟨g, o + 1, none⟩ = some v1) (c2 : w.cell? ⟨g, o + 2, none⟩ = some v2) (c3 : w.cell? ⟨g, o + 3, none⟩ = some v3) (c4 : w.cell? ⟨g, o + 4, none⟩ = some v4) (c5 : w.cell? ⟨g, o + 5, none⟩ = some v5) : (loadVar 42 ⟨g, o, none⟩).run Tryz.prog w = .ok (.agg #[v0, v1, v2, v3, v4, v5]) w := by go_simp
theorem allocx42 (w : World) : (Instr.alloc 42 true (.tuple #[])).run Tryz.prog w = .ok (.pointer (some ⟨w.heap.size, 0, none⟩)) (w.alloc (.cells [.int .u64 0, .int .u64 0, .int .u64 0, .int .u64 0, .int .u64 0, .int .u64 0].toArray 42)) := by go_simp
set_option maxRecDepth 100000 in
theorem ldx22 {w : World} {g o : Nat} {v0 : Value} (c0 : w.cell? ⟨g, o, none⟩ = some v0) : (loadVar 22 ⟨g, o, none⟩).run Tryz.prog w = .ok (v0) w := by go_simp
set_option maxRecDepth 100000 in
theorem ldx34 {w : World} {g o : Nat} {v0 : Value} {v1 : Value} {v2 : Value} {v3 : Value} {v4 : Value} {v5 : Value} {v6 : Value} {v7 : Value} {v8 : Value} {v9 : Value} (c0 : w.cell? ⟨g, o, none⟩ = some v0) (c1 : w.cell? ⟨g, o + 1, none⟩ = some v1) (c2 : w.cell? ⟨g, o + 2, none⟩ = some v2) (c3 : w.cell? ⟨g, o + 3, none⟩ = some v3) (c4 : w.cell? ⟨g, o + 4, none⟩ = some v4) (c5 : w.cell? ⟨g, o + 5, none⟩ = some v5) (c6 : w.cell? ⟨g, o + 6, none⟩ = some v6) (c7 : w.cell? ⟨g, o + 7, none⟩ = some v7) (c8 : w.cell? ⟨g, o + 8, none⟩ = some v8) (c9 : w.cell? ⟨g, o + 9, none⟩ = some v9) : (loadVar 34 ⟨g, o, none⟩).run Tryz.prog w = .ok (.agg #[v0, v1, v2, v3, v4, v5, v6, v7, v8, v9]) w := by go_simp
theorem allocx34 (w : World) : (Instr.alloc 34 true (.tuple #[])).run Tryz.prog w = .ok (.pointer (some ⟨w.heap.size, 0, none⟩)) (w.alloc (.cells [.int .u64 0, .int .u64 0, .slice none 0 0, .bool false, .int .u64 0, .bool false, .int .u64 0, .slice none 0 0, .slice none 0 0, .slice none 0 0].toArray 34)) := by go_simp
set_option maxRecDepth 100000 in
theorem ldx36 {w : World} {g o : Nat} {v0 : Value} {v1 : Value} {v2 : Value} (c0 : w.cell? ⟨g, o, none⟩ = some v0) (c1 : w.cell? ⟨g, o + 1, none⟩ = some v1) (c2 : w.cell? ⟨g, o + 2, none⟩ = some v2) : (loadVar 36 ⟨g, o, none⟩).run Tryz.prog w = .ok (.agg #[v0, v1, v2]) w := by go_simp
theorem allocx36 (w : World) : (Instr.alloc 36 true (.tuple #[])).run Tryz.prog w = .ok (.pointer (some ⟨w.heap.size, 0, none⟩)) (w.alloc (.cells [.slice none 0 0, .int .u64 0, .slice none 0 0].toArray 36)) := by go_simp
set_option maxRecDepth 100000 in
theorem ldx38 {w : World} {g o : Nat} {v0 : Value} {v1 : Value} (c0 : w.cell? ⟨g, o, none⟩ = some v0) (c1 : w.cell? ⟨g, o + 1, none⟩ = some v1) : (loadVar 38 ⟨g, o, none⟩).run Tryz.prog w = .ok (.agg #[v0, v1]) w := by go_simp
theorem allocx38 (w : World) : (Instr.alloc 38 true (.tuple #[])).run Tryz.prog w = .ok (.pointer (some ⟨w.heap.size, 0, none⟩)) (w.alloc (.cells [.slice none 0 0, .int .u64 0].toArray 38)) := by go_simp
set_option maxRecDepth 100000 in
theorem ldx44 {w : World} {g o : Nat} {v0 : Value} {v1 : Value} {v2 : Value} {v3 : Value} {v4 : Value} {v5 : Value} {v6 : Value} (c0 : w.cell? ⟨g, o, none⟩ = some v0) (c1 : w.cell? ⟨g, o + 1, none⟩ = some v1) (c2 : w.cell? ⟨g, o + 2, none⟩ = some v2) (c3 : w.cell? ⟨g, o + 3, none⟩ = some v3) (c4 : w.cell? ⟨g, o + 4, none⟩ = some v4) (c5 : w.cell? ⟨g, o + 5, none⟩ = some v5) (c6 : w.cell? ⟨g, o + 6, none⟩ = some v6) : (loadVar 44 ⟨g, o, none⟩).run Tryz.prog w = .ok (.agg #[v0, v1, v2, v3, v4, v5, v6]) w := by go_simp
theorem allocx44 (w : World) : (Instr.alloc 44 true (.tuple #[])).run Tryz.prog w = .ok (.pointer (some ⟨w.heap.size, 0, none⟩)) (w.alloc (.cells [.int .u64 0, .int .u64 0, .int .u64 0, .int .u64 0, .int .u64 0, .int .u64 0, .slice none 0 0].toArray 44)) := by go_simp
theorem storex30 {g i : Nat} {a b : Option Addr} {n c m d : Nat} (w : World) (h : w.cell? ⟨g, i, none⟩ = some (.slice b m d)) (hf : w.frozen? ⟨g, i, none⟩ = false) : (Instr.storeAt 30 (.pointer (some ⟨g, i, none⟩)) (.agg #[.slice a n c])).run Tryz.prog w = .ok () (w.setCell ⟨g, i, none⟩ (.slice a n c)) := by go_simp
set_option maxHeartbeats 8000000 in
set_option maxRecDepth 100000 in
theorem recBack_walk {w : World} {cs : List Value} {xs : Nat → Int} {aa : Nat → Option Addr} {ns cc : Nat → Nat} {ts : Nat → Bool} (R : RecA w cs xs aa ns cc ts) :
    Calls Tryz.prog 5 #[.agg cs.toArray] w fun e w' => e = .returned (.bool true) ∧ Below w.heap.size w w' := by
  have BB := Below.refl w.heap.size w
  have RR := R
  have hc := R.len
  obtain ⟨q0, r0⟩ := R.u 0 (by decide)
  obtain ⟨q1, r1⟩ := R.u 1 (by decide)
  obtain ⟨q2, r2⟩ := R.u 2 (by decide)
  obtain ⟨q3, r3⟩ := R.u 3 (by decide)
  obtain ⟨q4, r4⟩ := R.u 4 (by decide)
  obtain ⟨q5, r5⟩ := R.u 5 (by decide)
  obtain ⟨q6, r6⟩ := R.u 6 (by decide)
  obtain ⟨q7, r7⟩ := R.u 7 (by decide)
  obtain ⟨q8, r8⟩ := R.u 8 (by decide)
  obtain ⟨q9, r9⟩ := R.u 9 (by decide)
  obtain ⟨q10, r10⟩ := R.u 10 (by decide)
  obtain ⟨q11, r11⟩ := R.u 11 (by decide)
  obtain ⟨q12, h12, m12⟩ := R.d 12 (by decide)
  obtain ⟨q13, r13⟩ := R.u 13 (by decide)
  obtain ⟨q14, r14⟩ := R.u 14 (by decide)
  obtain ⟨q15, r15⟩ := R.u 15 (by decide)
  obtain ⟨q16, r16⟩ := R.u 16 (by decide)
  obtain ⟨q17, h17, m17⟩ := R.d 17 (by decide)
  have q18 := R.b 18 (by decide)
  obtain ⟨q19, r19⟩ := R.u 19 (by decide)
  have q20 := R.b 20 (by decide)
  obtain ⟨q21, r21⟩ := R.u 21 (by decide)
  obtain ⟨q22, h22, m22⟩ := R.d 22 (by decide)
  obtain ⟨q23, h23, m23⟩ := R.d 23 (by decide)
  obtain ⟨q24, h24, m24⟩ := R.d 24 (by decide)
  obtain ⟨q25, h25, m25⟩ := R.d 25 (by decide)
  obtain ⟨q26, r26⟩ := R.u 26 (by decide)
  obtain ⟨q27, h27, m27⟩ := R.d 27 (by decide)
  obtain ⟨q28, h28, m28⟩ := R.d 28 (by decide)
  obtain ⟨q29, r29⟩ := R.u 29 (by decide)
  obtain ⟨q30, r30⟩ := R.u 30 (by decide)
  obtain ⟨q31, r31⟩ := R.u 31 (by decide)
  obtain ⟨q32, r32⟩ := R.u 32 (by decide)
  obtain ⟨q33, r33⟩ := R.u 33 (by decide)
  obtain ⟨q34, r34⟩ := R.u 34 (by decide)
  obtain ⟨q35, r35⟩ := R.u 35 (by decide)
  obtain ⟨q36, r36⟩ := R.u 36 (by decide)
  obtain ⟨q37, r37⟩ := R.u 37 (by decide)
  obtain ⟨q38, r38⟩ := R.u 38 (by decide)
  obtain ⟨q39, r39⟩ := R.u 39 (by decide)
  obtain ⟨q40, r40⟩ := R.u 40 (by decide)
  obtain ⟨q41, r41⟩ := R.u 41 (by decide)
  obtain ⟨q42, r42⟩ := R.u 42 (by decide)
  obtain ⟨q43, r43⟩ := R.u 43 (by decide)
  obtain ⟨q44, h44, m44⟩ := R.d 44 (by decide)
  obtain ⟨q45, r45⟩ := R.u 45 (by decide)
  clear R
  have LOW := Nat.le_refl w.heap.size
  go_enter Tryz.func5, Tryz.ntmps5
  refine wp_seq ?_
  refine wp_region_lit ?_
  refine wl_box 1 0 46 cs rfl rfl rfl (by kernel_rfl) boxx46 ?_
  intro v1w g1v XB hg1v B
  replace RR := RR.keep B
  replace BB := joinB BB B
  clear B
  refine wl_take (some 2) (.bool false) rfl rfl (by kernel_rfl) ?_
  refine wpList_nil ?_
  refine wp_then ?_
  refine wp_frame (a' := ⟨#[(.agg cs.toArray), (.pointer (some ⟨g1v, 0, none⟩)), (.bool false), undef, undef, undef, undef, undef, undef, undef, undef, undef, undef, undef, undef, undef, undef, undef, undef, undef, undef, undef, undef, undef, undef, undef, undef, undef, undef, undef, undef, undef, undef, undef, undef, undef, undef, undef, undef, undef, undef, undef, undef, undef, undef, undef, undef, undef, undef, undef, undef, undef, undef, undef, undef, undef, undef, undef, undef, undef, undef, undef, undef, undef, undef, undef, undef, undef, undef, undef, undef, undef, undef, undef, undef, undef, undef, undef, undef, undef, undef, undef, undef, undef, undef, undef, undef, undef, undef, undef, undef, undef, undef, undef, undef, undef, undef, undef, undef, undef, undef, undef, undef, undef, undef, undef, undef, undef, undef, undef, undef, undef, undef, undef, undef, undef, undef, undef, undef, undef, undef, undef, undef, undef, undef, undef, undef, undef, undef, undef, undef, undef, undef, undef, undef, undef, undef, undef, undef, undef, undef, undef, undef, undef, undef, undef, undef, undef, undef, undef, undef, undef, undef, undef, undef, undef, undef, undef, undef, undef, undef, undef, undef, undef, undef, undef, undef, undef, undef, undef, undef, undef, undef, undef, undef, undef, undef, undef, undef, undef, undef, undef, undef, undef, undef, undef, undef, undef, undef, undef, undef, undef, undef, undef, undef, undef, undef, undef, undef, undef, undef, undef, undef, undef, undef, undef, undef, undef, undef, undef, undef, undef, undef, undef, undef, undef, undef, undef, undef, undef, undef, undef, undef, undef, undef, undef, undef, undef, undef, undef, undef, undef, undef], []⟩) (by kernel_rfl) ?_
  refine wp_seq ?_
  refine wp_seq ?_
  refine wp_region_lit ?_
  refine wl_call (some 23) 7 #[] rfl rfl (by kernel_rfl) (known8 _) ?_
  rintro e1 u1 ⟨rfl, B⟩
  refine ⟨_, rfl, ?_⟩
  replace RR := RR.keep B
  replace XB := XB.keep B
  replace BB := joinB BB B
  clear B
  refine wl_take (some 24) (.bool false) rfl rfl (by kernel_rfl) ?_
  refine wpList_nil ?_
  refine wp_then ?_
  refine wp_frame (a' := ⟨#[(.agg cs.toArray), (.pointer (some ⟨g1v, 0, none⟩)), (.bool false), undef, undef, undef, undef, undef, undef, undef, undef, undef, undef, undef, undef, undef, undef, undef, undef, undef, undef, undef, undef, (.bool true), (.bool false), undef, undef, undef, undef, undef, undef, undef, undef, undef, undef, undef, undef, undef, undef, undef, undef, undef, undef, undef, undef, undef, undef, undef, undef, undef, undef, undef, undef, undef, undef, undef, undef, undef, undef, undef, undef, undef, undef, undef, undef, undef, undef, undef, undef, undef, undef, undef, undef, undef, undef, undef, undef, undef, undef, undef, undef, undef, undef, undef, undef, undef, undef, undef, undef, undef, undef, undef, undef, undef, undef, undef, undef, undef, undef, undef, undef, undef, undef, undef, undef, undef, undef, undef, undef, undef, undef, undef, undef, undef, undef, undef, undef, undef, undef, undef, undef, undef, undef, undef, undef, undef, undef, undef, undef, undef, undef, undef, undef, undef, undef, undef, undef, undef, undef, undef, undef, undef, undef, undef, undef, undef, undef, undef, undef, undef, undef, undef, undef, undef, undef, undef, undef, undef, undef, undef, undef, undef, undef, undef, undef, undef, undef, undef, undef, undef, undef, undef, undef, undef, undef, undef, undef, undef, undef, undef, undef, undef, undef, undef, undef, undef, undef, undef, undef, undef, undef, undef, undef, undef, undef, undef, undef, undef, undef, undef, undef, undef, undef, undef, undef, undef, undef, undef, undef, undef, undef, undef, undef, undef, undef, undef, undef, undef, undef, undef, undef, undef, undef, undef, undef, undef, undef, undef, undef, undef, undef, undef, undef], []⟩) (by kernel_rfl) ?_
  refine wp_cond_false (by kernel_rfl) ?_
  refine wp_skip_then ?_
  refine wp_seq ?_
  refine wp_seq ?_
  refine wp_region_lit ?_
  refine wl_take (some 25) (.agg cs.toArray) rfl rfl (run_lp 1 (by kernel_rfl) (by kernel_rfl) (ld_all XB Tryz.underlying46 rfl (by rw [hc]; kernel_rfl))) ?_
  refine wl_call (some 26) 8 #[.agg cs.toArray] rfl rfl (by kernel_rfl) (light_any RR) ?_
  rintro e1 u2 ⟨bl, rfl, hl, B⟩
  refine ⟨_, rfl, ?_⟩
  replace RR := RR.keep B
  replace XB := XB.keep B
  replace BB := joinB BB B
  clear B
  cases bl
  · refine wl_take (some 27) (.bool true) rfl rfl (by kernel_rfl) ?_
    refine wpList_nil ?_
    refine wp_then ?_
    refine wp_frame (a' := ⟨#[(.agg cs.toArray), (.pointer (some ⟨g1v, 0, none⟩)), (.bool false), undef, undef, undef, undef, undef, undef, undef, undef, undef, undef, undef, undef, undef, undef, undef, undef, undef, undef, undef, undef, (.bool true), (.bool false), (.agg cs.toArray), (.bool false), (.bool true), undef, undef, undef, undef, undef, undef, undef, undef, undef, undef, undef, undef, undef, undef, undef, undef, undef, undef, undef, undef, undef, undef, undef, undef, undef, undef, undef, undef, undef, undef, undef, undef, undef, undef, undef, undef, undef, undef, undef, undef, undef, undef, undef, undef, undef, undef, undef, undef, undef, undef, undef, undef, undef, undef, undef, undef, undef, undef, undef, undef, undef, undef, undef, undef, undef, undef, undef, undef, undef, undef, undef, undef, undef, undef, undef, undef, undef, undef, undef, undef, undef, undef, undef, undef, undef, undef, undef, undef, undef, undef, undef, undef, undef, undef, undef, undef, undef, undef, undef, undef, undef, undef, undef, undef, undef, undef, undef, undef, undef, undef, undef, undef, undef, undef, undef, undef, undef, undef, undef, undef, undef, undef, undef, undef, undef, undef, undef, undef, undef, undef, undef, undef, undef, undef, undef, undef, undef, undef, undef, undef, undef, undef, undef, undef, undef, undef, undef, undef, undef, undef, undef, undef, undef, undef, undef, undef, undef, undef, undef, undef, undef, undef, undef, undef, undef, undef, undef, undef, undef, undef, undef, undef, undef, undef, undef, undef, undef, undef, undef, undef, undef, undef, undef, undef, undef, undef, undef, undef, undef, undef, undef, undef, undef, undef, undef, undef, undef, undef, undef, undef, undef, undef, undef, undef, undef], []⟩) (by kernel_rfl) ?_
    go_wp2
    go_ret
    exact ⟨rfl, BB⟩
  refine wl_take (some 27) (.bool false) rfl rfl (by kernel_rfl) ?_
  refine wpList_nil ?_
  refine wp_then ?_
  refine wp_frame (a' := ⟨#[(.agg cs.toArray), (.pointer (some ⟨g1v, 0, none⟩)), (.bool false), undef, undef, undef, undef, undef, undef, undef, undef, undef, undef, undef, undef, undef, undef, undef, undef, undef, undef, undef, undef, (.bool true), (.bool false), (.agg cs.toArray), (.bool true), (.bool false), undef, undef, undef, undef, undef, undef, undef, undef, undef, undef, undef, undef, undef, undef, undef, undef, undef, undef, undef, undef, undef, undef, undef, undef, undef, undef, undef, undef, undef, undef, undef, undef, undef, undef, undef, undef, undef, undef, undef, undef, undef, undef, undef, undef, undef, undef, undef, undef, undef, undef, undef, undef, undef, undef, undef, undef, undef, undef, undef, undef, undef, undef, undef, undef, undef, undef, undef, undef, undef, undef, undef, undef, undef, undef, undef, undef, undef, undef, undef, undef, undef, undef, undef, undef, undef, undef, undef, undef, undef, undef, undef, undef, undef, undef, undef, undef, undef, undef, undef, undef, undef, undef, undef, undef, undef, undef, undef, undef, undef, undef, undef, undef, undef, undef, undef, undef, undef, undef, undef, undef, undef, undef, undef, undef, undef, undef, undef, undef, undef, undef, undef, undef, undef, undef, undef, undef, undef, undef, undef, undef, undef, undef, undef, undef, undef, undef, undef, undef, undef, undef, undef, undef, undef, undef, undef, undef, undef, undef, undef, undef, undef, undef, undef, undef, undef, undef, undef, undef, undef, undef, undef, undef, undef, undef, undef, undef, undef, undef, undef, undef, undef, undef, undef, undef, undef, undef, undef, undef, undef, undef, undef, undef, undef, undef, undef, undef, undef, undef, undef, undef, undef, undef, undef, undef, undef], []⟩) (by kernel_rfl) ?_
  refine wp_cond_false (by kernel_rfl) ?_
  refine wp_skip_then ?_
  replace hl := hl rfl
  clear RR
  have z12 : ns 12 ≤ 1000000 := Nat.le_trans (hl 12 (by decide)) (by decide)
  have z17 : ns 17 ≤ 1000000 := Nat.le_trans (hl 17 (by decide)) (by decide)
  have z22 : ns 22 ≤ 1000000 := Nat.le_trans (hl 22 (by decide)) (by decide)
  have z23 : ns 23 ≤ 1000000 := Nat.le_trans (hl 23 (by decide)) (by decide)
  have z24 : ns 24 ≤ 1000000 := Nat.le_trans (hl 24 (by decide)) (by decide)
  have z25 : ns 25 ≤ 1000000 := Nat.le_trans (hl 25 (by decide)) (by decide)
  have z27 : ns 27 ≤ 1000000 := Nat.le_trans (hl 27 (by decide)) (by decide)
  have z28 : ns 28 ≤ 1000000 := Nat.le_trans (hl 28 (by decide)) (by decide)
  have z44 : ns 44 ≤ 1000000 := Nat.le_trans (hl 44 (by decide)) (by decide)
  clear hl m12 m17 m22 m23 m24 m25 m27 m28 m44
  refine wp_seq ?_
  refine wp_region_lit ?_
  refine wl_take (some 29) (.pointer (some ⟨g1v, 0, none⟩)) rfl rfl (by kernel_rfl) ?_
  refine wl_take (some 30) (.agg #[.int .u64 (xs 0), .int .u64 (xs 1), .int .u64 (xs 2), .int .u64 (xs 3), .int .u64 (xs 4), .int .u64 (xs 5), .int .u64 (xs 6), .int .u64 (xs 7), .int .u64 (xs 8), .int .u64 (xs 9)]) rfl rfl (run_lp 29 (by kernel_rfl) (by kernel_rfl) (ldx24 (XB.cell (i := 0) q0) (XB.cell (i := 1) q1) (XB.cell (i := 2) q2) (XB.cell (i := 3) q3) (XB.cell (i := 4) q4) (XB.cell (i := 5) q5) (XB.cell (i := 6) q6) (XB.cell (i := 7) q7) (XB.cell (i := 8) q8) (XB.cell (i := 9) q9))) ?_
  refine wl_call (some 31) 9 #[.agg #[.int .u64 (xs 0), .int .u64 (xs 1), .int .u64 (xs 2), .int .u64 (xs 3), .int .u64 (xs 4), .int .u64 (xs 5), .int .u64 (xs 6), .int .u64 (xs 7), .int .u64 (xs 8), .int .u64 (xs 9)]] rfl rfl (by kernel_rfl) (PutParams_any (x0 := xs 0) (x1 := xs 1) (x2 := xs 2) (x3 := xs 3) (x4 := xs 4) (x5 := xs 5) (x6 := xs 6) (x7 := xs 7) (x8 := xs 8) (x9 := xs 9)) ?_
  rintro e1 v4w ⟨bParams, nnParams, rfl, hnParams, XLParams, hbParams, B⟩
  refine ⟨_, rfl, ?_⟩
  replace XB := XB.keep B
  replace BB := joinB BB B
  clear B
  obtain ⟨LParams, hkParams⟩ := laidB XLParams hnParams (by decide)
  clear hnParams XLParams hbParams
  refine wl_call (some 32) 37 #[.slice (some ⟨bParams, 0, none⟩) nnParams nnParams] rfl rfl (by kernel_rfl) (bk_Params LParams (by omega) r0 r1 r2 r3 r4 r5 r6 r7 r8 r9) ?_
  rintro e1 v5w ⟨rfl, B⟩
  refine ⟨_, rfl, ?_⟩
  replace XB := XB.keep B
  replace BB := joinB BB B
  clear B
  clear LParams hkParams
  refine wl_take (some 28) (.tuple #[.agg #[.int .u64 (xs 0), .int .u64 (xs 1), .int .u64 (xs 2), .int .u64 (xs 3), .int .u64 (xs 4), .int .u64 (xs 5), .int .u64 (xs 6), .int .u64 (xs 7), .int .u64 (xs 8), .int .u64 (xs 9)], .int .i64 0]) rfl rfl (by kernel_rfl) ?_
  refine wl_take (some 33) (.agg #[.int .u64 (xs 0), .int .u64 (xs 1), .int .u64 (xs 2), .int .u64 (xs 3), .int .u64 (xs 4), .int .u64 (xs 5), .int .u64 (xs 6), .int .u64 (xs 7), .int .u64 (xs 8), .int .u64 (xs 9)]) rfl rfl (by kernel_rfl) ?_
  refine wl_take (some 34) (.int .i64 0) rfl rfl (by kernel_rfl) ?_
  refine wl_new 3 33 24 [.int .u64 0, .int .u64 0, .int .u64 0, .int .u64 0, .int .u64 0, .int .u64 0, .int .u64 0, .int .u64 0, .int .u64 0, .int .u64 0] [.int .u64 (xs 0), .int .u64 (xs 1), .int .u64 (xs 2), .int .u64 (xs 3), .int .u64 (xs 4), .int .u64 (xs 5), .int .u64 (xs 6), .int .u64 (xs 7), .int .u64 (xs 8), .int .u64 (xs 9)] rfl rfl rfl rfl rfl rfl allocx24 (fun _ => by kernel_rfl) (fun _ => by kernel_rfl) (by kernel_rfl) rfl (by kernel_rfl) ?_
  intro v6w g6v GParams hg6v B
  replace XB := XB.keep B
  replace BB := joinB BB B
  clear B
  refine wl_take (some 4) (.int .i64 0) rfl rfl (by kernel_rfl) ?_
  refine wpList_nil ?_
  refine wp_then ?_
  refine wp_frame (a' := ⟨#[(.agg cs.toArray), (.pointer (some ⟨g1v, 0, none⟩)), (.bool false), (.pointer (some ⟨g6v, 0, none⟩)), (.int .i64 0), undef, undef, undef, undef, undef, undef, undef, undef, undef, undef, undef, undef, undef, undef, undef, undef, undef, undef, (.bool true), (.bool false), (.agg cs.toArray), (.bool true), (.bool false), (.tuple #[.agg #[.int .u64 (xs 0), .int .u64 (xs 1), .int .u64 (xs 2), .int .u64 (xs 3), .int .u64 (xs 4), .int .u64 (xs 5), .int .u64 (xs 6), .int .u64 (xs 7), .int .u64 (xs 8), .int .u64 (xs 9)], .int .i64 0]), (.pointer (some ⟨g1v, 0, none⟩)), (.agg #[.int .u64 (xs 0), .int .u64 (xs 1), .int .u64 (xs 2), .int .u64 (xs 3), .int .u64 (xs 4), .int .u64 (xs 5), .int .u64 (xs 6), .int .u64 (xs 7), .int .u64 (xs 8), .int .u64 (xs 9)]), (.slice (some ⟨bParams, 0, none⟩) nnParams nnParams), (.tuple #[.agg #[.int .u64 (xs 0), .int .u64 (xs 1), .int .u64 (xs 2), .int .u64 (xs 3), .int .u64 (xs 4), .int .u64 (xs 5), .int .u64 (xs 6), .int .u64 (xs 7), .int .u64 (xs 8), .int .u64 (xs 9)], .int .i64 0]), (.agg #[.int .u64 (xs 0), .int .u64 (xs 1), .int .u64 (xs 2), .int .u64 (xs 3), .int .u64 (xs 4), .int .u64 (xs 5), .int .u64 (xs 6), .int .u64 (xs 7), .int .u64 (xs 8), .int .u64 (xs 9)]), (.int .i64 0), undef, undef, undef, undef, undef, undef, undef, undef, undef, undef, undef, undef, undef, undef, undef, undef, undef, undef, undef, undef, undef, undef, undef, undef, undef, undef, undef, undef, undef, undef, undef, undef, undef, undef, undef, undef, undef, undef, undef, undef, undef, undef, undef, undef, undef, undef, undef, undef, undef, undef, undef, undef, undef, undef, undef, undef, undef, undef, undef, undef, undef, undef, undef, undef, undef, undef, undef, undef, undef, undef, undef, undef, undef, undef, undef, undef, undef, undef, undef, undef, undef, undef, undef, undef, undef, undef, undef, undef, undef, undef, undef, undef, undef, undef, undef, undef, undef, undef, undef, undef, undef, undef, undef, undef, undef, undef, undef, undef, undef, undef, undef, undef, undef, undef, undef, undef, undef, undef, undef, undef, undef, undef, undef, undef, undef, undef, undef, undef, undef, undef, undef, undef, undef, undef, undef, undef, undef, undef, undef, undef, undef, undef, undef, undef, undef, undef, undef, undef, undef, undef, undef, undef, undef, undef, undef, undef, undef, undef, undef, undef, undef, undef, undef, undef, undef, undef, undef, undef, undef, undef, undef, undef, undef, undef, undef, undef, undef, undef, undef, undef, undef, undef, undef, undef, undef, undef, undef, undef, undef, undef, undef, undef, undef, undef, undef, undef, undef, undef], []⟩) (by kernel_rfl) ?_
  refine wp_seq ?_
  refine wp_region_lit ?_
  refine wl_take (some 36) (.pointer (some ⟨g1v, 10, none⟩)) rfl rfl (by kernel_rfl) ?_
  refine wl_take (some 37) (.agg #[.int .u64 (xs 10), .int .u64 (xs 11)]) rfl rfl (run_lp 36 (by kernel_rfl) (by kernel_rfl) (ldx26 (XB.cell (i := 10) q10) (XB.cell (i := 11) q11))) ?_
  refine wl_call (some 38) 10 #[.agg #[.int .u64 (xs 10), .int .u64 (xs 11)]] rfl rfl (by kernel_rfl) (PutChain_any (x0 := xs 10) (x1 := xs 11)) ?_
  rintro e1 v7w ⟨bChain, nnChain, rfl, hnChain, XLChain, hbChain, B⟩
  refine ⟨_, rfl, ?_⟩
  replace XB := XB.keep B
  replace GParams := GParams.keep B
  replace BB := joinB BB B
  clear B
  obtain ⟨LChain, hkChain⟩ := laidB XLChain hnChain (by decide)
  clear hnChain XLChain hbChain
  refine wl_call (some 39) 38 #[.slice (some ⟨bChain, 0, none⟩) nnChain nnChain] rfl rfl (by kernel_rfl) (bk_Chain LChain (by omega) r10 r11) ?_
  rintro e1 v8w ⟨rfl, B⟩
  refine ⟨_, rfl, ?_⟩
  replace XB := XB.keep B
  replace GParams := GParams.keep B
  replace BB := joinB BB B
  clear B
  clear LChain hkChain
  refine wl_take (some 35) (.tuple #[.agg #[.int .u64 (xs 10), .int .u64 (xs 11)], .int .i64 0]) rfl rfl (by kernel_rfl) ?_
  refine wl_take (some 40) (.agg #[.int .u64 (xs 10), .int .u64 (xs 11)]) rfl rfl (by kernel_rfl) ?_
  refine wl_take (some 41) (.int .i64 0) rfl rfl (by kernel_rfl) ?_
  refine wl_new 5 40 26 [.int .u64 0, .int .u64 0] [.int .u64 (xs 10), .int .u64 (xs 11)] rfl rfl rfl rfl rfl rfl allocx26 (fun _ => by kernel_rfl) (fun _ => by kernel_rfl) (by kernel_rfl) rfl (by kernel_rfl) ?_
  intro v9w g9v GChain hg9v B
  replace XB := XB.keep B
  replace GParams := GParams.keep B
  replace BB := joinB BB B
  clear B
  refine wl_take (some 6) (.int .i64 0) rfl rfl (by kernel_rfl) ?_
  refine wpList_nil ?_
  refine wp_then ?_
  refine wp_frame (a' := ⟨#[(.agg cs.toArray), (.pointer (some ⟨g1v, 0, none⟩)), (.bool false), (.pointer (some ⟨g6v, 0, none⟩)), (.int .i64 0), (.pointer (some ⟨g9v, 0, none⟩)), (.int .i64 0), undef, undef, undef, undef, undef, undef, undef, undef, undef, undef, undef, undef, undef, undef, undef, undef, (.bool true), (.bool false), (.agg cs.toArray), (.bool true), (.bool false), (.tuple #[.agg #[.int .u64 (xs 0), .int .u64 (xs 1), .int .u64 (xs 2), .int .u64 (xs 3), .int .u64 (xs 4), .int .u64 (xs 5), .int .u64 (xs 6), .int .u64 (xs 7), .int .u64 (xs 8), .int .u64 (xs 9)], .int .i64 0]), (.pointer (some ⟨g1v, 0, none⟩)), (.agg #[.int .u64 (xs 0), .int .u64 (xs 1), .int .u64 (xs 2), .int .u64 (xs 3), .int .u64 (xs 4), .int .u64 (xs 5), .int .u64 (xs 6), .int .u64 (xs 7), .int .u64 (xs 8), .int .u64 (xs 9)]), (.slice (some ⟨bParams, 0, none⟩) nnParams nnParams), (.tuple #[.agg #[.int .u64 (xs 0), .int .u64 (xs 1), .int .u64 (xs 2), .int .u64 (xs 3), .int .u64 (xs 4), .int .u64 (xs 5), .int .u64 (xs 6), .int .u64 (xs 7), .int .u64 (xs 8), .int .u64 (xs 9)], .int .i64 0]), (.agg #[.int .u64 (xs 0), .int .u64 (xs 1), .int .u64 (xs 2), .int .u64 (xs 3), .int .u64 (xs 4), .int .u64 (xs 5), .int .u64 (xs 6), .int .u64 (xs 7), .int .u64 (xs 8), .int .u64 (xs 9)]), (.int .i64 0), (.tuple #[.agg #[.int .u64 (xs 10), .int .u64 (xs 11)], .int .i64 0]), (.pointer (some ⟨g1v, 10, none⟩)), (.agg #[.int .u64 (xs 10), .int .u64 (xs 11)]), (.slice (some ⟨bChain, 0, none⟩) nnChain nnChain), (.tuple #[.agg #[.int .u64 (xs 10), .int .u64 (xs 11)], .int .i64 0]), (.agg #[.int .u64 (xs 10), .int .u64 (xs 11)]), (.int .i64 0), undef, undef, undef, undef, undef, undef, undef, undef, undef, undef, undef, undef, undef, undef, undef, undef, undef, undef, undef, undef, undef, undef, undef, undef, undef, undef, undef, undef, undef, undef, undef, undef, undef, undef, undef, undef, undef, undef, undef, undef, undef, undef, undef, undef, undef, undef, undef, undef, undef, undef, undef, undef, undef, undef, undef, undef, undef, undef, undef, undef, undef, undef, undef, undef, undef, undef, undef, undef, undef, undef, undef, undef, undef, undef, undef, undef, undef, undef, undef, undef, undef, undef, undef, undef, undef, undef, undef, undef, undef, undef, undef, undef, undef, undef, undef, undef, undef, undef, undef, undef, undef, undef, undef, undef, undef, undef, undef, undef, undef, undef, undef, undef, undef, undef, undef, undef, undef, undef, undef, undef, undef, undef, undef, undef, undef, undef, undef, undef, undef, undef, undef, undef, undef, undef, undef, undef, undef, undef, undef, undef, undef, undef, undef, undef, undef, undef, undef, undef, undef, undef, undef, undef, undef, undef, undef, undef, undef, undef, undef, undef, undef, undef, undef, undef, undef, undef, undef, undef, undef, undef, undef, undef, undef, undef, undef, undef, undef, undef, undef, undef, undef, undef, undef, undef, undef, undef, undef, undef, undef, undef, undef], []⟩) (by kernel_rfl) ?_
  refine wp_seq ?_
  refine wp_region_lit ?_
  refine wl_take (some 43) (.pointer (some ⟨g1v, 12, none⟩)) rfl rfl (by kernel_rfl) ?_
  refine wl_take (some 44) (.agg #[.slice (aa 12) (ns 12) (cc 12)]) rfl rfl (run_lp 43 (by kernel_rfl) (by kernel_rfl) (ldx30 (XB.cell (i := 12) q12))) ?_
  refine wl_call (some 45) 11 #[.agg #[.slice (aa 12) (ns 12) (cc 12)]] rfl rfl (by kernel_rfl) (PutPool_any (h0 := h12.keep BB) (m0 := z12)) ?_
  rintro e1 v10w ⟨bPool, nnPool, rfl, hnPool, XLPool, hbPool, B⟩
  refine ⟨_, rfl, ?_⟩
  replace XB := XB.keep B
  replace GParams := GParams.keep B
  replace GChain := GChain.keep B
  replace BB := joinB BB B
  clear B
  obtain ⟨LPool, hkPool⟩ := laidB XLPool hnPool (by decide)
  clear hnPool XLPool hbPool
  refine wl_call (some 46) 39 #[.slice (some ⟨bPool, 0, none⟩) nnPool nnPool] rfl rfl (by kernel_rfl) (bk_Pool LPool (by omega) h12.nonneg) ?_
  rintro e1 v11w ⟨APool0, NPool0, CPool0, rfl, ⟨QPool0, KPool0⟩, B⟩
  refine ⟨_, rfl, ?_⟩
  replace XB := XB.keep B
  replace GParams := GParams.keep B
  replace GChain := GChain.keep B
  replace BB := joinB BB B
  clear B
  replace QPool0 := QPool0.v
  clear LPool hkPool
  refine wl_take (some 42) (.tuple #[.agg #[.slice APool0 NPool0 CPool0], .int .i64 0]) rfl rfl (by kernel_rfl) ?_
  refine wl_take (some 47) (.agg #[.slice APool0 NPool0 CPool0]) rfl rfl (by kernel_rfl) ?_
  refine wl_take (some 48) (.int .i64 0) rfl rfl (by kernel_rfl) ?_
  refine wl_new 7 47 30 [.slice none 0 0] [.slice APool0 NPool0 CPool0] rfl rfl rfl rfl rfl rfl allocx30 (fun _ => by kernel_rfl) (fun _ => by kernel_rfl) (by kernel_rfl) rfl (by kernel_rfl) ?_
  intro v12w g12v GPool hg12v B
  replace XB := XB.keep B
  replace GParams := GParams.keep B
  replace GChain := GChain.keep B
  replace QPool0 := QPool0.keep B
  replace BB := joinB BB B
  clear B
  refine wl_take (some 8) (.int .i64 0) rfl rfl (by kernel_rfl) ?_
  refine wpList_nil ?_
  refine wp_then ?_
  refine wp_frame (a' := ⟨#[(.agg cs.toArray), (.pointer (some ⟨g1v, 0, none⟩)), (.bool false), (.pointer (some ⟨g6v, 0, none⟩)), (.int .i64 0), (.pointer (some ⟨g9v, 0, none⟩)), (.int .i64 0), (.pointer (some ⟨g12v, 0, none⟩)), (.int .i64 0), undef, undef, undef, undef, undef, undef, undef, undef, undef, undef, undef, undef, undef, undef, (.bool true), (.bool false), (.agg cs.toArray), (.bool true), (.bool false), (.tuple #[.agg #[.int .u64 (xs 0), .int .u64 (xs 1), .int .u64 (xs 2), .int .u64 (xs 3), .int .u64 (xs 4), .int .u64 (xs 5), .int .u64 (xs 6), .int .u64 (xs 7), .int .u64 (xs 8), .int .u64 (xs 9)], .int .i64 0]), (.pointer (some ⟨g1v, 0, none⟩)), (.agg #[.int .u64 (xs 0), .int .u64 (xs 1), .int .u64 (xs 2), .int .u64 (xs 3), .int .u64 (xs 4), .int .u64 (xs 5), .int .u64 (xs 6), .int .u64 (xs 7), .int .u64 (xs 8), .int .u64 (xs 9)]), (.slice (some ⟨bParams, 0, none⟩) nnParams nnParams), (.tuple #[.agg #[.int .u64 (xs 0), .int .u64 (xs 1), .int .u64 (xs 2), .int .u64 (xs 3), .int .u64 (xs 4), .int .u64 (xs 5), .int .u64 (xs 6), .int .u64 (xs 7), .int .u64 (xs 8), .int .u64 (xs 9)], .int .i64 0]), (.agg #[.int .u64 (xs 0), .int .u64 (xs 1), .int .u64 (xs 2), .int .u64 (xs 3), .int .u64 (xs 4), .int .u64 (xs 5), .int .u64 (xs 6), .int .u64 (xs 7), .int .u64 (xs 8), .int .u64 (xs 9)]), (.int .i64 0), (.tuple #[.agg #[.int .u64 (xs 10), .int .u64 (xs 11)], .int .i64 0]), (.pointer (some ⟨g1v, 10, none⟩)), (.agg #[.int .u64 (xs 10), .int .u64 (xs 11)]), (.slice (some ⟨bChain, 0, none⟩) nnChain nnChain), (.tuple #[.agg #[.int .u64 (xs 10), .int .u64 (xs 11)], .int .i64 0]), (.agg #[.int .u64 (xs 10), .int .u64 (xs 11)]), (.int .i64 0), (.tuple #[.agg #[.slice APool0 NPool0 CPool0], .int .i64 0]), (.pointer (some ⟨g1v, 12, none⟩)), (.agg #[.slice (aa 12) (ns 12) (cc 12)]), (.slice (some ⟨bPool, 0, none⟩) nnPool nnPool), (.tuple #[.agg #[.slice APool0 NPool0 CPool0], .int .i64 0]), (.agg #[.slice APool0 NPool0 CPool0]), (.int .i64 0), undef, undef, undef, undef, undef, undef, undef, undef, undef, undef, undef, undef, undef, undef, undef, undef, undef, undef, undef, undef, undef, undef, undef, undef, undef, undef, undef, undef, undef, undef, undef, undef, undef, undef, undef, undef, undef, undef, undef, undef, undef, undef, undef, undef, undef, undef, undef, undef, undef, undef, undef, undef, undef, undef, undef, undef, undef, undef, undef, undef, undef, undef, undef, undef, undef, undef, undef, undef, undef, undef, undef, undef, undef, undef, undef, undef, undef, undef, undef, undef, undef, undef, undef, undef, undef, undef, undef, undef, undef, undef, undef, undef, undef, undef, undef, undef, undef, undef, undef, undef, undef, undef, undef, undef, undef, undef, undef, undef, undef, undef, undef, undef, undef, undef, undef, undef, undef, undef, undef, undef, undef, undef, undef, undef, undef, undef, undef, undef, undef, undef, undef, undef, undef, undef, undef, undef, undef, undef, undef, undef, undef, undef, undef, undef, undef, undef, undef, undef, undef, undef, undef, undef, undef, undef, undef, undef, undef, undef, undef, undef, undef, undef, undef, undef, undef, undef, undef, undef, undef, undef, undef, undef, undef, undef, undef, undef, undef, undef, undef, undef, undef, undef, undef, undef], []⟩) (by kernel_rfl) ?_
  refine wp_seq ?_
  refine wp_region_lit ?_
  refine wl_take (some 50) (.pointer (some ⟨g1v, 13, none⟩)) rfl rfl (by kernel_rfl) ?_
  refine wl_take (some 51) (.agg #[.int .u64 (xs 13), .int .u64 (xs 14)]) rfl rfl (run_lp 50 (by kernel_rfl) (by kernel_rfl) (ldx32 (XB.cell (i := 13) q13) (XB.cell (i := 14) q14))) ?_
  refine wl_call (some 52) 12 #[.agg #[.int .u64 (xs 13), .int .u64 (xs 14)]] rfl rfl (by kernel_rfl) (PutAccount_any (x0 := xs 13) (x1 := xs 14)) ?_
  rintro e1 v13w ⟨bAccount, nnAccount, rfl, hnAccount, XLAccount, hbAccount, B⟩
  refine ⟨_, rfl, ?_⟩
  replace XB := XB.keep B
  replace GParams := GParams.keep B
  replace GChain := GChain.keep B
  replace QPool0 := QPool0.keep B
  replace GPool := GPool.keep B
  replace BB := joinB BB B
  clear B
  obtain ⟨LAccount, hkAccount⟩ := laidB XLAccount hnAccount (by decide)
  clear hnAccount XLAccount hbAccount
  refine wl_call (some 53) 40 #[.slice (some ⟨bAccount, 0, none⟩) nnAccount nnAccount] rfl rfl (by kernel_rfl) (bk_Account LAccount (by omega) r13 r14) ?_
  rintro e1 v14w ⟨rfl, B⟩
  refine ⟨_, rfl, ?_⟩
  replace XB := XB.keep B
  replace GParams := GParams.keep B
  replace GChain := GChain.keep B
  replace QPool0 := QPool0.keep B
  replace GPool := GPool.keep B
  replace BB := joinB BB B
  clear B
  clear LAccount hkAccount
  refine wl_take (some 49) (.tuple #[.agg #[.int .u64 (xs 13), .int .u64 (xs 14)], .int .i64 0]) rfl rfl (by kernel_rfl) ?_
  refine wl_take (some 54) (.agg #[.int .u64 (xs 13), .int .u64 (xs 14)]) rfl rfl (by kernel_rfl) ?_
  refine wl_take (some 55) (.int .i64 0) rfl rfl (by kernel_rfl) ?_
  refine wl_new 9 54 32 [.int .u64 0, .int .u64 0] [.int .u64 (xs 13), .int .u64 (xs 14)] rfl rfl rfl rfl rfl rfl allocx32 (fun _ => by kernel_rfl) (fun _ => by kernel_rfl) (by kernel_rfl) rfl (by kernel_rfl) ?_
  intro v15w g15v GAccount hg15v B
  replace XB := XB.keep B
  replace GParams := GParams.keep B
  replace GChain := GChain.keep B
  replace QPool0 := QPool0.keep B
  replace GPool := GPool.keep B
  replace BB := joinB BB B
  clear B
  refine wl_take (some 10) (.int .i64 0) rfl rfl (by kernel_rfl) ?_
  refine wpList_nil ?_
  refine wp_then ?_
  refine wp_frame (a' := ⟨#[(.agg cs.toArray), (.pointer (some ⟨g1v, 0, none⟩)), (.bool false), (.pointer (some ⟨g6v, 0, none⟩)), (.int .i64 0), (.pointer (some ⟨g9v, 0, none⟩)), (.int .i64 0), (.pointer (some ⟨g12v, 0, none⟩)), (.int .i64 0), (.pointer (some ⟨g15v, 0, none⟩)), (.int .i64 0), undef, undef, undef, undef, undef, undef, undef, undef, undef, undef, undef, undef, (.bool true), (.bool false), (.agg cs.toArray), (.bool true), (.bool false), (.tuple #[.agg #[.int .u64 (xs 0), .int .u64 (xs 1), .int .u64 (xs 2), .int .u64 (xs 3), .int .u64 (xs 4), .int .u64 (xs 5), .int .u64 (xs 6), .int .u64 (xs 7), .int .u64 (xs 8), .int .u64 (xs 9)], .int .i64 0]), (.pointer (some ⟨g1v, 0, none⟩)), (.agg #[.int .u64 (xs 0), .int .u64 (xs 1), .int .u64 (xs 2), .int .u64 (xs 3), .int .u64 (xs 4), .int .u64 (xs 5), .int .u64 (xs 6), .int .u64 (xs 7), .int .u64 (xs 8), .int .u64 (xs 9)]), (.slice (some ⟨bParams, 0, none⟩) nnParams nnParams), (.tuple #[.agg #[.int .u64 (xs 0), .int .u64 (xs 1), .int .u64 (xs 2), .int .u64 (xs 3), .int .u64 (xs 4), .int .u64 (xs 5), .int .u64 (xs 6), .int .u64 (xs 7), .int .u64 (xs 8), .int .u64 (xs 9)], .int .i64 0]), (.agg #[.int .u64 (xs 0), .int .u64 (xs 1), .int .u64 (xs 2), .int .u64 (xs 3), .int .u64 (xs 4), .int .u64 (xs 5), .int .u64 (xs 6), .int .u64 (xs 7), .int .u64 (xs 8), .int .u64 (xs 9)]), (.int .i64 0), (.tuple #[.agg #[.int .u64 (xs 10), .int .u64 (xs 11)], .int .i64 0]), (.pointer (some ⟨g1v, 10, none⟩)), (.agg #[.int .u64 (xs 10), .int .u64 (xs 11)]), (.slice (some ⟨bChain, 0, none⟩) nnChain nnChain), (.tuple #[.agg #[.int .u64 (xs 10), .int .u64 (xs 11)], .int .i64 0]), (.agg #[.int .u64 (xs 10), .int .u64 (xs 11)]), (.int .i64 0), (.tuple #[.agg #[.slice APool0 NPool0 CPool0], .int .i64 0]), (.pointer (some ⟨g1v, 12, none⟩)), (.agg #[.slice (aa 12) (ns 12) (cc 12)]), (.slice (some ⟨bPool, 0, none⟩) nnPool nnPool), (.tuple #[.agg #[.slice APool0 NPool0 CPool0], .int .i64 0]), (.agg #[.slice APool0 NPool0 CPool0]), (.int .i64 0), (.tuple #[.agg #[.int .u64 (xs 13), .int .u64 (xs 14)], .int .i64 0]), (.pointer (some ⟨g1v, 13, none⟩)), (.agg #[.int .u64 (xs 13), .int .u64 (xs 14)]), (.slice (some ⟨bAccount, 0, none⟩) nnAccount nnAccount), (.tuple #[.agg #[.int .u64 (xs 13), .int .u64 (xs 14)], .int .i64 0]), (.agg #[.int .u64 (xs 13), .int .u64 (xs 14)]), (.int .i64 0), undef, undef, undef, undef, undef, undef, undef, undef, undef, undef, undef, undef, undef, undef, undef, undef, undef, undef, undef, undef, undef, undef, undef, undef, undef, undef, undef, undef, undef, undef, undef, undef, undef, undef, undef, undef, undef, undef, undef, undef, undef, undef, undef, undef, undef, undef, undef, undef, undef, undef, undef, undef, undef, undef, undef, undef, undef, undef, undef, undef, undef, undef, undef, undef, undef, undef, undef, undef, undef, undef, undef, undef, undef, undef, undef, undef, undef, undef, undef, undef, undef, undef, undef, undef, undef, undef, undef, undef, undef, undef, undef, undef, undef, undef, undef, undef, undef, undef, undef, undef, undef, undef, undef, undef, undef, undef, undef, undef, undef, undef, undef, undef, undef, undef, undef, undef, undef, undef, undef, undef, undef, undef, undef, undef, undef, undef, undef, undef, undef, undef, undef, undef, undef, undef, undef, undef, undef, undef, undef, undef, undef, undef, undef, undef, undef, undef, undef, undef, undef, undef, undef, undef, undef, undef, undef, undef, undef, undef, undef, undef, undef, undef, undef, undef, undef, undef, undef, undef, undef, undef, undef, undef, undef, undef, undef, undef, undef], []⟩) (by kernel_rfl) ?_
  refine wp_seq ?_
  refine wp_region_lit ?_
  refine wl_take (some 57) (.pointer (some ⟨g1v, 30, none⟩)) rfl rfl (by kernel_rfl) ?_
  refine wl_take (some 58) (.agg #[.int .u64 (xs 30), .int .u64 (xs 31)]) rfl rfl (run_lp 57 (by kernel_rfl) (by kernel_rfl) (ldx40 (XB.cell (i := 30) q30) (XB.cell (i := 31) q31))) ?_
  refine wl_call (some 59) 16 #[.agg #[.int .u64 (xs 30), .int .u64 (xs 31)]] rfl rfl (by kernel_rfl) (PutCut_any (x0 := xs 30) (x1 := xs 31)) ?_
  rintro e1 v16w ⟨bCut, nnCut, rfl, hnCut, XLCut, hbCut, B⟩
  refine ⟨_, rfl, ?_⟩
  replace XB := XB.keep B
  replace GParams := GParams.keep B
  replace GChain := GChain.keep B
  replace QPool0 := QPool0.keep B
  replace GPool := GPool.keep B
  replace GAccount := GAccount.keep B
  replace BB := joinB BB B
  clear B
  obtain ⟨LCut, hkCut⟩ := laidB XLCut hnCut (by decide)
  clear hnCut XLCut hbCut
  refine wl_call (some 60) 41 #[.slice (some ⟨bCut, 0, none⟩) nnCut nnCut] rfl rfl (by kernel_rfl) (bk_Cut LCut (by omega) r30 r31) ?_
  rintro e1 v17w ⟨rfl, B⟩
  refine ⟨_, rfl, ?_⟩
  replace XB := XB.keep B
  replace GParams := GParams.keep B
  replace GChain := GChain.keep B
  replace QPool0 := QPool0.keep B
  replace GPool := GPool.keep B
  replace GAccount := GAccount.keep B
  replace BB := joinB BB B
  clear B
  clear LCut hkCut
  refine wl_take (some 56) (.tuple #[.agg #[.int .u64 (xs 30), .int .u64 (xs 31)], .int .i64 0]) rfl rfl (by kernel_rfl) ?_
  refine wl_take (some 61) (.agg #[.int .u64 (xs 30), .int .u64 (xs 31)]) rfl rfl (by kernel_rfl) ?_
  refine wl_take (some 62) (.int .i64 0) rfl rfl (by kernel_rfl) ?_
  refine wl_new 11 61 40 [.int .u64 0, .int .u64 0] [.int .u64 (xs 30), .int .u64 (xs 31)] rfl rfl rfl rfl rfl rfl allocx40 (fun _ => by kernel_rfl) (fun _ => by kernel_rfl) (by kernel_rfl) rfl (by kernel_rfl) ?_
  intro v18w g18v GCut hg18v B
  replace XB := XB.keep B
  replace GParams := GParams.keep B
  replace GChain := GChain.keep B
  replace QPool0 := QPool0.keep B
  replace GPool := GPool.keep B
  replace GAccount := GAccount.keep B
  replace BB := joinB BB B
  clear B
  refine wl_take (some 12) (.int .i64 0) rfl rfl (by kernel_rfl) ?_
  refine wpList_nil ?_
  refine wp_then ?_
  refine wp_frame (a' := ⟨#[(.agg cs.toArray), (.pointer (some ⟨g1v, 0, none⟩)), (.bool false), (.pointer (some ⟨g6v, 0, none⟩)), (.int .i64 0), (.pointer (some ⟨g9v, 0, none⟩)), (.int .i64 0), (.pointer (some ⟨g12v, 0, none⟩)), (.int .i64 0), (.pointer (some ⟨g15v, 0, none⟩)), (.int .i64 0), (.pointer (some ⟨g18v, 0, none⟩)), (.int .i64 0), undef, undef, undef, undef, undef, undef, undef, undef, undef, undef, (.bool true), (.bool false), (.agg cs.toArray), (.bool true), (.bool false), (.tuple #[.agg #[.int .u64 (xs 0), .int .u64 (xs 1), .int .u64 (xs 2), .int .u64 (xs 3), .int .u64 (xs 4), .int .u64 (xs 5), .int .u64 (xs 6), .int .u64 (xs 7), .int .u64 (xs 8), .int .u64 (xs 9)], .int .i64 0]), (.pointer (some ⟨g1v, 0, none⟩)), (.agg #[.int .u64 (xs 0), .int .u64 (xs 1), .int .u64 (xs 2), .int .u64 (xs 3), .int .u64 (xs 4), .int .u64 (xs 5), .int .u64 (xs 6), .int .u64 (xs 7), .int .u64 (xs 8), .int .u64 (xs 9)]), (.slice (some ⟨bParams, 0, none⟩) nnParams nnParams), (.tuple #[.agg #[.int .u64 (xs 0), .int .u64 (xs 1), .int .u64 (xs 2), .int .u64 (xs 3), .int .u64 (xs 4), .int .u64 (xs 5), .int .u64 (xs 6), .int .u64 (xs 7), .int .u64 (xs 8), .int .u64 (xs 9)], .int .i64 0]), (.agg #[.int .u64 (xs 0), .int .u64 (xs 1), .int .u64 (xs 2), .int .u64 (xs 3), .int .u64 (xs 4), .int .u64 (xs 5), .int .u64 (xs 6), .int .u64 (xs 7), .int .u64 (xs 8), .int .u64 (xs 9)]), (.int .i64 0), (.tuple #[.agg #[.int .u64 (xs 10), .int .u64 (xs 11)], .int .i64 0]), (.pointer (some ⟨g1v, 10, none⟩)), (.agg #[.int .u64 (xs 10), .int .u64 (xs 11)]), (.slice (some ⟨bChain, 0, none⟩) nnChain nnChain), (.tuple #[.agg #[.int .u64 (xs 10), .int .u64 (xs 11)], .int .i64 0]), (.agg #[.int .u64 (xs 10), .int .u64 (xs 11)]), (.int .i64 0), (.tuple #[.agg #[.slice APool0 NPool0 CPool0], .int .i64 0]), (.pointer (some ⟨g1v, 12, none⟩)), (.agg #[.slice (aa 12) (ns 12) (cc 12)]), (.slice (some ⟨bPool, 0, none⟩) nnPool nnPool), (.tuple #[.agg #[.slice APool0 NPool0 CPool0], .int .i64 0]), (.agg #[.slice APool0 NPool0 CPool0]), (.int .i64 0), (.tuple #[.agg #[.int .u64 (xs 13), .int .u64 (xs 14)], .int .i64 0]), (.pointer (some ⟨g1v, 13, none⟩)), (.agg #[.int .u64 (xs 13), .int .u64 (xs 14)]), (.slice (some ⟨bAccount, 0, none⟩) nnAccount nnAccount), (.tuple #[.agg #[.int .u64 (xs 13), .int .u64 (xs 14)], .int .i64 0]), (.agg #[.int .u64 (xs 13), .int .u64 (xs 14)]), (.int .i64 0), (.tuple #[.agg #[.int .u64 (xs 30), .int .u64 (xs 31)], .int .i64 0]), (.pointer (some ⟨g1v, 30, none⟩)), (.agg #[.int .u64 (xs 30), .int .u64 (xs 31)]), (.slice (some ⟨bCut, 0, none⟩) nnCut nnCut), (.tuple #[.agg #[.int .u64 (xs 30), .int .u64 (xs 31)], .int .i64 0]), (.agg #[.int .u64 (xs 30), .int .u64 (xs 31)]), (.int .i64 0), undef, undef, undef, undef, undef, undef, undef, undef, undef, undef, undef, undef, undef, undef, undef, undef, undef, undef, undef, undef, undef, undef, undef, undef, undef, undef, undef, undef, undef, undef, undef, undef, undef, undef, undef, undef, undef, undef, undef, undef, undef, undef, undef, undef, undef, undef, undef, undef, undef, undef, undef, undef, undef, undef, undef, undef, undef, undef, undef, undef, undef, undef, undef, undef, undef, undef, undef, undef, undef, undef, undef, undef, undef, undef, undef, undef, undef, undef, undef, undef, undef, undef, undef, undef, undef, undef, undef, undef, undef, undef, undef, undef, undef, undef, undef, undef, undef, undef, undef, undef, undef, undef, undef, undef, undef, undef, undef, undef, undef, undef, undef, undef, undef, undef, undef, undef, undef, undef, undef, undef, undef, undef, undef, undef, undef, undef, undef, undef, undef, undef, undef, undef, undef, undef, undef, undef, undef, undef, undef, undef, undef, undef, undef, undef, undef, undef, undef, undef, undef, undef, undef, undef, undef, undef, undef, undef, undef, undef, undef, undef, undef, undef, undef, undef, undef, undef, undef, undef, undef, undef], []⟩) (by kernel_rfl) ?_
  refine wp_seq ?_
  refine wp_region_lit ?_
  refine wl_take (some 64) (.pointer (some ⟨g1v, 32, none⟩)) rfl rfl (by kernel_rfl) ?_
  refine wl_take (some 65) (.agg #[.int .u64 (xs 32), .int .u64 (xs 33), .int .u64 (xs 34), .int .u64 (xs 35), .int .u64 (xs 36), .int .u64 (xs 37)]) rfl rfl (run_lp 64 (by kernel_rfl) (by kernel_rfl) (ldx42 (XB.cell (i := 32) q32) (XB.cell (i := 33) q33) (XB.cell (i := 34) q34) (XB.cell (i := 35) q35) (XB.cell (i := 36) q36) (XB.cell (i := 37) q37))) ?_
  refine wl_call (some 66) 17 #[.agg #[.int .u64 (xs 32), .int .u64 (xs 33), .int .u64 (xs 34), .int .u64 (xs 35), .int .u64 (xs 36), .int .u64 (xs 37)]] rfl rfl (by kernel_rfl) (PutUnbonding_any (x0 := xs 32) (x1 := xs 33) (x2 := xs 34) (x3 := xs 35) (x4 := xs 36) (x5 := xs 37)) ?_
  rintro e1 v19w ⟨bUnbonding, nnUnbonding, rfl, hnUnbonding, XLUnbonding, hbUnbonding, B⟩
  refine ⟨_, rfl, ?_⟩
  replace XB := XB.keep B
  replace GParams := GParams.keep B
  replace GChain := GChain.keep B
  replace QPool0 := QPool0.keep B
  replace GPool := GPool.keep B
  replace GAccount := GAccount.keep B
  replace GCut := GCut.keep B
  replace BB := joinB BB B
  clear B
  obtain ⟨LUnbonding, hkUnbonding⟩ := laidB XLUnbonding hnUnbonding (by decide)
  clear hnUnbonding XLUnbonding hbUnbonding
  refine wl_call (some 67) 42 #[.slice (some ⟨bUnbonding, 0, none⟩) nnUnbonding nnUnbonding] rfl rfl (by kernel_rfl) (bk_Unbonding LUnbonding (by omega) r32 r33 r34 r35 r36 r37) ?_
  rintro e1 v20w ⟨rfl, B⟩
  refine ⟨_, rfl, ?_⟩
  replace XB := XB.keep B
  replace GParams := GParams.keep B
  replace GChain := GChain.keep B
  replace QPool0 := QPool0.keep B
  replace GPool := GPool.keep B
  replace GAccount := GAccount.keep B
  replace GCut := GCut.keep B
  replace BB := joinB BB B
  clear B
  clear LUnbonding hkUnbonding
  refine wl_take (some 63) (.tuple #[.agg #[.int .u64 (xs 32), .int .u64 (xs 33), .int .u64 (xs 34), .int .u64 (xs 35), .int .u64 (xs 36), .int .u64 (xs 37)], .int .i64 0]) rfl rfl (by kernel_rfl) ?_
  refine wl_take (some 68) (.agg #[.int .u64 (xs 32), .int .u64 (xs 33), .int .u64 (xs 34), .int .u64 (xs 35), .int .u64 (xs 36), .int .u64 (xs 37)]) rfl rfl (by kernel_rfl) ?_
  refine wl_take (some 69) (.int .i64 0) rfl rfl (by kernel_rfl) ?_
  refine wl_new 13 68 42 [.int .u64 0, .int .u64 0, .int .u64 0, .int .u64 0, .int .u64 0, .int .u64 0] [.int .u64 (xs 32), .int .u64 (xs 33), .int .u64 (xs 34), .int .u64 (xs 35), .int .u64 (xs 36), .int .u64 (xs 37)] rfl rfl rfl rfl rfl rfl allocx42 (fun _ => by kernel_rfl) (fun _ => by kernel_rfl) (by kernel_rfl) rfl (by kernel_rfl) ?_
  intro v21w g21v GUnbonding hg21v B
  replace XB := XB.keep B
  replace GParams := GParams.keep B
  replace GChain := GChain.keep B
  replace QPool0 := QPool0.keep B
  replace GPool := GPool.keep B
  replace GAccount := GAccount.keep B
  replace GCut := GCut.keep B
  replace BB := joinB BB B
  clear B
  refine wl_take (some 14) (.int .i64 0) rfl rfl (by kernel_rfl) ?_
  refine wpList_nil ?_
  refine wp_then ?_
  refine wp_frame (a' := ⟨#[(.agg cs.toArray), (.pointer (some ⟨g1v, 0, none⟩)), (.bool false), (.pointer (some ⟨g6v, 0, none⟩)), (.int .i64 0), (.pointer (some ⟨g9v, 0, none⟩)), (.int .i64 0), (.pointer (some ⟨g12v, 0, none⟩)), (.int .i64 0), (.pointer (some ⟨g15v, 0, none⟩)), (.int .i64 0), (.pointer (some ⟨g18v, 0, none⟩)), (.int .i64 0), (.pointer (some ⟨g21v, 0, none⟩)), (.int .i64 0), undef, undef, undef, undef, undef, undef, undef, undef, (.bool true), (.bool false), (.agg cs.toArray), (.bool true), (.bool false), (.tuple #[.agg #[.int .u64 (xs 0), .int .u64 (xs 1), .int .u64 (xs 2), .int .u64 (xs 3), .int .u64 (xs 4), .int .u64 (xs 5), .int .u64 (xs 6), .int .u64 (xs 7), .int .u64 (xs 8), .int .u64 (xs 9)], .int .i64 0]), (.pointer (some ⟨g1v, 0, none⟩)), (.agg #[.int .u64 (xs 0), .int .u64 (xs 1), .int .u64 (xs 2), .int .u64 (xs 3), .int .u64 (xs 4), .int .u64 (xs 5), .int .u64 (xs 6), .int .u64 (xs 7), .int .u64 (xs 8), .int .u64 (xs 9)]), (.slice (some ⟨bParams, 0, none⟩) nnParams nnParams), (.tuple #[.agg #[.int .u64 (xs 0), .int .u64 (xs 1), .int .u64 (xs 2), .int .u64 (xs 3), .int .u64 (xs 4), .int .u64 (xs 5), .int .u64 (xs 6), .int .u64 (xs 7), .int .u64 (xs 8), .int .u64 (xs 9)], .int .i64 0]), (.agg #[.int .u64 (xs 0), .int .u64 (xs 1), .int .u64 (xs 2), .int .u64 (xs 3), .int .u64 (xs 4), .int .u64 (xs 5), .int .u64 (xs 6), .int .u64 (xs 7), .int .u64 (xs 8), .int .u64 (xs 9)]), (.int .i64 0), (.tuple #[.agg #[.int .u64 (xs 10), .int .u64 (xs 11)], .int .i64 0]), (.pointer (some ⟨g1v, 10, none⟩)), (.agg #[.int .u64 (xs 10), .int .u64 (xs 11)]), (.slice (some ⟨bChain, 0, none⟩) nnChain nnChain), (.tuple #[.agg #[.int .u64 (xs 10), .int .u64 (xs 11)], .int .i64 0]), (.agg #[.int .u64 (xs 10), .int .u64 (xs 11)]), (.int .i64 0), (.tuple #[.agg #[.slice APool0 NPool0 CPool0], .int .i64 0]), (.pointer (some ⟨g1v, 12, none⟩)), (.agg #[.slice (aa 12) (ns 12) (cc 12)]), (.slice (some ⟨bPool, 0, none⟩) nnPool nnPool), (.tuple #[.agg #[.slice APool0 NPool0 CPool0], .int .i64 0]), (.agg #[.slice APool0 NPool0 CPool0]), (.int .i64 0), (.tuple #[.agg #[.int .u64 (xs 13), .int .u64 (xs 14)], .int .i64 0]), (.pointer (some ⟨g1v, 13, none⟩)), (.agg #[.int .u64 (xs 13), .int .u64 (xs 14)]), (.slice (some ⟨bAccount, 0, none⟩) nnAccount nnAccount), (.tuple #[.agg #[.int .u64 (xs 13), .int .u64 (xs 14)], .int .i64 0]), (.agg #[.int .u64 (xs 13), .int .u64 (xs 14)]), (.int .i64 0), (.tuple #[.agg #[.int .u64 (xs 30), .int .u64 (xs 31)], .int .i64 0]), (.pointer (some ⟨g1v, 30, none⟩)), (.agg #[.int .u64 (xs 30), .int .u64 (xs 31)]), (.slice (some ⟨bCut, 0, none⟩) nnCut nnCut), (.tuple #[.agg #[.int .u64 (xs 30), .int .u64 (xs 31)], .int .i64 0]), (.agg #[.int .u64 (xs 30), .int .u64 (xs 31)]), (.int .i64 0), (.tuple #[.agg #[.int .u64 (xs 32), .int .u64 (xs 33), .int .u64 (xs 34), .int .u64 (xs 35), .int .u64 (xs 36), .int .u64 (xs 37)], .int .i64 0]), (.pointer (some ⟨g1v, 32, none⟩)), (.agg #[.int .u64 (xs 32), .int .u64 (xs 33), .int .u64 (xs 34), .int .u64 (xs 35), .int .u64 (xs 36), .int .u64 (xs 37)]), (.slice (some ⟨bUnbonding, 0, none⟩) nnUnbonding nnUnbonding), (.tuple #[.agg #[.int .u64 (xs 32), .int .u64 (xs 33), .int .u64 (xs 34), .int .u64 (xs 35), .int .u64 (xs 36), .int .u64 (xs 37)], .int .i64 0]), (.agg #[.int .u64 (xs 32), .int .u64 (xs 33), .int .u64 (xs 34), .int .u64 (xs 35), .int .u64 (xs 36), .int .u64 (xs 37)]), (.int .i64 0), undef, undef, undef, undef, undef, undef, undef, undef, undef, undef, undef, undef, undef, undef, undef, undef, undef, undef, undef, undef, undef, undef, undef, undef, undef, undef, undef, undef, undef, undef, undef, undef, undef, undef, undef, undef, undef, undef, undef, undef, undef, undef, undef, undef, undef, undef, undef, undef, undef, undef, undef, undef, undef, undef, undef, undef, undef, undef, undef, undef, undef, undef, undef, undef, undef, undef, undef, undef, undef, undef, undef, undef, undef, undef, undef, undef, undef, undef, undef, undef, undef, undef, undef, undef, undef, undef, undef, undef, undef, undef, undef, undef, undef, undef, undef, undef, undef, undef, undef, undef, undef, undef, undef, undef, undef, undef, undef, undef, undef, undef, undef, undef, undef, undef, undef, undef, undef, undef, undef, undef, undef, undef, undef, undef, undef, undef, undef, undef, undef, undef, undef, undef, undef, undef, undef, undef, undef, undef, undef, undef, undef, undef, undef, undef, undef, undef, undef, undef, undef, undef, undef, undef, undef, undef, undef, undef, undef, undef, undef, undef, undef, undef, undef], []⟩) (by kernel_rfl) ?_
  refine wp_seq ?_
  refine wp_region_lit ?_
  refine wl_take (some 71) (.pointer (some ⟨g1v, 45, none⟩)) rfl rfl (by kernel_rfl) ?_
  refine wl_take (some 72) (.int .u64 (xs 45)) rfl rfl (run_lp 71 (by kernel_rfl) (by kernel_rfl) (ldx22 (XB.cell (i := 45) q45))) ?_
  refine wl_call (some 73) 19 #[.int .u64 (xs 45)] rfl rfl (by kernel_rfl) (PutNumber_any (x0 := xs 45)) ?_
  rintro e1 v22w ⟨bNumber, nnNumber, rfl, hnNumber, XLNumber, hbNumber, B⟩
  refine ⟨_, rfl, ?_⟩
  replace XB := XB.keep B
  replace GParams := GParams.keep B
  replace GChain := GChain.keep B
  replace QPool0 := QPool0.keep B
  replace GPool := GPool.keep B
  replace GAccount := GAccount.keep B
  replace GCut := GCut.keep B
  replace GUnbonding := GUnbonding.keep B
  replace BB := joinB BB B
  clear B
  obtain ⟨LNumber, hkNumber⟩ := laidB XLNumber hnNumber (by decide)
  clear hnNumber XLNumber hbNumber
  refine wl_call (some 74) 43 #[.slice (some ⟨bNumber, 0, none⟩) nnNumber nnNumber] rfl rfl (by kernel_rfl) (bk_Number LNumber (by omega) r45) ?_
  rintro e1 v23w ⟨rfl, B⟩
  refine ⟨_, rfl, ?_⟩
  replace XB := XB.keep B
  replace GParams := GParams.keep B
  replace GChain := GChain.keep B
  replace QPool0 := QPool0.keep B
  replace GPool := GPool.keep B
  replace GAccount := GAccount.keep B
  replace GCut := GCut.keep B
  replace GUnbonding := GUnbonding.keep B
  replace BB := joinB BB B
  clear B
  clear LNumber hkNumber
  refine wl_take (some 70) (.tuple #[.int .u64 (xs 45), .int .i64 0]) rfl rfl (by kernel_rfl) ?_
  refine wl_take (some 75) (.int .u64 (xs 45)) rfl rfl (by kernel_rfl) ?_
  refine wl_take (some 76) (.int .i64 0) rfl rfl (by kernel_rfl) ?_
  refine wl_take (some 15) (.int .u64 (xs 45)) rfl rfl (by kernel_rfl) ?_
  refine wl_take (some 16) (.int .i64 0) rfl rfl (by kernel_rfl) ?_
  refine wpList_nil ?_
  refine wp_then ?_
  refine wp_frame (a' := ⟨#[(.agg cs.toArray), (.pointer (some ⟨g1v, 0, none⟩)), (.bool false), (.pointer (some ⟨g6v, 0, none⟩)), (.int .i64 0), (.pointer (some ⟨g9v, 0, none⟩)), (.int .i64 0), (.pointer (some ⟨g12v, 0, none⟩)), (.int .i64 0), (.pointer (some ⟨g15v, 0, none⟩)), (.int .i64 0), (.pointer (some ⟨g18v, 0, none⟩)), (.int .i64 0), (.pointer (some ⟨g21v, 0, none⟩)), (.int .i64 0), (.int .u64 (xs 45)), (.int .i64 0), undef, undef, undef, undef, undef, undef, (.bool true), (.bool false), (.agg cs.toArray), (.bool true), (.bool false), (.tuple #[.agg #[.int .u64 (xs 0), .int .u64 (xs 1), .int .u64 (xs 2), .int .u64 (xs 3), .int .u64 (xs 4), .int .u64 (xs 5), .int .u64 (xs 6), .int .u64 (xs 7), .int .u64 (xs 8), .int .u64 (xs 9)], .int .i64 0]), (.pointer (some ⟨g1v, 0, none⟩)), (.agg #[.int .u64 (xs 0), .int .u64 (xs 1), .int .u64 (xs 2), .int .u64 (xs 3), .int .u64 (xs 4), .int .u64 (xs 5), .int .u64 (xs 6), .int .u64 (xs 7), .int .u64 (xs 8), .int .u64 (xs 9)]), (.slice (some ⟨bParams, 0, none⟩) nnParams nnParams), (.tuple #[.agg #[.int .u64 (xs 0), .int .u64 (xs 1), .int .u64 (xs 2), .int .u64 (xs 3), .int .u64 (xs 4), .int .u64 (xs 5), .int .u64 (xs 6), .int .u64 (xs 7), .int .u64 (xs 8), .int .u64 (xs 9)], .int .i64 0]), (.agg #[.int .u64 (xs 0), .int .u64 (xs 1), .int .u64 (xs 2), .int .u64 (xs 3), .int .u64 (xs 4), .int .u64 (xs 5), .int .u64 (xs 6), .int .u64 (xs 7), .int .u64 (xs 8), .int .u64 (xs 9)]), (.int .i64 0), (.tuple #[.agg #[.int .u64 (xs 10), .int .u64 (xs 11)], .int .i64 0]), (.pointer (some ⟨g1v, 10, none⟩)), (.agg #[.int .u64 (xs 10), .int .u64 (xs 11)]), (.slice (some ⟨bChain, 0, none⟩) nnChain nnChain), (.tuple #[.agg #[.int .u64 (xs 10), .int .u64 (xs 11)], .int .i64 0]), (.agg #[.int .u64 (xs 10), .int .u64 (xs 11)]), (.int .i64 0), (.tuple #[.agg #[.slice APool0 NPool0 CPool0], .int .i64 0]), (.pointer (some ⟨g1v, 12, none⟩)), (.agg #[.slice (aa 12) (ns 12) (cc 12)]), (.slice (some ⟨bPool, 0, none⟩) nnPool nnPool), (.tuple #[.agg #[.slice APool0 NPool0 CPool0], .int .i64 0]), (.agg #[.slice APool0 NPool0 CPool0]), (.int .i64 0), (.tuple #[.agg #[.int .u64 (xs 13), .int .u64 (xs 14)], .int .i64 0]), (.pointer (some ⟨g1v, 13, none⟩)), (.agg #[.int .u64 (xs 13), .int .u64 (xs 14)]), (.slice (some ⟨bAccount, 0, none⟩) nnAccount nnAccount), (.tuple #[.agg #[.int .u64 (xs 13), .int .u64 (xs 14)], .int .i64 0]), (.agg #[.int .u64 (xs 13), .int .u64 (xs 14)]), (.int .i64 0), (.tuple #[.agg #[.int .u64 (xs 30), .int .u64 (xs 31)], .int .i64 0]), (.pointer (some ⟨g1v, 30, none⟩)), (.agg #[.int .u64 (xs 30), .int .u64 (xs 31)]), (.slice (some ⟨bCut, 0, none⟩) nnCut nnCut), (.tuple #[.agg #[.int .u64 (xs 30), .int .u64 (xs 31)], .int .i64 0]), (.agg #[.int .u64 (xs 30), .int .u64 (xs 31)]), (.int .i64 0), (.tuple #[.agg #[.int .u64 (xs 32), .int .u64 (xs 33), .int .u64 (xs 34), .int .u64 (xs 35), .int .u64 (xs 36), .int .u64 (xs 37)], .int .i64 0]), (.pointer (some ⟨g1v, 32, none⟩)), (.agg #[.int .u64 (xs 32), .int .u64 (xs 33), .int .u64 (xs 34), .int .u64 (xs 35), .int .u64 (xs 36), .int .u64 (xs 37)]), (.slice (some ⟨bUnbonding, 0, none⟩) nnUnbonding nnUnbonding), (.tuple #[.agg #[.int .u64 (xs 32), .int .u64 (xs 33), .int .u64 (xs 34), .int .u64 (xs 35), .int .u64 (xs 36), .int .u64 (xs 37)], .int .i64 0]), (.agg #[.int .u64 (xs 32), .int .u64 (xs 33), .int .u64 (xs 34), .int .u64 (xs 35), .int .u64 (xs 36), .int .u64 (xs 37)]), (.int .i64 0), (.tuple #[.int .u64 (xs 45), .int .i64 0]), (.pointer (some ⟨g1v, 45, none⟩)), (.int .u64 (xs 45)), (.slice (some ⟨bNumber, 0, none⟩) nnNumber nnNumber), (.tuple #[.int .u64 (xs 45), .int .i64 0]), (.int .u64 (xs 45)), (.int .i64 0), undef, undef, undef, undef, undef, undef, undef, undef, undef, undef, undef, undef, undef, undef, undef, undef, undef, undef, undef, undef, undef, undef, undef, undef, undef, undef, undef, undef, undef, undef, undef, undef, undef, undef, undef, undef, undef, undef, undef, undef, undef, undef, undef, undef, undef, undef, undef, undef, undef, undef, undef, undef, undef, undef, undef, undef, undef, undef, undef, undef, undef, undef, undef, undef, undef, undef, undef, undef, undef, undef, undef, undef, undef, undef, undef, undef, undef, undef, undef, undef, undef, undef, undef, undef, undef, undef, undef, undef, undef, undef, undef, undef, undef, undef, undef, undef, undef, undef, undef, undef, undef, undef, undef, undef, undef, undef, undef, undef, undef, undef, undef, undef, undef, undef, undef, undef, undef, undef, undef, undef, undef, undef, undef, undef, undef, undef, undef, undef, undef, undef, undef, undef, undef, undef, undef, undef, undef, undef, undef, undef, undef, undef, undef, undef, undef, undef, undef, undef, undef, undef, undef, undef, undef, undef, undef, undef], []⟩) (by kernel_rfl) ?_
  refine wp_seq ?_
  refine wp_seq ?_
  refine rg_start (S := fun w' => Below v23w.drew.heap.size v23w.drew w') (by kernel_rfl) (Below.refl _ _) ?_
  replace XB := XB.drew
  replace GParams := GParams.drew
  replace GChain := GChain.drew
  replace QPool0 := QPool0.drew
  replace GPool := GPool.drew
  replace GAccount := GAccount.drew
  replace GCut := GCut.drew
  replace GUnbonding := GUnbonding.drew
  replace BB := BB.drew
  have hS := Below.refl v23w.drew.heap.size v23w.drew
  have UXB := XB
  have UGParams := GParams
  have UGChain := GChain
  have UGPool := GPool
  have UGAccount := GAccount
  have UGCut := GCut
  have UGUnbonding := GUnbonding
  refine rg_take 0 (some 77) (.int .i64 0) (by kernel_rfl) (fun _ _ => by kernel_rfl) (fun _ _ _ h => h) hS ?_
  refine rg_take 1 (some 78) (.int .i64 0) (by kernel_rfl) (fun _ _ => by kernel_rfl) (fun _ _ _ h => h) hS ?_
  refine rg_take 2 (some 79) (.int .i64 0) (by kernel_rfl) (fun _ _ => by kernel_rfl) (fun _ _ _ h => h) hS ?_
  refine rg_take 3 (some 80) (.int .i64 0) (by kernel_rfl) (fun _ _ => by kernel_rfl) (fun _ _ _ h => h) hS ?_
  refine rg_take 4 (some 81) (.int .i64 0) (by kernel_rfl) (fun _ _ => by kernel_rfl) (fun _ _ _ h => h) hS ?_
  refine rg_take 5 (some 82) (.int .i64 0) (by kernel_rfl) (fun _ _ => by kernel_rfl) (fun _ _ _ h => h) hS ?_
  refine rg_take 6 (some 83) (.int .i64 0) (by kernel_rfl) (fun _ _ => by kernel_rfl) (fun _ _ _ h => h) hS ?_
  refine rg_take 7 (some 84) (.int .i64 0) (by kernel_rfl) (fun _ _ => by kernel_rfl) (fun _ _ _ h => h) hS ?_
  refine rg_take 8 (some 85) (.int .i64 0) (by kernel_rfl) (fun _ _ => by kernel_rfl) (fun _ _ _ h => h) hS ?_
  refine rg_take 9 (some 86) (.int .i64 0) (by kernel_rfl) (fun _ _ => by kernel_rfl) (fun _ _ _ h => h) hS ?_
  refine rg_take 10 (some 87) (.int .i64 0) (by kernel_rfl) (fun _ _ => by kernel_rfl) (fun _ _ _ h => h) hS ?_
  refine rg_take 11 (some 88) (.int .i64 0) (by kernel_rfl) (fun _ _ => by kernel_rfl) (fun _ _ _ h => h) hS ?_
  refine rg_take 12 (some 89) (.int .i64 0) (by kernel_rfl) (fun _ _ => by kernel_rfl) (fun _ _ _ h => h) hS ?_
  refine rg_take 13 (some 90) (.bool false) (by kernel_rfl) (fun _ _ => by kernel_rfl) (fun _ _ _ h => h) hS ?_
  refine rg_take 14 (some 91) (.bool false) (by kernel_rfl) (fun _ _ => by kernel_rfl) (fun _ _ _ h => h) hS ?_
  refine rg_load 15 (some 92) (.agg #[.int .u64 (xs 0), .int .u64 (xs 1), .int .u64 (xs 2), .int .u64 (xs 3), .int .u64 (xs 4), .int .u64 (xs 5), .int .u64 (xs 6), .int .u64 (xs 7), .int .u64 (xs 8), .int .u64 (xs 9)]) 24 3 (g6v) 0 (by kernel_rfl) (by kernel_rfl) (by kernel_rfl) (fun _ hb => ldx24 ((UGParams.keep hb).cell (i := 0) rfl) ((UGParams.keep hb).cell (i := 1) rfl) ((UGParams.keep hb).cell (i := 2) rfl) ((UGParams.keep hb).cell (i := 3) rfl) ((UGParams.keep hb).cell (i := 4) rfl) ((UGParams.keep hb).cell (i := 5) rfl) ((UGParams.keep hb).cell (i := 6) rfl) ((UGParams.keep hb).cell (i := 7) rfl) ((UGParams.keep hb).cell (i := 8) rfl) ((UGParams.keep hb).cell (i := 9) rfl)) (fun _ _ _ h => h) hS ?_
  refine rg_take 16 (some 93) (.pointer (some ⟨g1v, 0, none⟩)) (by kernel_rfl) (fun _ _ => by kernel_rfl) (fun _ _ _ h => h) hS ?_
  refine rg_load 17 (some 94) (.agg #[.int .u64 (xs 0), .int .u64 (xs 1), .int .u64 (xs 2), .int .u64 (xs 3), .int .u64 (xs 4), .int .u64 (xs 5), .int .u64 (xs 6), .int .u64 (xs 7), .int .u64 (xs 8), .int .u64 (xs 9)]) 24 93 (g1v) 0 (by kernel_rfl) (by kernel_rfl) (by kernel_rfl) (fun _ hb => ldx24 ((UXB.keep hb).cell (i := 0) q0) ((UXB.keep hb).cell (i := 1) q1) ((UXB.keep hb).cell (i := 2) q2) ((UXB.keep hb).cell (i := 3) q3) ((UXB.keep hb).cell (i := 4) q4) ((UXB.keep hb).cell (i := 5) q5) ((UXB.keep hb).cell (i := 6) q6) ((UXB.keep hb).cell (i := 7) q7) ((UXB.keep hb).cell (i := 8) q8) ((UXB.keep hb).cell (i := 9) q9)) (fun _ _ _ h => h) hS ?_
  refine rg_take 18 (some 95) (.bool false) (by kernel_rfl) (fun _ _ => neq_Params (x := 92) (y := 94) (x0 := xs 0) (x1 := xs 1) (x2 := xs 2) (x3 := xs 3) (x4 := xs 4) (x5 := xs 5) (x6 := xs 6) (x7 := xs 7) (x8 := xs 8) (x9 := xs 9) (by kernel_rfl) (by kernel_rfl) (by kernel_rfl)) (fun _ _ _ h => h) hS ?_
  refine rg_take 19 (some 96) (.bool false) (by kernel_rfl) (fun _ _ => by kernel_rfl) (fun _ _ _ h => h) hS ?_
  refine rg_take 20 (some 97) (.bool false) (by kernel_rfl) (fun _ _ => by kernel_rfl) (fun _ _ _ h => h) hS ?_
  refine rg_load 21 (some 98) (.agg #[.int .u64 (xs 10), .int .u64 (xs 11)]) 26 5 (g9v) 0 (by kernel_rfl) (by kernel_rfl) (by kernel_rfl) (fun _ hb => ldx26 ((UGChain.keep hb).cell (i := 0) rfl) ((UGChain.keep hb).cell (i := 1) rfl)) (fun _ _ _ h => h) hS ?_
  refine rg_take 22 (some 99) (.pointer (some ⟨g1v, 10, none⟩)) (by kernel_rfl) (fun _ _ => by kernel_rfl) (fun _ _ _ h => h) hS ?_
  refine rg_load 23 (some 100) (.agg #[.int .u64 (xs 10), .int .u64 (xs 11)]) 26 99 (g1v) 10 (by kernel_rfl) (by kernel_rfl) (by kernel_rfl) (fun _ hb => ldx26 ((UXB.keep hb).cell (i := 10) q10) ((UXB.keep hb).cell (i := 11) q11)) (fun _ _ _ h => h) hS ?_
  refine rg_take 24 (some 101) (.bool false) (by kernel_rfl) (fun _ _ => neq_Chain (x := 98) (y := 100) (x0 := xs 10) (x1 := xs 11) (by kernel_rfl) (by kernel_rfl) (by kernel_rfl)) (fun _ _ _ h => h) hS ?_
  refine rg_take 25 (some 102) (.bool false) (by kernel_rfl) (fun _ _ => by kernel_rfl) (fun _ _ _ h => h) hS ?_
  refine rg_take 26 (some 103) (.bool false) (by kernel_rfl) (fun _ _ => by kernel_rfl) (fun _ _ _ h => h) hS ?_
  refine rg_load 27 (some 104) (.agg #[.slice APool0 NPool0 CPool0]) 30 7 (g12v) 0 (by kernel_rfl) (by kernel_rfl) (by kernel_rfl) (fun _ hb => ldx30 ((UGPool.keep hb).cell (i := 0) rfl)) (fun _ _ _ h => h) hS ?_
  refine rg_take 28 (some 105) (.pointer (some ⟨g1v, 12, none⟩)) (by kernel_rfl) (fun _ _ => by kernel_rfl) (fun _ _ _ h => h) hS ?_
  refine rg_load 29 (some 106) (.agg #[.slice (aa 12) (ns 12) (cc 12)]) 30 105 (g1v) 12 (by kernel_rfl) (by kernel_rfl) (by kernel_rfl) (fun _ hb => ldx30 ((UXB.keep hb).cell (i := 12) q12)) (fun _ _ _ h => h) hS ?_
  refine rg_call 30 (some 107) 45 #[.agg #[.slice (aa 12) (ns 12) (cc 12)]] (by kernel_rfl) (by kernel_rfl) (norm_any (h12.keep BB) z12) ?_
  rintro e1 v24w ⟨And, Nnd, Cnd, rfl, Qnd, Knd, B⟩
  refine ⟨_, rfl, joinB hS B, ?_⟩
  replace hS := joinB hS B
  replace XB := XB.keep B
  replace GParams := GParams.keep B
  replace GChain := GChain.keep B
  replace QPool0 := QPool0.keep B
  replace GPool := GPool.keep B
  replace GAccount := GAccount.keep B
  replace GCut := GCut.keep B
  replace GUnbonding := GUnbonding.keep B
  replace BB := joinB BB B
  clear B
  refine rg_call 31 (some 108) 44 #[.agg #[.slice APool0 NPool0 CPool0], .agg #[.slice And Nnd Cnd]] (by kernel_rfl) (by kernel_rfl) (decSame QPool0.o Qnd.o (by omega) (by omega)) ?_
  rintro e1 v25w ⟨rfl, B⟩
  refine ⟨_, rfl, joinB hS B, ?_⟩
  replace hS := joinB hS B
  replace XB := XB.keep B
  replace GParams := GParams.keep B
  replace GChain := GChain.keep B
  replace QPool0 := QPool0.keep B
  replace GPool := GPool.keep B
  replace GAccount := GAccount.keep B
  replace GCut := GCut.keep B
  replace GUnbonding := GUnbonding.keep B
  replace Qnd := Qnd.keep B
  replace BB := joinB BB B
  clear B
  refine rg_take 32 (some 109) (.bool false) (by kernel_rfl) (fun _ _ => by kernel_rfl) (fun _ _ _ h => h) hS ?_
  refine rg_take 33 (some 110) (.bool false) (by kernel_rfl) (fun _ _ => by kernel_rfl) (fun _ _ _ h => h) hS ?_
  refine rg_take 34 (some 111) (.bool false) (by kernel_rfl) (fun _ _ => by kernel_rfl) (fun _ _ _ h => h) hS ?_
  refine rg_load 35 (some 112) (.agg #[.int .u64 (xs 13), .int .u64 (xs 14)]) 32 9 (g15v) 0 (by kernel_rfl) (by kernel_rfl) (by kernel_rfl) (fun _ hb => ldx32 ((UGAccount.keep hb).cell (i := 0) rfl) ((UGAccount.keep hb).cell (i := 1) rfl)) (fun _ _ _ h => h) hS ?_
  refine rg_take 36 (some 113) (.pointer (some ⟨g1v, 13, none⟩)) (by kernel_rfl) (fun _ _ => by kernel_rfl) (fun _ _ _ h => h) hS ?_
  refine rg_load 37 (some 114) (.agg #[.int .u64 (xs 13), .int .u64 (xs 14)]) 32 113 (g1v) 13 (by kernel_rfl) (by kernel_rfl) (by kernel_rfl) (fun _ hb => ldx32 ((UXB.keep hb).cell (i := 13) q13) ((UXB.keep hb).cell (i := 14) q14)) (fun _ _ _ h => h) hS ?_
  refine rg_take 38 (some 115) (.bool false) (by kernel_rfl) (fun _ _ => neq_Account (x := 112) (y := 114) (x0 := xs 13) (x1 := xs 14) (by kernel_rfl) (by kernel_rfl) (by kernel_rfl)) (fun _ _ _ h => h) hS ?_
  refine rg_take 39 (some 116) (.bool false) (by kernel_rfl) (fun _ _ => by kernel_rfl) (fun _ _ _ h => h) hS ?_
  refine rg_take 40 (some 117) (.bool false) (by kernel_rfl) (fun _ _ => by kernel_rfl) (fun _ _ _ h => h) hS ?_
  refine rg_load 41 (some 118) (.agg #[.int .u64 (xs 30), .int .u64 (xs 31)]) 40 11 (g18v) 0 (by kernel_rfl) (by kernel_rfl) (by kernel_rfl) (fun _ hb => ldx40 ((UGCut.keep hb).cell (i := 0) rfl) ((UGCut.keep hb).cell (i := 1) rfl)) (fun _ _ _ h => h) hS ?_
  refine rg_take 42 (some 119) (.pointer (some ⟨g1v, 30, none⟩)) (by kernel_rfl) (fun _ _ => by kernel_rfl) (fun _ _ _ h => h) hS ?_
  refine rg_load 43 (some 120) (.agg #[.int .u64 (xs 30), .int .u64 (xs 31)]) 40 119 (g1v) 30 (by kernel_rfl) (by kernel_rfl) (by kernel_rfl) (fun _ hb => ldx40 ((UXB.keep hb).cell (i := 30) q30) ((UXB.keep hb).cell (i := 31) q31)) (fun _ _ _ h => h) hS ?_
  refine rg_take 44 (some 121) (.bool false) (by kernel_rfl) (fun _ _ => neq_Cut (x := 118) (y := 120) (x0 := xs 30) (x1 := xs 31) (by kernel_rfl) (by kernel_rfl) (by kernel_rfl)) (fun _ _ _ h => h) hS ?_
  refine rg_take 45 (some 122) (.bool false) (by kernel_rfl) (fun _ _ => by kernel_rfl) (fun _ _ _ h => h) hS ?_
  refine rg_take 46 (some 123) (.bool false) (by kernel_rfl) (fun _ _ => by kernel_rfl) (fun _ _ _ h => h) hS ?_
  refine rg_load 47 (some 124) (.agg #[.int .u64 (xs 32), .int .u64 (xs 33), .int .u64 (xs 34), .int .u64 (xs 35), .int .u64 (xs 36), .int .u64 (xs 37)]) 42 13 (g21v) 0 (by kernel_rfl) (by kernel_rfl) (by kernel_rfl) (fun _ hb => ldx42 ((UGUnbonding.keep hb).cell (i := 0) rfl) ((UGUnbonding.keep hb).cell (i := 1) rfl) ((UGUnbonding.keep hb).cell (i := 2) rfl) ((UGUnbonding.keep hb).cell (i := 3) rfl) ((UGUnbonding.keep hb).cell (i := 4) rfl) ((UGUnbonding.keep hb).cell (i := 5) rfl)) (fun _ _ _ h => h) hS ?_
  refine rg_take 48 (some 125) (.pointer (some ⟨g1v, 32, none⟩)) (by kernel_rfl) (fun _ _ => by kernel_rfl) (fun _ _ _ h => h) hS ?_
  refine rg_load 49 (some 126) (.agg #[.int .u64 (xs 32), .int .u64 (xs 33), .int .u64 (xs 34), .int .u64 (xs 35), .int .u64 (xs 36), .int .u64 (xs 37)]) 42 125 (g1v) 32 (by kernel_rfl) (by kernel_rfl) (by kernel_rfl) (fun _ hb => ldx42 ((UXB.keep hb).cell (i := 32) q32) ((UXB.keep hb).cell (i := 33) q33) ((UXB.keep hb).cell (i := 34) q34) ((UXB.keep hb).cell (i := 35) q35) ((UXB.keep hb).cell (i := 36) q36) ((UXB.keep hb).cell (i := 37) q37)) (fun _ _ _ h => h) hS ?_
  refine rg_take 50 (some 127) (.bool false) (by kernel_rfl) (fun _ _ => neq_Unbonding (x := 124) (y := 126) (x0 := xs 32) (x1 := xs 33) (x2 := xs 34) (x3 := xs 35) (x4 := xs 36) (x5 := xs 37) (by kernel_rfl) (by kernel_rfl) (by kernel_rfl)) (fun _ _ _ h => h) hS ?_
  refine rg_take 51 (some 128) (.bool false) (by kernel_rfl) (fun _ _ => by kernel_rfl) (fun _ _ _ h => h) hS ?_
  refine rg_take 52 (some 129) (.bool false) (by kernel_rfl) (fun _ _ => by kernel_rfl) (fun _ _ _ h => h) hS ?_
  refine rg_take 53 (some 130) (.int .u64 (xs 45)) (by kernel_rfl) (fun _ _ => by kernel_rfl) (fun _ _ _ h => h) hS ?_
  refine rg_take 54 (some 131) (.pointer (some ⟨g1v, 45, none⟩)) (by kernel_rfl) (fun _ _ => by kernel_rfl) (fun _ _ _ h => h) hS ?_
  refine rg_load 55 (some 132) (.int .u64 (xs 45)) 22 131 (g1v) 45 (by kernel_rfl) (by kernel_rfl) (by kernel_rfl) (fun _ hb => ldx22 ((UXB.keep hb).cell (i := 45) q45)) (fun _ _ _ h => h) hS ?_
  refine rg_take 56 (some 133) (.bool false) (by kernel_rfl) (fun _ _ => neq_Number (x := 130) (y := 132) (x0 := xs 45) (by kernel_rfl) (by kernel_rfl) (by kernel_rfl)) (fun _ _ _ h => h) hS ?_
  refine rg_take 57 (some 134) (.bool false) (by kernel_rfl) (fun _ _ => by kernel_rfl) (fun _ _ _ h => h) hS ?_
  refine rg_done (by kernel_rfl) ?_
  clear hS UXB UGParams UGChain UGPool UGAccount UGCut UGUnbonding
  refine wp_then ?_
  refine wp_frame (a' := ⟨#[(.agg cs.toArray), (.pointer (some ⟨g1v, 0, none⟩)), (.bool false), (.pointer (some ⟨g6v, 0, none⟩)), (.int .i64 0), (.pointer (some ⟨g9v, 0, none⟩)), (.int .i64 0), (.pointer (some ⟨g12v, 0, none⟩)), (.int .i64 0), (.pointer (some ⟨g15v, 0, none⟩)), (.int .i64 0), (.pointer (some ⟨g18v, 0, none⟩)), (.int .i64 0), (.pointer (some ⟨g21v, 0, none⟩)), (.int .i64 0), (.int .u64 (xs 45)), (.int .i64 0), undef, undef, undef, undef, undef, undef, (.bool true), (.bool false), (.agg cs.toArray), (.bool true), (.bool false), (.tuple #[.agg #[.int .u64 (xs 0), .int .u64 (xs 1), .int .u64 (xs 2), .int .u64 (xs 3), .int .u64 (xs 4), .int .u64 (xs 5), .int .u64 (xs 6), .int .u64 (xs 7), .int .u64 (xs 8), .int .u64 (xs 9)], .int .i64 0]), (.pointer (some ⟨g1v, 0, none⟩)), (.agg #[.int .u64 (xs 0), .int .u64 (xs 1), .int .u64 (xs 2), .int .u64 (xs 3), .int .u64 (xs 4), .int .u64 (xs 5), .int .u64 (xs 6), .int .u64 (xs 7), .int .u64 (xs 8), .int .u64 (xs 9)]), (.slice (some ⟨bParams, 0, none⟩) nnParams nnParams), (.tuple #[.agg #[.int .u64 (xs 0), .int .u64 (xs 1), .int .u64 (xs 2), .int .u64 (xs 3), .int .u64 (xs 4), .int .u64 (xs 5), .int .u64 (xs 6), .int .u64 (xs 7), .int .u64 (xs 8), .int .u64 (xs 9)], .int .i64 0]), (.agg #[.int .u64 (xs 0), .int .u64 (xs 1), .int .u64 (xs 2), .int .u64 (xs 3), .int .u64 (xs 4), .int .u64 (xs 5), .int .u64 (xs 6), .int .u64 (xs 7), .int .u64 (xs 8), .int .u64 (xs 9)]), (.int .i64 0), (.tuple #[.agg #[.int .u64 (xs 10), .int .u64 (xs 11)], .int .i64 0]), (.pointer (some ⟨g1v, 10, none⟩)), (.agg #[.int .u64 (xs 10), .int .u64 (xs 11)]), (.slice (some ⟨bChain, 0, none⟩) nnChain nnChain), (.tuple #[.agg #[.int .u64 (xs 10), .int .u64 (xs 11)], .int .i64 0]), (.agg #[.int .u64 (xs 10), .int .u64 (xs 11)]), (.int .i64 0), (.tuple #[.agg #[.slice APool0 NPool0 CPool0], .int .i64 0]), (.pointer (some ⟨g1v, 12, none⟩)), (.agg #[.slice (aa 12) (ns 12) (cc 12)]), (.slice (some ⟨bPool, 0, none⟩) nnPool nnPool), (.tuple #[.agg #[.slice APool0 NPool0 CPool0], .int .i64 0]), (.agg #[.slice APool0 NPool0 CPool0]), (.int .i64 0), (.tuple #[.agg #[.int .u64 (xs 13), .int .u64 (xs 14)], .int .i64 0]), (.pointer (some ⟨g1v, 13, none⟩)), (.agg #[.int .u64 (xs 13), .int .u64 (xs 14)]), (.slice (some ⟨bAccount, 0, none⟩) nnAccount nnAccount), (.tuple #[.agg #[.int .u64 (xs 13), .int .u64 (xs 14)], .int .i64 0]), (.agg #[.int .u64 (xs 13), .int .u64 (xs 14)]), (.int .i64 0), (.tuple #[.agg #[.int .u64 (xs 30), .int .u64 (xs 31)], .int .i64 0]), (.pointer (some ⟨g1v, 30, none⟩)), (.agg #[.int .u64 (xs 30), .int .u64 (xs 31)]), (.slice (some ⟨bCut, 0, none⟩) nnCut nnCut), (.tuple #[.agg #[.int .u64 (xs 30), .int .u64 (xs 31)], .int .i64 0]), (.agg #[.int .u64 (xs 30), .int .u64 (xs 31)]), (.int .i64 0), (.tuple #[.agg #[.int .u64 (xs 32), .int .u64 (xs 33), .int .u64 (xs 34), .int .u64 (xs 35), .int .u64 (xs 36), .int .u64 (xs 37)], .int .i64 0]), (.pointer (some ⟨g1v, 32, none⟩)), (.agg #[.int .u64 (xs 32), .int .u64 (xs 33), .int .u64 (xs 34), .int .u64 (xs 35), .int .u64 (xs 36), .int .u64 (xs 37)]), (.slice (some ⟨bUnbonding, 0, none⟩) nnUnbonding nnUnbonding), (.tuple #[.agg #[.int .u64 (xs 32), .int .u64 (xs 33), .int .u64 (xs 34), .int .u64 (xs 35), .int .u64 (xs 36), .int .u64 (xs 37)], .int .i64 0]), (.agg #[.int .u64 (xs 32), .int .u64 (xs 33), .int .u64 (xs 34), .int .u64 (xs 35), .int .u64 (xs 36), .int .u64 (xs 37)]), (.int .i64 0), (.tuple #[.int .u64 (xs 45), .int .i64 0]), (.pointer (some ⟨g1v, 45, none⟩)), (.int .u64 (xs 45)), (.slice (some ⟨bNumber, 0, none⟩) nnNumber nnNumber), (.tuple #[.int .u64 (xs 45), .int .i64 0]), (.int .u64 (xs 45)), (.int .i64 0), (.int .i64 0), (.int .i64 0), (.int .i64 0), (.int .i64 0), (.int .i64 0), (.int .i64 0), (.int .i64 0), (.int .i64 0), (.int .i64 0), (.int .i64 0), (.int .i64 0), (.int .i64 0), (.int .i64 0), (.bool false), (.bool false), (.agg #[.int .u64 (xs 0), .int .u64 (xs 1), .int .u64 (xs 2), .int .u64 (xs 3), .int .u64 (xs 4), .int .u64 (xs 5), .int .u64 (xs 6), .int .u64 (xs 7), .int .u64 (xs 8), .int .u64 (xs 9)]), (.pointer (some ⟨g1v, 0, none⟩)), (.agg #[.int .u64 (xs 0), .int .u64 (xs 1), .int .u64 (xs 2), .int .u64 (xs 3), .int .u64 (xs 4), .int .u64 (xs 5), .int .u64 (xs 6), .int .u64 (xs 7), .int .u64 (xs 8), .int .u64 (xs 9)]), (.bool false), (.bool false), (.bool false), (.agg #[.int .u64 (xs 10), .int .u64 (xs 11)]), (.pointer (some ⟨g1v, 10, none⟩)), (.agg #[.int .u64 (xs 10), .int .u64 (xs 11)]), (.bool false), (.bool false), (.bool false), (.agg #[.slice APool0 NPool0 CPool0]), (.pointer (some ⟨g1v, 12, none⟩)), (.agg #[.slice (aa 12) (ns 12) (cc 12)]), (.agg #[.slice And Nnd Cnd]), (.bool true), (.bool false), (.bool false), (.bool false), (.agg #[.int .u64 (xs 13), .int .u64 (xs 14)]), (.pointer (some ⟨g1v, 13, none⟩)), (.agg #[.int .u64 (xs 13), .int .u64 (xs 14)]), (.bool false), (.bool false), (.bool false), (.agg #[.int .u64 (xs 30), .int .u64 (xs 31)]), (.pointer (some ⟨g1v, 30, none⟩)), (.agg #[.int .u64 (xs 30), .int .u64 (xs 31)]), (.bool false), (.bool false), (.bool false), (.agg #[.int .u64 (xs 32), .int .u64 (xs 33), .int .u64 (xs 34), .int .u64 (xs 35), .int .u64 (xs 36), .int .u64 (xs 37)]), (.pointer (some ⟨g1v, 32, none⟩)), (.agg #[.int .u64 (xs 32), .int .u64 (xs 33), .int .u64 (xs 34), .int .u64 (xs 35), .int .u64 (xs 36), .int .u64 (xs 37)]), (.bool false), (.bool false), (.bool false), (.int .u64 (xs 45)), (.pointer (some ⟨g1v, 45, none⟩)), (.int .u64 (xs 45)), (.bool false), (.bool false), undef, undef, undef, undef, undef, undef, undef, undef, undef, undef, undef, undef, undef, undef, undef, undef, undef, undef, undef, undef, undef, undef, undef, undef, undef, undef, undef, undef, undef, undef, undef, undef, undef, undef, undef, undef, undef, undef, undef, undef, undef, undef, undef, undef, undef, undef, undef, undef, undef, undef, undef, undef, undef, undef, undef, undef, undef, undef, undef, undef, undef, undef, undef, undef, undef, undef, undef, undef, undef, undef, undef, undef, undef, undef, undef, undef, undef, undef, undef, undef, undef, undef, undef, undef, undef, undef, undef, undef, undef, undef, undef, undef, undef, undef, undef, undef, undef, undef], []⟩) (by kernel_rfl) ?_
  refine wp_cond_false (by kernel_rfl) ?_
  refine wp_skip_then ?_
  refine wp_seq ?_
  refine wp_region_lit ?_
  refine wl_take (some 136) (.pointer (some ⟨g1v, 15, none⟩)) rfl rfl (by kernel_rfl) ?_
  refine wl_take (some 137) (.agg #[.int .u64 (xs 15), .int .u64 (xs 16), .slice (aa 17) (ns 17) (cc 17), .bool (ts 18), .int .u64 (xs 19), .bool (ts 20), .int .u64 (xs 21), .slice (aa 22) (ns 22) (cc 22), .slice (aa 23) (ns 23) (cc 23), .slice (aa 24) (ns 24) (cc 24)]) rfl rfl (run_lp 136 (by kernel_rfl) (by kernel_rfl) (ldx34 (XB.cell (i := 15) q15) (XB.cell (i := 16) q16) (XB.cell (i := 17) q17) (XB.cell (i := 18) q18) (XB.cell (i := 19) q19) (XB.cell (i := 20) q20) (XB.cell (i := 21) q21) (XB.cell (i := 22) q22) (XB.cell (i := 23) q23) (XB.cell (i := 24) q24))) ?_
  refine wl_call (some 138) 13 #[.agg #[.int .u64 (xs 15), .int .u64 (xs 16), .slice (aa 17) (ns 17) (cc 17), .bool (ts 18), .int .u64 (xs 19), .bool (ts 20), .int .u64 (xs 21), .slice (aa 22) (ns 22) (cc 22), .slice (aa 23) (ns 23) (cc 23), .slice (aa 24) (ns 24) (cc 24)]] rfl rfl (by kernel_rfl) (PutVal_any (x0 := xs 15) (x1 := xs 16) (h2 := h17.keep BB) (m2 := z17) (b3 := ts 18) (x4 := xs 19) (b5 := ts 20) (x6 := xs 21) (h7 := h22.keep BB) (m7 := z22) (h8 := h23.keep BB) (m8 := z23) (h9 := h24.keep BB) (m9 := z24)) ?_
  rintro e1 v26w ⟨bVal, nnVal, rfl, hnVal, XLVal, hbVal, B⟩
  refine ⟨_, rfl, ?_⟩
  replace XB := XB.keep B
  replace GParams := GParams.keep B
  replace GChain := GChain.keep B
  replace QPool0 := QPool0.keep B
  replace GPool := GPool.keep B
  replace GAccount := GAccount.keep B
  replace GCut := GCut.keep B
  replace GUnbonding := GUnbonding.keep B
  replace Qnd := Qnd.keep B
  replace BB := joinB BB B
  clear B
  obtain ⟨LVal, hkVal⟩ := laidB XLVal hnVal (by decide)
  clear hnVal XLVal hbVal
  refine wl_call (some 139) 46 #[.slice (some ⟨bVal, 0, none⟩) nnVal nnVal] rfl rfl (by kernel_rfl) (bk_Val (t3 := ts 18) (t5 := ts 20) LVal (by omega) r15 r16 h17.nonneg r19 r21 h22.nonneg h23.nonneg h24.nonneg) ?_
  rintro e1 v27w ⟨AVal2, NVal2, CVal2, AVal7, NVal7, CVal7, AVal8, NVal8, CVal8, AVal9, NVal9, CVal9, rfl, ⟨QVal2, KVal2⟩, ⟨QVal7, KVal7⟩, ⟨QVal8, KVal8⟩, ⟨QVal9, KVal9⟩, B⟩
  refine ⟨_, rfl, ?_⟩
  replace XB := XB.keep B
  replace GParams := GParams.keep B
  replace GChain := GChain.keep B
  replace QPool0 := QPool0.keep B
  replace GPool := GPool.keep B
  replace GAccount := GAccount.keep B
  replace GCut := GCut.keep B
  replace GUnbonding := GUnbonding.keep B
  replace Qnd := Qnd.keep B
  replace BB := joinB BB B
  clear B
  replace QVal2 := QVal2.v
  replace QVal7 := QVal7.v
  replace QVal8 := QVal8.v
  replace QVal9 := QVal9.v
  clear LVal hkVal
  refine wl_take (some 135) (.tuple #[.agg #[.int .u64 (xs 15), .int .u64 (xs 16), .slice AVal2 NVal2 CVal2, .bool (ts 18), .int .u64 (xs 19), .bool (ts 20), .int .u64 (xs 21), .slice AVal7 NVal7 CVal7, .slice AVal8 NVal8 CVal8, .slice AVal9 NVal9 CVal9], .int .i64 0]) rfl rfl (by kernel_rfl) ?_
  refine wl_take (some 140) (.agg #[.int .u64 (xs 15), .int .u64 (xs 16), .slice AVal2 NVal2 CVal2, .bool (ts 18), .int .u64 (xs 19), .bool (ts 20), .int .u64 (xs 21), .slice AVal7 NVal7 CVal7, .slice AVal8 NVal8 CVal8, .slice AVal9 NVal9 CVal9]) rfl rfl (by kernel_rfl) ?_
  refine wl_take (some 141) (.int .i64 0) rfl rfl (by kernel_rfl) ?_
  refine wl_new 17 140 34 [.int .u64 0, .int .u64 0, .slice none 0 0, .bool false, .int .u64 0, .bool false, .int .u64 0, .slice none 0 0, .slice none 0 0, .slice none 0 0] [.int .u64 (xs 15), .int .u64 (xs 16), .slice AVal2 NVal2 CVal2, .bool (ts 18), .int .u64 (xs 19), .bool (ts 20), .int .u64 (xs 21), .slice AVal7 NVal7 CVal7, .slice AVal8 NVal8 CVal8, .slice AVal9 NVal9 CVal9] rfl rfl rfl rfl rfl rfl allocx34 (fun _ => by kernel_rfl) (fun _ => by kernel_rfl) (by kernel_rfl) rfl (by kernel_rfl) ?_
  intro v28w g28v GVal hg28v B
  replace XB := XB.keep B
  replace GParams := GParams.keep B
  replace GChain := GChain.keep B
  replace QPool0 := QPool0.keep B
  replace GPool := GPool.keep B
  replace GAccount := GAccount.keep B
  replace GCut := GCut.keep B
  replace GUnbonding := GUnbonding.keep B
  replace Qnd := Qnd.keep B
  replace QVal2 := QVal2.keep B
  replace QVal7 := QVal7.keep B
  replace QVal8 := QVal8.keep B
  replace QVal9 := QVal9.keep B
  replace BB := joinB BB B
  clear B
  refine wl_take (some 4) (.int .i64 0) rfl rfl (by kernel_rfl) ?_
  refine wpList_nil ?_
  refine wp_then ?_
  refine wp_frame (a' := ⟨#[(.agg cs.toArray), (.pointer (some ⟨g1v, 0, none⟩)), (.bool false), (.pointer (some ⟨g6v, 0, none⟩)), (.int .i64 0), (.pointer (some ⟨g9v, 0, none⟩)), (.int .i64 0), (.pointer (some ⟨g12v, 0, none⟩)), (.int .i64 0), (.pointer (some ⟨g15v, 0, none⟩)), (.int .i64 0), (.pointer (some ⟨g18v, 0, none⟩)), (.int .i64 0), (.pointer (some ⟨g21v, 0, none⟩)), (.int .i64 0), (.int .u64 (xs 45)), (.int .i64 0), (.pointer (some ⟨g28v, 0, none⟩)), undef, undef, undef, undef, undef, (.bool true), (.bool false), (.agg cs.toArray), (.bool true), (.bool false), (.tuple #[.agg #[.int .u64 (xs 0), .int .u64 (xs 1), .int .u64 (xs 2), .int .u64 (xs 3), .int .u64 (xs 4), .int .u64 (xs 5), .int .u64 (xs 6), .int .u64 (xs 7), .int .u64 (xs 8), .int .u64 (xs 9)], .int .i64 0]), (.pointer (some ⟨g1v, 0, none⟩)), (.agg #[.int .u64 (xs 0), .int .u64 (xs 1), .int .u64 (xs 2), .int .u64 (xs 3), .int .u64 (xs 4), .int .u64 (xs 5), .int .u64 (xs 6), .int .u64 (xs 7), .int .u64 (xs 8), .int .u64 (xs 9)]), (.slice (some ⟨bParams, 0, none⟩) nnParams nnParams), (.tuple #[.agg #[.int .u64 (xs 0), .int .u64 (xs 1), .int .u64 (xs 2), .int .u64 (xs 3), .int .u64 (xs 4), .int .u64 (xs 5), .int .u64 (xs 6), .int .u64 (xs 7), .int .u64 (xs 8), .int .u64 (xs 9)], .int .i64 0]), (.agg #[.int .u64 (xs 0), .int .u64 (xs 1), .int .u64 (xs 2), .int .u64 (xs 3), .int .u64 (xs 4), .int .u64 (xs 5), .int .u64 (xs 6), .int .u64 (xs 7), .int .u64 (xs 8), .int .u64 (xs 9)]), (.int .i64 0), (.tuple #[.agg #[.int .u64 (xs 10), .int .u64 (xs 11)], .int .i64 0]), (.pointer (some ⟨g1v, 10, none⟩)), (.agg #[.int .u64 (xs 10), .int .u64 (xs 11)]), (.slice (some ⟨bChain, 0, none⟩) nnChain nnChain), (.tuple #[.agg #[.int .u64 (xs 10), .int .u64 (xs 11)], .int .i64 0]), (.agg #[.int .u64 (xs 10), .int .u64 (xs 11)]), (.int .i64 0), (.tuple #[.agg #[.slice APool0 NPool0 CPool0], .int .i64 0]), (.pointer (some ⟨g1v, 12, none⟩)), (.agg #[.slice (aa 12) (ns 12) (cc 12)]), (.slice (some ⟨bPool, 0, none⟩) nnPool nnPool), (.tuple #[.agg #[.slice APool0 NPool0 CPool0], .int .i64 0]), (.agg #[.slice APool0 NPool0 CPool0]), (.int .i64 0), (.tuple #[.agg #[.int .u64 (xs 13), .int .u64 (xs 14)], .int .i64 0]), (.pointer (some ⟨g1v, 13, none⟩)), (.agg #[.int .u64 (xs 13), .int .u64 (xs 14)]), (.slice (some ⟨bAccount, 0, none⟩) nnAccount nnAccount), (.tuple #[.agg #[.int .u64 (xs 13), .int .u64 (xs 14)], .int .i64 0]), (.agg #[.int .u64 (xs 13), .int .u64 (xs 14)]), (.int .i64 0), (.tuple #[.agg #[.int .u64 (xs 30), .int .u64 (xs 31)], .int .i64 0]), (.pointer (some ⟨g1v, 30, none⟩)), (.agg #[.int .u64 (xs 30), .int .u64 (xs 31)]), (.slice (some ⟨bCut, 0, none⟩) nnCut nnCut), (.tuple #[.agg #[.int .u64 (xs 30), .int .u64 (xs 31)], .int .i64 0]), (.agg #[.int .u64 (xs 30), .int .u64 (xs 31)]), (.int .i64 0), (.tuple #[.agg #[.int .u64 (xs 32), .int .u64 (xs 33), .int .u64 (xs 34), .int .u64 (xs 35), .int .u64 (xs 36), .int .u64 (xs 37)], .int .i64 0]), (.pointer (some ⟨g1v, 32, none⟩)), (.agg #[.int .u64 (xs 32), .int .u64 (xs 33), .int .u64 (xs 34), .int .u64 (xs 35), .int .u64 (xs 36), .int .u64 (xs 37)]), (.slice (some ⟨bUnbonding, 0, none⟩) nnUnbonding nnUnbonding), (.tuple #[.agg #[.int .u64 (xs 32), .int .u64 (xs 33), .int .u64 (xs 34), .int .u64 (xs 35), .int .u64 (xs 36), .int .u64 (xs 37)], .int .i64 0]), (.agg #[.int .u64 (xs 32), .int .u64 (xs 33), .int .u64 (xs 34), .int .u64 (xs 35), .int .u64 (xs 36), .int .u64 (xs 37)]), (.int .i64 0), (.tuple #[.int .u64 (xs 45), .int .i64 0]), (.pointer (some ⟨g1v, 45, none⟩)), (.int .u64 (xs 45)), (.slice (some ⟨bNumber, 0, none⟩) nnNumber nnNumber), (.tuple #[.int .u64 (xs 45), .int .i64 0]), (.int .u64 (xs 45)), (.int .i64 0), (.int .i64 0), (.int .i64 0), (.int .i64 0), (.int .i64 0), (.int .i64 0), (.int .i64 0), (.int .i64 0), (.int .i64 0), (.int .i64 0), (.int .i64 0), (.int .i64 0), (.int .i64 0), (.int .i64 0), (.bool false), (.bool false), (.agg #[.int .u64 (xs 0), .int .u64 (xs 1), .int .u64 (xs 2), .int .u64 (xs 3), .int .u64 (xs 4), .int .u64 (xs 5), .int .u64 (xs 6), .int .u64 (xs 7), .int .u64 (xs 8), .int .u64 (xs 9)]), (.pointer (some ⟨g1v, 0, none⟩)), (.agg #[.int .u64 (xs 0), .int .u64 (xs 1), .int .u64 (xs 2), .int .u64 (xs 3), .int .u64 (xs 4), .int .u64 (xs 5), .int .u64 (xs 6), .int .u64 (xs 7), .int .u64 (xs 8), .int .u64 (xs 9)]), (.bool false), (.bool false), (.bool false), (.agg #[.int .u64 (xs 10), .int .u64 (xs 11)]), (.pointer (some ⟨g1v, 10, none⟩)), (.agg #[.int .u64 (xs 10), .int .u64 (xs 11)]), (.bool false), (.bool false), (.bool false), (.agg #[.slice APool0 NPool0 CPool0]), (.pointer (some ⟨g1v, 12, none⟩)), (.agg #[.slice (aa 12) (ns 12) (cc 12)]), (.agg #[.slice And Nnd Cnd]), (.bool true), (.bool false), (.bool false), (.bool false), (.agg #[.int .u64 (xs 13), .int .u64 (xs 14)]), (.pointer (some ⟨g1v, 13, none⟩)), (.agg #[.int .u64 (xs 13), .int .u64 (xs 14)]), (.bool false), (.bool false), (.bool false), (.agg #[.int .u64 (xs 30), .int .u64 (xs 31)]), (.pointer (some ⟨g1v, 30, none⟩)), (.agg #[.int .u64 (xs 30), .int .u64 (xs 31)]), (.bool false), (.bool false), (.bool false), (.agg #[.int .u64 (xs 32), .int .u64 (xs 33), .int .u64 (xs 34), .int .u64 (xs 35), .int .u64 (xs 36), .int .u64 (xs 37)]), (.pointer (some ⟨g1v, 32, none⟩)), (.agg #[.int .u64 (xs 32), .int .u64 (xs 33), .int .u64 (xs 34), .int .u64 (xs 35), .int .u64 (xs 36), .int .u64 (xs 37)]), (.bool false), (.bool false), (.bool false), (.int .u64 (xs 45)), (.pointer (some ⟨g1v, 45, none⟩)), (.int .u64 (xs 45)), (.bool false), (.bool false), (.tuple #[.agg #[.int .u64 (xs 15), .int .u64 (xs 16), .slice AVal2 NVal2 CVal2, .bool (ts 18), .int .u64 (xs 19), .bool (ts 20), .int .u64 (xs 21), .slice AVal7 NVal7 CVal7, .slice AVal8 NVal8 CVal8, .slice AVal9 NVal9 CVal9], .int .i64 0]), (.pointer (some ⟨g1v, 15, none⟩)), (.agg #[.int .u64 (xs 15), .int .u64 (xs 16), .slice (aa 17) (ns 17) (cc 17), .bool (ts 18), .int .u64 (xs 19), .bool (ts 20), .int .u64 (xs 21), .slice (aa 22) (ns 22) (cc 22), .slice (aa 23) (ns 23) (cc 23), .slice (aa 24) (ns 24) (cc 24)]), (.slice (some ⟨bVal, 0, none⟩) nnVal nnVal), (.tuple #[.agg #[.int .u64 (xs 15), .int .u64 (xs 16), .slice AVal2 NVal2 CVal2, .bool (ts 18), .int .u64 (xs 19), .bool (ts 20), .int .u64 (xs 21), .slice AVal7 NVal7 CVal7, .slice AVal8 NVal8 CVal8, .slice AVal9 NVal9 CVal9], .int .i64 0]), (.agg #[.int .u64 (xs 15), .int .u64 (xs 16), .slice AVal2 NVal2 CVal2, .bool (ts 18), .int .u64 (xs 19), .bool (ts 20), .int .u64 (xs 21), .slice AVal7 NVal7 CVal7, .slice AVal8 NVal8 CVal8, .slice AVal9 NVal9 CVal9]), (.int .i64 0), undef, undef, undef, undef, undef, undef, undef, undef, undef, undef, undef, undef, undef, undef, undef, undef, undef, undef, undef, undef, undef, undef, undef, undef, undef, undef, undef, undef, undef, undef, undef, undef, undef, undef, undef, undef, undef, undef, undef, undef, undef, undef, undef, undef, undef, undef, undef, undef, undef, undef, undef, undef, undef, undef, undef, undef, undef, undef, undef, undef, undef, undef, undef, undef, undef, undef, undef, undef, undef, undef, undef, undef, undef, undef, undef, undef, undef, undef, undef, undef, undef, undef, undef, undef, undef, undef, undef, undef, undef, undef, undef], []⟩) (by kernel_rfl) ?_
  refine wp_seq ?_
  refine wp_region_lit ?_
  refine wl_take (some 143) (.pointer (some ⟨g1v, 25, none⟩)) rfl rfl (by kernel_rfl) ?_
  refine wl_take (some 144) (.agg #[.slice (aa 25) (ns 25) (cc 25), .int .u64 (xs 26), .slice (aa 27) (ns 27) (cc 27)]) rfl rfl (run_lp 143 (by kernel_rfl) (by kernel_rfl) (ldx36 (XB.cell (i := 25) q25) (XB.cell (i := 26) q26) (XB.cell (i := 27) q27))) ?_
  refine wl_call (some 145) 14 #[.agg #[.slice (aa 25) (ns 25) (cc 25), .int .u64 (xs 26), .slice (aa 27) (ns 27) (cc 27)]] rfl rfl (by kernel_rfl) (PutDelegation_any (h0 := h25.keep BB) (m0 := z25) (x1 := xs 26) (h2 := h27.keep BB) (m2 := z27)) ?_
  rintro e1 v29w ⟨bDelegation, nnDelegation, rfl, hnDelegation, XLDelegation, hbDelegation, B⟩
  refine ⟨_, rfl, ?_⟩
  replace XB := XB.keep B
  replace GParams := GParams.keep B
  replace GChain := GChain.keep B
  replace QPool0 := QPool0.keep B
  replace GPool := GPool.keep B
  replace GAccount := GAccount.keep B
  replace GCut := GCut.keep B
  replace GUnbonding := GUnbonding.keep B
  replace Qnd := Qnd.keep B
  replace QVal2 := QVal2.keep B
  replace QVal7 := QVal7.keep B
  replace QVal8 := QVal8.keep B
  replace QVal9 := QVal9.keep B
  replace GVal := GVal.keep B
  replace BB := joinB BB B
  clear B
  obtain ⟨LDelegation, hkDelegation⟩ := laidB XLDelegation hnDelegation (by decide)
  clear hnDelegation XLDelegation hbDelegation
  refine wl_call (some 146) 47 #[.slice (some ⟨bDelegation, 0, none⟩) nnDelegation nnDelegation] rfl rfl (by kernel_rfl) (bk_Delegation LDelegation (by omega) h25.nonneg r26 h27.nonneg) ?_
  rintro e1 v30w ⟨ADelegation0, NDelegation0, CDelegation0, ADelegation2, NDelegation2, CDelegation2, rfl, ⟨QDelegation0, KDelegation0⟩, ⟨QDelegation2, KDelegation2⟩, B⟩
  refine ⟨_, rfl, ?_⟩
  replace XB := XB.keep B
  replace GParams := GParams.keep B
  replace GChain := GChain.keep B
  replace QPool0 := QPool0.keep B
  replace GPool := GPool.keep B
  replace GAccount := GAccount.keep B
  replace GCut := GCut.keep B
  replace GUnbonding := GUnbonding.keep B
  replace Qnd := Qnd.keep B
  replace QVal2 := QVal2.keep B
  replace QVal7 := QVal7.keep B
  replace QVal8 := QVal8.keep B
  replace QVal9 := QVal9.keep B
  replace GVal := GVal.keep B
  replace BB := joinB BB B
  clear B
  replace QDelegation0 := QDelegation0.v
  replace QDelegation2 := QDelegation2.v
  clear LDelegation hkDelegation
  refine wl_take (some 142) (.tuple #[.agg #[.slice ADelegation0 NDelegation0 CDelegation0, .int .u64 (xs 26), .slice ADelegation2 NDelegation2 CDelegation2], .int .i64 0]) rfl rfl (by kernel_rfl) ?_
  refine wl_take (some 147) (.agg #[.slice ADelegation0 NDelegation0 CDelegation0, .int .u64 (xs 26), .slice ADelegation2 NDelegation2 CDelegation2]) rfl rfl (by kernel_rfl) ?_
  refine wl_take (some 148) (.int .i64 0) rfl rfl (by kernel_rfl) ?_
  refine wl_new 18 147 36 [.slice none 0 0, .int .u64 0, .slice none 0 0] [.slice ADelegation0 NDelegation0 CDelegation0, .int .u64 (xs 26), .slice ADelegation2 NDelegation2 CDelegation2] rfl rfl rfl rfl rfl rfl allocx36 (fun _ => by kernel_rfl) (fun _ => by kernel_rfl) (by kernel_rfl) rfl (by kernel_rfl) ?_
  intro v31w g31v GDelegation hg31v B
  replace XB := XB.keep B
  replace GParams := GParams.keep B
  replace GChain := GChain.keep B
  replace QPool0 := QPool0.keep B
  replace GPool := GPool.keep B
  replace GAccount := GAccount.keep B
  replace GCut := GCut.keep B
  replace GUnbonding := GUnbonding.keep B
  replace Qnd := Qnd.keep B
  replace QVal2 := QVal2.keep B
  replace QVal7 := QVal7.keep B
  replace QVal8 := QVal8.keep B
  replace QVal9 := QVal9.keep B
  replace GVal := GVal.keep B
  replace QDelegation0 := QDelegation0.keep B
  replace QDelegation2 := QDelegation2.keep B
  replace BB := joinB BB B
  clear B
  refine wl_take (some 6) (.int .i64 0) rfl rfl (by kernel_rfl) ?_
  refine wpList_nil ?_
  refine wp_then ?_
  refine wp_frame (a' := ⟨#[(.agg cs.toArray), (.pointer (some ⟨g1v, 0, none⟩)), (.bool false), (.pointer (some ⟨g6v, 0, none⟩)), (.int .i64 0), (.pointer (some ⟨g9v, 0, none⟩)), (.int .i64 0), (.pointer (some ⟨g12v, 0, none⟩)), (.int .i64 0), (.pointer (some ⟨g15v, 0, none⟩)), (.int .i64 0), (.pointer (some ⟨g18v, 0, none⟩)), (.int .i64 0), (.pointer (some ⟨g21v, 0, none⟩)), (.int .i64 0), (.int .u64 (xs 45)), (.int .i64 0), (.pointer (some ⟨g28v, 0, none⟩)), (.pointer (some ⟨g31v, 0, none⟩)), undef, undef, undef, undef, (.bool true), (.bool false), (.agg cs.toArray), (.bool true), (.bool false), (.tuple #[.agg #[.int .u64 (xs 0), .int .u64 (xs 1), .int .u64 (xs 2), .int .u64 (xs 3), .int .u64 (xs 4), .int .u64 (xs 5), .int .u64 (xs 6), .int .u64 (xs 7), .int .u64 (xs 8), .int .u64 (xs 9)], .int .i64 0]), (.pointer (some ⟨g1v, 0, none⟩)), (.agg #[.int .u64 (xs 0), .int .u64 (xs 1), .int .u64 (xs 2), .int .u64 (xs 3), .int .u64 (xs 4), .int .u64 (xs 5), .int .u64 (xs 6), .int .u64 (xs 7), .int .u64 (xs 8), .int .u64 (xs 9)]), (.slice (some ⟨bParams, 0, none⟩) nnParams nnParams), (.tuple #[.agg #[.int .u64 (xs 0), .int .u64 (xs 1), .int .u64 (xs 2), .int .u64 (xs 3), .int .u64 (xs 4), .int .u64 (xs 5), .int .u64 (xs 6), .int .u64 (xs 7), .int .u64 (xs 8), .int .u64 (xs 9)], .int .i64 0]), (.agg #[.int .u64 (xs 0), .int .u64 (xs 1), .int .u64 (xs 2), .int .u64 (xs 3), .int .u64 (xs 4), .int .u64 (xs 5), .int .u64 (xs 6), .int .u64 (xs 7), .int .u64 (xs 8), .int .u64 (xs 9)]), (.int .i64 0), (.tuple #[.agg #[.int .u64 (xs 10), .int .u64 (xs 11)], .int .i64 0]), (.pointer (some ⟨g1v, 10, none⟩)), (.agg #[.int .u64 (xs 10), .int .u64 (xs 11)]), (.slice (some ⟨bChain, 0, none⟩) nnChain nnChain), (.tuple #[.agg #[.int .u64 (xs 10), .int .u64 (xs 11)], .int .i64 0]), (.agg #[.int .u64 (xs 10), .int .u64 (xs 11)]), (.int .i64 0), (.tuple #[.agg #[.slice APool0 NPool0 CPool0], .int .i64 0]), (.pointer (some ⟨g1v, 12, none⟩)), (.agg #[.slice (aa 12) (ns 12) (cc 12)]), (.slice (some ⟨bPool, 0, none⟩) nnPool nnPool), (.tuple #[.agg #[.slice APool0 NPool0 CPool0], .int .i64 0]), (.agg #[.slice APool0 NPool0 CPool0]), (.int .i64 0), (.tuple #[.agg #[.int .u64 (xs 13), .int .u64 (xs 14)], .int .i64 0]), (.pointer (some ⟨g1v, 13, none⟩)), (.agg #[.int .u64 (xs 13), .int .u64 (xs 14)]), (.slice (some ⟨bAccount, 0, none⟩) nnAccount nnAccount), (.tuple #[.agg #[.int .u64 (xs 13), .int .u64 (xs 14)], .int .i64 0]), (.agg #[.int .u64 (xs 13), .int .u64 (xs 14)]), (.int .i64 0), (.tuple #[.agg #[.int .u64 (xs 30), .int .u64 (xs 31)], .int .i64 0]), (.pointer (some ⟨g1v, 30, none⟩)), (.agg #[.int .u64 (xs 30), .int .u64 (xs 31)]), (.slice (some ⟨bCut, 0, none⟩) nnCut nnCut), (.tuple #[.agg #[.int .u64 (xs 30), .int .u64 (xs 31)], .int .i64 0]), (.agg #[.int .u64 (xs 30), .int .u64 (xs 31)]), (.int .i64 0), (.tuple #[.agg #[.int .u64 (xs 32), .int .u64 (xs 33), .int .u64 (xs 34), .int .u64 (xs 35), .int .u64 (xs 36), .int .u64 (xs 37)], .int .i64 0]), (.pointer (some ⟨g1v, 32, none⟩)), (.agg #[.int .u64 (xs 32), .int .u64 (xs 33), .int .u64 (xs 34), .int .u64 (xs 35), .int .u64 (xs 36), .int .u64 (xs 37)]), (.slice (some ⟨bUnbonding, 0, none⟩) nnUnbonding nnUnbonding), (.tuple #[.agg #[.int .u64 (xs 32), .int .u64 (xs 33), .int .u64 (xs 34), .int .u64 (xs 35), .int .u64 (xs 36), .int .u64 (xs 37)], .int .i64 0]), (.agg #[.int .u64 (xs 32), .int .u64 (xs 33), .int .u64 (xs 34), .int .u64 (xs 35), .int .u64 (xs 36), .int .u64 (xs 37)]), (.int .i64 0), (.tuple #[.int .u64 (xs 45), .int .i64 0]), (.pointer (some ⟨g1v, 45, none⟩)), (.int .u64 (xs 45)), (.slice (some ⟨bNumber, 0, none⟩) nnNumber nnNumber), (.tuple #[.int .u64 (xs 45), .int .i64 0]), (.int .u64 (xs 45)), (.int .i64 0), (.int .i64 0), (.int .i64 0), (.int .i64 0), (.int .i64 0), (.int .i64 0), (.int .i64 0), (.int .i64 0), (.int .i64 0), (.int .i64 0), (.int .i64 0), (.int .i64 0), (.int .i64 0), (.int .i64 0), (.bool false), (.bool false), (.agg #[.int .u64 (xs 0), .int .u64 (xs 1), .int .u64 (xs 2), .int .u64 (xs 3), .int .u64 (xs 4), .int .u64 (xs 5), .int .u64 (xs 6), .int .u64 (xs 7), .int .u64 (xs 8), .int .u64 (xs 9)]), (.pointer (some ⟨g1v, 0, none⟩)), (.agg #[.int .u64 (xs 0), .int .u64 (xs 1), .int .u64 (xs 2), .int .u64 (xs 3), .int .u64 (xs 4), .int .u64 (xs 5), .int .u64 (xs 6), .int .u64 (xs 7), .int .u64 (xs 8), .int .u64 (xs 9)]), (.bool false), (.bool false), (.bool false), (.agg #[.int .u64 (xs 10), .int .u64 (xs 11)]), (.pointer (some ⟨g1v, 10, none⟩)), (.agg #[.int .u64 (xs 10), .int .u64 (xs 11)]), (.bool false), (.bool false), (.bool false), (.agg #[.slice APool0 NPool0 CPool0]), (.pointer (some ⟨g1v, 12, none⟩)), (.agg #[.slice (aa 12) (ns 12) (cc 12)]), (.agg #[.slice And Nnd Cnd]), (.bool true), (.bool false), (.bool false), (.bool false), (.agg #[.int .u64 (xs 13), .int .u64 (xs 14)]), (.pointer (some ⟨g1v, 13, none⟩)), (.agg #[.int .u64 (xs 13), .int .u64 (xs 14)]), (.bool false), (.bool false), (.bool false), (.agg #[.int .u64 (xs 30), .int .u64 (xs 31)]), (.pointer (some ⟨g1v, 30, none⟩)), (.agg #[.int .u64 (xs 30), .int .u64 (xs 31)]), (.bool false), (.bool false), (.bool false), (.agg #[.int .u64 (xs 32), .int .u64 (xs 33), .int .u64 (xs 34), .int .u64 (xs 35), .int .u64 (xs 36), .int .u64 (xs 37)]), (.pointer (some ⟨g1v, 32, none⟩)), (.agg #[.int .u64 (xs 32), .int .u64 (xs 33), .int .u64 (xs 34), .int .u64 (xs 35), .int .u64 (xs 36), .int .u64 (xs 37)]), (.bool false), (.bool false), (.bool false), (.int .u64 (xs 45)), (.pointer (some ⟨g1v, 45, none⟩)), (.int .u64 (xs 45)), (.bool false), (.bool false), (.tuple #[.agg #[.int .u64 (xs 15), .int .u64 (xs 16), .slice AVal2 NVal2 CVal2, .bool (ts 18), .int .u64 (xs 19), .bool (ts 20), .int .u64 (xs 21), .slice AVal7 NVal7 CVal7, .slice AVal8 NVal8 CVal8, .slice AVal9 NVal9 CVal9], .int .i64 0]), (.pointer (some ⟨g1v, 15, none⟩)), (.agg #[.int .u64 (xs 15), .int .u64 (xs 16), .slice (aa 17) (ns 17) (cc 17), .bool (ts 18), .int .u64 (xs 19), .bool (ts 20), .int .u64 (xs 21), .slice (aa 22) (ns 22) (cc 22), .slice (aa 23) (ns 23) (cc 23), .slice (aa 24) (ns 24) (cc 24)]), (.slice (some ⟨bVal, 0, none⟩) nnVal nnVal), (.tuple #[.agg #[.int .u64 (xs 15), .int .u64 (xs 16), .slice AVal2 NVal2 CVal2, .bool (ts 18), .int .u64 (xs 19), .bool (ts 20), .int .u64 (xs 21), .slice AVal7 NVal7 CVal7, .slice AVal8 NVal8 CVal8, .slice AVal9 NVal9 CVal9], .int .i64 0]), (.agg #[.int .u64 (xs 15), .int .u64 (xs 16), .slice AVal2 NVal2 CVal2, .bool (ts 18), .int .u64 (xs 19), .bool (ts 20), .int .u64 (xs 21), .slice AVal7 NVal7 CVal7, .slice AVal8 NVal8 CVal8, .slice AVal9 NVal9 CVal9]), (.int .i64 0), (.tuple #[.agg #[.slice ADelegation0 NDelegation0 CDelegation0, .int .u64 (xs 26), .slice ADelegation2 NDelegation2 CDelegation2], .int .i64 0]), (.pointer (some ⟨g1v, 25, none⟩)), (.agg #[.slice (aa 25) (ns 25) (cc 25), .int .u64 (xs 26), .slice (aa 27) (ns 27) (cc 27)]), (.slice (some ⟨bDelegation, 0, none⟩) nnDelegation nnDelegation), (.tuple #[.agg #[.slice ADelegation0 NDelegation0 CDelegation0, .int .u64 (xs 26), .slice ADelegation2 NDelegation2 CDelegation2], .int .i64 0]), (.agg #[.slice ADelegation0 NDelegation0 CDelegation0, .int .u64 (xs 26), .slice ADelegation2 NDelegation2 CDelegation2]), (.int .i64 0), undef, undef, undef, undef, undef, undef, undef, undef, undef, undef, undef, undef, undef, undef, undef, undef, undef, undef, undef, undef, undef, undef, undef, undef, undef, undef, undef, undef, undef, undef, undef, undef, undef, undef, undef, undef, undef, undef, undef, undef, undef, undef, undef, undef, undef, undef, undef, undef, undef, undef, undef, undef, undef, undef, undef, undef, undef, undef, undef, undef, undef, undef, undef, undef, undef, undef, undef, undef, undef, undef, undef, undef, undef, undef, undef, undef, undef, undef, undef, undef, undef, undef, undef, undef], []⟩) (by kernel_rfl) ?_
  refine wp_seq ?_
  refine wp_region_lit ?_
  refine wl_take (some 150) (.pointer (some ⟨g1v, 28, none⟩)) rfl rfl (by kernel_rfl) ?_
  refine wl_take (some 151) (.agg #[.slice (aa 28) (ns 28) (cc 28), .int .u64 (xs 29)]) rfl rfl (run_lp 150 (by kernel_rfl) (by kernel_rfl) (ldx38 (XB.cell (i := 28) q28) (XB.cell (i := 29) q29))) ?_
  refine wl_call (some 152) 15 #[.agg #[.slice (aa 28) (ns 28) (cc 28), .int .u64 (xs 29)]] rfl rfl (by kernel_rfl) (PutHistory_any (h0 := h28.keep BB) (m0 := z28) (x1 := xs 29)) ?_
  rintro e1 v32w ⟨bHistory, nnHistory, rfl, hnHistory, XLHistory, hbHistory, B⟩
  refine ⟨_, rfl, ?_⟩
  replace XB := XB.keep B
  replace GParams := GParams.keep B
  replace GChain := GChain.keep B
  replace QPool0 := QPool0.keep B
  replace GPool := GPool.keep B
  replace GAccount := GAccount.keep B
  replace GCut := GCut.keep B
  replace GUnbonding := GUnbonding.keep B
  replace Qnd := Qnd.keep B
  replace QVal2 := QVal2.keep B
  replace QVal7 := QVal7.keep B
  replace QVal8 := QVal8.keep B
  replace QVal9 := QVal9.keep B
  replace GVal := GVal.keep B
  replace QDelegation0 := QDelegation0.keep B
  replace QDelegation2 := QDelegation2.keep B
  replace GDelegation := GDelegation.keep B
  replace BB := joinB BB B
  clear B
  obtain ⟨LHistory, hkHistory⟩ := laidB XLHistory hnHistory (by decide)
  clear hnHistory XLHistory hbHistory
  refine wl_call (some 153) 48 #[.slice (some ⟨bHistory, 0, none⟩) nnHistory nnHistory] rfl rfl (by kernel_rfl) (bk_History LHistory (by omega) h28.nonneg r29) ?_
  rintro e1 v33w ⟨AHistory0, NHistory0, CHistory0, rfl, ⟨QHistory0, KHistory0⟩, B⟩
  refine ⟨_, rfl, ?_⟩
  replace XB := XB.keep B
  replace GParams := GParams.keep B
  replace GChain := GChain.keep B
  replace QPool0 := QPool0.keep B
  replace GPool := GPool.keep B
  replace GAccount := GAccount.keep B
  replace GCut := GCut.keep B
  replace GUnbonding := GUnbonding.keep B
  replace Qnd := Qnd.keep B
  replace QVal2 := QVal2.keep B
  replace QVal7 := QVal7.keep B
  replace QVal8 := QVal8.keep B
  replace QVal9 := QVal9.keep B
  replace GVal := GVal.keep B
  replace QDelegation0 := QDelegation0.keep B
  replace QDelegation2 := QDelegation2.keep B
  replace GDelegation := GDelegation.keep B
  replace BB := joinB BB B
  clear B
  replace QHistory0 := QHistory0.v
  clear LHistory hkHistory
  refine wl_take (some 149) (.tuple #[.agg #[.slice AHistory0 NHistory0 CHistory0, .int .u64 (xs 29)], .int .i64 0]) rfl rfl (by kernel_rfl) ?_
  refine wl_take (some 154) (.agg #[.slice AHistory0 NHistory0 CHistory0, .int .u64 (xs 29)]) rfl rfl (by kernel_rfl) ?_
  refine wl_take (some 155) (.int .i64 0) rfl rfl (by kernel_rfl) ?_
  refine wl_new 19 154 38 [.slice none 0 0, .int .u64 0] [.slice AHistory0 NHistory0 CHistory0, .int .u64 (xs 29)] rfl rfl rfl rfl rfl rfl allocx38 (fun _ => by kernel_rfl) (fun _ => by kernel_rfl) (by kernel_rfl) rfl (by kernel_rfl) ?_
  intro v34w g34v GHistory hg34v B
  replace XB := XB.keep B
  replace GParams := GParams.keep B
  replace GChain := GChain.keep B
  replace QPool0 := QPool0.keep B
  replace GPool := GPool.keep B
  replace GAccount := GAccount.keep B
  replace GCut := GCut.keep B
  replace GUnbonding := GUnbonding.keep B
  replace Qnd := Qnd.keep B
  replace QVal2 := QVal2.keep B
  replace QVal7 := QVal7.keep B
  replace QVal8 := QVal8.keep B
  replace QVal9 := QVal9.keep B
  replace GVal := GVal.keep B
  replace QDelegation0 := QDelegation0.keep B
  replace QDelegation2 := QDelegation2.keep B
  replace GDelegation := GDelegation.keep B
  replace QHistory0 := QHistory0.keep B
  replace BB := joinB BB B
  clear B
  refine wl_take (some 8) (.int .i64 0) rfl rfl (by kernel_rfl) ?_
  refine wpList_nil ?_
  refine wp_then ?_
  refine wp_frame (a' := ⟨#[(.agg cs.toArray), (.pointer (some ⟨g1v, 0, none⟩)), (.bool false), (.pointer (some ⟨g6v, 0, none⟩)), (.int .i64 0), (.pointer (some ⟨g9v, 0, none⟩)), (.int .i64 0), (.pointer (some ⟨g12v, 0, none⟩)), (.int .i64 0), (.pointer (some ⟨g15v, 0, none⟩)), (.int .i64 0), (.pointer (some ⟨g18v, 0, none⟩)), (.int .i64 0), (.pointer (some ⟨g21v, 0, none⟩)), (.int .i64 0), (.int .u64 (xs 45)), (.int .i64 0), (.pointer (some ⟨g28v, 0, none⟩)), (.pointer (some ⟨g31v, 0, none⟩)), (.pointer (some ⟨g34v, 0, none⟩)), undef, undef, undef, (.bool true), (.bool false), (.agg cs.toArray), (.bool true), (.bool false), (.tuple #[.agg #[.int .u64 (xs 0), .int .u64 (xs 1), .int .u64 (xs 2), .int .u64 (xs 3), .int .u64 (xs 4), .int .u64 (xs 5), .int .u64 (xs 6), .int .u64 (xs 7), .int .u64 (xs 8), .int .u64 (xs 9)], .int .i64 0]), (.pointer (some ⟨g1v, 0, none⟩)), (.agg #[.int .u64 (xs 0), .int .u64 (xs 1), .int .u64 (xs 2), .int .u64 (xs 3), .int .u64 (xs 4), .int .u64 (xs 5), .int .u64 (xs 6), .int .u64 (xs 7), .int .u64 (xs 8), .int .u64 (xs 9)]), (.slice (some ⟨bParams, 0, none⟩) nnParams nnParams), (.tuple #[.agg #[.int .u64 (xs 0), .int .u64 (xs 1), .int .u64 (xs 2), .int .u64 (xs 3), .int .u64 (xs 4), .int .u64 (xs 5), .int .u64 (xs 6), .int .u64 (xs 7), .int .u64 (xs 8), .int .u64 (xs 9)], .int .i64 0]), (.agg #[.int .u64 (xs 0), .int .u64 (xs 1), .int .u64 (xs 2), .int .u64 (xs 3), .int .u64 (xs 4), .int .u64 (xs 5), .int .u64 (xs 6), .int .u64 (xs 7), .int .u64 (xs 8), .int .u64 (xs 9)]), (.int .i64 0), (.tuple #[.agg #[.int .u64 (xs 10), .int .u64 (xs 11)], .int .i64 0]), (.pointer (some ⟨g1v, 10, none⟩)), (.agg #[.int .u64 (xs 10), .int .u64 (xs 11)]), (.slice (some ⟨bChain, 0, none⟩) nnChain nnChain), (.tuple #[.agg #[.int .u64 (xs 10), .int .u64 (xs 11)], .int .i64 0]), (.agg #[.int .u64 (xs 10), .int .u64 (xs 11)]), (.int .i64 0), (.tuple #[.agg #[.slice APool0 NPool0 CPool0], .int .i64 0]), (.pointer (some ⟨g1v, 12, none⟩)), (.agg #[.slice (aa 12) (ns 12) (cc 12)]), (.slice (some ⟨bPool, 0, none⟩) nnPool nnPool), (.tuple #[.agg #[.slice APool0 NPool0 CPool0], .int .i64 0]), (.agg #[.slice APool0 NPool0 CPool0]), (.int .i64 0), (.tuple #[.agg #[.int .u64 (xs 13), .int .u64 (xs 14)], .int .i64 0]), (.pointer (some ⟨g1v, 13, none⟩)), (.agg #[.int .u64 (xs 13), .int .u64 (xs 14)]), (.slice (some ⟨bAccount, 0, none⟩) nnAccount nnAccount), (.tuple #[.agg #[.int .u64 (xs 13), .int .u64 (xs 14)], .int .i64 0]), (.agg #[.int .u64 (xs 13), .int .u64 (xs 14)]), (.int .i64 0), (.tuple #[.agg #[.int .u64 (xs 30), .int .u64 (xs 31)], .int .i64 0]), (.pointer (some ⟨g1v, 30, none⟩)), (.agg #[.int .u64 (xs 30), .int .u64 (xs 31)]), (.slice (some ⟨bCut, 0, none⟩) nnCut nnCut), (.tuple #[.agg #[.int .u64 (xs 30), .int .u64 (xs 31)], .int .i64 0]), (.agg #[.int .u64 (xs 30), .int .u64 (xs 31)]), (.int .i64 0), (.tuple #[.agg #[.int .u64 (xs 32), .int .u64 (xs 33), .int .u64 (xs 34), .int .u64 (xs 35), .int .u64 (xs 36), .int .u64 (xs 37)], .int .i64 0]), (.pointer (some ⟨g1v, 32, none⟩)), (.agg #[.int .u64 (xs 32), .int .u64 (xs 33), .int .u64 (xs 34), .int .u64 (xs 35), .int .u64 (xs 36), .int .u64 (xs 37)]), (.slice (some ⟨bUnbonding, 0, none⟩) nnUnbonding nnUnbonding), (.tuple #[.agg #[.int .u64 (xs 32), .int .u64 (xs 33), .int .u64 (xs 34), .int .u64 (xs 35), .int .u64 (xs 36), .int .u64 (xs 37)], .int .i64 0]), (.agg #[.int .u64 (xs 32), .int .u64 (xs 33), .int .u64 (xs 34), .int .u64 (xs 35), .int .u64 (xs 36), .int .u64 (xs 37)]), (.int .i64 0), (.tuple #[.int .u64 (xs 45), .int .i64 0]), (.pointer (some ⟨g1v, 45, none⟩)), (.int .u64 (xs 45)), (.slice (some ⟨bNumber, 0, none⟩) nnNumber nnNumber), (.tuple #[.int .u64 (xs 45), .int .i64 0]), (.int .u64 (xs 45)), (.int .i64 0), (.int .i64 0), (.int .i64 0), (.int .i64 0), (.int .i64 0), (.int .i64 0), (.int .i64 0), (.int .i64 0), (.int .i64 0), (.int .i64 0), (.int .i64 0), (.int .i64 0), (.int .i64 0), (.int .i64 0), (.bool false), (.bool false), (.agg #[.int .u64 (xs 0), .int .u64 (xs 1), .int .u64 (xs 2), .int .u64 (xs 3), .int .u64 (xs 4), .int .u64 (xs 5), .int .u64 (xs 6), .int .u64 (xs 7), .int .u64 (xs 8), .int .u64 (xs 9)]), (.pointer (some ⟨g1v, 0, none⟩)), (.agg #[.int .u64 (xs 0), .int .u64 (xs 1), .int .u64 (xs 2), .int .u64 (xs 3), .int .u64 (xs 4), .int .u64 (xs 5), .int .u64 (xs 6), .int .u64 (xs 7), .int .u64 (xs 8), .int .u64 (xs 9)]), (.bool false), (.bool false), (.bool false), (.agg #[.int .u64 (xs 10), .int .u64 (xs 11)]), (.pointer (some ⟨g1v, 10, none⟩)), (.agg #[.int .u64 (xs 10), .int .u64 (xs 11)]), (.bool false), (.bool false), (.bool false), (.agg #[.slice APool0 NPool0 CPool0]), (.pointer (some ⟨g1v, 12, none⟩)), (.agg #[.slice (aa 12) (ns 12) (cc 12)]), (.agg #[.slice And Nnd Cnd]), (.bool true), (.bool false), (.bool false), (.bool false), (.agg #[.int .u64 (xs 13), .int .u64 (xs 14)]), (.pointer (some ⟨g1v, 13, none⟩)), (.agg #[.int .u64 (xs 13), .int .u64 (xs 14)]), (.bool false), (.bool false), (.bool false), (.agg #[.int .u64 (xs 30), .int .u64 (xs 31)]), (.pointer (some ⟨g1v, 30, none⟩)), (.agg #[.int .u64 (xs 30), .int .u64 (xs 31)]), (.bool false), (.bool false), (.bool false), (.agg #[.int .u64 (xs 32), .int .u64 (xs 33), .int .u64 (xs 34), .int .u64 (xs 35), .int .u64 (xs 36), .int .u64 (xs 37)]), (.pointer (some ⟨g1v, 32, none⟩)), (.agg #[.int .u64 (xs 32), .int .u64 (xs 33), .int .u64 (xs 34), .int .u64 (xs 35), .int .u64 (xs 36), .int .u64 (xs 37)]), (.bool false), (.bool false), (.bool false), (.int .u64 (xs 45)), (.pointer (some ⟨g1v, 45, none⟩)), (.int .u64 (xs 45)), (.bool false), (.bool false), (.tuple #[.agg #[.int .u64 (xs 15), .int .u64 (xs 16), .slice AVal2 NVal2 CVal2, .bool (ts 18), .int .u64 (xs 19), .bool (ts 20), .int .u64 (xs 21), .slice AVal7 NVal7 CVal7, .slice AVal8 NVal8 CVal8, .slice AVal9 NVal9 CVal9], .int .i64 0]), (.pointer (some ⟨g1v, 15, none⟩)), (.agg #[.int .u64 (xs 15), .int .u64 (xs 16), .slice (aa 17) (ns 17) (cc 17), .bool (ts 18), .int .u64 (xs 19), .bool (ts 20), .int .u64 (xs 21), .slice (aa 22) (ns 22) (cc 22), .slice (aa 23) (ns 23) (cc 23), .slice (aa 24) (ns 24) (cc 24)]), (.slice (some ⟨bVal, 0, none⟩) nnVal nnVal), (.tuple #[.agg #[.int .u64 (xs 15), .int .u64 (xs 16), .slice AVal2 NVal2 CVal2, .bool (ts 18), .int .u64 (xs 19), .bool (ts 20), .int .u64 (xs 21), .slice AVal7 NVal7 CVal7, .slice AVal8 NVal8 CVal8, .slice AVal9 NVal9 CVal9], .int .i64 0]), (.agg #[.int .u64 (xs 15), .int .u64 (xs 16), .slice AVal2 NVal2 CVal2, .bool (ts 18), .int .u64 (xs 19), .bool (ts 20), .int .u64 (xs 21), .slice AVal7 NVal7 CVal7, .slice AVal8 NVal8 CVal8, .slice AVal9 NVal9 CVal9]), (.int .i64 0), (.tuple #[.agg #[.slice ADelegation0 NDelegation0 CDelegation0, .int .u64 (xs 26), .slice ADelegation2 NDelegation2 CDelegation2], .int .i64 0]), (.pointer (some ⟨g1v, 25, none⟩)), (.agg #[.slice (aa 25) (ns 25) (cc 25), .int .u64 (xs 26), .slice (aa 27) (ns 27) (cc 27)]), (.slice (some ⟨bDelegation, 0, none⟩) nnDelegation nnDelegation), (.tuple #[.agg #[.slice ADelegation0 NDelegation0 CDelegation0, .int .u64 (xs 26), .slice ADelegation2 NDelegation2 CDelegation2], .int .i64 0]), (.agg #[.slice ADelegation0 NDelegation0 CDelegation0, .int .u64 (xs 26), .slice ADelegation2 NDelegation2 CDelegation2]), (.int .i64 0), (.tuple #[.agg #[.slice AHistory0 NHistory0 CHistory0, .int .u64 (xs 29)], .int .i64 0]), (.pointer (some ⟨g1v, 28, none⟩)), (.agg #[.slice (aa 28) (ns 28) (cc 28), .int .u64 (xs 29)]), (.slice (some ⟨bHistory, 0, none⟩) nnHistory nnHistory), (.tuple #[.agg #[.slice AHistory0 NHistory0 CHistory0, .int .u64 (xs 29)], .int .i64 0]), (.agg #[.slice AHistory0 NHistory0 CHistory0, .int .u64 (xs 29)]), (.int .i64 0), undef, undef, undef, undef, undef, undef, undef, undef, undef, undef, undef, undef, undef, undef, undef, undef, undef, undef, undef, undef, undef, undef, undef, undef, undef, undef, undef, undef, undef, undef, undef, undef, undef, undef, undef, undef, undef, undef, undef, undef, undef, undef, undef, undef, undef, undef, undef, undef, undef, undef, undef, undef, undef, undef, undef, undef, undef, undef, undef, undef, undef, undef, undef, undef, undef, undef, undef, undef, undef, undef, undef, undef, undef, undef, undef, undef, undef], []⟩) (by kernel_rfl) ?_
  refine wp_seq ?_
  refine wp_region_lit ?_
  refine wl_take (some 157) (.pointer (some ⟨g1v, 38, none⟩)) rfl rfl (by kernel_rfl) ?_
  refine wl_take (some 158) (.agg #[.int .u64 (xs 38), .int .u64 (xs 39), .int .u64 (xs 40), .int .u64 (xs 41), .int .u64 (xs 42), .int .u64 (xs 43), .slice (aa 44) (ns 44) (cc 44)]) rfl rfl (run_lp 157 (by kernel_rfl) (by kernel_rfl) (ldx44 (XB.cell (i := 38) q38) (XB.cell (i := 39) q39) (XB.cell (i := 40) q40) (XB.cell (i := 41) q41) (XB.cell (i := 42) q42) (XB.cell (i := 43) q43) (XB.cell (i := 44) q44))) ?_
  refine wl_call (some 159) 18 #[.agg #[.int .u64 (xs 38), .int .u64 (xs 39), .int .u64 (xs 40), .int .u64 (xs 41), .int .u64 (xs 42), .int .u64 (xs 43), .slice (aa 44) (ns 44) (cc 44)]] rfl rfl (by kernel_rfl) (PutMove_any (x0 := xs 38) (x1 := xs 39) (x2 := xs 40) (x3 := xs 41) (x4 := xs 42) (x5 := xs 43) (h6 := h44.keep BB) (m6 := z44)) ?_
  rintro e1 v35w ⟨bMove, nnMove, rfl, hnMove, XLMove, hbMove, B⟩
  refine ⟨_, rfl, ?_⟩
  replace XB := XB.keep B
  replace GParams := GParams.keep B
  replace GChain := GChain.keep B
  replace QPool0 := QPool0.keep B
  replace GPool := GPool.keep B
  replace GAccount := GAccount.keep B
  replace GCut := GCut.keep B
  replace GUnbonding := GUnbonding.keep B
  replace Qnd := Qnd.keep B
  replace QVal2 := QVal2.keep B
  replace QVal7 := QVal7.keep B
  replace QVal8 := QVal8.keep B
  replace QVal9 := QVal9.keep B
  replace GVal := GVal.keep B
  replace QDelegation0 := QDelegation0.keep B
  replace QDelegation2 := QDelegation2.keep B
  replace GDelegation := GDelegation.keep B
  replace QHistory0 := QHistory0.keep B
  replace GHistory := GHistory.keep B
  replace BB := joinB BB B
  clear B
  obtain ⟨LMove, hkMove⟩ := laidB XLMove hnMove (by decide)
  clear hnMove XLMove hbMove
  refine wl_call (some 160) 49 #[.slice (some ⟨bMove, 0, none⟩) nnMove nnMove] rfl rfl (by kernel_rfl) (bk_Move LMove (by omega) r38 r39 r40 r41 r42 r43 h44.nonneg) ?_
  rintro e1 v36w ⟨AMove6, NMove6, CMove6, rfl, ⟨QMove6, KMove6⟩, B⟩
  refine ⟨_, rfl, ?_⟩
  replace XB := XB.keep B
  replace GParams := GParams.keep B
  replace GChain := GChain.keep B
  replace QPool0 := QPool0.keep B
  replace GPool := GPool.keep B
  replace GAccount := GAccount.keep B
  replace GCut := GCut.keep B
  replace GUnbonding := GUnbonding.keep B
  replace Qnd := Qnd.keep B
  replace QVal2 := QVal2.keep B
  replace QVal7 := QVal7.keep B
  replace QVal8 := QVal8.keep B
  replace QVal9 := QVal9.keep B
  replace GVal := GVal.keep B
  replace QDelegation0 := QDelegation0.keep B
  replace QDelegation2 := QDelegation2.keep B
  replace GDelegation := GDelegation.keep B
  replace QHistory0 := QHistory0.keep B
  replace GHistory := GHistory.keep B
  replace BB := joinB BB B
  clear B
  replace QMove6 := QMove6.v
  clear LMove hkMove
  refine wl_take (some 156) (.tuple #[.agg #[.int .u64 (xs 38), .int .u64 (xs 39), .int .u64 (xs 40), .int .u64 (xs 41), .int .u64 (xs 42), .int .u64 (xs 43), .slice AMove6 NMove6 CMove6], .int .i64 0]) rfl rfl (by kernel_rfl) ?_
  refine wl_take (some 161) (.agg #[.int .u64 (xs 38), .int .u64 (xs 39), .int .u64 (xs 40), .int .u64 (xs 41), .int .u64 (xs 42), .int .u64 (xs 43), .slice AMove6 NMove6 CMove6]) rfl rfl (by kernel_rfl) ?_
  refine wl_take (some 162) (.int .i64 0) rfl rfl (by kernel_rfl) ?_
  refine wl_new 20 161 44 [.int .u64 0, .int .u64 0, .int .u64 0, .int .u64 0, .int .u64 0, .int .u64 0, .slice none 0 0] [.int .u64 (xs 38), .int .u64 (xs 39), .int .u64 (xs 40), .int .u64 (xs 41), .int .u64 (xs 42), .int .u64 (xs 43), .slice AMove6 NMove6 CMove6] rfl rfl rfl rfl rfl rfl allocx44 (fun _ => by kernel_rfl) (fun _ => by kernel_rfl) (by kernel_rfl) rfl (by kernel_rfl) ?_
  intro v37w g37v GMove hg37v B
  replace XB := XB.keep B
  replace GParams := GParams.keep B
  replace GChain := GChain.keep B
  replace QPool0 := QPool0.keep B
  replace GPool := GPool.keep B
  replace GAccount := GAccount.keep B
  replace GCut := GCut.keep B
  replace GUnbonding := GUnbonding.keep B
  replace Qnd := Qnd.keep B
  replace QVal2 := QVal2.keep B
  replace QVal7 := QVal7.keep B
  replace QVal8 := QVal8.keep B
  replace QVal9 := QVal9.keep B
  replace GVal := GVal.keep B
  replace QDelegation0 := QDelegation0.keep B
  replace QDelegation2 := QDelegation2.keep B
  replace GDelegation := GDelegation.keep B
  replace QHistory0 := QHistory0.keep B
  replace GHistory := GHistory.keep B
  replace QMove6 := QMove6.keep B
  replace BB := joinB BB B
  clear B
  refine wl_take (some 10) (.int .i64 0) rfl rfl (by kernel_rfl) ?_
  refine wpList_nil ?_
  refine wp_then ?_
  refine wp_frame (a' := ⟨#[(.agg cs.toArray), (.pointer (some ⟨g1v, 0, none⟩)), (.bool false), (.pointer (some ⟨g6v, 0, none⟩)), (.int .i64 0), (.pointer (some ⟨g9v, 0, none⟩)), (.int .i64 0), (.pointer (some ⟨g12v, 0, none⟩)), (.int .i64 0), (.pointer (some ⟨g15v, 0, none⟩)), (.int .i64 0), (.pointer (some ⟨g18v, 0, none⟩)), (.int .i64 0), (.pointer (some ⟨g21v, 0, none⟩)), (.int .i64 0), (.int .u64 (xs 45)), (.int .i64 0), (.pointer (some ⟨g28v, 0, none⟩)), (.pointer (some ⟨g31v, 0, none⟩)), (.pointer (some ⟨g34v, 0, none⟩)), (.pointer (some ⟨g37v, 0, none⟩)), undef, undef, (.bool true), (.bool false), (.agg cs.toArray), (.bool true), (.bool false), (.tuple #[.agg #[.int .u64 (xs 0), .int .u64 (xs 1), .int .u64 (xs 2), .int .u64 (xs 3), .int .u64 (xs 4), .int .u64 (xs 5), .int .u64 (xs 6), .int .u64 (xs 7), .int .u64 (xs 8), .int .u64 (xs 9)], .int .i64 0]), (.pointer (some ⟨g1v, 0, none⟩)), (.agg #[.int .u64 (xs 0), .int .u64 (xs 1), .int .u64 (xs 2), .int .u64 (xs 3), .int .u64 (xs 4), .int .u64 (xs 5), .int .u64 (xs 6), .int .u64 (xs 7), .int .u64 (xs 8), .int .u64 (xs 9)]), (.slice (some ⟨bParams, 0, none⟩) nnParams nnParams), (.tuple #[.agg #[.int .u64 (xs 0), .int .u64 (xs 1), .int .u64 (xs 2), .int .u64 (xs 3), .int .u64 (xs 4), .int .u64 (xs 5), .int .u64 (xs 6), .int .u64 (xs 7), .int .u64 (xs 8), .int .u64 (xs 9)], .int .i64 0]), (.agg #[.int .u64 (xs 0), .int .u64 (xs 1), .int .u64 (xs 2), .int .u64 (xs 3), .int .u64 (xs 4), .int .u64 (xs 5), .int .u64 (xs 6), .int .u64 (xs 7), .int .u64 (xs 8), .int .u64 (xs 9)]), (.int .i64 0), (.tuple #[.agg #[.int .u64 (xs 10), .int .u64 (xs 11)], .int .i64 0]), (.pointer (some ⟨g1v, 10, none⟩)), (.agg #[.int .u64 (xs 10), .int .u64 (xs 11)]), (.slice (some ⟨bChain, 0, none⟩) nnChain nnChain), (.tuple #[.agg #[.int .u64 (xs 10), .int .u64 (xs 11)], .int .i64 0]), (.agg #[.int .u64 (xs 10), .int .u64 (xs 11)]), (.int .i64 0), (.tuple #[.agg #[.slice APool0 NPool0 CPool0], .int .i64 0]), (.pointer (some ⟨g1v, 12, none⟩)), (.agg #[.slice (aa 12) (ns 12) (cc 12)]), (.slice (some ⟨bPool, 0, none⟩) nnPool nnPool), (.tuple #[.agg #[.slice APool0 NPool0 CPool0], .int .i64 0]), (.agg #[.slice APool0 NPool0 CPool0]), (.int .i64 0), (.tuple #[.agg #[.int .u64 (xs 13), .int .u64 (xs 14)], .int .i64 0]), (.pointer (some ⟨g1v, 13, none⟩)), (.agg #[.int .u64 (xs 13), .int .u64 (xs 14)]), (.slice (some ⟨bAccount, 0, none⟩) nnAccount nnAccount), (.tuple #[.agg #[.int .u64 (xs 13), .int .u64 (xs 14)], .int .i64 0]), (.agg #[.int .u64 (xs 13), .int .u64 (xs 14)]), (.int .i64 0), (.tuple #[.agg #[.int .u64 (xs 30), .int .u64 (xs 31)], .int .i64 0]), (.pointer (some ⟨g1v, 30, none⟩)), (.agg #[.int .u64 (xs 30), .int .u64 (xs 31)]), (.slice (some ⟨bCut, 0, none⟩) nnCut nnCut), (.tuple #[.agg #[.int .u64 (xs 30), .int .u64 (xs 31)], .int .i64 0]), (.agg #[.int .u64 (xs 30), .int .u64 (xs 31)]), (.int .i64 0), (.tuple #[.agg #[.int .u64 (xs 32), .int .u64 (xs 33), .int .u64 (xs 34), .int .u64 (xs 35), .int .u64 (xs 36), .int .u64 (xs 37)], .int .i64 0]), (.pointer (some ⟨g1v, 32, none⟩)), (.agg #[.int .u64 (xs 32), .int .u64 (xs 33), .int .u64 (xs 34), .int .u64 (xs 35), .int .u64 (xs 36), .int .u64 (xs 37)]), (.slice (some ⟨bUnbonding, 0, none⟩) nnUnbonding nnUnbonding), (.tuple #[.agg #[.int .u64 (xs 32), .int .u64 (xs 33), .int .u64 (xs 34), .int .u64 (xs 35), .int .u64 (xs 36), .int .u64 (xs 37)], .int .i64 0]), (.agg #[.int .u64 (xs 32), .int .u64 (xs 33), .int .u64 (xs 34), .int .u64 (xs 35), .int .u64 (xs 36), .int .u64 (xs 37)]), (.int .i64 0), (.tuple #[.int .u64 (xs 45), .int .i64 0]), (.pointer (some ⟨g1v, 45, none⟩)), (.int .u64 (xs 45)), (.slice (some ⟨bNumber, 0, none⟩) nnNumber nnNumber), (.tuple #[.int .u64 (xs 45), .int .i64 0]), (.int .u64 (xs 45)), (.int .i64 0), (.int .i64 0), (.int .i64 0), (.int .i64 0), (.int .i64 0), (.int .i64 0), (.int .i64 0), (.int .i64 0), (.int .i64 0), (.int .i64 0), (.int .i64 0), (.int .i64 0), (.int .i64 0), (.int .i64 0), (.bool false), (.bool false), (.agg #[.int .u64 (xs 0), .int .u64 (xs 1), .int .u64 (xs 2), .int .u64 (xs 3), .int .u64 (xs 4), .int .u64 (xs 5), .int .u64 (xs 6), .int .u64 (xs 7), .int .u64 (xs 8), .int .u64 (xs 9)]), (.pointer (some ⟨g1v, 0, none⟩)), (.agg #[.int .u64 (xs 0), .int .u64 (xs 1), .int .u64 (xs 2), .int .u64 (xs 3), .int .u64 (xs 4), .int .u64 (xs 5), .int .u64 (xs 6), .int .u64 (xs 7), .int .u64 (xs 8), .int .u64 (xs 9)]), (.bool false), (.bool false), (.bool false), (.agg #[.int .u64 (xs 10), .int .u64 (xs 11)]), (.pointer (some ⟨g1v, 10, none⟩)), (.agg #[.int .u64 (xs 10), .int .u64 (xs 11)]), (.bool false), (.bool false), (.bool false), (.agg #[.slice APool0 NPool0 CPool0]), (.pointer (some ⟨g1v, 12, none⟩)), (.agg #[.slice (aa 12) (ns 12) (cc 12)]), (.agg #[.slice And Nnd Cnd]), (.bool true), (.bool false), (.bool false), (.bool false), (.agg #[.int .u64 (xs 13), .int .u64 (xs 14)]), (.pointer (some ⟨g1v, 13, none⟩)), (.agg #[.int .u64 (xs 13), .int .u64 (xs 14)]), (.bool false), (.bool false), (.bool false), (.agg #[.int .u64 (xs 30), .int .u64 (xs 31)]), (.pointer (some ⟨g1v, 30, none⟩)), (.agg #[.int .u64 (xs 30), .int .u64 (xs 31)]), (.bool false), (.bool false), (.bool false), (.agg #[.int .u64 (xs 32), .int .u64 (xs 33), .int .u64 (xs 34), .int .u64 (xs 35), .int .u64 (xs 36), .int .u64 (xs 37)]), (.pointer (some ⟨g1v, 32, none⟩)), (.agg #[.int .u64 (xs 32), .int .u64 (xs 33), .int .u64 (xs 34), .int .u64 (xs 35), .int .u64 (xs 36), .int .u64 (xs 37)]), (.bool false), (.bool false), (.bool false), (.int .u64 (xs 45)), (.pointer (some ⟨g1v, 45, none⟩)), (.int .u64 (xs 45)), (.bool false), (.bool false), (.tuple #[.agg #[.int .u64 (xs 15), .int .u64 (xs 16), .slice AVal2 NVal2 CVal2, .bool (ts 18), .int .u64 (xs 19), .bool (ts 20), .int .u64 (xs 21), .slice AVal7 NVal7 CVal7, .slice AVal8 NVal8 CVal8, .slice AVal9 NVal9 CVal9], .int .i64 0]), (.pointer (some ⟨g1v, 15, none⟩)), (.agg #[.int .u64 (xs 15), .int .u64 (xs 16), .slice (aa 17) (ns 17) (cc 17), .bool (ts 18), .int .u64 (xs 19), .bool (ts 20), .int .u64 (xs 21), .slice (aa 22) (ns 22) (cc 22), .slice (aa 23) (ns 23) (cc 23), .slice (aa 24) (ns 24) (cc 24)]), (.slice (some ⟨bVal, 0, none⟩) nnVal nnVal), (.tuple #[.agg #[.int .u64 (xs 15), .int .u64 (xs 16), .slice AVal2 NVal2 CVal2, .bool (ts 18), .int .u64 (xs 19), .bool (ts 20), .int .u64 (xs 21), .slice AVal7 NVal7 CVal7, .slice AVal8 NVal8 CVal8, .slice AVal9 NVal9 CVal9], .int .i64 0]), (.agg #[.int .u64 (xs 15), .int .u64 (xs 16), .slice AVal2 NVal2 CVal2, .bool (ts 18), .int .u64 (xs 19), .bool (ts 20), .int .u64 (xs 21), .slice AVal7 NVal7 CVal7, .slice AVal8 NVal8 CVal8, .slice AVal9 NVal9 CVal9]), (.int .i64 0), (.tuple #[.agg #[.slice ADelegation0 NDelegation0 CDelegation0, .int .u64 (xs 26), .slice ADelegation2 NDelegation2 CDelegation2], .int .i64 0]), (.pointer (some ⟨g1v, 25, none⟩)), (.agg #[.slice (aa 25) (ns 25) (cc 25), .int .u64 (xs 26), .slice (aa 27) (ns 27) (cc 27)]), (.slice (some ⟨bDelegation, 0, none⟩) nnDelegation nnDelegation), (.tuple #[.agg #[.slice ADelegation0 NDelegation0 CDelegation0, .int .u64 (xs 26), .slice ADelegation2 NDelegation2 CDelegation2], .int .i64 0]), (.agg #[.slice ADelegation0 NDelegation0 CDelegation0, .int .u64 (xs 26), .slice ADelegation2 NDelegation2 CDelegation2]), (.int .i64 0), (.tuple #[.agg #[.slice AHistory0 NHistory0 CHistory0, .int .u64 (xs 29)], .int .i64 0]), (.pointer (some ⟨g1v, 28, none⟩)), (.agg #[.slice (aa 28) (ns 28) (cc 28), .int .u64 (xs 29)]), (.slice (some ⟨bHistory, 0, none⟩) nnHistory nnHistory), (.tuple #[.agg #[.slice AHistory0 NHistory0 CHistory0, .int .u64 (xs 29)], .int .i64 0]), (.agg #[.slice AHistory0 NHistory0 CHistory0, .int .u64 (xs 29)]), (.int .i64 0), (.tuple #[.agg #[.int .u64 (xs 38), .int .u64 (xs 39), .int .u64 (xs 40), .int .u64 (xs 41), .int .u64 (xs 42), .int .u64 (xs 43), .slice AMove6 NMove6 CMove6], .int .i64 0]), (.pointer (some ⟨g1v, 38, none⟩)), (.agg #[.int .u64 (xs 38), .int .u64 (xs 39), .int .u64 (xs 40), .int .u64 (xs 41), .int .u64 (xs 42), .int .u64 (xs 43), .slice (aa 44) (ns 44) (cc 44)]), (.slice (some ⟨bMove, 0, none⟩) nnMove nnMove), (.tuple #[.agg #[.int .u64 (xs 38), .int .u64 (xs 39), .int .u64 (xs 40), .int .u64 (xs 41), .int .u64 (xs 42), .int .u64 (xs 43), .slice AMove6 NMove6 CMove6], .int .i64 0]), (.agg #[.int .u64 (xs 38), .int .u64 (xs 39), .int .u64 (xs 40), .int .u64 (xs 41), .int .u64 (xs 42), .int .u64 (xs 43), .slice AMove6 NMove6 CMove6]), (.int .i64 0), undef, undef, undef, undef, undef, undef, undef, undef, undef, undef, undef, undef, undef, undef, undef, undef, undef, undef, undef, undef, undef, undef, undef, undef, undef, undef, undef, undef, undef, undef, undef, undef, undef, undef, undef, undef, undef, undef, undef, undef, undef, undef, undef, undef, undef, undef, undef, undef, undef, undef, undef, undef, undef, undef, undef, undef, undef, undef, undef, undef, undef, undef, undef, undef, undef, undef, undef, undef, undef, undef], []⟩) (by kernel_rfl) ?_
  have BW := Below.refl v37w.heap.size v37w
  have hv0 := BB.size
  have OXB := XB
  have OGParams := GParams
  have OGChain := GChain
  have OQPool0 := QPool0
  have OGPool := GPool
  have OGAccount := GAccount
  have OGCut := GCut
  have OGUnbonding := GUnbonding
  have OQnd := Qnd
  have OQVal2 := QVal2
  have OQVal7 := QVal7
  have OQVal8 := QVal8
  have OQVal9 := QVal9
  have OGVal := GVal
  have OQDelegation0 := QDelegation0
  have OQDelegation2 := QDelegation2
  have OGDelegation := GDelegation
  have OQHistory0 := QHistory0
  have OGHistory := GHistory
  have OQMove6 := QMove6
  have OGMove := GMove
  refine wp_seq ?_
  refine wp_region_lit ?_
  refine wl_take (some 163) (.pointer (some ⟨g1v, 15, none⟩)) rfl rfl (by kernel_rfl) ?_
  refine wl_take (some 164) (.agg #[.int .u64 (xs 15), .int .u64 (xs 16), .slice (aa 17) (ns 17) (cc 17), .bool (ts 18), .int .u64 (xs 19), .bool (ts 20), .int .u64 (xs 21), .slice (aa 22) (ns 22) (cc 22), .slice (aa 23) (ns 23) (cc 23), .slice (aa 24) (ns 24) (cc 24)]) rfl rfl (run_lp 163 (by kernel_rfl) (by kernel_rfl) (ldx34 (XB.cell (i := 15) q15) (XB.cell (i := 16) q16) (XB.cell (i := 17) q17) (XB.cell (i := 18) q18) (XB.cell (i := 19) q19) (XB.cell (i := 20) q20) (XB.cell (i := 21) q21) (XB.cell (i := 22) q22) (XB.cell (i := 23) q23) (XB.cell (i := 24) q24))) ?_
  refine wl_new 21 164 34 [.int .u64 0, .int .u64 0, .slice none 0 0, .bool false, .int .u64 0, .bool false, .int .u64 0, .slice none 0 0, .slice none 0 0, .slice none 0 0] [.int .u64 (xs 15), .int .u64 (xs 16), .slice (aa 17) (ns 17) (cc 17), .bool (ts 18), .int .u64 (xs 19), .bool (ts 20), .int .u64 (xs 21), .slice (aa 22) (ns 22) (cc 22), .slice (aa 23) (ns 23) (cc 23), .slice (aa 24) (ns 24) (cc 24)] rfl rfl rfl rfl rfl rfl allocx34 (fun _ => by kernel_rfl) (fun _ => by kernel_rfl) (by kernel_rfl) rfl (by kernel_rfl) ?_
  intro v38w g38v GW hg38v B
  replace XB := XB.keep B
  replace GParams := GParams.keep B
  replace GChain := GChain.keep B
  replace QPool0 := QPool0.keep B
  replace GPool := GPool.keep B
  replace GAccount := GAccount.keep B
  replace GCut := GCut.keep B
  replace GUnbonding := GUnbonding.keep B
  replace Qnd := Qnd.keep B
  replace QVal2 := QVal2.keep B
  replace QVal7 := QVal7.keep B
  replace QVal8 := QVal8.keep B
  replace QVal9 := QVal9.keep B
  replace GVal := GVal.keep B
  replace QDelegation0 := QDelegation0.keep B
  replace QDelegation2 := QDelegation2.keep B
  replace GDelegation := GDelegation.keep B
  replace QHistory0 := QHistory0.keep B
  replace GHistory := GHistory.keep B
  replace QMove6 := QMove6.keep B
  replace GMove := GMove.keep B
  replace BB := joinB BB B
  replace BW := joinB BW B
  clear B
  refine wpList_nil ?_
  refine wp_then ?_
  refine wp_frame (a' := ⟨#[(.agg cs.toArray), (.pointer (some ⟨g1v, 0, none⟩)), (.bool false), (.pointer (some ⟨g6v, 0, none⟩)), (.int .i64 0), (.pointer (some ⟨g9v, 0, none⟩)), (.int .i64 0), (.pointer (some ⟨g12v, 0, none⟩)), (.int .i64 0), (.pointer (some ⟨g15v, 0, none⟩)), (.int .i64 0), (.pointer (some ⟨g18v, 0, none⟩)), (.int .i64 0), (.pointer (some ⟨g21v, 0, none⟩)), (.int .i64 0), (.int .u64 (xs 45)), (.int .i64 0), (.pointer (some ⟨g28v, 0, none⟩)), (.pointer (some ⟨g31v, 0, none⟩)), (.pointer (some ⟨g34v, 0, none⟩)), (.pointer (some ⟨g37v, 0, none⟩)), (.pointer (some ⟨g38v, 0, none⟩)), undef, (.bool true), (.bool false), (.agg cs.toArray), (.bool true), (.bool false), (.tuple #[.agg #[.int .u64 (xs 0), .int .u64 (xs 1), .int .u64 (xs 2), .int .u64 (xs 3), .int .u64 (xs 4), .int .u64 (xs 5), .int .u64 (xs 6), .int .u64 (xs 7), .int .u64 (xs 8), .int .u64 (xs 9)], .int .i64 0]), (.pointer (some ⟨g1v, 0, none⟩)), (.agg #[.int .u64 (xs 0), .int .u64 (xs 1), .int .u64 (xs 2), .int .u64 (xs 3), .int .u64 (xs 4), .int .u64 (xs 5), .int .u64 (xs 6), .int .u64 (xs 7), .int .u64 (xs 8), .int .u64 (xs 9)]), (.slice (some ⟨bParams, 0, none⟩) nnParams nnParams), (.tuple #[.agg #[.int .u64 (xs 0), .int .u64 (xs 1), .int .u64 (xs 2), .int .u64 (xs 3), .int .u64 (xs 4), .int .u64 (xs 5), .int .u64 (xs 6), .int .u64 (xs 7), .int .u64 (xs 8), .int .u64 (xs 9)], .int .i64 0]), (.agg #[.int .u64 (xs 0), .int .u64 (xs 1), .int .u64 (xs 2), .int .u64 (xs 3), .int .u64 (xs 4), .int .u64 (xs 5), .int .u64 (xs 6), .int .u64 (xs 7), .int .u64 (xs 8), .int .u64 (xs 9)]), (.int .i64 0), (.tuple #[.agg #[.int .u64 (xs 10), .int .u64 (xs 11)], .int .i64 0]), (.pointer (some ⟨g1v, 10, none⟩)), (.agg #[.int .u64 (xs 10), .int .u64 (xs 11)]), (.slice (some ⟨bChain, 0, none⟩) nnChain nnChain), (.tuple #[.agg #[.int .u64 (xs 10), .int .u64 (xs 11)], .int .i64 0]), (.agg #[.int .u64 (xs 10), .int .u64 (xs 11)]), (.int .i64 0), (.tuple #[.agg #[.slice APool0 NPool0 CPool0], .int .i64 0]), (.pointer (some ⟨g1v, 12, none⟩)), (.agg #[.slice (aa 12) (ns 12) (cc 12)]), (.slice (some ⟨bPool, 0, none⟩) nnPool nnPool), (.tuple #[.agg #[.slice APool0 NPool0 CPool0], .int .i64 0]), (.agg #[.slice APool0 NPool0 CPool0]), (.int .i64 0), (.tuple #[.agg #[.int .u64 (xs 13), .int .u64 (xs 14)], .int .i64 0]), (.pointer (some ⟨g1v, 13, none⟩)), (.agg #[.int .u64 (xs 13), .int .u64 (xs 14)]), (.slice (some ⟨bAccount, 0, none⟩) nnAccount nnAccount), (.tuple #[.agg #[.int .u64 (xs 13), .int .u64 (xs 14)], .int .i64 0]), (.agg #[.int .u64 (xs 13), .int .u64 (xs 14)]), (.int .i64 0), (.tuple #[.agg #[.int .u64 (xs 30), .int .u64 (xs 31)], .int .i64 0]), (.pointer (some ⟨g1v, 30, none⟩)), (.agg #[.int .u64 (xs 30), .int .u64 (xs 31)]), (.slice (some ⟨bCut, 0, none⟩) nnCut nnCut), (.tuple #[.agg #[.int .u64 (xs 30), .int .u64 (xs 31)], .int .i64 0]), (.agg #[.int .u64 (xs 30), .int .u64 (xs 31)]), (.int .i64 0), (.tuple #[.agg #[.int .u64 (xs 32), .int .u64 (xs 33), .int .u64 (xs 34), .int .u64 (xs 35), .int .u64 (xs 36), .int .u64 (xs 37)], .int .i64 0]), (.pointer (some ⟨g1v, 32, none⟩)), (.agg #[.int .u64 (xs 32), .int .u64 (xs 33), .int .u64 (xs 34), .int .u64 (xs 35), .int .u64 (xs 36), .int .u64 (xs 37)]), (.slice (some ⟨bUnbonding, 0, none⟩) nnUnbonding nnUnbonding), (.tuple #[.agg #[.int .u64 (xs 32), .int .u64 (xs 33), .int .u64 (xs 34), .int .u64 (xs 35), .int .u64 (xs 36), .int .u64 (xs 37)], .int .i64 0]), (.agg #[.int .u64 (xs 32), .int .u64 (xs 33), .int .u64 (xs 34), .int .u64 (xs 35), .int .u64 (xs 36), .int .u64 (xs 37)]), (.int .i64 0), (.tuple #[.int .u64 (xs 45), .int .i64 0]), (.pointer (some ⟨g1v, 45, none⟩)), (.int .u64 (xs 45)), (.slice (some ⟨bNumber, 0, none⟩) nnNumber nnNumber), (.tuple #[.int .u64 (xs 45), .int .i64 0]), (.int .u64 (xs 45)), (.int .i64 0), (.int .i64 0), (.int .i64 0), (.int .i64 0), (.int .i64 0), (.int .i64 0), (.int .i64 0), (.int .i64 0), (.int .i64 0), (.int .i64 0), (.int .i64 0), (.int .i64 0), (.int .i64 0), (.int .i64 0), (.bool false), (.bool false), (.agg #[.int .u64 (xs 0), .int .u64 (xs 1), .int .u64 (xs 2), .int .u64 (xs 3), .int .u64 (xs 4), .int .u64 (xs 5), .int .u64 (xs 6), .int .u64 (xs 7), .int .u64 (xs 8), .int .u64 (xs 9)]), (.pointer (some ⟨g1v, 0, none⟩)), (.agg #[.int .u64 (xs 0), .int .u64 (xs 1), .int .u64 (xs 2), .int .u64 (xs 3), .int .u64 (xs 4), .int .u64 (xs 5), .int .u64 (xs 6), .int .u64 (xs 7), .int .u64 (xs 8), .int .u64 (xs 9)]), (.bool false), (.bool false), (.bool false), (.agg #[.int .u64 (xs 10), .int .u64 (xs 11)]), (.pointer (some ⟨g1v, 10, none⟩)), (.agg #[.int .u64 (xs 10), .int .u64 (xs 11)]), (.bool false), (.bool false), (.bool false), (.agg #[.slice APool0 NPool0 CPool0]), (.pointer (some ⟨g1v, 12, none⟩)), (.agg #[.slice (aa 12) (ns 12) (cc 12)]), (.agg #[.slice And Nnd Cnd]), (.bool true), (.bool false), (.bool false), (.bool false), (.agg #[.int .u64 (xs 13), .int .u64 (xs 14)]), (.pointer (some ⟨g1v, 13, none⟩)), (.agg #[.int .u64 (xs 13), .int .u64 (xs 14)]), (.bool false), (.bool false), (.bool false), (.agg #[.int .u64 (xs 30), .int .u64 (xs 31)]), (.pointer (some ⟨g1v, 30, none⟩)), (.agg #[.int .u64 (xs 30), .int .u64 (xs 31)]), (.bool false), (.bool false), (.bool false), (.agg #[.int .u64 (xs 32), .int .u64 (xs 33), .int .u64 (xs 34), .int .u64 (xs 35), .int .u64 (xs 36), .int .u64 (xs 37)]), (.pointer (some ⟨g1v, 32, none⟩)), (.agg #[.int .u64 (xs 32), .int .u64 (xs 33), .int .u64 (xs 34), .int .u64 (xs 35), .int .u64 (xs 36), .int .u64 (xs 37)]), (.bool false), (.bool false), (.bool false), (.int .u64 (xs 45)), (.pointer (some ⟨g1v, 45, none⟩)), (.int .u64 (xs 45)), (.bool false), (.bool false), (.tuple #[.agg #[.int .u64 (xs 15), .int .u64 (xs 16), .slice AVal2 NVal2 CVal2, .bool (ts 18), .int .u64 (xs 19), .bool (ts 20), .int .u64 (xs 21), .slice AVal7 NVal7 CVal7, .slice AVal8 NVal8 CVal8, .slice AVal9 NVal9 CVal9], .int .i64 0]), (.pointer (some ⟨g1v, 15, none⟩)), (.agg #[.int .u64 (xs 15), .int .u64 (xs 16), .slice (aa 17) (ns 17) (cc 17), .bool (ts 18), .int .u64 (xs 19), .bool (ts 20), .int .u64 (xs 21), .slice (aa 22) (ns 22) (cc 22), .slice (aa 23) (ns 23) (cc 23), .slice (aa 24) (ns 24) (cc 24)]), (.slice (some ⟨bVal, 0, none⟩) nnVal nnVal), (.tuple #[.agg #[.int .u64 (xs 15), .int .u64 (xs 16), .slice AVal2 NVal2 CVal2, .bool (ts 18), .int .u64 (xs 19), .bool (ts 20), .int .u64 (xs 21), .slice AVal7 NVal7 CVal7, .slice AVal8 NVal8 CVal8, .slice AVal9 NVal9 CVal9], .int .i64 0]), (.agg #[.int .u64 (xs 15), .int .u64 (xs 16), .slice AVal2 NVal2 CVal2, .bool (ts 18), .int .u64 (xs 19), .bool (ts 20), .int .u64 (xs 21), .slice AVal7 NVal7 CVal7, .slice AVal8 NVal8 CVal8, .slice AVal9 NVal9 CVal9]), (.int .i64 0), (.tuple #[.agg #[.slice ADelegation0 NDelegation0 CDelegation0, .int .u64 (xs 26), .slice ADelegation2 NDelegation2 CDelegation2], .int .i64 0]), (.pointer (some ⟨g1v, 25, none⟩)), (.agg #[.slice (aa 25) (ns 25) (cc 25), .int .u64 (xs 26), .slice (aa 27) (ns 27) (cc 27)]), (.slice (some ⟨bDelegation, 0, none⟩) nnDelegation nnDelegation), (.tuple #[.agg #[.slice ADelegation0 NDelegation0 CDelegation0, .int .u64 (xs 26), .slice ADelegation2 NDelegation2 CDelegation2], .int .i64 0]), (.agg #[.slice ADelegation0 NDelegation0 CDelegation0, .int .u64 (xs 26), .slice ADelegation2 NDelegation2 CDelegation2]), (.int .i64 0), (.tuple #[.agg #[.slice AHistory0 NHistory0 CHistory0, .int .u64 (xs 29)], .int .i64 0]), (.pointer (some ⟨g1v, 28, none⟩)), (.agg #[.slice (aa 28) (ns 28) (cc 28), .int .u64 (xs 29)]), (.slice (some ⟨bHistory, 0, none⟩) nnHistory nnHistory), (.tuple #[.agg #[.slice AHistory0 NHistory0 CHistory0, .int .u64 (xs 29)], .int .i64 0]), (.agg #[.slice AHistory0 NHistory0 CHistory0, .int .u64 (xs 29)]), (.int .i64 0), (.tuple #[.agg #[.int .u64 (xs 38), .int .u64 (xs 39), .int .u64 (xs 40), .int .u64 (xs 41), .int .u64 (xs 42), .int .u64 (xs 43), .slice AMove6 NMove6 CMove6], .int .i64 0]), (.pointer (some ⟨g1v, 38, none⟩)), (.agg #[.int .u64 (xs 38), .int .u64 (xs 39), .int .u64 (xs 40), .int .u64 (xs 41), .int .u64 (xs 42), .int .u64 (xs 43), .slice (aa 44) (ns 44) (cc 44)]), (.slice (some ⟨bMove, 0, none⟩) nnMove nnMove), (.tuple #[.agg #[.int .u64 (xs 38), .int .u64 (xs 39), .int .u64 (xs 40), .int .u64 (xs 41), .int .u64 (xs 42), .int .u64 (xs 43), .slice AMove6 NMove6 CMove6], .int .i64 0]), (.agg #[.int .u64 (xs 38), .int .u64 (xs 39), .int .u64 (xs 40), .int .u64 (xs 41), .int .u64 (xs 42), .int .u64 (xs 43), .slice AMove6 NMove6 CMove6]), (.int .i64 0), (.pointer (some ⟨g1v, 15, none⟩)), (.agg #[.int .u64 (xs 15), .int .u64 (xs 16), .slice (aa 17) (ns 17) (cc 17), .bool (ts 18), .int .u64 (xs 19), .bool (ts 20), .int .u64 (xs 21), .slice (aa 22) (ns 22) (cc 22), .slice (aa 23) (ns 23) (cc 23), .slice (aa 24) (ns 24) (cc 24)]), undef, undef, undef, undef, undef, undef, undef, undef, undef, undef, undef, undef, undef, undef, undef, undef, undef, undef, undef, undef, undef, undef, undef, undef, undef, undef, undef, undef, undef, undef, undef, undef, undef, undef, undef, undef, undef, undef, undef, undef, undef, undef, undef, undef, undef, undef, undef, undef, undef, undef, undef, undef, undef, undef, undef, undef, undef, undef, undef, undef, undef, undef, undef, undef, undef, undef, undef, undef], []⟩) (by kernel_rfl) ?_
  refine wp_seq ?_
  refine rz_start (fun w' => Below v38w.drew.heap.size v38w.drew w') (fun i => decide (13 ≤ i)) (by kernel_rfl) ?_
  replace XB := XB.drew
  replace GParams := GParams.drew
  replace GChain := GChain.drew
  replace QPool0 := QPool0.drew
  replace GPool := GPool.drew
  replace GAccount := GAccount.drew
  replace GCut := GCut.drew
  replace GUnbonding := GUnbonding.drew
  replace Qnd := Qnd.drew
  replace QVal2 := QVal2.drew
  replace QVal7 := QVal7.drew
  replace QVal8 := QVal8.drew
  replace QVal9 := QVal9.drew
  replace GVal := GVal.drew
  replace QDelegation0 := QDelegation0.drew
  replace QDelegation2 := QDelegation2.drew
  replace GDelegation := GDelegation.drew
  replace QHistory0 := QHistory0.drew
  replace GHistory := GHistory.drew
  replace QMove6 := QMove6.drew
  replace GMove := GMove.drew
  replace GW := GW.drew
  replace BB := BB.drew
  replace BW := BW.drew
  have hS := Below.refl v38w.drew.heap.size v38w.drew
  have UXB := XB
  have UGParams := GParams
  have UGChain := GChain
  have UGPool := GPool
  have UGAccount := GAccount
  have UGCut := GCut
  have UGUnbonding := GUnbonding
  have UGVal := GVal
  have UGDelegation := GDelegation
  have UGHistory := GHistory
  have UGMove := GMove
  have UGW := GW
  refine rz_take 0 (some 165) (.pointer (some ⟨g38v, 2, none⟩)) (by kernel_rfl) (by kernel_rfl) (fun _ _ => by kernel_rfl) (fun _ _ _ h => h) hS ?_
  refine rz_load 1 (some 166) (.agg #[.slice (aa 17) (ns 17) (cc 17)]) 30 165 (g38v) 2 (by kernel_rfl) (by kernel_rfl) (by kernel_rfl) (by kernel_rfl) (fun _ hb => ldx30 ((UGW.keep hb).cell (i := 2) rfl)) (fun _ _ _ h => h) hS ?_
  refine rz_take 3 (some 168) (.pointer (some ⟨g38v, 7, none⟩)) (by kernel_rfl) (by kernel_rfl) (fun _ _ => by kernel_rfl) (fun _ _ _ h => h) hS ?_
  refine rz_load 4 (some 169) (.agg #[.slice (aa 22) (ns 22) (cc 22)]) 30 168 (g38v) 7 (by kernel_rfl) (by kernel_rfl) (by kernel_rfl) (by kernel_rfl) (fun _ hb => ldx30 ((UGW.keep hb).cell (i := 7) rfl)) (fun _ _ _ h => h) hS ?_
  refine rz_take 6 (some 171) (.pointer (some ⟨g38v, 8, none⟩)) (by kernel_rfl) (by kernel_rfl) (fun _ _ => by kernel_rfl) (fun _ _ _ h => h) hS ?_
  refine rz_load 7 (some 172) (.agg #[.slice (aa 23) (ns 23) (cc 23)]) 30 171 (g38v) 8 (by kernel_rfl) (by kernel_rfl) (by kernel_rfl) (by kernel_rfl) (fun _ hb => ldx30 ((UGW.keep hb).cell (i := 8) rfl)) (fun _ _ _ h => h) hS ?_
  refine rz_take 9 (some 174) (.pointer (some ⟨g38v, 9, none⟩)) (by kernel_rfl) (by kernel_rfl) (fun _ _ => by kernel_rfl) (fun _ _ _ h => h) hS ?_
  refine rz_load 10 (some 175) (.agg #[.slice (aa 24) (ns 24) (cc 24)]) 30 174 (g38v) 9 (by kernel_rfl) (by kernel_rfl) (by kernel_rfl) (by kernel_rfl) (fun _ hb => ldx30 ((UGW.keep hb).cell (i := 9) rfl)) (fun _ _ _ h => h) hS ?_
  have lw2 := GW.lt
  refine rz_call 2 (some 167) 45 #[.agg #[.slice (aa 17) (ns 17) (cc 17)]] (by kernel_rfl) (by kernel_rfl) (norm_any (h17.keep BB) z17) ?_
  rintro e1 v39w ⟨Anv2, Nnv2, Cnv2, rfl, Qnv2, Knv2, B⟩
  refine ⟨_, rfl, .inr (joinB hS B), ?_⟩
  replace hS := joinB hS B
  replace XB := XB.keep B
  replace GParams := GParams.keep B
  replace GChain := GChain.keep B
  replace QPool0 := QPool0.keep B
  replace GPool := GPool.keep B
  replace GAccount := GAccount.keep B
  replace GCut := GCut.keep B
  replace GUnbonding := GUnbonding.keep B
  replace Qnd := Qnd.keep B
  replace QVal2 := QVal2.keep B
  replace QVal7 := QVal7.keep B
  replace QVal8 := QVal8.keep B
  replace QVal9 := QVal9.keep B
  replace GVal := GVal.keep B
  replace QDelegation0 := QDelegation0.keep B
  replace QDelegation2 := QDelegation2.keep B
  replace GDelegation := GDelegation.keep B
  replace QHistory0 := QHistory0.keep B
  replace GHistory := GHistory.keep B
  replace QMove6 := QMove6.keep B
  replace GMove := GMove.keep B
  replace GW := GW.keep B
  replace BB := joinB BB B
  replace BW := joinB BW B
  clear B
  refine rz_take 12 (some 177) (.pointer (some ⟨g38v, 2, none⟩)) (by kernel_rfl) (by kernel_rfl) (fun _ _ => by kernel_rfl) (fun _ _ _ h => h) hS ?_
  have lw7 := GW.lt
  refine rz_call 5 (some 170) 45 #[.agg #[.slice (aa 22) (ns 22) (cc 22)]] (by kernel_rfl) (by kernel_rfl) (norm_any (h22.keep BB) z22) ?_
  rintro e1 v40w ⟨Anv7, Nnv7, Cnv7, rfl, Qnv7, Knv7, B⟩
  refine ⟨_, rfl, .inr (joinB hS B), ?_⟩
  replace hS := joinB hS B
  replace XB := XB.keep B
  replace GParams := GParams.keep B
  replace GChain := GChain.keep B
  replace QPool0 := QPool0.keep B
  replace GPool := GPool.keep B
  replace GAccount := GAccount.keep B
  replace GCut := GCut.keep B
  replace GUnbonding := GUnbonding.keep B
  replace Qnd := Qnd.keep B
  replace QVal2 := QVal2.keep B
  replace QVal7 := QVal7.keep B
  replace QVal8 := QVal8.keep B
  replace QVal9 := QVal9.keep B
  replace GVal := GVal.keep B
  replace QDelegation0 := QDelegation0.keep B
  replace QDelegation2 := QDelegation2.keep B
  replace GDelegation := GDelegation.keep B
  replace QHistory0 := QHistory0.keep B
  replace GHistory := GHistory.keep B
  replace QMove6 := QMove6.keep B
  replace GMove := GMove.keep B
  replace GW := GW.keep B
  replace Qnv2 := Qnv2.keep B
  replace BB := joinB BB B
  replace BW := joinB BW B
  clear B
  have lw8 := GW.lt
  refine rz_call 8 (some 173) 45 #[.agg #[.slice (aa 23) (ns 23) (cc 23)]] (by kernel_rfl) (by kernel_rfl) (norm_any (h23.keep BB) z23) ?_
  rintro e1 v41w ⟨Anv8, Nnv8, Cnv8, rfl, Qnv8, Knv8, B⟩
  refine ⟨_, rfl, .inr (joinB hS B), ?_⟩
  replace hS := joinB hS B
  replace XB := XB.keep B
  replace GParams := GParams.keep B
  replace GChain := GChain.keep B
  replace QPool0 := QPool0.keep B
  replace GPool := GPool.keep B
  replace GAccount := GAccount.keep B
  replace GCut := GCut.keep B
  replace GUnbonding := GUnbonding.keep B
  replace Qnd := Qnd.keep B
  replace QVal2 := QVal2.keep B
  replace QVal7 := QVal7.keep B
  replace QVal8 := QVal8.keep B
  replace QVal9 := QVal9.keep B
  replace GVal := GVal.keep B
  replace QDelegation0 := QDelegation0.keep B
  replace QDelegation2 := QDelegation2.keep B
  replace GDelegation := GDelegation.keep B
  replace QHistory0 := QHistory0.keep B
  replace GHistory := GHistory.keep B
  replace QMove6 := QMove6.keep B
  replace GMove := GMove.keep B
  replace GW := GW.keep B
  replace Qnv2 := Qnv2.keep B
  replace Qnv7 := Qnv7.keep B
  replace BB := joinB BB B
  replace BW := joinB BW B
  clear B
  have lw9 := GW.lt
  refine rz_call 11 (some 176) 45 #[.agg #[.slice (aa 24) (ns 24) (cc 24)]] (by kernel_rfl) (by kernel_rfl) (norm_any (h24.keep BB) z24) ?_
  rintro e1 v42w ⟨Anv9, Nnv9, Cnv9, rfl, Qnv9, Knv9, B⟩
  refine ⟨_, rfl, .inr (joinB hS B), ?_⟩
  replace hS := joinB hS B
  replace XB := XB.keep B
  replace GParams := GParams.keep B
  replace GChain := GChain.keep B
  replace QPool0 := QPool0.keep B
  replace GPool := GPool.keep B
  replace GAccount := GAccount.keep B
  replace GCut := GCut.keep B
  replace GUnbonding := GUnbonding.keep B
  replace Qnd := Qnd.keep B
  replace QVal2 := QVal2.keep B
  replace QVal7 := QVal7.keep B
  replace QVal8 := QVal8.keep B
  replace QVal9 := QVal9.keep B
  replace GVal := GVal.keep B
  replace QDelegation0 := QDelegation0.keep B
  replace QDelegation2 := QDelegation2.keep B
  replace GDelegation := GDelegation.keep B
  replace QHistory0 := QHistory0.keep B
  replace GHistory := GHistory.keep B
  replace QMove6 := QMove6.keep B
  replace GMove := GMove.keep B
  replace GW := GW.keep B
  replace Qnv2 := Qnv2.keep B
  replace Qnv7 := Qnv7.keep B
  replace Qnv8 := Qnv8.keep B
  replace BB := joinB BB B
  replace BW := joinB BW B
  clear B
  refine rz_set 13 177 167 30 (i := 2) (.slice (aa 17) (ns 17) (cc 17)) (.slice Anv2 Nnv2 Cnv2) GW rfl (by kernel_rfl) (by kernel_rfl) (by kernel_rfl) (by kernel_rfl) storex30 rfl ?_
  intro v43w hv43w
  replace BB := BB.setCell (p := ⟨g38v, 2, none⟩) (show w.heap.size ≤ g38v by omega) (.slice Anv2 Nnv2 Cnv2)
  replace BW := BW.setCell (p := ⟨g38v, 2, none⟩) (show v37w.heap.size ≤ g38v by omega) (.slice Anv2 Nnv2 Cnv2)
  replace Qnv2 := Qnv2.put (g := g38v) (o := 2) (by omega) (.slice Anv2 Nnv2 Cnv2)
  replace Qnv7 := Qnv7.put (g := g38v) (o := 2) (by omega) (.slice Anv2 Nnv2 Cnv2)
  replace Qnv8 := Qnv8.put (g := g38v) (o := 2) (by omega) (.slice Anv2 Nnv2 Cnv2)
  replace Qnv9 := Qnv9.put (g := g38v) (o := 2) (by omega) (.slice Anv2 Nnv2 Cnv2)
  replace GW := GW.setCell (i := 2) (.slice Anv2 Nnv2 Cnv2)
  rw [hv43w] at BB BW GW Qnv2 Qnv7 Qnv8 Qnv9
  clear hv43w
  replace XB := OXB.keep BW
  replace GParams := OGParams.keep BW
  replace GChain := OGChain.keep BW
  replace QPool0 := OQPool0.keep BW
  replace GPool := OGPool.keep BW
  replace GAccount := OGAccount.keep BW
  replace GCut := OGCut.keep BW
  replace GUnbonding := OGUnbonding.keep BW
  replace Qnd := OQnd.keep BW
  replace QVal2 := OQVal2.keep BW
  replace QVal7 := OQVal7.keep BW
  replace QVal8 := OQVal8.keep BW
  replace QVal9 := OQVal9.keep BW
  replace GVal := OGVal.keep BW
  replace QDelegation0 := OQDelegation0.keep BW
  replace QDelegation2 := OQDelegation2.keep BW
  replace GDelegation := OGDelegation.keep BW
  replace QHistory0 := OQHistory0.keep BW
  replace GHistory := OGHistory.keep BW
  replace QMove6 := OQMove6.keep BW
  replace GMove := OGMove.keep BW
  refine rz_val 14 (some 178) (.pointer (some ⟨g38v, 7, none⟩)) v43w (by kernel_rfl) (by kernel_rfl) (.inl rfl) ?_
  refine rz_set 15 178 170 30 (i := 7) (.slice (aa 22) (ns 22) (cc 22)) (.slice Anv7 Nnv7 Cnv7) GW rfl (by kernel_rfl) (by kernel_rfl) (by kernel_rfl) (by kernel_rfl) storex30 rfl ?_
  intro v44w hv44w
  replace BB := BB.setCell (p := ⟨g38v, 7, none⟩) (show w.heap.size ≤ g38v by omega) (.slice Anv7 Nnv7 Cnv7)
  replace BW := BW.setCell (p := ⟨g38v, 7, none⟩) (show v37w.heap.size ≤ g38v by omega) (.slice Anv7 Nnv7 Cnv7)
  replace Qnv2 := Qnv2.put (g := g38v) (o := 7) (by omega) (.slice Anv7 Nnv7 Cnv7)
  replace Qnv7 := Qnv7.put (g := g38v) (o := 7) (by omega) (.slice Anv7 Nnv7 Cnv7)
  replace Qnv8 := Qnv8.put (g := g38v) (o := 7) (by omega) (.slice Anv7 Nnv7 Cnv7)
  replace Qnv9 := Qnv9.put (g := g38v) (o := 7) (by omega) (.slice Anv7 Nnv7 Cnv7)
  replace GW := GW.setCell (i := 7) (.slice Anv7 Nnv7 Cnv7)
  rw [hv44w] at BB BW GW Qnv2 Qnv7 Qnv8 Qnv9
  clear hv44w
  replace XB := OXB.keep BW
  replace GParams := OGParams.keep BW
  replace GChain := OGChain.keep BW
  replace QPool0 := OQPool0.keep BW
  replace GPool := OGPool.keep BW
  replace GAccount := OGAccount.keep BW
  replace GCut := OGCut.keep BW
  replace GUnbonding := OGUnbonding.keep BW
  replace Qnd := OQnd.keep BW
  replace QVal2 := OQVal2.keep BW
  replace QVal7 := OQVal7.keep BW
  replace QVal8 := OQVal8.keep BW
  replace QVal9 := OQVal9.keep BW
  replace GVal := OGVal.keep BW
  replace QDelegation0 := OQDelegation0.keep BW
  replace QDelegation2 := OQDelegation2.keep BW
  replace GDelegation := OGDelegation.keep BW
  replace QHistory0 := OQHistory0.keep BW
  replace GHistory := OGHistory.keep BW
  replace QMove6 := OQMove6.keep BW
  replace GMove := OGMove.keep BW
  refine rz_val 16 (some 179) (.pointer (some ⟨g38v, 8, none⟩)) v44w (by kernel_rfl) (by kernel_rfl) (.inl rfl) ?_
  refine rz_set 17 179 173 30 (i := 8) (.slice (aa 23) (ns 23) (cc 23)) (.slice Anv8 Nnv8 Cnv8) GW rfl (by kernel_rfl) (by kernel_rfl) (by kernel_rfl) (by kernel_rfl) storex30 rfl ?_
  intro v45w hv45w
  replace BB := BB.setCell (p := ⟨g38v, 8, none⟩) (show w.heap.size ≤ g38v by omega) (.slice Anv8 Nnv8 Cnv8)
  replace BW := BW.setCell (p := ⟨g38v, 8, none⟩) (show v37w.heap.size ≤ g38v by omega) (.slice Anv8 Nnv8 Cnv8)
  replace Qnv2 := Qnv2.put (g := g38v) (o := 8) (by omega) (.slice Anv8 Nnv8 Cnv8)
  replace Qnv7 := Qnv7.put (g := g38v) (o := 8) (by omega) (.slice Anv8 Nnv8 Cnv8)
  replace Qnv8 := Qnv8.put (g := g38v) (o := 8) (by omega) (.slice Anv8 Nnv8 Cnv8)
  replace Qnv9 := Qnv9.put (g := g38v) (o := 8) (by omega) (.slice Anv8 Nnv8 Cnv8)
  replace GW := GW.setCell (i := 8) (.slice Anv8 Nnv8 Cnv8)
  rw [hv45w] at BB BW GW Qnv2 Qnv7 Qnv8 Qnv9
  clear hv45w
  replace XB := OXB.keep BW
  replace GParams := OGParams.keep BW
  replace GChain := OGChain.keep BW
  replace QPool0 := OQPool0.keep BW
  replace GPool := OGPool.keep BW
  replace GAccount := OGAccount.keep BW
  replace GCut := OGCut.keep BW
  replace GUnbonding := OGUnbonding.keep BW
  replace Qnd := OQnd.keep BW
  replace QVal2 := OQVal2.keep BW
  replace QVal7 := OQVal7.keep BW
  replace QVal8 := OQVal8.keep BW
  replace QVal9 := OQVal9.keep BW
  replace GVal := OGVal.keep BW
  replace QDelegation0 := OQDelegation0.keep BW
  replace QDelegation2 := OQDelegation2.keep BW
  replace GDelegation := OGDelegation.keep BW
  replace QHistory0 := OQHistory0.keep BW
  replace GHistory := OGHistory.keep BW
  replace QMove6 := OQMove6.keep BW
  replace GMove := OGMove.keep BW
  refine rz_val 18 (some 180) (.pointer (some ⟨g38v, 9, none⟩)) v45w (by kernel_rfl) (by kernel_rfl) (.inl rfl) ?_
  refine rz_set 19 180 176 30 (i := 9) (.slice (aa 24) (ns 24) (cc 24)) (.slice Anv9 Nnv9 Cnv9) GW rfl (by kernel_rfl) (by kernel_rfl) (by kernel_rfl) (by kernel_rfl) storex30 rfl ?_
  intro v46w hv46w
  replace BB := BB.setCell (p := ⟨g38v, 9, none⟩) (show w.heap.size ≤ g38v by omega) (.slice Anv9 Nnv9 Cnv9)
  replace BW := BW.setCell (p := ⟨g38v, 9, none⟩) (show v37w.heap.size ≤ g38v by omega) (.slice Anv9 Nnv9 Cnv9)
  replace Qnv2 := Qnv2.put (g := g38v) (o := 9) (by omega) (.slice Anv9 Nnv9 Cnv9)
  replace Qnv7 := Qnv7.put (g := g38v) (o := 9) (by omega) (.slice Anv9 Nnv9 Cnv9)
  replace Qnv8 := Qnv8.put (g := g38v) (o := 9) (by omega) (.slice Anv9 Nnv9 Cnv9)
  replace Qnv9 := Qnv9.put (g := g38v) (o := 9) (by omega) (.slice Anv9 Nnv9 Cnv9)
  replace GW := GW.setCell (i := 9) (.slice Anv9 Nnv9 Cnv9)
  rw [hv46w] at BB BW GW Qnv2 Qnv7 Qnv8 Qnv9
  clear hv46w
  replace XB := OXB.keep BW
  replace GParams := OGParams.keep BW
  replace GChain := OGChain.keep BW
  replace QPool0 := OQPool0.keep BW
  replace GPool := OGPool.keep BW
  replace GAccount := OGAccount.keep BW
  replace GCut := OGCut.keep BW
  replace GUnbonding := OGUnbonding.keep BW
  replace Qnd := OQnd.keep BW
  replace QVal2 := OQVal2.keep BW
  replace QVal7 := OQVal7.keep BW
  replace QVal8 := OQVal8.keep BW
  replace QVal9 := OQVal9.keep BW
  replace GVal := OGVal.keep BW
  replace QDelegation0 := OQDelegation0.keep BW
  replace QDelegation2 := OQDelegation2.keep BW
  replace GDelegation := OGDelegation.keep BW
  replace QHistory0 := OQHistory0.keep BW
  replace GHistory := OGHistory.keep BW
  replace QMove6 := OQMove6.keep BW
  replace GMove := OGMove.keep BW
  refine rz_done (by kernel_rfl) ?_ _
  clear hS UXB UGParams UGChain UGPool UGAccount UGCut UGUnbonding UGVal UGDelegation UGHistory UGMove UGW
  refine wp_then ?_
  refine wp_frame (a' := ⟨#[(.agg cs.toArray), (.pointer (some ⟨g1v, 0, none⟩)), (.bool false), (.pointer (some ⟨g6v, 0, none⟩)), (.int .i64 0), (.pointer (some ⟨g9v, 0, none⟩)), (.int .i64 0), (.pointer (some ⟨g12v, 0, none⟩)), (.int .i64 0), (.pointer (some ⟨g15v, 0, none⟩)), (.int .i64 0), (.pointer (some ⟨g18v, 0, none⟩)), (.int .i64 0), (.pointer (some ⟨g21v, 0, none⟩)), (.int .i64 0), (.int .u64 (xs 45)), (.int .i64 0), (.pointer (some ⟨g28v, 0, none⟩)), (.pointer (some ⟨g31v, 0, none⟩)), (.pointer (some ⟨g34v, 0, none⟩)), (.pointer (some ⟨g37v, 0, none⟩)), (.pointer (some ⟨g38v, 0, none⟩)), undef, (.bool true), (.bool false), (.agg cs.toArray), (.bool true), (.bool false), (.tuple #[.agg #[.int .u64 (xs 0), .int .u64 (xs 1), .int .u64 (xs 2), .int .u64 (xs 3), .int .u64 (xs 4), .int .u64 (xs 5), .int .u64 (xs 6), .int .u64 (xs 7), .int .u64 (xs 8), .int .u64 (xs 9)], .int .i64 0]), (.pointer (some ⟨g1v, 0, none⟩)), (.agg #[.int .u64 (xs 0), .int .u64 (xs 1), .int .u64 (xs 2), .int .u64 (xs 3), .int .u64 (xs 4), .int .u64 (xs 5), .int .u64 (xs 6), .int .u64 (xs 7), .int .u64 (xs 8), .int .u64 (xs 9)]), (.slice (some ⟨bParams, 0, none⟩) nnParams nnParams), (.tuple #[.agg #[.int .u64 (xs 0), .int .u64 (xs 1), .int .u64 (xs 2), .int .u64 (xs 3), .int .u64 (xs 4), .int .u64 (xs 5), .int .u64 (xs 6), .int .u64 (xs 7), .int .u64 (xs 8), .int .u64 (xs 9)], .int .i64 0]), (.agg #[.int .u64 (xs 0), .int .u64 (xs 1), .int .u64 (xs 2), .int .u64 (xs 3), .int .u64 (xs 4), .int .u64 (xs 5), .int .u64 (xs 6), .int .u64 (xs 7), .int .u64 (xs 8), .int .u64 (xs 9)]), (.int .i64 0), (.tuple #[.agg #[.int .u64 (xs 10), .int .u64 (xs 11)], .int .i64 0]), (.pointer (some ⟨g1v, 10, none⟩)), (.agg #[.int .u64 (xs 10), .int .u64 (xs 11)]), (.slice (some ⟨bChain, 0, none⟩) nnChain nnChain), (.tuple #[.agg #[.int .u64 (xs 10), .int .u64 (xs 11)], .int .i64 0]), (.agg #[.int .u64 (xs 10), .int .u64 (xs 11)]), (.int .i64 0), (.tuple #[.agg #[.slice APool0 NPool0 CPool0], .int .i64 0]), (.pointer (some ⟨g1v, 12, none⟩)), (.agg #[.slice (aa 12) (ns 12) (cc 12)]), (.slice (some ⟨bPool, 0, none⟩) nnPool nnPool), (.tuple #[.agg #[.slice APool0 NPool0 CPool0], .int .i64 0]), (.agg #[.slice APool0 NPool0 CPool0]), (.int .i64 0), (.tuple #[.agg #[.int .u64 (xs 13), .int .u64 (xs 14)], .int .i64 0]), (.pointer (some ⟨g1v, 13, none⟩)), (.agg #[.int .u64 (xs 13), .int .u64 (xs 14)]), (.slice (some ⟨bAccount, 0, none⟩) nnAccount nnAccount), (.tuple #[.agg #[.int .u64 (xs 13), .int .u64 (xs 14)], .int .i64 0]), (.agg #[.int .u64 (xs 13), .int .u64 (xs 14)]), (.int .i64 0), (.tuple #[.agg #[.int .u64 (xs 30), .int .u64 (xs 31)], .int .i64 0]), (.pointer (some ⟨g1v, 30, none⟩)), (.agg #[.int .u64 (xs 30), .int .u64 (xs 31)]), (.slice (some ⟨bCut, 0, none⟩) nnCut nnCut), (.tuple #[.agg #[.int .u64 (xs 30), .int .u64 (xs 31)], .int .i64 0]), (.agg #[.int .u64 (xs 30), .int .u64 (xs 31)]), (.int .i64 0), (.tuple #[.agg #[.int .u64 (xs 32), .int .u64 (xs 33), .int .u64 (xs 34), .int .u64 (xs 35), .int .u64 (xs 36), .int .u64 (xs 37)], .int .i64 0]), (.pointer (some ⟨g1v, 32, none⟩)), (.agg #[.int .u64 (xs 32), .int .u64 (xs 33), .int .u64 (xs 34), .int .u64 (xs 35), .int .u64 (xs 36), .int .u64 (xs 37)]), (.slice (some ⟨bUnbonding, 0, none⟩) nnUnbonding nnUnbonding), (.tuple #[.agg #[.int .u64 (xs 32), .int .u64 (xs 33), .int .u64 (xs 34), .int .u64 (xs 35), .int .u64 (xs 36), .int .u64 (xs 37)], .int .i64 0]), (.agg #[.int .u64 (xs 32), .int .u64 (xs 33), .int .u64 (xs 34), .int .u64 (xs 35), .int .u64 (xs 36), .int .u64 (xs 37)]), (.int .i64 0), (.tuple #[.int .u64 (xs 45), .int .i64 0]), (.pointer (some ⟨g1v, 45, none⟩)), (.int .u64 (xs 45)), (.slice (some ⟨bNumber, 0, none⟩) nnNumber nnNumber), (.tuple #[.int .u64 (xs 45), .int .i64 0]), (.int .u64 (xs 45)), (.int .i64 0), (.int .i64 0), (.int .i64 0), (.int .i64 0), (.int .i64 0), (.int .i64 0), (.int .i64 0), (.int .i64 0), (.int .i64 0), (.int .i64 0), (.int .i64 0), (.int .i64 0), (.int .i64 0), (.int .i64 0), (.bool false), (.bool false), (.agg #[.int .u64 (xs 0), .int .u64 (xs 1), .int .u64 (xs 2), .int .u64 (xs 3), .int .u64 (xs 4), .int .u64 (xs 5), .int .u64 (xs 6), .int .u64 (xs 7), .int .u64 (xs 8), .int .u64 (xs 9)]), (.pointer (some ⟨g1v, 0, none⟩)), (.agg #[.int .u64 (xs 0), .int .u64 (xs 1), .int .u64 (xs 2), .int .u64 (xs 3), .int .u64 (xs 4), .int .u64 (xs 5), .int .u64 (xs 6), .int .u64 (xs 7), .int .u64 (xs 8), .int .u64 (xs 9)]), (.bool false), (.bool false), (.bool false), (.agg #[.int .u64 (xs 10), .int .u64 (xs 11)]), (.pointer (some ⟨g1v, 10, none⟩)), (.agg #[.int .u64 (xs 10), .int .u64 (xs 11)]), (.bool false), (.bool false), (.bool false), (.agg #[.slice APool0 NPool0 CPool0]), (.pointer (some ⟨g1v, 12, none⟩)), (.agg #[.slice (aa 12) (ns 12) (cc 12)]), (.agg #[.slice And Nnd Cnd]), (.bool true), (.bool false), (.bool false), (.bool false), (.agg #[.int .u64 (xs 13), .int .u64 (xs 14)]), (.pointer (some ⟨g1v, 13, none⟩)), (.agg #[.int .u64 (xs 13), .int .u64 (xs 14)]), (.bool false), (.bool false), (.bool false), (.agg #[.int .u64 (xs 30), .int .u64 (xs 31)]), (.pointer (some ⟨g1v, 30, none⟩)), (.agg #[.int .u64 (xs 30), .int .u64 (xs 31)]), (.bool false), (.bool false), (.bool false), (.agg #[.int .u64 (xs 32), .int .u64 (xs 33), .int .u64 (xs 34), .int .u64 (xs 35), .int .u64 (xs 36), .int .u64 (xs 37)]), (.pointer (some ⟨g1v, 32, none⟩)), (.agg #[.int .u64 (xs 32), .int .u64 (xs 33), .int .u64 (xs 34), .int .u64 (xs 35), .int .u64 (xs 36), .int .u64 (xs 37)]), (.bool false), (.bool false), (.bool false), (.int .u64 (xs 45)), (.pointer (some ⟨g1v, 45, none⟩)), (.int .u64 (xs 45)), (.bool false), (.bool false), (.tuple #[.agg #[.int .u64 (xs 15), .int .u64 (xs 16), .slice AVal2 NVal2 CVal2, .bool (ts 18), .int .u64 (xs 19), .bool (ts 20), .int .u64 (xs 21), .slice AVal7 NVal7 CVal7, .slice AVal8 NVal8 CVal8, .slice AVal9 NVal9 CVal9], .int .i64 0]), (.pointer (some ⟨g1v, 15, none⟩)), (.agg #[.int .u64 (xs 15), .int .u64 (xs 16), .slice (aa 17) (ns 17) (cc 17), .bool (ts 18), .int .u64 (xs 19), .bool (ts 20), .int .u64 (xs 21), .slice (aa 22) (ns 22) (cc 22), .slice (aa 23) (ns 23) (cc 23), .slice (aa 24) (ns 24) (cc 24)]), (.slice (some ⟨bVal, 0, none⟩) nnVal nnVal), (.tuple #[.agg #[.int .u64 (xs 15), .int .u64 (xs 16), .slice AVal2 NVal2 CVal2, .bool (ts 18), .int .u64 (xs 19), .bool (ts 20), .int .u64 (xs 21), .slice AVal7 NVal7 CVal7, .slice AVal8 NVal8 CVal8, .slice AVal9 NVal9 CVal9], .int .i64 0]), (.agg #[.int .u64 (xs 15), .int .u64 (xs 16), .slice AVal2 NVal2 CVal2, .bool (ts 18), .int .u64 (xs 19), .bool (ts 20), .int .u64 (xs 21), .slice AVal7 NVal7 CVal7, .slice AVal8 NVal8 CVal8, .slice AVal9 NVal9 CVal9]), (.int .i64 0), (.tuple #[.agg #[.slice ADelegation0 NDelegation0 CDelegation0, .int .u64 (xs 26), .slice ADelegation2 NDelegation2 CDelegation2], .int .i64 0]), (.pointer (some ⟨g1v, 25, none⟩)), (.agg #[.slice (aa 25) (ns 25) (cc 25), .int .u64 (xs 26), .slice (aa 27) (ns 27) (cc 27)]), (.slice (some ⟨bDelegation, 0, none⟩) nnDelegation nnDelegation), (.tuple #[.agg #[.slice ADelegation0 NDelegation0 CDelegation0, .int .u64 (xs 26), .slice ADelegation2 NDelegation2 CDelegation2], .int .i64 0]), (.agg #[.slice ADelegation0 NDelegation0 CDelegation0, .int .u64 (xs 26), .slice ADelegation2 NDelegation2 CDelegation2]), (.int .i64 0), (.tuple #[.agg #[.slice AHistory0 NHistory0 CHistory0, .int .u64 (xs 29)], .int .i64 0]), (.pointer (some ⟨g1v, 28, none⟩)), (.agg #[.slice (aa 28) (ns 28) (cc 28), .int .u64 (xs 29)]), (.slice (some ⟨bHistory, 0, none⟩) nnHistory nnHistory), (.tuple #[.agg #[.slice AHistory0 NHistory0 CHistory0, .int .u64 (xs 29)], .int .i64 0]), (.agg #[.slice AHistory0 NHistory0 CHistory0, .int .u64 (xs 29)]), (.int .i64 0), (.tuple #[.agg #[.int .u64 (xs 38), .int .u64 (xs 39), .int .u64 (xs 40), .int .u64 (xs 41), .int .u64 (xs 42), .int .u64 (xs 43), .slice AMove6 NMove6 CMove6], .int .i64 0]), (.pointer (some ⟨g1v, 38, none⟩)), (.agg #[.int .u64 (xs 38), .int .u64 (xs 39), .int .u64 (xs 40), .int .u64 (xs 41), .int .u64 (xs 42), .int .u64 (xs 43), .slice (aa 44) (ns 44) (cc 44)]), (.slice (some ⟨bMove, 0, none⟩) nnMove nnMove), (.tuple #[.agg #[.int .u64 (xs 38), .int .u64 (xs 39), .int .u64 (xs 40), .int .u64 (xs 41), .int .u64 (xs 42), .int .u64 (xs 43), .slice AMove6 NMove6 CMove6], .int .i64 0]), (.agg #[.int .u64 (xs 38), .int .u64 (xs 39), .int .u64 (xs 40), .int .u64 (xs 41), .int .u64 (xs 42), .int .u64 (xs 43), .slice AMove6 NMove6 CMove6]), (.int .i64 0), (.pointer (some ⟨g1v, 15, none⟩)), (.agg #[.int .u64 (xs 15), .int .u64 (xs 16), .slice (aa 17) (ns 17) (cc 17), .bool (ts 18), .int .u64 (xs 19), .bool (ts 20), .int .u64 (xs 21), .slice (aa 22) (ns 22) (cc 22), .slice (aa 23) (ns 23) (cc 23), .slice (aa 24) (ns 24) (cc 24)]), (.pointer (some ⟨g38v, 2, none⟩)), (.agg #[.slice (aa 17) (ns 17) (cc 17)]), (.agg #[.slice Anv2 Nnv2 Cnv2]), (.pointer (some ⟨g38v, 7, none⟩)), (.agg #[.slice (aa 22) (ns 22) (cc 22)]), (.agg #[.slice Anv7 Nnv7 Cnv7]), (.pointer (some ⟨g38v, 8, none⟩)), (.agg #[.slice (aa 23) (ns 23) (cc 23)]), (.agg #[.slice Anv8 Nnv8 Cnv8]), (.pointer (some ⟨g38v, 9, none⟩)), (.agg #[.slice (aa 24) (ns 24) (cc 24)]), (.agg #[.slice Anv9 Nnv9 Cnv9]), (.pointer (some ⟨g38v, 2, none⟩)), (.pointer (some ⟨g38v, 7, none⟩)), (.pointer (some ⟨g38v, 8, none⟩)), (.pointer (some ⟨g38v, 9, none⟩)), undef, undef, undef, undef, undef, undef, undef, undef, undef, undef, undef, undef, undef, undef, undef, undef, undef, undef, undef, undef, undef, undef, undef, undef, undef, undef, undef, undef, undef, undef, undef, undef, undef, undef, undef, undef, undef, undef, undef, undef, undef, undef, undef, undef, undef, undef, undef, undef, undef, undef, undef, undef], []⟩) (by kernel_rfl) ?_
  clear BW hv0 OXB OGParams OGChain OQPool0 OGPool OGAccount OGCut OGUnbonding OQnd OQVal2 OQVal7 OQVal8 OQVal9 OGVal OQDelegation0 OQDelegation2 OGDelegation OQHistory0 OGHistory OQMove6 OGMove
  have BW := Below.refl v46w.heap.size v46w
  have hv0 := BB.size
  have OXB := XB
  have OGParams := GParams
  have OGChain := GChain
  have OQPool0 := QPool0
  have OGPool := GPool
  have OGAccount := GAccount
  have OGCut := GCut
  have OGUnbonding := GUnbonding
  have OQnd := Qnd
  have OQVal2 := QVal2
  have OQVal7 := QVal7
  have OQVal8 := QVal8
  have OQVal9 := QVal9
  have OGVal := GVal
  have OQDelegation0 := QDelegation0
  have OQDelegation2 := QDelegation2
  have OGDelegation := GDelegation
  have OQHistory0 := QHistory0
  have OGHistory := GHistory
  have OQMove6 := QMove6
  have OGMove := GMove
  have OGW := GW
  have OQnv2 := Qnv2
  have OQnv7 := Qnv7
  have OQnv8 := Qnv8
  have OQnv9 := Qnv9
  refine wp_seq ?_
  refine wp_region_lit ?_
  refine wl_take (some 181) (.pointer (some ⟨g1v, 38, none⟩)) rfl rfl (by kernel_rfl) ?_
  refine wl_take (some 182) (.agg #[.int .u64 (xs 38), .int .u64 (xs 39), .int .u64 (xs 40), .int .u64 (xs 41), .int .u64 (xs 42), .int .u64 (xs 43), .slice (aa 44) (ns 44) (cc 44)]) rfl rfl (run_lp 181 (by kernel_rfl) (by kernel_rfl) (ldx44 (XB.cell (i := 38) q38) (XB.cell (i := 39) q39) (XB.cell (i := 40) q40) (XB.cell (i := 41) q41) (XB.cell (i := 42) q42) (XB.cell (i := 43) q43) (XB.cell (i := 44) q44))) ?_
  refine wl_new 22 182 44 [.int .u64 0, .int .u64 0, .int .u64 0, .int .u64 0, .int .u64 0, .int .u64 0, .slice none 0 0] [.int .u64 (xs 38), .int .u64 (xs 39), .int .u64 (xs 40), .int .u64 (xs 41), .int .u64 (xs 42), .int .u64 (xs 43), .slice (aa 44) (ns 44) (cc 44)] rfl rfl rfl rfl rfl rfl allocx44 (fun _ => by kernel_rfl) (fun _ => by kernel_rfl) (by kernel_rfl) rfl (by kernel_rfl) ?_
  intro v47w g47v GY hg47v B
  replace XB := XB.keep B
  replace GParams := GParams.keep B
  replace GChain := GChain.keep B
  replace QPool0 := QPool0.keep B
  replace GPool := GPool.keep B
  replace GAccount := GAccount.keep B
  replace GCut := GCut.keep B
  replace GUnbonding := GUnbonding.keep B
  replace Qnd := Qnd.keep B
  replace QVal2 := QVal2.keep B
  replace QVal7 := QVal7.keep B
  replace QVal8 := QVal8.keep B
  replace QVal9 := QVal9.keep B
  replace GVal := GVal.keep B
  replace QDelegation0 := QDelegation0.keep B
  replace QDelegation2 := QDelegation2.keep B
  replace GDelegation := GDelegation.keep B
  replace QHistory0 := QHistory0.keep B
  replace GHistory := GHistory.keep B
  replace QMove6 := QMove6.keep B
  replace GMove := GMove.keep B
  replace GW := GW.keep B
  replace Qnv2 := Qnv2.keep B
  replace Qnv7 := Qnv7.keep B
  replace Qnv8 := Qnv8.keep B
  replace Qnv9 := Qnv9.keep B
  replace BB := joinB BB B
  replace BW := joinB BW B
  clear B
  refine wpList_nil ?_
  refine wp_then ?_
  refine wp_frame (a' := ⟨#[(.agg cs.toArray), (.pointer (some ⟨g1v, 0, none⟩)), (.bool false), (.pointer (some ⟨g6v, 0, none⟩)), (.int .i64 0), (.pointer (some ⟨g9v, 0, none⟩)), (.int .i64 0), (.pointer (some ⟨g12v, 0, none⟩)), (.int .i64 0), (.pointer (some ⟨g15v, 0, none⟩)), (.int .i64 0), (.pointer (some ⟨g18v, 0, none⟩)), (.int .i64 0), (.pointer (some ⟨g21v, 0, none⟩)), (.int .i64 0), (.int .u64 (xs 45)), (.int .i64 0), (.pointer (some ⟨g28v, 0, none⟩)), (.pointer (some ⟨g31v, 0, none⟩)), (.pointer (some ⟨g34v, 0, none⟩)), (.pointer (some ⟨g37v, 0, none⟩)), (.pointer (some ⟨g38v, 0, none⟩)), (.pointer (some ⟨g47v, 0, none⟩)), (.bool true), (.bool false), (.agg cs.toArray), (.bool true), (.bool false), (.tuple #[.agg #[.int .u64 (xs 0), .int .u64 (xs 1), .int .u64 (xs 2), .int .u64 (xs 3), .int .u64 (xs 4), .int .u64 (xs 5), .int .u64 (xs 6), .int .u64 (xs 7), .int .u64 (xs 8), .int .u64 (xs 9)], .int .i64 0]), (.pointer (some ⟨g1v, 0, none⟩)), (.agg #[.int .u64 (xs 0), .int .u64 (xs 1), .int .u64 (xs 2), .int .u64 (xs 3), .int .u64 (xs 4), .int .u64 (xs 5), .int .u64 (xs 6), .int .u64 (xs 7), .int .u64 (xs 8), .int .u64 (xs 9)]), (.slice (some ⟨bParams, 0, none⟩) nnParams nnParams), (.tuple #[.agg #[.int .u64 (xs 0), .int .u64 (xs 1), .int .u64 (xs 2), .int .u64 (xs 3), .int .u64 (xs 4), .int .u64 (xs 5), .int .u64 (xs 6), .int .u64 (xs 7), .int .u64 (xs 8), .int .u64 (xs 9)], .int .i64 0]), (.agg #[.int .u64 (xs 0), .int .u64 (xs 1), .int .u64 (xs 2), .int .u64 (xs 3), .int .u64 (xs 4), .int .u64 (xs 5), .int .u64 (xs 6), .int .u64 (xs 7), .int .u64 (xs 8), .int .u64 (xs 9)]), (.int .i64 0), (.tuple #[.agg #[.int .u64 (xs 10), .int .u64 (xs 11)], .int .i64 0]), (.pointer (some ⟨g1v, 10, none⟩)), (.agg #[.int .u64 (xs 10), .int .u64 (xs 11)]), (.slice (some ⟨bChain, 0, none⟩) nnChain nnChain), (.tuple #[.agg #[.int .u64 (xs 10), .int .u64 (xs 11)], .int .i64 0]), (.agg #[.int .u64 (xs 10), .int .u64 (xs 11)]), (.int .i64 0), (.tuple #[.agg #[.slice APool0 NPool0 CPool0], .int .i64 0]), (.pointer (some ⟨g1v, 12, none⟩)), (.agg #[.slice (aa 12) (ns 12) (cc 12)]), (.slice (some ⟨bPool, 0, none⟩) nnPool nnPool), (.tuple #[.agg #[.slice APool0 NPool0 CPool0], .int .i64 0]), (.agg #[.slice APool0 NPool0 CPool0]), (.int .i64 0), (.tuple #[.agg #[.int .u64 (xs 13), .int .u64 (xs 14)], .int .i64 0]), (.pointer (some ⟨g1v, 13, none⟩)), (.agg #[.int .u64 (xs 13), .int .u64 (xs 14)]), (.slice (some ⟨bAccount, 0, none⟩) nnAccount nnAccount), (.tuple #[.agg #[.int .u64 (xs 13), .int .u64 (xs 14)], .int .i64 0]), (.agg #[.int .u64 (xs 13), .int .u64 (xs 14)]), (.int .i64 0), (.tuple #[.agg #[.int .u64 (xs 30), .int .u64 (xs 31)], .int .i64 0]), (.pointer (some ⟨g1v, 30, none⟩)), (.agg #[.int .u64 (xs 30), .int .u64 (xs 31)]), (.slice (some ⟨bCut, 0, none⟩) nnCut nnCut), (.tuple #[.agg #[.int .u64 (xs 30), .int .u64 (xs 31)], .int .i64 0]), (.agg #[.int .u64 (xs 30), .int .u64 (xs 31)]), (.int .i64 0), (.tuple #[.agg #[.int .u64 (xs 32), .int .u64 (xs 33), .int .u64 (xs 34), .int .u64 (xs 35), .int .u64 (xs 36), .int .u64 (xs 37)], .int .i64 0]), (.pointer (some ⟨g1v, 32, none⟩)), (.agg #[.int .u64 (xs 32), .int .u64 (xs 33), .int .u64 (xs 34), .int .u64 (xs 35), .int .u64 (xs 36), .int .u64 (xs 37)]), (.slice (some ⟨bUnbonding, 0, none⟩) nnUnbonding nnUnbonding), (.tuple #[.agg #[.int .u64 (xs 32), .int .u64 (xs 33), .int .u64 (xs 34), .int .u64 (xs 35), .int .u64 (xs 36), .int .u64 (xs 37)], .int .i64 0]), (.agg #[.int .u64 (xs 32), .int .u64 (xs 33), .int .u64 (xs 34), .int .u64 (xs 35), .int .u64 (xs 36), .int .u64 (xs 37)]), (.int .i64 0), (.tuple #[.int .u64 (xs 45), .int .i64 0]), (.pointer (some ⟨g1v, 45, none⟩)), (.int .u64 (xs 45)), (.slice (some ⟨bNumber, 0, none⟩) nnNumber nnNumber), (.tuple #[.int .u64 (xs 45), .int .i64 0]), (.int .u64 (xs 45)), (.int .i64 0), (.int .i64 0), (.int .i64 0), (.int .i64 0), (.int .i64 0), (.int .i64 0), (.int .i64 0), (.int .i64 0), (.int .i64 0), (.int .i64 0), (.int .i64 0), (.int .i64 0), (.int .i64 0), (.int .i64 0), (.bool false), (.bool false), (.agg #[.int .u64 (xs 0), .int .u64 (xs 1), .int .u64 (xs 2), .int .u64 (xs 3), .int .u64 (xs 4), .int .u64 (xs 5), .int .u64 (xs 6), .int .u64 (xs 7), .int .u64 (xs 8), .int .u64 (xs 9)]), (.pointer (some ⟨g1v, 0, none⟩)), (.agg #[.int .u64 (xs 0), .int .u64 (xs 1), .int .u64 (xs 2), .int .u64 (xs 3), .int .u64 (xs 4), .int .u64 (xs 5), .int .u64 (xs 6), .int .u64 (xs 7), .int .u64 (xs 8), .int .u64 (xs 9)]), (.bool false), (.bool false), (.bool false), (.agg #[.int .u64 (xs 10), .int .u64 (xs 11)]), (.pointer (some ⟨g1v, 10, none⟩)), (.agg #[.int .u64 (xs 10), .int .u64 (xs 11)]), (.bool false), (.bool false), (.bool false), (.agg #[.slice APool0 NPool0 CPool0]), (.pointer (some ⟨g1v, 12, none⟩)), (.agg #[.slice (aa 12) (ns 12) (cc 12)]), (.agg #[.slice And Nnd Cnd]), (.bool true), (.bool false), (.bool false), (.bool false), (.agg #[.int .u64 (xs 13), .int .u64 (xs 14)]), (.pointer (some ⟨g1v, 13, none⟩)), (.agg #[.int .u64 (xs 13), .int .u64 (xs 14)]), (.bool false), (.bool false), (.bool false), (.agg #[.int .u64 (xs 30), .int .u64 (xs 31)]), (.pointer (some ⟨g1v, 30, none⟩)), (.agg #[.int .u64 (xs 30), .int .u64 (xs 31)]), (.bool false), (.bool false), (.bool false), (.agg #[.int .u64 (xs 32), .int .u64 (xs 33), .int .u64 (xs 34), .int .u64 (xs 35), .int .u64 (xs 36), .int .u64 (xs 37)]), (.pointer (some ⟨g1v, 32, none⟩)), (.agg #[.int .u64 (xs 32), .int .u64 (xs 33), .int .u64 (xs 34), .int .u64 (xs 35), .int .u64 (xs 36), .int .u64 (xs 37)]), (.bool false), (.bool false), (.bool false), (.int .u64 (xs 45)), (.pointer (some ⟨g1v, 45, none⟩)), (.int .u64 (xs 45)), (.bool false), (.bool false), (.tuple #[.agg #[.int .u64 (xs 15), .int .u64 (xs 16), .slice AVal2 NVal2 CVal2, .bool (ts 18), .int .u64 (xs 19), .bool (ts 20), .int .u64 (xs 21), .slice AVal7 NVal7 CVal7, .slice AVal8 NVal8 CVal8, .slice AVal9 NVal9 CVal9], .int .i64 0]), (.pointer (some ⟨g1v, 15, none⟩)), (.agg #[.int .u64 (xs 15), .int .u64 (xs 16), .slice (aa 17) (ns 17) (cc 17), .bool (ts 18), .int .u64 (xs 19), .bool (ts 20), .int .u64 (xs 21), .slice (aa 22) (ns 22) (cc 22), .slice (aa 23) (ns 23) (cc 23), .slice (aa 24) (ns 24) (cc 24)]), (.slice (some ⟨bVal, 0, none⟩) nnVal nnVal), (.tuple #[.agg #[.int .u64 (xs 15), .int .u64 (xs 16), .slice AVal2 NVal2 CVal2, .bool (ts 18), .int .u64 (xs 19), .bool (ts 20), .int .u64 (xs 21), .slice AVal7 NVal7 CVal7, .slice AVal8 NVal8 CVal8, .slice AVal9 NVal9 CVal9], .int .i64 0]), (.agg #[.int .u64 (xs 15), .int .u64 (xs 16), .slice AVal2 NVal2 CVal2, .bool (ts 18), .int .u64 (xs 19), .bool (ts 20), .int .u64 (xs 21), .slice AVal7 NVal7 CVal7, .slice AVal8 NVal8 CVal8, .slice AVal9 NVal9 CVal9]), (.int .i64 0), (.tuple #[.agg #[.slice ADelegation0 NDelegation0 CDelegation0, .int .u64 (xs 26), .slice ADelegation2 NDelegation2 CDelegation2], .int .i64 0]), (.pointer (some ⟨g1v, 25, none⟩)), (.agg #[.slice (aa 25) (ns 25) (cc 25), .int .u64 (xs 26), .slice (aa 27) (ns 27) (cc 27)]), (.slice (some ⟨bDelegation, 0, none⟩) nnDelegation nnDelegation), (.tuple #[.agg #[.slice ADelegation0 NDelegation0 CDelegation0, .int .u64 (xs 26), .slice ADelegation2 NDelegation2 CDelegation2], .int .i64 0]), (.agg #[.slice ADelegation0 NDelegation0 CDelegation0, .int .u64 (xs 26), .slice ADelegation2 NDelegation2 CDelegation2]), (.int .i64 0), (.tuple #[.agg #[.slice AHistory0 NHistory0 CHistory0, .int .u64 (xs 29)], .int .i64 0]), (.pointer (some ⟨g1v, 28, none⟩)), (.agg #[.slice (aa 28) (ns 28) (cc 28), .int .u64 (xs 29)]), (.slice (some ⟨bHistory, 0, none⟩) nnHistory nnHistory), (.tuple #[.agg #[.slice AHistory0 NHistory0 CHistory0, .int .u64 (xs 29)], .int .i64 0]), (.agg #[.slice AHistory0 NHistory0 CHistory0, .int .u64 (xs 29)]), (.int .i64 0), (.tuple #[.agg #[.int .u64 (xs 38), .int .u64 (xs 39), .int .u64 (xs 40), .int .u64 (xs 41), .int .u64 (xs 42), .int .u64 (xs 43), .slice AMove6 NMove6 CMove6], .int .i64 0]), (.pointer (some ⟨g1v, 38, none⟩)), (.agg #[.int .u64 (xs 38), .int .u64 (xs 39), .int .u64 (xs 40), .int .u64 (xs 41), .int .u64 (xs 42), .int .u64 (xs 43), .slice (aa 44) (ns 44) (cc 44)]), (.slice (some ⟨bMove, 0, none⟩) nnMove nnMove), (.tuple #[.agg #[.int .u64 (xs 38), .int .u64 (xs 39), .int .u64 (xs 40), .int .u64 (xs 41), .int .u64 (xs 42), .int .u64 (xs 43), .slice AMove6 NMove6 CMove6], .int .i64 0]), (.agg #[.int .u64 (xs 38), .int .u64 (xs 39), .int .u64 (xs 40), .int .u64 (xs 41), .int .u64 (xs 42), .int .u64 (xs 43), .slice AMove6 NMove6 CMove6]), (.int .i64 0), (.pointer (some ⟨g1v, 15, none⟩)), (.agg #[.int .u64 (xs 15), .int .u64 (xs 16), .slice (aa 17) (ns 17) (cc 17), .bool (ts 18), .int .u64 (xs 19), .bool (ts 20), .int .u64 (xs 21), .slice (aa 22) (ns 22) (cc 22), .slice (aa 23) (ns 23) (cc 23), .slice (aa 24) (ns 24) (cc 24)]), (.pointer (some ⟨g38v, 2, none⟩)), (.agg #[.slice (aa 17) (ns 17) (cc 17)]), (.agg #[.slice Anv2 Nnv2 Cnv2]), (.pointer (some ⟨g38v, 7, none⟩)), (.agg #[.slice (aa 22) (ns 22) (cc 22)]), (.agg #[.slice Anv7 Nnv7 Cnv7]), (.pointer (some ⟨g38v, 8, none⟩)), (.agg #[.slice (aa 23) (ns 23) (cc 23)]), (.agg #[.slice Anv8 Nnv8 Cnv8]), (.pointer (some ⟨g38v, 9, none⟩)), (.agg #[.slice (aa 24) (ns 24) (cc 24)]), (.agg #[.slice Anv9 Nnv9 Cnv9]), (.pointer (some ⟨g38v, 2, none⟩)), (.pointer (some ⟨g38v, 7, none⟩)), (.pointer (some ⟨g38v, 8, none⟩)), (.pointer (some ⟨g38v, 9, none⟩)), (.pointer (some ⟨g1v, 38, none⟩)), (.agg #[.int .u64 (xs 38), .int .u64 (xs 39), .int .u64 (xs 40), .int .u64 (xs 41), .int .u64 (xs 42), .int .u64 (xs 43), .slice (aa 44) (ns 44) (cc 44)]), undef, undef, undef, undef, undef, undef, undef, undef, undef, undef, undef, undef, undef, undef, undef, undef, undef, undef, undef, undef, undef, undef, undef, undef, undef, undef, undef, undef, undef, undef, undef, undef, undef, undef, undef, undef, undef, undef, undef, undef, undef, undef, undef, undef, undef, undef, undef, undef, undef, undef], []⟩) (by kernel_rfl) ?_
  refine wp_seq ?_
  refine wp_region_lit ?_
  refine wl_take (some 183) (.pointer (some ⟨g47v, 6, none⟩)) rfl rfl (by kernel_rfl) ?_
  refine wl_take (some 184) (.agg #[.slice (aa 44) (ns 44) (cc 44)]) rfl rfl (run_lp 183 (by kernel_rfl) (by kernel_rfl) (ldx30 (GY.cell (i := 6) rfl))) ?_
  have lym := GY.lt
  refine wl_call (some 185) 45 #[.agg #[.slice (aa 44) (ns 44) (cc 44)]] rfl rfl (by kernel_rfl) (norm_any (h44.keep BB) z44) ?_
  rintro e1 v48w ⟨Anm, Nnm, Cnm, rfl, Qnm, Knm, B⟩
  refine ⟨_, rfl, ?_⟩
  replace XB := XB.keep B
  replace GParams := GParams.keep B
  replace GChain := GChain.keep B
  replace QPool0 := QPool0.keep B
  replace GPool := GPool.keep B
  replace GAccount := GAccount.keep B
  replace GCut := GCut.keep B
  replace GUnbonding := GUnbonding.keep B
  replace Qnd := Qnd.keep B
  replace QVal2 := QVal2.keep B
  replace QVal7 := QVal7.keep B
  replace QVal8 := QVal8.keep B
  replace QVal9 := QVal9.keep B
  replace GVal := GVal.keep B
  replace QDelegation0 := QDelegation0.keep B
  replace QDelegation2 := QDelegation2.keep B
  replace GDelegation := GDelegation.keep B
  replace QHistory0 := QHistory0.keep B
  replace GHistory := GHistory.keep B
  replace QMove6 := QMove6.keep B
  replace GMove := GMove.keep B
  replace GW := GW.keep B
  replace Qnv2 := Qnv2.keep B
  replace Qnv7 := Qnv7.keep B
  replace Qnv8 := Qnv8.keep B
  replace Qnv9 := Qnv9.keep B
  replace GY := GY.keep B
  replace BB := joinB BB B
  replace BW := joinB BW B
  clear B
  refine wl_take (some 186) (.pointer (some ⟨g47v, 6, none⟩)) rfl rfl (by kernel_rfl) ?_
  refine wl_set' 186 185 30 (i := 6) (.slice (aa 44) (ns 44) (cc 44)) (.slice Anm Nnm Cnm) GY rfl rfl rfl rfl (by kernel_rfl) (by kernel_rfl) storex30 ?_
  intro v49w hv49w
  replace BB := BB.setCell (p := ⟨g47v, 6, none⟩) (show w.heap.size ≤ g47v by omega) (.slice Anm Nnm Cnm)
  replace BW := BW.setCell (p := ⟨g47v, 6, none⟩) (show v46w.heap.size ≤ g47v by omega) (.slice Anm Nnm Cnm)
  replace Qnm := Qnm.put (g := g47v) (o := 6) (by omega) (.slice Anm Nnm Cnm)
  replace GY := GY.setCell (i := 6) (.slice Anm Nnm Cnm)
  rw [hv49w] at BB BW GY Qnm
  clear hv49w
  replace XB := OXB.keep BW
  replace GParams := OGParams.keep BW
  replace GChain := OGChain.keep BW
  replace QPool0 := OQPool0.keep BW
  replace GPool := OGPool.keep BW
  replace GAccount := OGAccount.keep BW
  replace GCut := OGCut.keep BW
  replace GUnbonding := OGUnbonding.keep BW
  replace Qnd := OQnd.keep BW
  replace QVal2 := OQVal2.keep BW
  replace QVal7 := OQVal7.keep BW
  replace QVal8 := OQVal8.keep BW
  replace QVal9 := OQVal9.keep BW
  replace GVal := OGVal.keep BW
  replace QDelegation0 := OQDelegation0.keep BW
  replace QDelegation2 := OQDelegation2.keep BW
  replace GDelegation := OGDelegation.keep BW
  replace QHistory0 := OQHistory0.keep BW
  replace GHistory := OGHistory.keep BW
  replace QMove6 := OQMove6.keep BW
  replace GMove := OGMove.keep BW
  replace GW := OGW.keep BW
  replace Qnv2 := OQnv2.keep BW
  replace Qnv7 := OQnv7.keep BW
  replace Qnv8 := OQnv8.keep BW
  replace Qnv9 := OQnv9.keep BW
  refine wpList_nil ?_
  refine wp_then ?_
  refine wp_frame (a' := ⟨#[(.agg cs.toArray), (.pointer (some ⟨g1v, 0, none⟩)), (.bool false), (.pointer (some ⟨g6v, 0, none⟩)), (.int .i64 0), (.pointer (some ⟨g9v, 0, none⟩)), (.int .i64 0), (.pointer (some ⟨g12v, 0, none⟩)), (.int .i64 0), (.pointer (some ⟨g15v, 0, none⟩)), (.int .i64 0), (.pointer (some ⟨g18v, 0, none⟩)), (.int .i64 0), (.pointer (some ⟨g21v, 0, none⟩)), (.int .i64 0), (.int .u64 (xs 45)), (.int .i64 0), (.pointer (some ⟨g28v, 0, none⟩)), (.pointer (some ⟨g31v, 0, none⟩)), (.pointer (some ⟨g34v, 0, none⟩)), (.pointer (some ⟨g37v, 0, none⟩)), (.pointer (some ⟨g38v, 0, none⟩)), (.pointer (some ⟨g47v, 0, none⟩)), (.bool true), (.bool false), (.agg cs.toArray), (.bool true), (.bool false), (.tuple #[.agg #[.int .u64 (xs 0), .int .u64 (xs 1), .int .u64 (xs 2), .int .u64 (xs 3), .int .u64 (xs 4), .int .u64 (xs 5), .int .u64 (xs 6), .int .u64 (xs 7), .int .u64 (xs 8), .int .u64 (xs 9)], .int .i64 0]), (.pointer (some ⟨g1v, 0, none⟩)), (.agg #[.int .u64 (xs 0), .int .u64 (xs 1), .int .u64 (xs 2), .int .u64 (xs 3), .int .u64 (xs 4), .int .u64 (xs 5), .int .u64 (xs 6), .int .u64 (xs 7), .int .u64 (xs 8), .int .u64 (xs 9)]), (.slice (some ⟨bParams, 0, none⟩) nnParams nnParams), (.tuple #[.agg #[.int .u64 (xs 0), .int .u64 (xs 1), .int .u64 (xs 2), .int .u64 (xs 3), .int .u64 (xs 4), .int .u64 (xs 5), .int .u64 (xs 6), .int .u64 (xs 7), .int .u64 (xs 8), .int .u64 (xs 9)], .int .i64 0]), (.agg #[.int .u64 (xs 0), .int .u64 (xs 1), .int .u64 (xs 2), .int .u64 (xs 3), .int .u64 (xs 4), .int .u64 (xs 5), .int .u64 (xs 6), .int .u64 (xs 7), .int .u64 (xs 8), .int .u64 (xs 9)]), (.int .i64 0), (.tuple #[.agg #[.int .u64 (xs 10), .int .u64 (xs 11)], .int .i64 0]), (.pointer (some ⟨g1v, 10, none⟩)), (.agg #[.int .u64 (xs 10), .int .u64 (xs 11)]), (.slice (some ⟨bChain, 0, none⟩) nnChain nnChain), (.tuple #[.agg #[.int .u64 (xs 10), .int .u64 (xs 11)], .int .i64 0]), (.agg #[.int .u64 (xs 10), .int .u64 (xs 11)]), (.int .i64 0), (.tuple #[.agg #[.slice APool0 NPool0 CPool0], .int .i64 0]), (.pointer (some ⟨g1v, 12, none⟩)), (.agg #[.slice (aa 12) (ns 12) (cc 12)]), (.slice (some ⟨bPool, 0, none⟩) nnPool nnPool), (.tuple #[.agg #[.slice APool0 NPool0 CPool0], .int .i64 0]), (.agg #[.slice APool0 NPool0 CPool0]), (.int .i64 0), (.tuple #[.agg #[.int .u64 (xs 13), .int .u64 (xs 14)], .int .i64 0]), (.pointer (some ⟨g1v, 13, none⟩)), (.agg #[.int .u64 (xs 13), .int .u64 (xs 14)]), (.slice (some ⟨bAccount, 0, none⟩) nnAccount nnAccount), (.tuple #[.agg #[.int .u64 (xs 13), .int .u64 (xs 14)], .int .i64 0]), (.agg #[.int .u64 (xs 13), .int .u64 (xs 14)]), (.int .i64 0), (.tuple #[.agg #[.int .u64 (xs 30), .int .u64 (xs 31)], .int .i64 0]), (.pointer (some ⟨g1v, 30, none⟩)), (.agg #[.int .u64 (xs 30), .int .u64 (xs 31)]), (.slice (some ⟨bCut, 0, none⟩) nnCut nnCut), (.tuple #[.agg #[.int .u64 (xs 30), .int .u64 (xs 31)], .int .i64 0]), (.agg #[.int .u64 (xs 30), .int .u64 (xs 31)]), (.int .i64 0), (.tuple #[.agg #[.int .u64 (xs 32), .int .u64 (xs 33), .int .u64 (xs 34), .int .u64 (xs 35), .int .u64 (xs 36), .int .u64 (xs 37)], .int .i64 0]), (.pointer (some ⟨g1v, 32, none⟩)), (.agg #[.int .u64 (xs 32), .int .u64 (xs 33), .int .u64 (xs 34), .int .u64 (xs 35), .int .u64 (xs 36), .int .u64 (xs 37)]), (.slice (some ⟨bUnbonding, 0, none⟩) nnUnbonding nnUnbonding), (.tuple #[.agg #[.int .u64 (xs 32), .int .u64 (xs 33), .int .u64 (xs 34), .int .u64 (xs 35), .int .u64 (xs 36), .int .u64 (xs 37)], .int .i64 0]), (.agg #[.int .u64 (xs 32), .int .u64 (xs 33), .int .u64 (xs 34), .int .u64 (xs 35), .int .u64 (xs 36), .int .u64 (xs 37)]), (.int .i64 0), (.tuple #[.int .u64 (xs 45), .int .i64 0]), (.pointer (some ⟨g1v, 45, none⟩)), (.int .u64 (xs 45)), (.slice (some ⟨bNumber, 0, none⟩) nnNumber nnNumber), (.tuple #[.int .u64 (xs 45), .int .i64 0]), (.int .u64 (xs 45)), (.int .i64 0), (.int .i64 0), (.int .i64 0), (.int .i64 0), (.int .i64 0), (.int .i64 0), (.int .i64 0), (.int .i64 0), (.int .i64 0), (.int .i64 0), (.int .i64 0), (.int .i64 0), (.int .i64 0), (.int .i64 0), (.bool false), (.bool false), (.agg #[.int .u64 (xs 0), .int .u64 (xs 1), .int .u64 (xs 2), .int .u64 (xs 3), .int .u64 (xs 4), .int .u64 (xs 5), .int .u64 (xs 6), .int .u64 (xs 7), .int .u64 (xs 8), .int .u64 (xs 9)]), (.pointer (some ⟨g1v, 0, none⟩)), (.agg #[.int .u64 (xs 0), .int .u64 (xs 1), .int .u64 (xs 2), .int .u64 (xs 3), .int .u64 (xs 4), .int .u64 (xs 5), .int .u64 (xs 6), .int .u64 (xs 7), .int .u64 (xs 8), .int .u64 (xs 9)]), (.bool false), (.bool false), (.bool false), (.agg #[.int .u64 (xs 10), .int .u64 (xs 11)]), (.pointer (some ⟨g1v, 10, none⟩)), (.agg #[.int .u64 (xs 10), .int .u64 (xs 11)]), (.bool false), (.bool false), (.bool false), (.agg #[.slice APool0 NPool0 CPool0]), (.pointer (some ⟨g1v, 12, none⟩)), (.agg #[.slice (aa 12) (ns 12) (cc 12)]), (.agg #[.slice And Nnd Cnd]), (.bool true), (.bool false), (.bool false), (.bool false), (.agg #[.int .u64 (xs 13), .int .u64 (xs 14)]), (.pointer (some ⟨g1v, 13, none⟩)), (.agg #[.int .u64 (xs 13), .int .u64 (xs 14)]), (.bool false), (.bool false), (.bool false), (.agg #[.int .u64 (xs 30), .int .u64 (xs 31)]), (.pointer (some ⟨g1v, 30, none⟩)), (.agg #[.int .u64 (xs 30), .int .u64 (xs 31)]), (.bool false), (.bool false), (.bool false), (.agg #[.int .u64 (xs 32), .int .u64 (xs 33), .int .u64 (xs 34), .int .u64 (xs 35), .int .u64 (xs 36), .int .u64 (xs 37)]), (.pointer (some ⟨g1v, 32, none⟩)), (.agg #[.int .u64 (xs 32), .int .u64 (xs 33), .int .u64 (xs 34), .int .u64 (xs 35), .int .u64 (xs 36), .int .u64 (xs 37)]), (.bool false), (.bool false), (.bool false), (.int .u64 (xs 45)), (.pointer (some ⟨g1v, 45, none⟩)), (.int .u64 (xs 45)), (.bool false), (.bool false), (.tuple #[.agg #[.int .u64 (xs 15), .int .u64 (xs 16), .slice AVal2 NVal2 CVal2, .bool (ts 18), .int .u64 (xs 19), .bool (ts 20), .int .u64 (xs 21), .slice AVal7 NVal7 CVal7, .slice AVal8 NVal8 CVal8, .slice AVal9 NVal9 CVal9], .int .i64 0]), (.pointer (some ⟨g1v, 15, none⟩)), (.agg #[.int .u64 (xs 15), .int .u64 (xs 16), .slice (aa 17) (ns 17) (cc 17), .bool (ts 18), .int .u64 (xs 19), .bool (ts 20), .int .u64 (xs 21), .slice (aa 22) (ns 22) (cc 22), .slice (aa 23) (ns 23) (cc 23), .slice (aa 24) (ns 24) (cc 24)]), (.slice (some ⟨bVal, 0, none⟩) nnVal nnVal), (.tuple #[.agg #[.int .u64 (xs 15), .int .u64 (xs 16), .slice AVal2 NVal2 CVal2, .bool (ts 18), .int .u64 (xs 19), .bool (ts 20), .int .u64 (xs 21), .slice AVal7 NVal7 CVal7, .slice AVal8 NVal8 CVal8, .slice AVal9 NVal9 CVal9], .int .i64 0]), (.agg #[.int .u64 (xs 15), .int .u64 (xs 16), .slice AVal2 NVal2 CVal2, .bool (ts 18), .int .u64 (xs 19), .bool (ts 20), .int .u64 (xs 21), .slice AVal7 NVal7 CVal7, .slice AVal8 NVal8 CVal8, .slice AVal9 NVal9 CVal9]), (.int .i64 0), (.tuple #[.agg #[.slice ADelegation0 NDelegation0 CDelegation0, .int .u64 (xs 26), .slice ADelegation2 NDelegation2 CDelegation2], .int .i64 0]), (.pointer (some ⟨g1v, 25, none⟩)), (.agg #[.slice (aa 25) (ns 25) (cc 25), .int .u64 (xs 26), .slice (aa 27) (ns 27) (cc 27)]), (.slice (some ⟨bDelegation, 0, none⟩) nnDelegation nnDelegation), (.tuple #[.agg #[.slice ADelegation0 NDelegation0 CDelegation0, .int .u64 (xs 26), .slice ADelegation2 NDelegation2 CDelegation2], .int .i64 0]), (.agg #[.slice ADelegation0 NDelegation0 CDelegation0, .int .u64 (xs 26), .slice ADelegation2 NDelegation2 CDelegation2]), (.int .i64 0), (.tuple #[.agg #[.slice AHistory0 NHistory0 CHistory0, .int .u64 (xs 29)], .int .i64 0]), (.pointer (some ⟨g1v, 28, none⟩)), (.agg #[.slice (aa 28) (ns 28) (cc 28), .int .u64 (xs 29)]), (.slice (some ⟨bHistory, 0, none⟩) nnHistory nnHistory), (.tuple #[.agg #[.slice AHistory0 NHistory0 CHistory0, .int .u64 (xs 29)], .int .i64 0]), (.agg #[.slice AHistory0 NHistory0 CHistory0, .int .u64 (xs 29)]), (.int .i64 0), (.tuple #[.agg #[.int .u64 (xs 38), .int .u64 (xs 39), .int .u64 (xs 40), .int .u64 (xs 41), .int .u64 (xs 42), .int .u64 (xs 43), .slice AMove6 NMove6 CMove6], .int .i64 0]), (.pointer (some ⟨g1v, 38, none⟩)), (.agg #[.int .u64 (xs 38), .int .u64 (xs 39), .int .u64 (xs 40), .int .u64 (xs 41), .int .u64 (xs 42), .int .u64 (xs 43), .slice (aa 44) (ns 44) (cc 44)]), (.slice (some ⟨bMove, 0, none⟩) nnMove nnMove), (.tuple #[.agg #[.int .u64 (xs 38), .int .u64 (xs 39), .int .u64 (xs 40), .int .u64 (xs 41), .int .u64 (xs 42), .int .u64 (xs 43), .slice AMove6 NMove6 CMove6], .int .i64 0]), (.agg #[.int .u64 (xs 38), .int .u64 (xs 39), .int .u64 (xs 40), .int .u64 (xs 41), .int .u64 (xs 42), .int .u64 (xs 43), .slice AMove6 NMove6 CMove6]), (.int .i64 0), (.pointer (some ⟨g1v, 15, none⟩)), (.agg #[.int .u64 (xs 15), .int .u64 (xs 16), .slice (aa 17) (ns 17) (cc 17), .bool (ts 18), .int .u64 (xs 19), .bool (ts 20), .int .u64 (xs 21), .slice (aa 22) (ns 22) (cc 22), .slice (aa 23) (ns 23) (cc 23), .slice (aa 24) (ns 24) (cc 24)]), (.pointer (some ⟨g38v, 2, none⟩)), (.agg #[.slice (aa 17) (ns 17) (cc 17)]), (.agg #[.slice Anv2 Nnv2 Cnv2]), (.pointer (some ⟨g38v, 7, none⟩)), (.agg #[.slice (aa 22) (ns 22) (cc 22)]), (.agg #[.slice Anv7 Nnv7 Cnv7]), (.pointer (some ⟨g38v, 8, none⟩)), (.agg #[.slice (aa 23) (ns 23) (cc 23)]), (.agg #[.slice Anv8 Nnv8 Cnv8]), (.pointer (some ⟨g38v, 9, none⟩)), (.agg #[.slice (aa 24) (ns 24) (cc 24)]), (.agg #[.slice Anv9 Nnv9 Cnv9]), (.pointer (some ⟨g38v, 2, none⟩)), (.pointer (some ⟨g38v, 7, none⟩)), (.pointer (some ⟨g38v, 8, none⟩)), (.pointer (some ⟨g38v, 9, none⟩)), (.pointer (some ⟨g1v, 38, none⟩)), (.agg #[.int .u64 (xs 38), .int .u64 (xs 39), .int .u64 (xs 40), .int .u64 (xs 41), .int .u64 (xs 42), .int .u64 (xs 43), .slice (aa 44) (ns 44) (cc 44)]), (.pointer (some ⟨g47v, 6, none⟩)), (.agg #[.slice (aa 44) (ns 44) (cc 44)]), (.agg #[.slice Anm Nnm Cnm]), (.pointer (some ⟨g47v, 6, none⟩)), undef, undef, undef, undef, undef, undef, undef, undef, undef, undef, undef, undef, undef, undef, undef, undef, undef, undef, undef, undef, undef, undef, undef, undef, undef, undef, undef, undef, undef, undef, undef, undef, undef, undef, undef, undef, undef, undef, undef, undef, undef, undef, undef, undef, undef, undef], []⟩) (by kernel_rfl) ?_
  refine wp_seq ?_
  refine rg_start (S := fun w' => Below v49w.drew.heap.size v49w.drew w') (by kernel_rfl) (Below.refl _ _) ?_
  replace XB := XB.drew
  replace GParams := GParams.drew
  replace GChain := GChain.drew
  replace QPool0 := QPool0.drew
  replace GPool := GPool.drew
  replace GAccount := GAccount.drew
  replace GCut := GCut.drew
  replace GUnbonding := GUnbonding.drew
  replace Qnd := Qnd.drew
  replace QVal2 := QVal2.drew
  replace QVal7 := QVal7.drew
  replace QVal8 := QVal8.drew
  replace QVal9 := QVal9.drew
  replace GVal := GVal.drew
  replace QDelegation0 := QDelegation0.drew
  replace QDelegation2 := QDelegation2.drew
  replace GDelegation := GDelegation.drew
  replace QHistory0 := QHistory0.drew
  replace GHistory := GHistory.drew
  replace QMove6 := QMove6.drew
  replace GMove := GMove.drew
  replace GW := GW.drew
  replace Qnv2 := Qnv2.drew
  replace Qnv7 := Qnv7.drew
  replace Qnv8 := Qnv8.drew
  replace Qnv9 := Qnv9.drew
  replace GY := GY.drew
  replace Qnm := Qnm.drew
  replace BB := BB.drew
  replace BW := BW.drew
  have hS := Below.refl v49w.drew.heap.size v49w.drew
  have UXB := XB
  have UGParams := GParams
  have UGChain := GChain
  have UGPool := GPool
  have UGAccount := GAccount
  have UGCut := GCut
  have UGUnbonding := GUnbonding
  have UGVal := GVal
  have UGDelegation := GDelegation
  have UGHistory := GHistory
  have UGMove := GMove
  have UGW := GW
  have UGY := GY
  refine rg_take 0 (some 187) (.int .i64 0) (by kernel_rfl) (fun _ _ => by kernel_rfl) (fun _ _ _ h => h) hS ?_
  refine rg_take 1 (some 188) (.int .i64 0) (by kernel_rfl) (fun _ _ => by kernel_rfl) (fun _ _ _ h => h) hS ?_
  refine rg_take 2 (some 189) (.int .i64 0) (by kernel_rfl) (fun _ _ => by kernel_rfl) (fun _ _ _ h => h) hS ?_
  refine rg_take 3 (some 190) (.int .i64 0) (by kernel_rfl) (fun _ _ => by kernel_rfl) (fun _ _ _ h => h) hS ?_
  refine rg_take 4 (some 191) (.int .i64 0) (by kernel_rfl) (fun _ _ => by kernel_rfl) (fun _ _ _ h => h) hS ?_
  refine rg_take 5 (some 192) (.int .i64 0) (by kernel_rfl) (fun _ _ => by kernel_rfl) (fun _ _ _ h => h) hS ?_
  refine rg_take 6 (some 193) (.int .i64 0) (by kernel_rfl) (fun _ _ => by kernel_rfl) (fun _ _ _ h => h) hS ?_
  refine rg_take 7 (some 194) (.bool true) (by kernel_rfl) (fun _ _ => by kernel_rfl) (fun _ _ _ h => h) hS ?_
  refine rg_take 8 (some 195) (.bool true) (by kernel_rfl) (fun _ _ => by kernel_rfl) (fun _ _ _ h => h) hS ?_
  refine rg_load 9 (some 196) (.agg #[.int .u64 (xs 15), .int .u64 (xs 16), .slice AVal2 NVal2 CVal2, .bool (ts 18), .int .u64 (xs 19), .bool (ts 20), .int .u64 (xs 21), .slice AVal7 NVal7 CVal7, .slice AVal8 NVal8 CVal8, .slice AVal9 NVal9 CVal9]) 34 17 (g28v) 0 (by kernel_rfl) (by kernel_rfl) (by kernel_rfl) (fun _ hb => ldx34 ((UGVal.keep hb).cell (i := 0) rfl) ((UGVal.keep hb).cell (i := 1) rfl) ((UGVal.keep hb).cell (i := 2) rfl) ((UGVal.keep hb).cell (i := 3) rfl) ((UGVal.keep hb).cell (i := 4) rfl) ((UGVal.keep hb).cell (i := 5) rfl) ((UGVal.keep hb).cell (i := 6) rfl) ((UGVal.keep hb).cell (i := 7) rfl) ((UGVal.keep hb).cell (i := 8) rfl) ((UGVal.keep hb).cell (i := 9) rfl)) (fun _ _ _ h => h) hS ?_
  refine rg_load 10 (some 197) (.agg #[.int .u64 (xs 15), .int .u64 (xs 16), .slice Anv2 Nnv2 Cnv2, .bool (ts 18), .int .u64 (xs 19), .bool (ts 20), .int .u64 (xs 21), .slice Anv7 Nnv7 Cnv7, .slice Anv8 Nnv8 Cnv8, .slice Anv9 Nnv9 Cnv9]) 34 21 (g38v) 0 (by kernel_rfl) (by kernel_rfl) (by kernel_rfl) (fun _ hb => ldx34 ((UGW.keep hb).cell (i := 0) rfl) ((UGW.keep hb).cell (i := 1) rfl) ((UGW.keep hb).cell (i := 2) rfl) ((UGW.keep hb).cell (i := 3) rfl) ((UGW.keep hb).cell (i := 4) rfl) ((UGW.keep hb).cell (i := 5) rfl) ((UGW.keep hb).cell (i := 6) rfl) ((UGW.keep hb).cell (i := 7) rfl) ((UGW.keep hb).cell (i := 8) rfl) ((UGW.keep hb).cell (i := 9) rfl)) (fun _ _ _ h => h) hS ?_
  refine rg_call 11 (some 198) 50 #[.agg #[.int .u64 (xs 15), .int .u64 (xs 16), .slice AVal2 NVal2 CVal2, .bool (ts 18), .int .u64 (xs 19), .bool (ts 20), .int .u64 (xs 21), .slice AVal7 NVal7 CVal7, .slice AVal8 NVal8 CVal8, .slice AVal9 NVal9 CVal9], .agg #[.int .u64 (xs 15), .int .u64 (xs 16), .slice Anv2 Nnv2 Cnv2, .bool (ts 18), .int .u64 (xs 19), .bool (ts 20), .int .u64 (xs 21), .slice Anv7 Nnv7 Cnv7, .slice Anv8 Nnv8 Cnv8, .slice Anv9 Nnv9 Cnv9]] (by kernel_rfl) (by kernel_rfl) (sameVal QVal2.o Qnv2.o (by omega) (by omega) QVal7.o Qnv7.o (by omega) (by omega) QVal8.o Qnv8.o (by omega) (by omega) QVal9.o Qnv9.o (by omega) (by omega)) ?_
  rintro e1 v50w ⟨rfl, B⟩
  refine ⟨_, rfl, joinB hS B, ?_⟩
  replace hS := joinB hS B
  replace XB := XB.keep B
  replace GParams := GParams.keep B
  replace GChain := GChain.keep B
  replace QPool0 := QPool0.keep B
  replace GPool := GPool.keep B
  replace GAccount := GAccount.keep B
  replace GCut := GCut.keep B
  replace GUnbonding := GUnbonding.keep B
  replace Qnd := Qnd.keep B
  replace QVal2 := QVal2.keep B
  replace QVal7 := QVal7.keep B
  replace QVal8 := QVal8.keep B
  replace QVal9 := QVal9.keep B
  replace GVal := GVal.keep B
  replace QDelegation0 := QDelegation0.keep B
  replace QDelegation2 := QDelegation2.keep B
  replace GDelegation := GDelegation.keep B
  replace QHistory0 := QHistory0.keep B
  replace GHistory := GHistory.keep B
  replace QMove6 := QMove6.keep B
  replace GMove := GMove.keep B
  replace GW := GW.keep B
  replace Qnv2 := Qnv2.keep B
  replace Qnv7 := Qnv7.keep B
  replace Qnv8 := Qnv8.keep B
  replace Qnv9 := Qnv9.keep B
  replace GY := GY.keep B
  replace Qnm := Qnm.keep B
  replace BB := joinB BB B
  replace BW := joinB BW B
  clear B
  refine rg_take 12 (some 199) (.bool true) (by kernel_rfl) (fun _ _ => by kernel_rfl) (fun _ _ _ h => h) hS ?_
  refine rg_take 13 (some 200) (.bool true) (by kernel_rfl) (fun _ _ => by kernel_rfl) (fun _ _ _ h => h) hS ?_
  refine rg_load 14 (some 201) (.agg #[.slice ADelegation0 NDelegation0 CDelegation0, .int .u64 (xs 26), .slice ADelegation2 NDelegation2 CDelegation2]) 36 18 (g31v) 0 (by kernel_rfl) (by kernel_rfl) (by kernel_rfl) (fun _ hb => ldx36 ((UGDelegation.keep hb).cell (i := 0) rfl) ((UGDelegation.keep hb).cell (i := 1) rfl) ((UGDelegation.keep hb).cell (i := 2) rfl)) (fun _ _ _ h => h) hS ?_
  refine rg_take 15 (some 202) (.pointer (some ⟨g1v, 25, none⟩)) (by kernel_rfl) (fun _ _ => by kernel_rfl) (fun _ _ _ h => h) hS ?_
  refine rg_take 16 (some 203) (.pointer (some ⟨g1v, 25, none⟩)) (by kernel_rfl) (fun _ _ => by kernel_rfl) (fun _ _ _ h => h) hS ?_
  refine rg_load 17 (some 204) (.agg #[.slice (aa 25) (ns 25) (cc 25)]) 30 203 (g1v) 25 (by kernel_rfl) (by kernel_rfl) (by kernel_rfl) (fun _ hb => ldx30 ((UXB.keep hb).cell (i := 25) q25)) (fun _ _ _ h => h) hS ?_
  refine rg_take 19 (some 206) (.pointer (some ⟨g1v, 25, none⟩)) (by kernel_rfl) (fun _ _ => by kernel_rfl) (fun _ _ _ h => h) hS ?_
  refine rg_take 20 (some 207) (.pointer (some ⟨g1v, 26, none⟩)) (by kernel_rfl) (fun _ _ => by kernel_rfl) (fun _ _ _ h => h) hS ?_
  refine rg_load 21 (some 208) (.int .u64 (xs 26)) 22 207 (g1v) 26 (by kernel_rfl) (by kernel_rfl) (by kernel_rfl) (fun _ hb => ldx22 ((UXB.keep hb).cell (i := 26) q26)) (fun _ _ _ h => h) hS ?_
  refine rg_take 22 (some 209) (.pointer (some ⟨g1v, 25, none⟩)) (by kernel_rfl) (fun _ _ => by kernel_rfl) (fun _ _ _ h => h) hS ?_
  refine rg_take 23 (some 210) (.pointer (some ⟨g1v, 27, none⟩)) (by kernel_rfl) (fun _ _ => by kernel_rfl) (fun _ _ _ h => h) hS ?_
  refine rg_load 24 (some 211) (.agg #[.slice (aa 27) (ns 27) (cc 27)]) 30 210 (g1v) 27 (by kernel_rfl) (by kernel_rfl) (by kernel_rfl) (fun _ hb => ldx30 ((UXB.keep hb).cell (i := 27) q27)) (fun _ _ _ h => h) hS ?_
  refine rg_call 18 (some 205) 45 #[.agg #[.slice (aa 25) (ns 25) (cc 25)]] (by kernel_rfl) (by kernel_rfl) (norm_any (h25.keep BB) z25) ?_
  rintro e1 v51w ⟨Ang0, Nng0, Cng0, rfl, Qng0, Kng0, B⟩
  refine ⟨_, rfl, joinB hS B, ?_⟩
  replace hS := joinB hS B
  replace XB := XB.keep B
  replace GParams := GParams.keep B
  replace GChain := GChain.keep B
  replace QPool0 := QPool0.keep B
  replace GPool := GPool.keep B
  replace GAccount := GAccount.keep B
  replace GCut := GCut.keep B
  replace GUnbonding := GUnbonding.keep B
  replace Qnd := Qnd.keep B
  replace QVal2 := QVal2.keep B
  replace QVal7 := QVal7.keep B
  replace QVal8 := QVal8.keep B
  replace QVal9 := QVal9.keep B
  replace GVal := GVal.keep B
  replace QDelegation0 := QDelegation0.keep B
  replace QDelegation2 := QDelegation2.keep B
  replace GDelegation := GDelegation.keep B
  replace QHistory0 := QHistory0.keep B
  replace GHistory := GHistory.keep B
  replace QMove6 := QMove6.keep B
  replace GMove := GMove.keep B
  replace GW := GW.keep B
  replace Qnv2 := Qnv2.keep B
  replace Qnv7 := Qnv7.keep B
  replace Qnv8 := Qnv8.keep B
  replace Qnv9 := Qnv9.keep B
  replace GY := GY.keep B
  replace Qnm := Qnm.keep B
  replace BB := joinB BB B
  replace BW := joinB BW B
  clear B
  refine rg_call 25 (some 212) 45 #[.agg #[.slice (aa 27) (ns 27) (cc 27)]] (by kernel_rfl) (by kernel_rfl) (norm_any (h27.keep BB) z27) ?_
  rintro e1 v52w ⟨Ang2, Nng2, Cng2, rfl, Qng2, Kng2, B⟩
  refine ⟨_, rfl, joinB hS B, ?_⟩
  replace hS := joinB hS B
  replace XB := XB.keep B
  replace GParams := GParams.keep B
  replace GChain := GChain.keep B
  replace QPool0 := QPool0.keep B
  replace GPool := GPool.keep B
  replace GAccount := GAccount.keep B
  replace GCut := GCut.keep B
  replace GUnbonding := GUnbonding.keep B
  replace Qnd := Qnd.keep B
  replace QVal2 := QVal2.keep B
  replace QVal7 := QVal7.keep B
  replace QVal8 := QVal8.keep B
  replace QVal9 := QVal9.keep B
  replace GVal := GVal.keep B
  replace QDelegation0 := QDelegation0.keep B
  replace QDelegation2 := QDelegation2.keep B
  replace GDelegation := GDelegation.keep B
  replace QHistory0 := QHistory0.keep B
  replace GHistory := GHistory.keep B
  replace QMove6 := QMove6.keep B
  replace GMove := GMove.keep B
  replace GW := GW.keep B
  replace Qnv2 := Qnv2.keep B
  replace Qnv7 := Qnv7.keep B
  replace Qnv8 := Qnv8.keep B
  replace Qnv9 := Qnv9.keep B
  replace GY := GY.keep B
  replace Qnm := Qnm.keep B
  replace Qng0 := Qng0.keep B
  replace BB := joinB BB B
  replace BW := joinB BW B
  clear B
  refine rg_take 26 (some 213) (.agg #[.slice Ang0 Nng0 Cng0, .int .u64 (xs 26), .slice Ang2 Nng2 Cng2]) (by kernel_rfl) (fun _ _ => by kernel_rfl) (fun _ _ _ h => h) hS ?_
  refine rg_call 27 (some 214) 51 #[.agg #[.slice ADelegation0 NDelegation0 CDelegation0, .int .u64 (xs 26), .slice ADelegation2 NDelegation2 CDelegation2], .agg #[.slice Ang0 Nng0 Cng0, .int .u64 (xs 26), .slice Ang2 Nng2 Cng2]] (by kernel_rfl) (by kernel_rfl) (sameDelegation QDelegation0.o Qng0.o (by omega) (by omega) QDelegation2.o Qng2.o (by omega) (by omega)) ?_
  rintro e1 v53w ⟨rfl, B⟩
  refine ⟨_, rfl, joinB hS B, ?_⟩
  replace hS := joinB hS B
  replace XB := XB.keep B
  replace GParams := GParams.keep B
  replace GChain := GChain.keep B
  replace QPool0 := QPool0.keep B
  replace GPool := GPool.keep B
  replace GAccount := GAccount.keep B
  replace GCut := GCut.keep B
  replace GUnbonding := GUnbonding.keep B
  replace Qnd := Qnd.keep B
  replace QVal2 := QVal2.keep B
  replace QVal7 := QVal7.keep B
  replace QVal8 := QVal8.keep B
  replace QVal9 := QVal9.keep B
  replace GVal := GVal.keep B
  replace QDelegation0 := QDelegation0.keep B
  replace QDelegation2 := QDelegation2.keep B
  replace GDelegation := GDelegation.keep B
  replace QHistory0 := QHistory0.keep B
  replace GHistory := GHistory.keep B
  replace QMove6 := QMove6.keep B
  replace GMove := GMove.keep B
  replace GW := GW.keep B
  replace Qnv2 := Qnv2.keep B
  replace Qnv7 := Qnv7.keep B
  replace Qnv8 := Qnv8.keep B
  replace Qnv9 := Qnv9.keep B
  replace GY := GY.keep B
  replace Qnm := Qnm.keep B
  replace Qng0 := Qng0.keep B
  replace Qng2 := Qng2.keep B
  replace BB := joinB BB B
  replace BW := joinB BW B
  clear B
  refine rg_take 28 (some 215) (.bool true) (by kernel_rfl) (fun _ _ => by kernel_rfl) (fun _ _ _ h => h) hS ?_
  refine rg_take 29 (some 216) (.bool true) (by kernel_rfl) (fun _ _ => by kernel_rfl) (fun _ _ _ h => h) hS ?_
  refine rg_load 30 (some 217) (.agg #[.slice AHistory0 NHistory0 CHistory0, .int .u64 (xs 29)]) 38 19 (g34v) 0 (by kernel_rfl) (by kernel_rfl) (by kernel_rfl) (fun _ hb => ldx38 ((UGHistory.keep hb).cell (i := 0) rfl) ((UGHistory.keep hb).cell (i := 1) rfl)) (fun _ _ _ h => h) hS ?_
  refine rg_take 31 (some 218) (.pointer (some ⟨g1v, 28, none⟩)) (by kernel_rfl) (fun _ _ => by kernel_rfl) (fun _ _ _ h => h) hS ?_
  refine rg_take 32 (some 219) (.pointer (some ⟨g1v, 28, none⟩)) (by kernel_rfl) (fun _ _ => by kernel_rfl) (fun _ _ _ h => h) hS ?_
  refine rg_load 33 (some 220) (.agg #[.slice (aa 28) (ns 28) (cc 28)]) 30 219 (g1v) 28 (by kernel_rfl) (by kernel_rfl) (by kernel_rfl) (fun _ hb => ldx30 ((UXB.keep hb).cell (i := 28) q28)) (fun _ _ _ h => h) hS ?_
  refine rg_take 35 (some 222) (.pointer (some ⟨g1v, 28, none⟩)) (by kernel_rfl) (fun _ _ => by kernel_rfl) (fun _ _ _ h => h) hS ?_
  refine rg_take 36 (some 223) (.pointer (some ⟨g1v, 29, none⟩)) (by kernel_rfl) (fun _ _ => by kernel_rfl) (fun _ _ _ h => h) hS ?_
  refine rg_load 37 (some 224) (.int .u64 (xs 29)) 22 223 (g1v) 29 (by kernel_rfl) (by kernel_rfl) (by kernel_rfl) (fun _ hb => ldx22 ((UXB.keep hb).cell (i := 29) q29)) (fun _ _ _ h => h) hS ?_
  refine rg_call 34 (some 221) 45 #[.agg #[.slice (aa 28) (ns 28) (cc 28)]] (by kernel_rfl) (by kernel_rfl) (norm_any (h28.keep BB) z28) ?_
  rintro e1 v54w ⟨Anh0, Nnh0, Cnh0, rfl, Qnh0, Knh0, B⟩
  refine ⟨_, rfl, joinB hS B, ?_⟩
  replace hS := joinB hS B
  replace XB := XB.keep B
  replace GParams := GParams.keep B
  replace GChain := GChain.keep B
  replace QPool0 := QPool0.keep B
  replace GPool := GPool.keep B
  replace GAccount := GAccount.keep B
  replace GCut := GCut.keep B
  replace GUnbonding := GUnbonding.keep B
  replace Qnd := Qnd.keep B
  replace QVal2 := QVal2.keep B
  replace QVal7 := QVal7.keep B
  replace QVal8 := QVal8.keep B
  replace QVal9 := QVal9.keep B
  replace GVal := GVal.keep B
  replace QDelegation0 := QDelegation0.keep B
  replace QDelegation2 := QDelegation2.keep B
  replace GDelegation := GDelegation.keep B
  replace QHistory0 := QHistory0.keep B
  replace GHistory := GHistory.keep B
  replace QMove6 := QMove6.keep B
  replace GMove := GMove.keep B
  replace GW := GW.keep B
  replace Qnv2 := Qnv2.keep B
  replace Qnv7 := Qnv7.keep B
  replace Qnv8 := Qnv8.keep B
  replace Qnv9 := Qnv9.keep B
  replace GY := GY.keep B
  replace Qnm := Qnm.keep B
  replace Qng0 := Qng0.keep B
  replace Qng2 := Qng2.keep B
  replace BB := joinB BB B
  replace BW := joinB BW B
  clear B
  refine rg_take 38 (some 225) (.agg #[.slice Anh0 Nnh0 Cnh0, .int .u64 (xs 29)]) (by kernel_rfl) (fun _ _ => by kernel_rfl) (fun _ _ _ h => h) hS ?_
  refine rg_call 39 (some 226) 52 #[.agg #[.slice AHistory0 NHistory0 CHistory0, .int .u64 (xs 29)], .agg #[.slice Anh0 Nnh0 Cnh0, .int .u64 (xs 29)]] (by kernel_rfl) (by kernel_rfl) (sameHistory QHistory0.o Qnh0.o (by omega) (by omega)) ?_
  rintro e1 v55w ⟨rfl, B⟩
  refine ⟨_, rfl, joinB hS B, ?_⟩
  replace hS := joinB hS B
  replace XB := XB.keep B
  replace GParams := GParams.keep B
  replace GChain := GChain.keep B
  replace QPool0 := QPool0.keep B
  replace GPool := GPool.keep B
  replace GAccount := GAccount.keep B
  replace GCut := GCut.keep B
  replace GUnbonding := GUnbonding.keep B
  replace Qnd := Qnd.keep B
  replace QVal2 := QVal2.keep B
  replace QVal7 := QVal7.keep B
  replace QVal8 := QVal8.keep B
  replace QVal9 := QVal9.keep B
  replace GVal := GVal.keep B
  replace QDelegation0 := QDelegation0.keep B
  replace QDelegation2 := QDelegation2.keep B
  replace GDelegation := GDelegation.keep B
  replace QHistory0 := QHistory0.keep B
  replace GHistory := GHistory.keep B
  replace QMove6 := QMove6.keep B
  replace GMove := GMove.keep B
  replace GW := GW.keep B
  replace Qnv2 := Qnv2.keep B
  replace Qnv7 := Qnv7.keep B
  replace Qnv8 := Qnv8.keep B
  replace Qnv9 := Qnv9.keep B
  replace GY := GY.keep B
  replace Qnm := Qnm.keep B
  replace Qng0 := Qng0.keep B
  replace Qng2 := Qng2.keep B
  replace Qnh0 := Qnh0.keep B
  replace BB := joinB BB B
  replace BW := joinB BW B
  clear B
  refine rg_take 40 (some 227) (.bool true) (by kernel_rfl) (fun _ _ => by kernel_rfl) (fun _ _ _ h => h) hS ?_
  refine rg_take 41 (some 228) (.bool true) (by kernel_rfl) (fun _ _ => by kernel_rfl) (fun _ _ _ h => h) hS ?_
  refine rg_load 42 (some 229) (.agg #[.int .u64 (xs 38), .int .u64 (xs 39), .int .u64 (xs 40), .int .u64 (xs 41), .int .u64 (xs 42), .int .u64 (xs 43), .slice AMove6 NMove6 CMove6]) 44 20 (g37v) 0 (by kernel_rfl) (by kernel_rfl) (by kernel_rfl) (fun _ hb => ldx44 ((UGMove.keep hb).cell (i := 0) rfl) ((UGMove.keep hb).cell (i := 1) rfl) ((UGMove.keep hb).cell (i := 2) rfl) ((UGMove.keep hb).cell (i := 3) rfl) ((UGMove.keep hb).cell (i := 4) rfl) ((UGMove.keep hb).cell (i := 5) rfl) ((UGMove.keep hb).cell (i := 6) rfl)) (fun _ _ _ h => h) hS ?_
  refine rg_load 43 (some 230) (.agg #[.int .u64 (xs 38), .int .u64 (xs 39), .int .u64 (xs 40), .int .u64 (xs 41), .int .u64 (xs 42), .int .u64 (xs 43), .slice Anm Nnm Cnm]) 44 22 (g47v) 0 (by kernel_rfl) (by kernel_rfl) (by kernel_rfl) (fun _ hb => ldx44 ((UGY.keep hb).cell (i := 0) rfl) ((UGY.keep hb).cell (i := 1) rfl) ((UGY.keep hb).cell (i := 2) rfl) ((UGY.keep hb).cell (i := 3) rfl) ((UGY.keep hb).cell (i := 4) rfl) ((UGY.keep hb).cell (i := 5) rfl) ((UGY.keep hb).cell (i := 6) rfl)) (fun _ _ _ h => h) hS ?_
  refine rg_call 44 (some 231) 53 #[.agg #[.int .u64 (xs 38), .int .u64 (xs 39), .int .u64 (xs 40), .int .u64 (xs 41), .int .u64 (xs 42), .int .u64 (xs 43), .slice AMove6 NMove6 CMove6], .agg #[.int .u64 (xs 38), .int .u64 (xs 39), .int .u64 (xs 40), .int .u64 (xs 41), .int .u64 (xs 42), .int .u64 (xs 43), .slice Anm Nnm Cnm]] (by kernel_rfl) (by kernel_rfl) (sameMove QMove6.o Qnm.o (by omega) (by omega)) ?_
  rintro e1 v56w ⟨rfl, B⟩
  refine ⟨_, rfl, joinB hS B, ?_⟩
  replace hS := joinB hS B
  replace XB := XB.keep B
  replace GParams := GParams.keep B
  replace GChain := GChain.keep B
  replace QPool0 := QPool0.keep B
  replace GPool := GPool.keep B
  replace GAccount := GAccount.keep B
  replace GCut := GCut.keep B
  replace GUnbonding := GUnbonding.keep B
  replace Qnd := Qnd.keep B
  replace QVal2 := QVal2.keep B
  replace QVal7 := QVal7.keep B
  replace QVal8 := QVal8.keep B
  replace QVal9 := QVal9.keep B
  replace GVal := GVal.keep B
  replace QDelegation0 := QDelegation0.keep B
  replace QDelegation2 := QDelegation2.keep B
  replace GDelegation := GDelegation.keep B
  replace QHistory0 := QHistory0.keep B
  replace GHistory := GHistory.keep B
  replace QMove6 := QMove6.keep B
  replace GMove := GMove.keep B
  replace GW := GW.keep B
  replace Qnv2 := Qnv2.keep B
  replace Qnv7 := Qnv7.keep B
  replace Qnv8 := Qnv8.keep B
  replace Qnv9 := Qnv9.keep B
  replace GY := GY.keep B
  replace Qnm := Qnm.keep B
  replace Qng0 := Qng0.keep B
  replace Qng2 := Qng2.keep B
  replace Qnh0 := Qnh0.keep B
  replace BB := joinB BB B
  replace BW := joinB BW B
  clear B
  refine rg_take 45 (some 232) (.bool true) (by kernel_rfl) (fun _ _ => by kernel_rfl) (fun _ _ _ h => h) hS ?_
  refine rg_take 46 (some 2) (.bool true) (by kernel_rfl) (fun _ _ => by kernel_rfl) (fun _ _ _ h => h) hS ?_
  refine rg_done (by kernel_rfl) ?_
  clear hS UXB UGParams UGChain UGPool UGAccount UGCut UGUnbonding UGVal UGDelegation UGHistory UGMove UGW UGY
  refine wp_then ?_
  refine wp_frame (a' := ⟨#[(.agg cs.toArray), (.pointer (some ⟨g1v, 0, none⟩)), (.bool true), (.pointer (some ⟨g6v, 0, none⟩)), (.int .i64 0), (.pointer (some ⟨g9v, 0, none⟩)), (.int .i64 0), (.pointer (some ⟨g12v, 0, none⟩)), (.int .i64 0), (.pointer (some ⟨g15v, 0, none⟩)), (.int .i64 0), (.pointer (some ⟨g18v, 0, none⟩)), (.int .i64 0), (.pointer (some ⟨g21v, 0, none⟩)), (.int .i64 0), (.int .u64 (xs 45)), (.int .i64 0), (.pointer (some ⟨g28v, 0, none⟩)), (.pointer (some ⟨g31v, 0, none⟩)), (.pointer (some ⟨g34v, 0, none⟩)), (.pointer (some ⟨g37v, 0, none⟩)), (.pointer (some ⟨g38v, 0, none⟩)), (.pointer (some ⟨g47v, 0, none⟩)), (.bool true), (.bool false), (.agg cs.toArray), (.bool true), (.bool false), (.tuple #[.agg #[.int .u64 (xs 0), .int .u64 (xs 1), .int .u64 (xs 2), .int .u64 (xs 3), .int .u64 (xs 4), .int .u64 (xs 5), .int .u64 (xs 6), .int .u64 (xs 7), .int .u64 (xs 8), .int .u64 (xs 9)], .int .i64 0]), (.pointer (some ⟨g1v, 0, none⟩)), (.agg #[.int .u64 (xs 0), .int .u64 (xs 1), .int .u64 (xs 2), .int .u64 (xs 3), .int .u64 (xs 4), .int .u64 (xs 5), .int .u64 (xs 6), .int .u64 (xs 7), .int .u64 (xs 8), .int .u64 (xs 9)]), (.slice (some ⟨bParams, 0, none⟩) nnParams nnParams), (.tuple #[.agg #[.int .u64 (xs 0), .int .u64 (xs 1), .int .u64 (xs 2), .int .u64 (xs 3), .int .u64 (xs 4), .int .u64 (xs 5), .int .u64 (xs 6), .int .u64 (xs 7), .int .u64 (xs 8), .int .u64 (xs 9)], .int .i64 0]), (.agg #[.int .u64 (xs 0), .int .u64 (xs 1), .int .u64 (xs 2), .int .u64 (xs 3), .int .u64 (xs 4), .int .u64 (xs 5), .int .u64 (xs 6), .int .u64 (xs 7), .int .u64 (xs 8), .int .u64 (xs 9)]), (.int .i64 0), (.tuple #[.agg #[.int .u64 (xs 10), .int .u64 (xs 11)], .int .i64 0]), (.pointer (some ⟨g1v, 10, none⟩)), (.agg #[.int .u64 (xs 10), .int .u64 (xs 11)]), (.slice (some ⟨bChain, 0, none⟩) nnChain nnChain), (.tuple #[.agg #[.int .u64 (xs 10), .int .u64 (xs 11)], .int .i64 0]), (.agg #[.int .u64 (xs 10), .int .u64 (xs 11)]), (.int .i64 0), (.tuple #[.agg #[.slice APool0 NPool0 CPool0], .int .i64 0]), (.pointer (some ⟨g1v, 12, none⟩)), (.agg #[.slice (aa 12) (ns 12) (cc 12)]), (.slice (some ⟨bPool, 0, none⟩) nnPool nnPool), (.tuple #[.agg #[.slice APool0 NPool0 CPool0], .int .i64 0]), (.agg #[.slice APool0 NPool0 CPool0]), (.int .i64 0), (.tuple #[.agg #[.int .u64 (xs 13), .int .u64 (xs 14)], .int .i64 0]), (.pointer (some ⟨g1v, 13, none⟩)), (.agg #[.int .u64 (xs 13), .int .u64 (xs 14)]), (.slice (some ⟨bAccount, 0, none⟩) nnAccount nnAccount), (.tuple #[.agg #[.int .u64 (xs 13), .int .u64 (xs 14)], .int .i64 0]), (.agg #[.int .u64 (xs 13), .int .u64 (xs 14)]), (.int .i64 0), (.tuple #[.agg #[.int .u64 (xs 30), .int .u64 (xs 31)], .int .i64 0]), (.pointer (some ⟨g1v, 30, none⟩)), (.agg #[.int .u64 (xs 30), .int .u64 (xs 31)]), (.slice (some ⟨bCut, 0, none⟩) nnCut nnCut), (.tuple #[.agg #[.int .u64 (xs 30), .int .u64 (xs 31)], .int .i64 0]), (.agg #[.int .u64 (xs 30), .int .u64 (xs 31)]), (.int .i64 0), (.tuple #[.agg #[.int .u64 (xs 32), .int .u64 (xs 33), .int .u64 (xs 34), .int .u64 (xs 35), .int .u64 (xs 36), .int .u64 (xs 37)], .int .i64 0]), (.pointer (some ⟨g1v, 32, none⟩)), (.agg #[.int .u64 (xs 32), .int .u64 (xs 33), .int .u64 (xs 34), .int .u64 (xs 35), .int .u64 (xs 36), .int .u64 (xs 37)]), (.slice (some ⟨bUnbonding, 0, none⟩) nnUnbonding nnUnbonding), (.tuple #[.agg #[.int .u64 (xs 32), .int .u64 (xs 33), .int .u64 (xs 34), .int .u64 (xs 35), .int .u64 (xs 36), .int .u64 (xs 37)], .int .i64 0]), (.agg #[.int .u64 (xs 32), .int .u64 (xs 33), .int .u64 (xs 34), .int .u64 (xs 35), .int .u64 (xs 36), .int .u64 (xs 37)]), (.int .i64 0), (.tuple #[.int .u64 (xs 45), .int .i64 0]), (.pointer (some ⟨g1v, 45, none⟩)), (.int .u64 (xs 45)), (.slice (some ⟨bNumber, 0, none⟩) nnNumber nnNumber), (.tuple #[.int .u64 (xs 45), .int .i64 0]), (.int .u64 (xs 45)), (.int .i64 0), (.int .i64 0), (.int .i64 0), (.int .i64 0), (.int .i64 0), (.int .i64 0), (.int .i64 0), (.int .i64 0), (.int .i64 0), (.int .i64 0), (.int .i64 0), (.int .i64 0), (.int .i64 0), (.int .i64 0), (.bool false), (.bool false), (.agg #[.int .u64 (xs 0), .int .u64 (xs 1), .int .u64 (xs 2), .int .u64 (xs 3), .int .u64 (xs 4), .int .u64 (xs 5), .int .u64 (xs 6), .int .u64 (xs 7), .int .u64 (xs 8), .int .u64 (xs 9)]), (.pointer (some ⟨g1v, 0, none⟩)), (.agg #[.int .u64 (xs 0), .int .u64 (xs 1), .int .u64 (xs 2), .int .u64 (xs 3), .int .u64 (xs 4), .int .u64 (xs 5), .int .u64 (xs 6), .int .u64 (xs 7), .int .u64 (xs 8), .int .u64 (xs 9)]), (.bool false), (.bool false), (.bool false), (.agg #[.int .u64 (xs 10), .int .u64 (xs 11)]), (.pointer (some ⟨g1v, 10, none⟩)), (.agg #[.int .u64 (xs 10), .int .u64 (xs 11)]), (.bool false), (.bool false), (.bool false), (.agg #[.slice APool0 NPool0 CPool0]), (.pointer (some ⟨g1v, 12, none⟩)), (.agg #[.slice (aa 12) (ns 12) (cc 12)]), (.agg #[.slice And Nnd Cnd]), (.bool true), (.bool false), (.bool false), (.bool false), (.agg #[.int .u64 (xs 13), .int .u64 (xs 14)]), (.pointer (some ⟨g1v, 13, none⟩)), (.agg #[.int .u64 (xs 13), .int .u64 (xs 14)]), (.bool false), (.bool false), (.bool false), (.agg #[.int .u64 (xs 30), .int .u64 (xs 31)]), (.pointer (some ⟨g1v, 30, none⟩)), (.agg #[.int .u64 (xs 30), .int .u64 (xs 31)]), (.bool false), (.bool false), (.bool false), (.agg #[.int .u64 (xs 32), .int .u64 (xs 33), .int .u64 (xs 34), .int .u64 (xs 35), .int .u64 (xs 36), .int .u64 (xs 37)]), (.pointer (some ⟨g1v, 32, none⟩)), (.agg #[.int .u64 (xs 32), .int .u64 (xs 33), .int .u64 (xs 34), .int .u64 (xs 35), .int .u64 (xs 36), .int .u64 (xs 37)]), (.bool false), (.bool false), (.bool false), (.int .u64 (xs 45)), (.pointer (some ⟨g1v, 45, none⟩)), (.int .u64 (xs 45)), (.bool false), (.bool false), (.tuple #[.agg #[.int .u64 (xs 15), .int .u64 (xs 16), .slice AVal2 NVal2 CVal2, .bool (ts 18), .int .u64 (xs 19), .bool (ts 20), .int .u64 (xs 21), .slice AVal7 NVal7 CVal7, .slice AVal8 NVal8 CVal8, .slice AVal9 NVal9 CVal9], .int .i64 0]), (.pointer (some ⟨g1v, 15, none⟩)), (.agg #[.int .u64 (xs 15), .int .u64 (xs 16), .slice (aa 17) (ns 17) (cc 17), .bool (ts 18), .int .u64 (xs 19), .bool (ts 20), .int .u64 (xs 21), .slice (aa 22) (ns 22) (cc 22), .slice (aa 23) (ns 23) (cc 23), .slice (aa 24) (ns 24) (cc 24)]), (.slice (some ⟨bVal, 0, none⟩) nnVal nnVal), (.tuple #[.agg #[.int .u64 (xs 15), .int .u64 (xs 16), .slice AVal2 NVal2 CVal2, .bool (ts 18), .int .u64 (xs 19), .bool (ts 20), .int .u64 (xs 21), .slice AVal7 NVal7 CVal7, .slice AVal8 NVal8 CVal8, .slice AVal9 NVal9 CVal9], .int .i64 0]), (.agg #[.int .u64 (xs 15), .int .u64 (xs 16), .slice AVal2 NVal2 CVal2, .bool (ts 18), .int .u64 (xs 19), .bool (ts 20), .int .u64 (xs 21), .slice AVal7 NVal7 CVal7, .slice AVal8 NVal8 CVal8, .slice AVal9 NVal9 CVal9]), (.int .i64 0), (.tuple #[.agg #[.slice ADelegation0 NDelegation0 CDelegation0, .int .u64 (xs 26), .slice ADelegation2 NDelegation2 CDelegation2], .int .i64 0]), (.pointer (some ⟨g1v, 25, none⟩)), (.agg #[.slice (aa 25) (ns 25) (cc 25), .int .u64 (xs 26), .slice (aa 27) (ns 27) (cc 27)]), (.slice (some ⟨bDelegation, 0, none⟩) nnDelegation nnDelegation), (.tuple #[.agg #[.slice ADelegation0 NDelegation0 CDelegation0, .int .u64 (xs 26), .slice ADelegation2 NDelegation2 CDelegation2], .int .i64 0]), (.agg #[.slice ADelegation0 NDelegation0 CDelegation0, .int .u64 (xs 26), .slice ADelegation2 NDelegation2 CDelegation2]), (.int .i64 0), (.tuple #[.agg #[.slice AHistory0 NHistory0 CHistory0, .int .u64 (xs 29)], .int .i64 0]), (.pointer (some ⟨g1v, 28, none⟩)), (.agg #[.slice (aa 28) (ns 28) (cc 28), .int .u64 (xs 29)]), (.slice (some ⟨bHistory, 0, none⟩) nnHistory nnHistory), (.tuple #[.agg #[.slice AHistory0 NHistory0 CHistory0, .int .u64 (xs 29)], .int .i64 0]), (.agg #[.slice AHistory0 NHistory0 CHistory0, .int .u64 (xs 29)]), (.int .i64 0), (.tuple #[.agg #[.int .u64 (xs 38), .int .u64 (xs 39), .int .u64 (xs 40), .int .u64 (xs 41), .int .u64 (xs 42), .int .u64 (xs 43), .slice AMove6 NMove6 CMove6], .int .i64 0]), (.pointer (some ⟨g1v, 38, none⟩)), (.agg #[.int .u64 (xs 38), .int .u64 (xs 39), .int .u64 (xs 40), .int .u64 (xs 41), .int .u64 (xs 42), .int .u64 (xs 43), .slice (aa 44) (ns 44) (cc 44)]), (.slice (some ⟨bMove, 0, none⟩) nnMove nnMove), (.tuple #[.agg #[.int .u64 (xs 38), .int .u64 (xs 39), .int .u64 (xs 40), .int .u64 (xs 41), .int .u64 (xs 42), .int .u64 (xs 43), .slice AMove6 NMove6 CMove6], .int .i64 0]), (.agg #[.int .u64 (xs 38), .int .u64 (xs 39), .int .u64 (xs 40), .int .u64 (xs 41), .int .u64 (xs 42), .int .u64 (xs 43), .slice AMove6 NMove6 CMove6]), (.int .i64 0), (.pointer (some ⟨g1v, 15, none⟩)), (.agg #[.int .u64 (xs 15), .int .u64 (xs 16), .slice (aa 17) (ns 17) (cc 17), .bool (ts 18), .int .u64 (xs 19), .bool (ts 20), .int .u64 (xs 21), .slice (aa 22) (ns 22) (cc 22), .slice (aa 23) (ns 23) (cc 23), .slice (aa 24) (ns 24) (cc 24)]), (.pointer (some ⟨g38v, 2, none⟩)), (.agg #[.slice (aa 17) (ns 17) (cc 17)]), (.agg #[.slice Anv2 Nnv2 Cnv2]), (.pointer (some ⟨g38v, 7, none⟩)), (.agg #[.slice (aa 22) (ns 22) (cc 22)]), (.agg #[.slice Anv7 Nnv7 Cnv7]), (.pointer (some ⟨g38v, 8, none⟩)), (.agg #[.slice (aa 23) (ns 23) (cc 23)]), (.agg #[.slice Anv8 Nnv8 Cnv8]), (.pointer (some ⟨g38v, 9, none⟩)), (.agg #[.slice (aa 24) (ns 24) (cc 24)]), (.agg #[.slice Anv9 Nnv9 Cnv9]), (.pointer (some ⟨g38v, 2, none⟩)), (.pointer (some ⟨g38v, 7, none⟩)), (.pointer (some ⟨g38v, 8, none⟩)), (.pointer (some ⟨g38v, 9, none⟩)), (.pointer (some ⟨g1v, 38, none⟩)), (.agg #[.int .u64 (xs 38), .int .u64 (xs 39), .int .u64 (xs 40), .int .u64 (xs 41), .int .u64 (xs 42), .int .u64 (xs 43), .slice (aa 44) (ns 44) (cc 44)]), (.pointer (some ⟨g47v, 6, none⟩)), (.agg #[.slice (aa 44) (ns 44) (cc 44)]), (.agg #[.slice Anm Nnm Cnm]), (.pointer (some ⟨g47v, 6, none⟩)), (.int .i64 0), (.int .i64 0), (.int .i64 0), (.int .i64 0), (.int .i64 0), (.int .i64 0), (.int .i64 0), (.bool true), (.bool true), (.agg #[.int .u64 (xs 15), .int .u64 (xs 16), .slice AVal2 NVal2 CVal2, .bool (ts 18), .int .u64 (xs 19), .bool (ts 20), .int .u64 (xs 21), .slice AVal7 NVal7 CVal7, .slice AVal8 NVal8 CVal8, .slice AVal9 NVal9 CVal9]), (.agg #[.int .u64 (xs 15), .int .u64 (xs 16), .slice Anv2 Nnv2 Cnv2, .bool (ts 18), .int .u64 (xs 19), .bool (ts 20), .int .u64 (xs 21), .slice Anv7 Nnv7 Cnv7, .slice Anv8 Nnv8 Cnv8, .slice Anv9 Nnv9 Cnv9]), (.bool true), (.bool true), (.bool true), (.agg #[.slice ADelegation0 NDelegation0 CDelegation0, .int .u64 (xs 26), .slice ADelegation2 NDelegation2 CDelegation2]), (.pointer (some ⟨g1v, 25, none⟩)), (.pointer (some ⟨g1v, 25, none⟩)), (.agg #[.slice (aa 25) (ns 25) (cc 25)]), (.agg #[.slice Ang0 Nng0 Cng0]), (.pointer (some ⟨g1v, 25, none⟩)), (.pointer (some ⟨g1v, 26, none⟩)), (.int .u64 (xs 26)), (.pointer (some ⟨g1v, 25, none⟩)), (.pointer (some ⟨g1v, 27, none⟩)), (.agg #[.slice (aa 27) (ns 27) (cc 27)]), (.agg #[.slice Ang2 Nng2 Cng2]), (.agg #[.slice Ang0 Nng0 Cng0, .int .u64 (xs 26), .slice Ang2 Nng2 Cng2]), (.bool true), (.bool true), (.bool true), (.agg #[.slice AHistory0 NHistory0 CHistory0, .int .u64 (xs 29)]), (.pointer (some ⟨g1v, 28, none⟩)), (.pointer (some ⟨g1v, 28, none⟩)), (.agg #[.slice (aa 28) (ns 28) (cc 28)]), (.agg #[.slice Anh0 Nnh0 Cnh0]), (.pointer (some ⟨g1v, 28, none⟩)), (.pointer (some ⟨g1v, 29, none⟩)), (.int .u64 (xs 29)), (.agg #[.slice Anh0 Nnh0 Cnh0, .int .u64 (xs 29)]), (.bool true), (.bool true), (.bool true), (.agg #[.int .u64 (xs 38), .int .u64 (xs 39), .int .u64 (xs 40), .int .u64 (xs 41), .int .u64 (xs 42), .int .u64 (xs 43), .slice AMove6 NMove6 CMove6]), (.agg #[.int .u64 (xs 38), .int .u64 (xs 39), .int .u64 (xs 40), .int .u64 (xs 41), .int .u64 (xs 42), .int .u64 (xs 43), .slice Anm Nnm Cnm]), (.bool true), (.bool true)], []⟩) (by kernel_rfl) ?_
  go_wp2
  go_ret
  exact ⟨rfl, BB⟩
end Rc
end Go.Proofs.YthiddfachcpjeaaGreat
