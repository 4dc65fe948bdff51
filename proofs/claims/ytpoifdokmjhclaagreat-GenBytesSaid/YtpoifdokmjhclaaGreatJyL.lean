/- Several texts, joined: GnO. -/
import Derived.Test.YtpoifdokmjhclaaGreatJyJ
import Derived.Test.YtpoifdokmjhclaaGreatJyK
import Derived.Test.YtpoifdokmjhclaaGreatJyb
namespace Go.Proofs.YtpoifdokmjhclaaGreat
namespace Fo
open Go.RowKit Go.Lib Pg Lim Gl Kv Bk Pw Sd Di
attribute [local go_sem] Oper.semAt_some
set_option maxRecDepth 100000
set_option linter.unusedVariables false
set_option linter.unusedSimpArgs false
set_option maxHeartbeats 4000000
theorem info_P : (Tryz.prog.info? 43).map (fun i => (i.zero, i.size, i.bytes)) = some (some (.agg #[.int .u64 0, .int .u64 0]), 2, 16) := by kernel_rfl
theorem under_P : Tryz.prog.underlying 25 = some (.slice 43) := by kernel_rfl
theorem app_P {w : World} {g g1 : Nat} (h : Blk w g [.int .u64 16, .int .u64 100] 43) (X : Blk w g1 [.int .u64 16, .int .u64 100] 43) :
    ∃ b c sp w', (Builtin.append_ #[25, 25] 25 #[.slice (some ⟨g, 0, none⟩) 1 1, sg 1 g1]).run Tryz.prog w = .ok (.slice (some ⟨b, 0, none⟩) 2 c) w' ∧ Blk w' b ([.int .u64 16, .int .u64 100, .int .u64 16, .int .u64 100] ++ sp) 43 ∧ w.heap.size ≤ b ∧ Below w.heap.size w w' := by
  obtain ⟨i0, hi, hz0, hz1, hz2⟩ := info_parts info_P
  have hr := run_append_grow (P := Tryz.prog) w 25 25 43 i0 (.agg #[.int .u64 0, .int .u64 0]) under_P hi hz0 ⟨g, 0, none⟩ 1 1 [.int .u64 16, .int .u64 100] (by rw [hz1]; rfl)
    (fun j u hj => by
      rw [addr_add, Nat.zero_add]
      exact h.cell hj) ⟨g1, 0, none⟩ 1 1 [.int .u64 16, .int .u64 100] (by rw [hz1]; rfl)
    (fun j u hj => by
      rw [addr_add, Nat.zero_add]
      exact X.cell hj) (by omega) (by omega) (growslice_fits (by omega) (by rw [hz2]; omega))
  refine ⟨_, _, (Builtin.zeroCells (Value.agg #[.int .u64 0, .int .u64 0]).cells (grownCap w (1 + 1) 1 43 - (1 + 1))).toList, _, hr, ?_, Nat.le_refl _, ?_⟩
  · have e : ([.int .u64 16, .int .u64 100].toArray ++ [.int .u64 16, .int .u64 100].toArray ++ Builtin.zeroCells (Value.agg #[.int .u64 0, .int .u64 0]).cells (grownCap w (1 + 1) 1 43 - (1 + 1))) = (([.int .u64 16, .int .u64 100, .int .u64 16, .int .u64 100] : List Value) ++ (Builtin.zeroCells (Value.agg #[.int .u64 0, .int .u64 0]).cells (grownCap w (1 + 1) 1 43 - (1 + 1))).toList).toArray := by simp
    rw [e]
    exact blk_new w.drew _ _
  · have b := below_alloc w.drew (.cells ([.int .u64 16, .int .u64 100].toArray ++ [.int .u64 16, .int .u64 100].toArray ++ Builtin.zeroCells (Value.agg #[.int .u64 0, .int .u64 0]).cells (grownCap w (1 + 1) 1 43 - (1 + 1))) 43)
    exact ⟨b.os, b.tape, b.output, b.size, b.block⟩
theorem run_apP {ρ : Operand → Value} {w w' : World} {o : Oper} {q v r : Value} (hr : (Builtin.append_ #[25, 25] 25 #[q, v]).run Tryz.prog w = .ok r w') (ho : ∃ x y, o.op = .call { callee := .builtin .append, args := #[x, y], argTypes := #[25, 25] } ∧ o.type = 25 ∧ ρ x = q ∧ ρ y = v := by exact ⟨_, _, rfl, rfl, by kernel_rfl, by kernel_rfl⟩) : (execOp ρ o).run Tryz.prog w = .ok (.value r) w' := by
  obtain ⟨x, y, h, ht, h1, h2⟩ := ho
  unfold execOp
  simp only [h, ht, resolve, invoke, builtin, Sem.run_bind, Sem.run_pure, Result.andThen_ok, List.map_toArray, List.map_cons, List.map_nil, h1, h2, hr]
theorem blk_mine {w : World} {B g n : Nat} {L : List Int} (X : Blk w g (L.map (Value.int .u8)) 5) (hB : B ≤ g) (hn : L.length = n) (hm : n ≤ 1000000) : MineB w B (sg n g) L := by
  subst hn
  exact ⟨by rw [List.length_map, Nat.mul_one], .inr ⟨g, L.length, (L.map (Value.int .u8)).toArray, rfl, hB, X.blk, Nat.le_refl _, by unfold maxLen; omega, by simp, by rw [Nat.mul_one, List.take_of_length_le (by simp)]⟩⟩
theorem app_full {w : World} {g g1 : Nat} {M : List Int} {x : Int} (h : Blk w g (M.map (Value.int .u8)) 5) (X : Blk w g1 [.int .u8 x] 5) (ho : Octets M) (hx : 0 ≤ x ∧ x < 256) (hl : M.length ≤ 100000) :
    ∃ b c w', (Builtin.append_ #[29, 29] 29 #[.slice (some ⟨g, 0, none⟩) M.length M.length, sg 1 g1]).run Tryz.prog w = .ok (.slice (some ⟨b, 0, none⟩) (M.length + 1) c) w' ∧ ByA w' b (some ⟨b, 0, none⟩) (M.length + 1) c (M ++ [x]) ∧ Below w.heap.size w w' := by
  obtain ⟨i0, hi, hz0, hz1, hz2⟩ := info_parts info_u8
  have hM := blk_mine h (Nat.le_refl g) rfl (show M.length ≤ 1000000 by omega)
  have holds := World.ownsRow.cells hM (g := g) rfl
  have hr := run_append_grow (P := Tryz.prog) w 29 29 5 i0 (.int .u8 0) under_bytes hi hz0 ⟨g, 0, none⟩ M.length M.length (M.map (Value.int .u8)) (by rw [List.length_map, hz1, Nat.mul_one]) holds ⟨g1, 0, none⟩ 1 1 [.int .u8 x] (by rw [hz1]; rfl)
    (fun j u hj => by
      match j, hj with
      | 0, hj => cases hj; exact X.cell (i := 0) rfl
      | j + 1, hj => simp at hj) (by omega) (by omega) (growslice_fits (by omega) (by rw [hz2]; omega))
  have hge := grownCap_ge w (M.length + 1) M.length 5
  have hcm : grownCap w (M.length + 1) M.length 5 ≤ maxLen := grownCap_le_maxLen w _ _ _ (by unfold maxLen; omega)
  refine ⟨_, _, _, hr, ⟨0, by simp, hge, ⟨by unfold maxLen at hcm; omega, fun e => by cases e⟩, fun y hy => ?_, .inr rfl, fun i hi => ?_⟩, ?_⟩
  · rcases List.mem_append.1 hy with h1 | h1
    · exact ho y h1
    · rw [List.mem_singleton] at h1; subst h1; exact hx
  · have hb := heap_alloc_new w.drew (.cells ((M.map (Value.int .u8)).toArray ++ [Value.int .u8 x].toArray ++ Builtin.zeroCells (Value.int .u8 0).cells (grownCap w (M.length + 1) M.length 5 - (M.length + 1))) 5)
    rw [Nat.zero_add]
    show World.cell? _ ⟨w.drew.heap.size, i, none⟩ = _
    simp only [World.cell?, hb]
    have e1 : ((M.map (Value.int .u8)).toArray ++ [Value.int .u8 x].toArray) = ((M ++ [x]).map (Value.int .u8)).toArray := by simp
    rw [e1, Array.getElem?_append_left (by simpa using hi), List.getElem?_toArray, List.getElem?_map, List.getElem?_eq_getElem hi, nth_eq hi]
    rfl
  · have b := below_alloc w.drew (.cells ((M.map (Value.int .u8)).toArray ++ [Value.int .u8 x].toArray ++ Builtin.zeroCells (Value.int .u8 0).cells (grownCap w (M.length + 1) M.length 5 - (M.length + 1))) 5)
    exact ⟨b.os, b.tape, b.output, b.size, b.block⟩
theorem run_apB {ρ : Operand → Value} {w w' : World} {o : Oper} {u v r : Value} (hr : (Builtin.append_ #[29, 29] 29 #[u, v]).run Tryz.prog w = .ok r w') (ho : ∃ x y, o.op = .call { callee := .builtin .append, args := #[x, y], argTypes := #[29, 29] } ∧ o.type = 29 ∧ ρ x = u ∧ ρ y = v := by exact ⟨_, _, rfl, rfl, by kernel_rfl, by kernel_rfl⟩) : (execOp ρ o).run Tryz.prog w = .ok (.value r) w' := by
  obtain ⟨x, y, h, ht, h1, h2⟩ := ho
  unfold execOp
  simp only [h, ht, resolve, invoke, builtin, Sem.run_bind, Sem.run_pure, Result.andThen_ok, List.map_toArray, List.map_cons, List.map_nil, h1, h2, hr]
theorem app_fm {w : World} {g g1 m : Nat} {M : List Int} {x : Int} (h : Blk w g (M.map (Value.int .u8)) 5) (X : Blk w g1 [.int .u8 x] 5) (ho : Octets M) (hm : M.length = m) (hx : 0 ≤ x ∧ x < 256 := by exact ⟨by decide, by decide⟩) (hl : m ≤ 100000 := by decide) :
    ∃ b c w', (Builtin.append_ #[29, 29] 29 #[.slice (some ⟨g, 0, none⟩) m m, sg 1 g1]).run Tryz.prog w = .ok (.slice (some ⟨b, 0, none⟩) (m + 1) c) w' ∧ ByA w' b (some ⟨b, 0, none⟩) (m + 1) c (M ++ [x]) ∧ Below w.heap.size w w' := by
  subst hm
  exact app_full h X ho hx hl
def gb_y : List Int := Gn.bG ⟨[1, 1, 1, 0, 0, 0, 0, 0, 0, 16], [16, 100], [16, 500, 10]⟩ 1 1
theorem gl_y : gb_y.length = 132 := by decide +kernel
theorem go_y : Octets gb_y := Gn.bG_oct _ _ _
theorem ge_y : Gn.eD gb_y = 0 := by decide +kernel
theorem gd_y : Gn.gD gb_y = ⟨[1, 1, 1, 0, 0, 0, 0, 0, 0, 16], [16, 100], [16, 500, 10]⟩ := by kernel_rfl
def gb_n : List Int := Gn.bG ⟨[1, 1, 1, 0, 0, 0, 0, 0, 0, 16], [16, 100], [17, 500, 10]⟩ 1 1
theorem gl_n : gb_n.length = 132 := by decide +kernel
theorem go_n : Octets gb_n := Gn.bG_oct _ _ _
theorem ge_n : Gn.eD gb_n = 0 := by decide +kernel
theorem gd_n : Gn.gD gb_n = ⟨[1, 1, 1, 0, 0, 0, 0, 0, 0, 16], [16, 100], [17, 500, 10]⟩ := by kernel_rfl
def gb_a : List Int := Gn.bG ⟨[1, 1, 1, 0, 0, 0, 0, 0, 0, 16], [16, 100, 16, 100], [17, 500, 10]⟩ 2 1
theorem gl_a : gb_a.length = 148 := by decide +kernel
theorem go_a : Octets gb_a := Gn.bG_oct _ _ _
theorem ge_a : Gn.eD gb_a = 0 := by decide +kernel
theorem gd_a : Gn.gD gb_a = ⟨[1, 1, 1, 0, 0, 0, 0, 0, 0, 16], [16, 100, 16, 100], [17, 500, 10]⟩ := by kernel_rfl
def gb_p : List Int := Gn.bG ⟨[0, 1, 1, 0, 0, 0, 0, 0, 0, 16], [16, 100, 16, 100], [17, 500, 10]⟩ 2 1
theorem gl_p : gb_p.length = 148 := by decide +kernel
theorem go_p : Octets gb_p := Gn.bG_oct _ _ _
theorem ge_p : Gn.eD gb_p = 0 := by decide +kernel
theorem gd_p : Gn.gD gb_p = ⟨[0, 1, 1, 0, 0, 0, 0, 0, 0, 16], [16, 100, 16, 100], [17, 500, 10]⟩ := by kernel_rfl
theorem ge_d : Gn.eD (gb_y ++ [0]) = 210 := by decide +kernel
end Fo
end Go.Proofs.YtpoifdokmjhclaaGreat
