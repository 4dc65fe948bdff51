/- Several texts, joined: MgU. -/
import Derived.Test.YtpoifdokmjhclaaGreatJyq
import Derived.Test.YtpoifdokmjhclaaGreatJyb
namespace Go.Proofs.YtpoifdokmjhclaaGreat
namespace Mg
open Go.RowKit Go.Lib Pg Lim Gl
theorem Blk.byt {B : Nat} {w w' : World} {g : Nat} {cs : List Value} {t : TypeId} (h : Blk w g cs t) (b : Byt B w w') (ht : t ≠ 5) : Blk w' g cs t := ⟨by rw [b.typ g _ t _ h.blk ht]; exact h.blk⟩
theorem be1 {x : Int} (h : 0 ≤ x ∧ x < 256) : be 1 x = [x] := by
  have h1 := be_val 1 h.1
  have h2 := be_length 1 x
  rw [p1, Int.emod_eq_of_lt h.1 h.2] at h1
  match hb : be 1 x, h2 with
  | [y], _ =>
    rw [hb] at h1
    simpa [bval] using h1
theorem blk_mine {w : World} {B g n : Nat} {L : List Int} (X : Blk w g (L.map (Value.int .u8)) 5) (hB : B ≤ g) (hn : L.length = n) (hm : n ≤ 1000000) : MineB w B (sg n g) L := by
  subst hn
  exact ⟨by rw [List.length_map, Nat.mul_one], .inr ⟨g, L.length, (L.map (Value.int .u8)).toArray, rfl, hB, X.blk, Nat.le_refl _, by unfold maxLen; omega, by simp, by rw [Nat.mul_one, List.take_of_length_le (by simp)]⟩⟩
theorem blk_bya {w : World} {g : Nat} {l : List Int} (X : Blk w g (l.map (Value.int .u8)) 5) (ho : Octets l) (hl : l.length ≤ 1000000) : ByA w g (some ⟨g, 0, none⟩) l.length l.length l := by
  obtain ⟨b, ao, c, e, -, A⟩ := (blk_mine X (Nat.le_refl g) rfl hl).bya ho
  cases e
  obtain ⟨o, h1, h2, h3, h4, h5⟩ := A.ex
  exact ⟨0, h1, h2, h3, h4, .inr rfl, fun i hi => by
    rw [Nat.zero_add]
    exact X.cell (by rw [List.getElem?_map, List.getElem?_eq_getElem hi, nth_eq hi]; rfl)⟩
theorem nil_bya {w : World} {b : Nat} : ByA w b none 0 0 [] := ⟨0, rfl, Nat.le_refl _, ⟨by decide, fun _ => rfl⟩, fun y hy => (by cases hy), .inl rfl, fun i hi => by simp at hi⟩
theorem app_mb {w : World} {B g : Nat} {v : Value} {L : List Int} {x : Int} (hM : MineB w B v L) (X : Blk w g [.int .u8 x] 5) (hx : 0 ≤ x ∧ x < 256) (hB : B ≤ w.heap.size) (hL : L.length ≤ 1000000) :
    ∃ v' w', (Builtin.append_ #[29, 29] 29 #[v, sg 1 g]).run Tryz.prog w = .ok v' w' ∧ MineB w' B v' (L ++ be 1 x) ∧ Byt B w w' := by
  obtain ⟨i0, hi, hz0, hz1, hz2⟩ := info_parts info_u8
  have H := run_append_own (P := Tryz.prog) w B 29 29 5 i0 (.int .u8 0) 1 1 under_bytes hi hz0 hz1 hz2 rfl (by decide) v L.length (L.map (Value.int .u8)) hM ⟨g, 0, none⟩ 1 1 [.int .u8 x] rfl
    (fun j u hj => by
      match j, hj with
      | 0, hj => cases hj; exact X.cell (i := 0) rfl
      | j + 1, hj => simp at hj)
    (fun u hu => by rw [List.mem_singleton] at hu; subst hu; rfl) (by unfold maxLen; omega) (by omega) hB
  obtain ⟨v', w', h1, h2, h3, -⟩ := H
  refine ⟨v', w', h1, ?_, Byt.grown hM h3⟩
  rw [be1 hx]
  unfold MineB
  rw [List.length_append, List.map_append]
  exact h2
/-- an append to a list that is full: the list itself stays -/
theorem app_full {w : World} {g g1 : Nat} {M : List Int} {x : Int} (h : Blk w g (M.map (Value.int .u8)) 5) (X : Blk w g1 [.int .u8 x] 5) (ho : Octets M) (hx : 0 ≤ x ∧ x < 256) (hl : M.length ≤ 100000) :
    ∃ b c w', (Builtin.append_ #[29, 29] 29 #[.slice (some ⟨g, 0, none⟩) M.length M.length, sg 1 g1]).run Tryz.prog w = .ok (.slice (some ⟨b, 0, none⟩) (M.length + 1) c) w' ∧ ByA w' b (some ⟨b, 0, none⟩) (M.length + 1) c (M ++ [x]) ∧ Below w.heap.size w w' := by
  obtain ⟨i0, hi, hz0, hz1, hz2⟩ := info_parts info_u8
  have hM := blk_mine h (Nat.le_refl g) rfl (show M.length ≤ 1000000 by omega)
  have holds := World.ownsRow.cells hM (g := g) rfl
  have hr := run_append_grow (P := Tryz.prog) w 29 29 5 i0 (.int .u8 0) under_bytes hi hz0 ⟨g, 0, none⟩ M.length M.length (M.map (Value.int .u8)) (by rw [List.length_map, hz1, Nat.mul_one]) holds ⟨g1, 0, none⟩ 1 1 [.int .u8 x] (by rw [hz1]; rfl)
    (fun j u hj => by
      match j, hj with
      | 0, hj => cases hj; exact X.cell (i := 0) rfl
      | j + 1, hj => simp at hj) (by omega) (by omega) (growslice_fits (by omega) (by rw [hz2]; omega))
  have hge := grownCap_ge w (M.length + 1) M.length 5
  have hcm : grownCap w (M.length + 1) M.length 5 ≤ maxLen := grownCap_le_maxLen w _ _ _ (by unfold maxLen; omega)
  refine ⟨_, _, _, hr, ⟨0, by simp, hge, ⟨by unfold maxLen at hcm; omega, fun e => by cases e⟩, fun y hy => ?_, .inr rfl, fun i hi => ?_⟩, ?_⟩
  · rcases List.mem_append.1 hy with h1 | h1
    · exact ho y h1
    · rw [List.mem_singleton] at h1; subst h1; exact hx
  · have hb := heap_alloc_new w.drew (.cells ((M.map (Value.int .u8)).toArray ++ [Value.int .u8 x].toArray ++ Builtin.zeroCells (Value.int .u8 0).cells (grownCap w (M.length + 1) M.length 5 - (M.length + 1))) 5)
    rw [Nat.zero_add]
    show World.cell? _ ⟨w.drew.heap.size, i, none⟩ = _
    simp only [World.cell?, hb]
    have e1 : ((M.map (Value.int .u8)).toArray ++ [Value.int .u8 x].toArray) = ((M ++ [x]).map (Value.int .u8)).toArray := by simp
    rw [e1, Array.getElem?_append_left (by simpa using hi), List.getElem?_toArray, List.getElem?_map, List.getElem?_eq_getElem hi, nth_eq hi]
    rfl
  · have b := below_alloc w.drew (.cells ((M.map (Value.int .u8)).toArray ++ [Value.int .u8 x].toArray ++ Builtin.zeroCells (Value.int .u8 0).cells (grownCap w (M.length + 1) M.length 5 - (M.length + 1))) 5)
    exact ⟨b.os, b.tape, b.output, b.size, b.block⟩
theorem run_apB {ρ : Operand → Value} {w w' : World} {o : Oper} {u v r : Value} (hr : (Builtin.append_ #[29, 29] 29 #[u, v]).run Tryz.prog w = .ok r w') (ho : ∃ x y, o.op = .call { callee := .builtin .append, args := #[x, y], argTypes := #[29, 29] } ∧ o.type = 29 ∧ ρ x = u ∧ ρ y = v := by exact ⟨_, _, rfl, rfl, by kernel_rfl, by kernel_rfl⟩) : (execOp ρ o).run Tryz.prog w = .ok (.value r) w' := by
  obtain ⟨x, y, h, ht, h1, h2⟩ := ho
  unfold execOp
  simp only [h, ht, resolve, invoke, builtin, Sem.run_bind, Sem.run_pure, Result.andThen_ok, List.map_toArray, List.map_cons, List.map_nil, h1, h2, hr]
theorem put8 {w : World} {B : Nat} {x : Int} {v : Value} {L : List Int} (hM : MineB w B v L) (hB : B ≤ w.heap.size) (hL : L.length ≤ 1000) :
    Calls Tryz.prog 35 #[v, .int .i64 8, .int .u64 x] w fun e w' => ∃ v', e = .returned v' ∧ MineB w' B v' (L ++ be 8 x) ∧ Byt B w w' := put_any (n := 8) hM hB (by decide) (by omega)
theorem bytT {w : World} {b0 b1 n0 c0 n1 c1 : Nat} {a0 a1 : Option Addr} {l : List Int} (h0 : ByA w b0 a0 n0 c0 l) (h1 : ByA w b1 a1 n1 c1 l) (hn : l.length ≤ 100000) :
    Calls Tryz.prog 10 #[.slice a0 n0 c0, .slice a1 n1 c1] w fun e w' => e = .returned (.bool true) ∧ Below w.heap.size w w' := by
  have e0 : l.length = n0 := by obtain ⟨o, h, _⟩ := h0.ex; exact h
  have e1 : l.length = n1 := by obtain ⟨o, h, _⟩ := h1.ex; exact h
  have h := bSame h0 h1 (by omega) (by omega)
  have e : eqB l l = true := by simp [eqB]
  rw [e] at h
  exact h
theorem no_of {p : Prop} [Decidable p] (h : false = decide p) : ¬ p := of_decide_eq_false h.symm
theorem nok1 {i : It} (k : i.k = 1) (h : ¬ okM i.m i.a i.b i.n = true) : ¬ Ok i := fun o => h (Ok.msg o k)
theorem nokK {m a b n : Int} (h : m < 1 ∨ 10 < m) : ¬ okM m a b n = true := fun q => by have := uK_rng (okM_is q).1; omega
theorem okM_mk {m a b n : Int} (hm : 1 ≤ m ∧ m ≤ 10) (ha : uA m = true ∨ a = 0) (hb : uB m = true ∨ b = 0) (hn : uN m = true ∨ n = 0) : okM m a b n = true := by
  have : uK m = true := by unfold uK; exact decide_eq_true hm
  simp only [okM, this, Bool.true_and, Bool.and_eq_true, Bool.or_eq_true, decide_eq_true_eq]
  exact ⟨ha, hb, hn⟩
theorem rf_box {w : World} {g b n c : Nat} {ao : Option Addr} {l : List Int} (X : Blk w g [.slice ao n c, .int .i64 0] 70) (A : ByA w b ao n c l) : RfA w g b ((0 : Int), l).1 ((0 : Int), l).2 := ⟨ao, n, c, ⟨X.blk⟩, A⟩
theorem e84 : be 1 84 = [84] := by decide
theorem e70 : be 1 70 = [70] := by decide
end Mg
end Go.Proofs.YtpoifdokmjhclaaGreat
