/- gleanlaw3.RatSplit returns true for every list of fractions and every number. -/
import Derived.Test.YtjihgkanbhccpaaGreatDoorJRatSplit
namespace Go.Proofs.YtjihgkanbhccpaaGreatDoor
namespace ratSplit
open Go.RowKit Lim

theorem cut_h {w : World} {a : Act} {o : Oper} {x k : Nat} {ao : Option Addr} {n c m : Nat} (ho : o.op = .slice 22 (.tmp x) none (some (.tmp k)) none) (hx : a.eval (.tmp x) = .slice ao n c) (hk : a.eval (.tmp k) = .int .i64 (m : Int)) (h : m ≤ c) :
    (execOp a.eval o).run Tryz.prog w = .ok (.value (.slice ao m c)) w := by
  have s : (sizeOf (Tryz.prog.elem 22)).run Tryz.prog w = .ok 2 w := by kernel_rfl
  have t := run_slice_h (P := Tryz.prog) w 22 ao n c (by kernel_rfl) .i64 (m : Int) (by omega) (by omega)
  rw [s] at t
  have hv : sliced ao 0 (m : Int).toNat c 2 = .slice ao m c := by
    unfold sliced
    have : (if c = 0 then ao else ao.map (·.add (0 * 2))) = ao := by
      split
      · rfl
      · cases ao <;> rfl
    rw [this]; simp
  have t' : (Instr.sliceAt 22 (.slice ao n c) none (some (.int .i64 (m : Int))) none).run Tryz.prog w = .ok (.slice ao m c) w := by
    rw [run_sliceAt_slice (P := Tryz.prog) w 22 _ _ _ _ (by kernel_rfl), t]
    simp only [Result.andThen, hv]
  simp only [execOp, ho, hx, hk, Option.map]
  simp [t']
theorem cut_l {w : World} {a : Act} {o : Oper} {x k : Nat} {ao : Option Addr} {n c m : Nat} (ho : o.op = .slice 22 (.tmp x) (some (.tmp k)) none none) (hx : a.eval (.tmp x) = .slice ao n c) (hk : a.eval (.tmp k) = .int .i64 (m : Int)) (h : m ≤ n) :
    (execOp a.eval o).run Tryz.prog w = .ok (.value (.slice (if c = m then ao else ao.map (·.add (m * 2))) (n - m) (c - m))) w := by
  have s : (sizeOf (Tryz.prog.elem 22)).run Tryz.prog w = .ok 2 w := by kernel_rfl
  have t := run_slice_l (P := Tryz.prog) w 22 ao n c (by kernel_rfl) .i64 (m : Int) (by omega) (by omega)
  rw [s] at t
  have hv : sliced ao (m : Int).toNat n c 2 = .slice (if c = m then ao else ao.map (·.add (m * 2))) (n - m) (c - m) := by
    unfold sliced
    rw [Int.toNat_natCast]
  have t' : (Instr.sliceAt 22 (.slice ao n c) (some (.int .i64 (m : Int))) none none).run Tryz.prog w = .ok (.slice (if c = m then ao else ao.map (·.add (m * 2))) (n - m) (c - m)) w := by
    rw [run_sliceAt_slice (P := Tryz.prog) w 22 _ _ _ _ (by kernel_rfl), t]
    simp only [Result.andThen, hv]
  simp only [execOp, ho, hx, hk, Option.map]
  simp [t']
  cases ao <;> rfl
theorem add_none (b o n : Nat) : (⟨b, o, none⟩ : Addr).add n = ⟨b, o + n, none⟩ := by
  unfold Addr.add
  split
  · subst n; rfl
  · rfl
theorem ratl_cut {w : World} {ao : Option Addr} {n c m : Nat} {l : List (Int × Int)} {B : Nat} (h : RatL w ao l B) (hl : l.length = n) (hn : n ≤ c) (hm : m ≤ n) : RatL w (if c = m then ao else ao.map (·.add (m * 2))) (l.drop m) B := by
  by_cases h0 : n = m
  · have : l.drop m = [] := List.drop_eq_nil_of_le (by omega)
    rw [this]
    exact ⟨fun i hi => by simp at hi⟩
  · obtain ⟨b, o, a0, n0, c0, a1, n1, c1, e, _⟩ := h.get 0 (by omega)
    subst e
    rw [if_neg (by omega)]
    rw [show Option.map (fun x : Addr => x.add (m * 2)) (some ⟨b, o, none⟩) = some ⟨b, o + m * 2, none⟩ from congrArg some (add_none b o (m * 2))]
    exact h.drop m
theorem splits (l : List (Int × Int)) (m : Nat) : (rsum l).1 * ((rsum (l.take m)).2 * (rsum (l.drop m)).2) = ((rsum (l.take m)).1 * (rsum (l.drop m)).2 + (rsum (l.drop m)).1 * (rsum (l.take m)).2) * (rsum l).2 := by
  have := rsum_append (l.take m) (l.drop m)
  rw [List.take_append_drop] at this
  rw [this]
set_option maxHeartbeats 1000000 in
set_option maxRecDepth 100000 in
theorem place (k : Int) (n : Nat) (hn : n ≤ 1000) (w : World) :
    Calls Tryz.prog 15 #[.int .i64 k, .int .i64 ((n : Int) + 1)] w fun e w' => ∃ m : Nat, m ≤ n ∧ e = .returned (.int .i64 m) ∧ w' = w := by
  have hpos : (0 : Int) < (n : Int) + 1 := by omega
  have hne : ¬ (n : Int) + 1 = 0 := by omega
  have hn1 : ¬ (n : Int) + 1 = -1 := by omega
  have h0 := Int.lt_tmod_of_pos k hpos
  have h1 := Int.tmod_lt_of_pos k hpos
  go_enter Tryz.func15, Tryz.ntmps15
  by_cases hneg : Int.tmod k ((n : Int) + 1) < 0
  · go_wp2
    go_ret
    exact ⟨(k.tmod ((n : Int) + 1) + ((n : Int) + 1)).toNat, by omega, ret1 (by omega), rfl⟩
  · go_wp2
    go_ret
    exact ⟨(k.tmod ((n : Int) + 1)).toNat, by omega, ret1 (by omega), rfl⟩
set_option maxHeartbeats 8000000 in
set_option maxRecDepth 100000 in
theorem walk (a0 : Option Addr) (len0 cap0 : Nat) (k1 : Int) (w : World) (w0 : RatsIn w a0 len0 cap0) (_wk1 : (Lit.int .i64 k1).wf = true) :
    Calls Tryz.prog 3 #[.slice a0 len0 cap0, .int .i64 k1] w fun e w' => e = .returned (.bool true) ∧ Below w.heap.size w w' := by
  obtain ⟨p, q, l, hl, hlen, hcell, hRL⟩ := w0.open
  have hle := w0.le
  have hmx := w0.most
  clear _wk1
  have HL := (show Hid (_ ∧ _ ∧ _) from ⟨hlen, hcell, hRL⟩)
  have HC : Hid (RatsIn w a0 len0 cap0) := w0
  clear hlen hcell hRL w0
  go_enter Tryz.func3, Tryz.ntmps3
  go_wp2_with fail
  refine (knownQ w).mono ?_
  rintro e u1 ⟨rfl, HB⟩
  by_cases h12 : len0 ≤ 12
  · obtain ⟨hlen, hcell, hRL⟩ := HL.out
    have hcell1 : ∀ i, i < len0 → ∃ b o, a0 = some ⟨b, o, none⟩ ∧ u1.cell? ⟨b, o + i * 2, none⟩ = some (.slice (p i).1 (p i).2.1 (p i).2.2) ∧ u1.cell? ⟨b, o + i * 2 + 1, none⟩ = some (.slice (q i).1 (q i).2.1 (q i).2.2) := by
      intro i hi
      obtain ⟨b, o, e, h1, h2⟩ := hcell i hi
      exact ⟨b, o, e, by rw [HB.cell (p := ⟨b, o + i * 2, none⟩) (cell_lt h1)]; exact h1, by rw [HB.cell (p := ⟨b, o + i * 2 + 1, none⟩) (cell_lt h2)]; exact h2⟩
    have tS := smallQ_any p q a0 len0 cap0 u1 (by omega) hlen hcell1
    have HS : Hid (smallQ len0 (fun i => (p i).2.1) (fun i => (q i).2.1) = true → RatL w a0 l 12) := fun h => hRL 12 fun i hi => smallQ_out h hi
    generalize smallQ len0 (fun i => (p i).2.1) (fun i => (q i).2.1) = sm at *
    clear hlen hcell hRL hcell1 HL HC
    have h12' : (len0 : Int) ≤ 12 := by omega
    cases sm with
    | false =>
      go_wp2_with fail
      refine tS.mono ?_
      rintro e u2 ⟨rfl, rfl⟩
      go_wp2
      go_ret
      exact ⟨rfl, HB⟩
    | true =>
      have RL := HS.out rfl
      clear HS
      replace RL := RL.keep HB
      go_wp2_with fail
      refine tS.mono ?_
      rintro e u2 ⟨rfl, rfl⟩
      clear tS
      go_wp2_with fail
      refine (place k1 len0 (by omega) _).mono ?_
      rintro e u3 ⟨m, hm, rfl, rfl⟩
      go_wp2_with fail
      have HE := (show Hid _ from splits l m)
      have RT := RL.take m
      have RD := ratl_cut RL hl hle hm
      refine rg_start (S := fun w' => Below u3.drew.heap.size u3.drew w') (by kernel_rfl) (Below.refl _ _) ?_
      replace RL := RL.drew
      replace RT := RT.drew
      replace RD := RD.drew
      replace HB := HB.drew
      have hS := Below.refl u3.drew.heap.size u3.drew
      refine rg_take 0 (some 20) (.slice a0 len0 cap0) (by kernel_rfl) (fun _ _ => by kernel_rfl) (fun _ _ _ h => h) hS ?_
      refine rg_take 2 (some 22) (.slice a0 len0 cap0) (by kernel_rfl) (fun _ _ => by kernel_rfl) (fun _ _ _ h => h) hS ?_
      refine rg_take 3 (some 23) (.int .i64 m) (by kernel_rfl) (fun _ _ => by kernel_rfl) (fun _ _ _ h => h) hS ?_
      refine rg_take 4 (some 24) (.slice a0 m cap0) (by kernel_rfl) (fun _ _ => cut_h rfl rfl rfl (by omega)) (fun _ _ _ h => h) hS ?_
      refine rg_take 6 (some 26) (.slice a0 len0 cap0) (by kernel_rfl) (fun _ _ => by kernel_rfl) (fun _ _ _ h => h) hS ?_
      refine rg_take 7 (some 27) (.int .i64 m) (by kernel_rfl) (fun _ _ => by kernel_rfl) (fun _ _ _ h => h) hS ?_
      refine rg_take 8 (some 28) (.slice (if cap0 = m then a0 else a0.map (·.add (m * 2))) (len0 - m) (cap0 - m)) (by kernel_rfl) (fun _ _ => cut_l rfl rfl rfl (by omega)) (fun _ _ _ h => h) hS ?_
      refine rg_call 1 (some 21) 17 #[.slice a0 len0 cap0] (by kernel_rfl) (by kernel_rfl) (cSum hl h12 RL) ?_
      rintro e r1 ⟨Aa, Na, Ca, Ba, Ma, Da, rfl, Qa, hB⟩
      refine ⟨_, rfl, joinB hS hB, ?_⟩
      replace hS := joinB hS hB
      replace RL := RL.keep hB
      replace RT := RT.keep hB
      replace RD := RD.keep hB
      replace HB := joinB HB hB
      clear hB
      refine rg_call 5 (some 25) 17 #[.slice a0 m cap0] (by kernel_rfl) (by kernel_rfl) (cSum (l := l.take m) (by rw [List.length_take]; omega) (by omega) RT) ?_
      rintro e r2 ⟨Ab, Nb, Cb, Bb, Mb, Db, rfl, Qb, hB⟩
      refine ⟨_, rfl, joinB hS hB, ?_⟩
      replace hS := joinB hS hB
      replace RL := RL.keep hB
      replace RT := RT.keep hB
      replace RD := RD.keep hB
      replace Qa := Qa.keep hB
      replace HB := joinB HB hB
      clear hB
      refine rg_call 9 (some 29) 17 #[.slice (if cap0 = m then a0 else a0.map (·.add (m * 2))) (len0 - m) (cap0 - m)] (by kernel_rfl) (by kernel_rfl) (cSum (l := l.drop m) (by rw [List.length_drop, hl]) (by omega) RD) ?_
      rintro e r3 ⟨Ac, Nc, Cc, Bc, Mc, Dc, rfl, Qc, hB⟩
      refine ⟨_, rfl, joinB hS hB, ?_⟩
      replace hS := joinB hS hB
      replace RL := RL.keep hB
      replace RT := RT.keep hB
      replace RD := RD.keep hB
      replace Qa := Qa.keep hB
      replace Qb := Qb.keep hB
      replace HB := joinB HB hB
      clear hB
      refine rg_call 10 (some 30) 18 #[.agg #[.slice Ab Nb Cb, .slice Bb Mb Db], .agg #[.slice Ac Nc Cc, .slice Bc Mc Dc]] (by kernel_rfl) (by kernel_rfl) (cAdd Qb.v Qc.v (by omega)) ?_
      rintro e r4 ⟨Ad, Nd, Cd, Bd, Md, Dd, rfl, Qd, hB⟩
      refine ⟨_, rfl, joinB hS hB, ?_⟩
      replace hS := joinB hS hB
      replace RL := RL.keep hB
      replace RT := RT.keep hB
      replace RD := RD.keep hB
      replace Qa := Qa.keep hB
      replace Qb := Qb.keep hB
      replace Qc := Qc.keep hB
      replace HB := joinB HB hB
      clear hB
      refine rg_call 11 (some 31) 16 #[.agg #[.slice Aa Na Ca, .slice Ba Ma Da], .agg #[.slice Ad Nd Cd, .slice Bd Md Dd]] (by kernel_rfl) (by kernel_rfl) (cSame (Qa.up (by omega)) (Qd.up (show 8 * 3000 + 16 ≤ 24016 by omega)) (by omega) true (decide_eq_true HE.out)) ?_
      rintro e r5 ⟨rfl, hB⟩
      refine ⟨_, rfl, joinB hS hB, ?_⟩
      replace hS := joinB hS hB
      replace RL := RL.keep hB
      replace RT := RT.keep hB
      replace RD := RD.keep hB
      replace Qa := Qa.keep hB
      replace Qb := Qb.keep hB
      replace Qc := Qc.keep hB
      replace Qd := Qd.keep hB
      replace HB := joinB HB hB
      clear hB
      refine rg_take 12 (some 4) (.bool true) (by kernel_rfl) (fun _ _ => by kernel_rfl) (fun _ _ _ h => h) hS ?_
      refine rg_done (by kernel_rfl) ?_
      clear hS
      generalize (if cap0 = m then a0 else a0.map (·.add (m * 2))) = a2 at *
      try simp only [Act.put, List.setIfInBounds_toArray, List.set_cons_zero, List.set_cons_succ]
      go_wp2
      go_ret
      exact ⟨rfl, HB⟩
  · have h12' : (12 : Int) < len0 := by omega
    clear HL HC
    go_wp2
    go_ret
    exact ⟨rfl, HB⟩
end ratSplit
end Go.Proofs.YtjihgkanbhccpaaGreatDoor
