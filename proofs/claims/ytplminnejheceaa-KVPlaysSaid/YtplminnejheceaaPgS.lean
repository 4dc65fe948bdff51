/- slices.BinarySearchFunc over a page; placeOf. -/
import Derived.Test.YtplminnejheceaaPgM
namespace Go.Proofs.Ytplminnejheceaa
namespace Pg
open Go.RowKit Go.Lib
theorem half_run (w : World) (i j m : Nat) (hm : m = (i + j) / 2) : (binOp .shr 130 (.int .u64 ((i : Int) + (j : Int))) (.int .u64 1)).run Try.prog w = .ok (.int .u64 m) w := by
  have : ((i : Int) + (j : Int)).fdiv 2 = (m : Int) := by
    rw [Int.fdiv_eq_ediv_of_nonneg _ (by decide)]; omega
  simp [binOp, Op.shift, go_sem, this]
set_option maxHeartbeats 2000000 in
set_option maxRecDepth 100000 in
theorem bsE {w : World} {D : Nat → Prop} {p : Pg} {v : Value} {k : List Int} (A : PgA w D p) (S : Srt (kys p.es)) (h : By w v k) (hn : p.es.length ≤ 1000000) :
    Calls Try.prog 91 #[p.v, v, .func (.func 92) #[] #[]] w fun e w' => e = .returned (.tuple #[.int .i64 (plc (kys p.es) k), .bool (thr (kys p.es) k)]) ∧ Below w.heap.size w w' := by
  obtain ⟨b, c, es⟩ := p
  simp only [Pg.v] at *
  have hcm := A.row.le
  simp only [maxLen] at hcm
  have hcm1 := hcm.1
  have hcm2 := hcm.2
  obtain ⟨n, hnn⟩ : ∃ n, es.length = n := ⟨_, rfl⟩
  rw [hnn] at hn hcm1 ⊢
  go_enter Try.func91, Try.ntmps91
  go_wp2
  go_loopw [9, 10] (fun ti tj wr => ∃ i j : Nat, ti = .int .i64 i ∧ tj = .int .i64 j ∧ i ≤ j ∧ j ≤ n ∧ Hid (∀ q x, q < i → (kys es)[q]? = some x → Lt x k) ∧ Hid (∀ q x, j ≤ q → (kys es)[q]? = some x → ¬ Lt x k) ∧ Below w.heap.size w wr) (fun ti tj _ => (intOf tj).toNat - (intOf ti).toNat)
  case atStart => exact ⟨0, n, rfl, rfl, Nat.zero_le _, Nat.le_refl _, fun q x hq => by omega, fun q x hq hx => by
    have := (List.getElem?_eq_some_iff.1 hx).1
    simp [kys] at this
    omega, Below.refl _ _⟩
  case round =>
    obtain ⟨i, j, rfl, rfl, hij, hjn, H1, H2, hB⟩ := hrel
    by_cases hlt : i < j
    · obtain ⟨m, hm⟩ : ∃ m, m = (i + j) / 2 := ⟨_, rfl⟩
      have hm1 : i ≤ m := by omega
      have hm2 : m < j := by omega
      obtain ⟨e, he⟩ : ∃ e, es[m]? = some e := ⟨es[m], List.getElem?_eq_getElem (by omega)⟩
      have A' := A.keep hB
      have q0 := A'.row.cell (flat_k he)
      have q1 := A'.row.cell (flat_v he)
      have hw0 : IntKind.i64.wrap ((i : Int) + (j : Int)) = (i : Int) + (j : Int) := by rw [IntKind.wrap_i64]; omega
      have hm0 : ((i : Int) + (j : Int)) / 2 < n := by omega
      have hm3 : (0 : Int) ≤ ((i : Int) + (j : Int)) / 2 := by omega
      have hwm : IntKind.i64.wrap (((i : Int) + (j : Int)) / 2) = ((i : Int) + (j : Int)) / 2 := by rw [IntKind.wrap_i64]; omega
      have tC := cmpE (vv := e.vv) ((A'.ents e (List.mem_of_getElem? he)).k.by) (h.keep hB)
      have hk : (kys es)[m]? = some e.kl := by simp [kys, he]
      rw [hm] at q0 q1
      have HM : Hid (m = (i + j) / 2) := hm
      clear A' hm
      by_cases hc : Lt e.kl k
      · rw [cmpB_lt hc] at tC
        go_wp2_with (go_at_call 92; refine tC.mono ?_; rintro e' w1 ⟨rfl, hB1⟩)
        go_roundw
        case rel => exact ⟨m + 1, j, by have := HM.out; congr 1; omega, rfl, by omega, hjn, fun q x hq hx => by
          by_cases hqm : q = m
          · subst hqm; rw [hk] at hx; cases hx; exact hc
          · exact S.get (by omega) hx hk |>.trans hc, H2.out, joinB hB hB1⟩
        case measure => have := HM.out; simp [intOf]; omega
      · have hx0 : ¬ (cmpB e.kl k < 0) := by
          rcases cmpB_cases e.kl k with q | q | q
          · exact absurd q hc
          · rw [q]; decide
          · rw [q]; decide
        generalize cmpB e.kl k = x at tC hx0
        go_wp2_with (go_at_call 92; refine tC.mono ?_; rintro e' w1 ⟨rfl, hB1⟩)
        go_roundw
        case rel => exact ⟨i, m, rfl, by have := HM.out; congr 1; omega, by omega, by omega, H1.out, fun q x hq hx => by
          by_cases hqm : q = m
          · subst hqm; rw [hk] at hx; cases hx; exact hc
          · intro hxk
            exact hc ((S.get (by omega) hk hx).trans hxk), joinB hB hB1⟩
        case measure => have := HM.out; simp [intOf]; omega
    · have hie : i = j := by omega
      subst hie
      have hp : Hid (plc (kys es) k = i) := plc_eq (by simp [kys]; omega) (fun q x hq hx => H1.out q x hq hx) (fun x hx => H2.out i x (Nat.le_refl _) hx)
      have A' := A.keep hB
      by_cases hin : i < n
      · obtain ⟨e, he⟩ : ∃ e, es[i]? = some e := ⟨es[i], List.getElem?_eq_getElem (by omega)⟩
        have q0 := A'.row.cell (flat_k he)
        have q1 := A'.row.cell (flat_v he)
        have hk : (kys es)[i]? = some e.kl := by simp [kys, he]
        have tC := cmpE (vv := e.vv) ((A'.ents e (List.mem_of_getElem? he)).k.by) (h.keep hB)
        have hT : Hid (thr (kys es) k = (cmpB e.kl k == 0)) := by
          show _ = _
          unfold thr
          rw [hp.out, hk]
          by_cases q : e.kl = k
          · subst q; simp [cmpB_refl]
          · have : cmpB e.kl k ≠ 0 := fun z => q (cmpB_eq z)
            simp [q, this]
        have hin0 : (i : Int) < n := by omega
        generalize cmpB e.kl k = x at tC hT
        clear A'
        go_wp2_with (go_at_call 92; refine tC.mono ?_; rintro e' w1 ⟨rfl, hB1⟩)
        all_goals (
          go_ret2
          refine ⟨?_, joinB hB hB1⟩
          rw [hT.out, hp.out]
          rfl)
      · have hT : Hid (thr (kys es) k = false) := by
          show _ = _
          unfold thr
          rw [hp.out, List.getElem?_eq_none (by simp [kys]; omega)]
          rfl
        have hin0 : ¬ ((i : Int) < n) := by omega
        go_wp2
        go_ret2
        refine ⟨?_, hB⟩
        rw [hT.out, hp.out]
        rfl
set_option maxHeartbeats 1000000 in
set_option maxRecDepth 100000 in
theorem placeOf_any {w : World} {D : Nat → Prop} {p : Pg} {v : Value} {k : List Int} (A : PgA w D p) (S : Srt (kys p.es)) (h : By w v k) (hn : p.es.length ≤ 1000000) :
    Calls Try.prog 81 #[p.v, v] w fun e w' => e = .returned (.tuple #[.int .i64 (plc (kys p.es) k), .bool (thr (kys p.es) k)]) ∧ Below w.heap.size w w' := by
  have t := bsE A S h hn
  generalize plc (kys p.es) k = x at *
  generalize thr (kys p.es) k = y at *
  simp only [Pg.v] at *
  clear A S h
  go_enter Try.func81, Try.ntmps81
  go_wp2_with (go_at_call 91; refine t.mono ?_; rintro e' w1 ⟨rfl, hB1⟩)
  go_ret2
  exact ⟨rfl, hB1⟩
end Pg
end Go.Proofs.Ytplminnejheceaa
