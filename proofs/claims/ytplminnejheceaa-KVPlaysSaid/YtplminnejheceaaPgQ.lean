/- pageOf and find. -/
import Derived.Test.YtplminnejheceaaPgP
import Derived.WalkMore
namespace Go.Proofs.Ytplminnejheceaa
namespace Pg
open Go.RowKit Go.Lib

theorem ens_get {L : List Pg} {i : Nat} {p : Pg} (h : L[i]? = some p) : (ens L)[i]? = some p.es := by simp [ens, h]
theorem fks_get {L : List Pg} {i : Nat} {p : Pg} (h : L[i]? = some p) : (fks (ens L))[i]? = some ((kys p.es).headD []) := by simp [ens, fks, h]
/-- a page's first key -/
theorem MapA.head {w : World} {F D : Nat → Prop} {g : Nat} {L : List Pg} (A : MapA w F D g L) (O : Ord (ens L)) {i : Nat} {p : Pg} (h : L[i]? = some p) : ∃ kv, w.cell? ⟨p.b, 0, none⟩ = some kv ∧ By w kv ((kys p.es).headD []) := by
  have hp := List.mem_of_getElem? h
  have hm : p.es ∈ ens L := List.mem_map.2 ⟨p, hp, rfl⟩
  obtain ⟨e, l, he, hk⟩ := mem_head (O.full _ hm)
  obtain ⟨hA, _⟩ := A.pages p hp
  have q := hA.row.cell (i := 0) (v := e.kv) (by rw [he]; rfl)
  exact ⟨e.kv, q, by rw [hk]; exact (hA.ents e (by rw [he]; exact List.mem_cons_self)).k.by⟩
theorem MapA.rd {w : World} {F D : Nat → Prop} {g : Nat} {L : List Pg} (A : MapA w F D g L) : ∃ ao c, w.cell? ⟨g, 0, none⟩ = some (.slice ao L.length c) ∧ L.length ≤ c ∧ c ≤ 9223372036854775807 ∧ (∀ i p, L[i]? = some p → ∃ G, ao = some ⟨G, 0, none⟩ ∧ w.cell? ⟨G, i, none⟩ = some p.v) := by
  obtain ⟨pv, hb, hg, ⟨rfl, rfl⟩ | ⟨G, C, rfl, hG, hR⟩⟩ := A.top
  · exact ⟨_, _, hb.cell (i := 0) rfl, by decide, by decide, fun i p h => by simp at h⟩
  · have hl := hR.le
    simp only [maxLen] at hl
    exact ⟨_, C, hb.cell (i := 0) rfl, by omega, by omega, fun i p h => ⟨G, rfl, hR.cell (by simp [h])⟩⟩
set_option maxHeartbeats 2000000 in
set_option maxRecDepth 100000 in
theorem pageOf_any {w : World} {F D : Nat → Prop} {g : Nat} {L : List Pg} {v : Value} {k : List Int} (A : MapA w F D g L) (O : Ord (ens L)) (h : By w v k) (hn : L.length ≤ 1000000000) :
    Calls Try.prog 80 #[.pointer (some ⟨g, 0, none⟩), v] w fun e w' => e = .returned (.int .i64 (pgi (ens L) k)) ∧ Below w.heap.size w w' := by
  obtain ⟨ao, c, hc, hc1, hc2, hat⟩ := A.rd
  have hHs := O.heads
  obtain ⟨ks, hks⟩ : ∃ ks, Hid (fks (ens L) = ks) := ⟨_, rfl⟩
  rw [hks.out] at hHs
  obtain ⟨n, hnn⟩ : ∃ n, Hid (L.length = n) := ⟨_, rfl⟩
  rw [hnn.out] at hc hc1 hn
  have hkl : ks.length = n := by rw [← hks.out, ← hnn.out]; simp [fks, ens]
  have hbe : Below w.heap.size w w.drew := ⟨rfl, rfl, rfl, Nat.le_refl _, fun _ _ => rfl⟩
  have hcd : w.drew.cell? ⟨g, 0, none⟩ = some (.slice ao n c) := hc
  have hfin : ∀ (i : Nat), i ≤ n → (∀ q x, q < i → ks[q]? = some x → ¬ Lt k x) → (∀ q x, i ≤ q → ks[q]? = some x → Lt k x) → pgi (ens L) k = i - 1 := fun i hi h1 h2 => by
    unfold pgi
    rw [hks.out, plq_eq (i := i) (by omega) (fun j x hj hx => h1 j x hj hx) (fun x hx => h2 i x (Nat.le_refl _) hx)]
  have hfin : Hid _ := hfin
  have mixed := mixed
  go_enter Try.func80, Try.ntmps80
  go_wp2
  go_step3
  go_wp2
  go_region
  go_wp2
  go_step3
  go_wp2
  go_loopw [5, 6] (fun ti tj wr => ∃ i j : Nat, ti = .int .i64 i ∧ tj = .int .i64 j ∧ i ≤ j ∧ j ≤ n ∧ Hid (∀ q x, q < i → ks[q]? = some x → ¬ Lt k x) ∧ Hid (∀ q x, j ≤ q → ks[q]? = some x → Lt k x) ∧ Below w.heap.size w wr) (fun ti tj _ => (intOf tj).toNat - (intOf ti).toNat)
  case atStart => exact ⟨0, n, rfl, rfl, Nat.zero_le _, Nat.le_refl _, fun q x hq => by omega, fun q x hq hx => by
    have := (List.getElem?_eq_some_iff.1 hx).1
    omega, hbe⟩
  case round =>
    obtain ⟨i, j, rfl, rfl, hij, hjn, H1, H2, hB⟩ := hrel
    by_cases hlt : i < j
    · obtain ⟨m, hm⟩ : ∃ m, m = i + (j - i) / 2 := ⟨_, rfl⟩
      have hm1 : i ≤ m := by omega
      have hm2 : m < j := by omega
      obtain ⟨p, hp⟩ : ∃ p, L[m]? = some p := ⟨L[m]'(by have := hnn.out; omega), List.getElem?_eq_getElem _⟩
      have A' := A.keep hB
      have c0 : wr.cell? ⟨g, 0, none⟩ = some (.slice ao n c) := by
        rw [hB.cell (p := ⟨g, 0, none⟩) (by obtain ⟨_, hb, _⟩ := A.top; exact hb.lt)]; exact hc
      obtain ⟨G, rfl, cG⟩ := hat m p hp
      have cG' : wr.cell? ⟨G, m, none⟩ = some p.v := by
        rw [hB.cell (p := ⟨G, m, none⟩) (cell_lt cG)]; exact cG
      obtain ⟨kv, cK, bK⟩ := A'.head O hp
      have hkm : ks[m]? = some ((kys p.es).headD []) := by rw [← hks.out]; exact fks_get hp
      have hpe : 0 < p.es.length := by
        have := O.full p.es (List.mem_map.2 ⟨p, List.mem_of_getElem? hp, rfl⟩)
        exact List.length_pos_iff.2 this
      simp only [Pg.v] at cG'
      rw [hm] at cG'
      have tC := compare_any bK (h.keep hB)
      generalize (kys p.es).headD [] = kp at *
      have HM : Hid (m = i + (j - i) / 2) := hm
      have hz0 : (0 : Int) ≤ (i : Int) + ((j : Int) - (i : Int)) / 2 := by omega
      have hz1 : (i : Int) + ((j : Int) - (i : Int)) / 2 < n := by omega
      have hz2 : ((i : Int) + ((j : Int) - (i : Int)) / 2).toNat = i + (j - i) / 2 := by omega
      generalize p.es.length = pn at *
      clear A' hm bK
      rcases lt_tri kp k with hc | hc | hc
      · rw [cmpB_lt hc] at tC
        go_wp2_with (go_at_call 90; refine tC.mono ?_; rintro e' w1 ⟨rfl, rfl⟩)
        go_roundw
        case rel => exact ⟨m + 1, j, by have := HM.out; congr 1; omega, rfl, by omega, hjn, fun q x hq hx => by
          by_cases hqm : q = m
          · subst hqm; rw [hkm] at hx; cases hx; exact hc.not
          · exact ((hHs.get (by omega) hx hkm).trans hc).not, H2.out, hB⟩
        case measure => have := HM.out; simp [intOf]; omega
      · have hF := hfin.out (m + 1) (by omega) (fun q x hq hx => by
          subst hc
          by_cases hqm : q = m
          · subst hqm; rw [hkm] at hx; cases hx; exact lt_irrefl _
          · exact (hHs.get (by omega) hx hkm).not) (fun q x hq hx => by subst hc; exact hHs.get (by omega) hkm hx)
        have HF : Hid (pgi (ens L) k = m) := by show _ = _; rw [hF]; omega
        have HC : Hid (kp = k) := hc
        rw [hc, cmpB_refl] at tC
        have hx0 : (i : Int) + ((j : Int) - (i : Int)) / 2 + 1 - 1 = (i : Int) + ((j : Int) - (i : Int)) / 2 := by omega
        have hx1 : ¬ ((i : Int) + ((j : Int) - (i : Int)) / 2 < 0) := by omega
        clear hF hc
        go_wp2_with (go_at_call 90; refine tC.mono ?_; rintro e' w1 ⟨rfl, rfl⟩)
        simp only [Exit.noGoto_ret]
        go_ret
        refine ⟨?_, hB⟩
        rw [HF.out]
        have := HM.out
        show Ending.returned (Value.int .i64 ((i : Int) + ((j : Int) - (i : Int)) / 2)) = _
        rw [show (i : Int) + ((j : Int) - (i : Int)) / 2 = (m : Int) by omega]
      · rw [cmpB_gt hc] at tC
        go_wp2_with (go_at_call 90; refine tC.mono ?_; rintro e' w1 ⟨rfl, rfl⟩)
        go_roundw
        case rel => exact ⟨i, m, rfl, by have := HM.out; congr 1; omega, by omega, by omega, H1.out, fun q x hq hx => by
          by_cases hqm : q = m
          · subst hqm; rw [hkm] at hx; cases hx; exact hc
          · exact hc.trans (hHs.get (by omega) hkm hx), hB⟩
        case measure => have := HM.out; simp [intOf]; omega
    · have hie : i = j := by omega
      subst hie
      have HF : Hid (pgi (ens L) k = i - 1) := hfin.out i (by omega) H1.out H2.out
      by_cases hi0 : i = 0
      · subst hi0
        go_wp2
        try simp only [Exit.noGoto_ret]
        go_ret
        refine ⟨?_, hB⟩
        rw [HF.out]
        rfl
      · have hx1 : ¬ ((i : Int) - 1 < 0) := by omega
        have hx2 : (0 : Int) ≤ (i : Int) - 1 := by omega
        go_wp2
        try simp only [Exit.noGoto_ret]
        go_ret
        refine ⟨?_, hB⟩
        rw [HF.out]
        show Ending.returned (Value.int .i64 ((i : Int) - 1)) = _
        rw [show (i : Int) - 1 = ((i - 1 : Nat) : Int) by omega]
theorem pgi_lt {P : List (List En)} (h : P ≠ []) (k : List Int) : pgi P k < P.length := by
  have h1 := plq_le (fks P) k
  have h2 : 0 < P.length := List.length_pos_iff.2 h
  simp only [fks, List.length_map] at h1
  unfold pgi fks
  omega
set_option maxHeartbeats 1000000 in
set_option maxRecDepth 100000 in
theorem find_nil {w : World} {F D : Nat → Prop} {g : Nat} {v : Value} (A : MapA w F D g []) :
    Calls Try.prog 66 #[.pointer (some ⟨g, 0, none⟩), v] w fun e w' => e = .returned (.tuple #[.int .i64 0, .int .i64 0, .bool false]) ∧ w' = w := by
  obtain ⟨ao, c, hc, hc1, hc2, hat⟩ := A.rd
  simp only [List.length_nil] at hc
  clear A hat
  go_enter Try.func66, Try.ntmps66
  go_wp2
  go_ret3
  exact ⟨rfl, rfl⟩
set_option maxHeartbeats 1000000 in
set_option maxRecDepth 100000 in
theorem find_at {w : World} {F D : Nat → Prop} {g : Nat} {L : List Pg} {p : Pg} {v : Value} {k : List Int} (A : MapA w F D g L) (O : Ord (ens L)) (h : By w v k) (hn : L.length ≤ 1000000000) (hp : L[pgi (ens L) k]? = some p) (hs : p.es.length ≤ 1000000) :
    Calls Try.prog 66 #[.pointer (some ⟨g, 0, none⟩), v] w fun e w' => e = .returned (.tuple #[.int .i64 (pgi (ens L) k), .int .i64 (plc (kys p.es) k), .bool (thr (kys p.es) k)]) ∧ Below w.heap.size w w' := by
  have tP := pageOf_any A O h hn
  have hlt := (List.getElem?_eq_some_iff.1 hp).1
  have hpm := List.mem_of_getElem? hp
  have tF : ∀ w', Below w.heap.size w w' → Calls Try.prog 81 #[p.v, v] w' fun e w'' => e = .returned (.tuple #[.int .i64 (plc (kys p.es) k), .bool (thr (kys p.es) k)]) ∧ Below w'.heap.size w' w'' := fun w' hb =>
    placeOf_any ((A.pages p hpm).1.keep hb) (O.page (ens_get hp)) (h.keep hb) hs
  obtain ⟨ao, c, hc, hc1, hc2, hat⟩ := A.rd
  obtain ⟨G, rfl, cG⟩ := hat _ p hp
  have hgl := cell_lt hc
  have hGl := cell_lt cG
  generalize pgi (ens L) k = i at *
  generalize plc (kys p.es) k = x at *
  generalize thr (kys p.es) k = y at *
  obtain ⟨n, hnn⟩ : ∃ n, L.length = n := ⟨_, rfl⟩
  rw [hnn] at hc hc1 hlt
  have hz0 : ¬ ((n : Int) = 0) := by omega
  have hz1 : (i : Int) < n := by omega
  simp only [Pg.v] at *
  clear A O h hat hp hpm
  go_enter Try.func66, Try.ntmps66
  go_wp2_with (first | (go_at_call 80; refine tP.mono ?_; rintro e' w1 ⟨rfl, hB1⟩; have c1 : w1.cell? ⟨g, 0, none⟩ = some (.slice (some ⟨G, 0, none⟩) n c) := (hB1.cell (p := ⟨g, 0, none⟩) hgl).trans hc; have c2 : w1.cell? ⟨G, i, none⟩ = some (.slice (some ⟨p.b, 0, none⟩) p.es.length p.c) := (hB1.cell (p := ⟨G, i, none⟩) hGl).trans cG; have tF1 := tF w1 hB1; clear tP tF) | (go_at_call 81; refine tF1.mono ?_; rintro e' w2 ⟨rfl, hB2⟩))
  go_ret3
  exact ⟨rfl, joinB hB1 hB2⟩
end Pg
end Go.Proofs.Ytplminnejheceaa
