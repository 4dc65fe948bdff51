/- The pages and the entries between two bounds: span, within. -/
import Derived.Test.YtplminnejheceaaPgRf
namespace Go.Proofs.Ytplminnejheceaa
namespace Pg
open Go.RowKit Go.Lib
/-- where a walk over sorted things begins and ends -/
def cut {α : Type} (l : List α) (a b : Nat) : List α := (l.drop a).take (max a b - a)
theorem cut_get {α : Type} {l : List α} {a b j : Nat} {x : α} (h : (cut l a b)[j]? = some x) : l[a + j]? = some x := by
  unfold cut at h
  rw [List.getElem?_take] at h
  split at h
  · rw [List.getElem?_drop] at h; exact h
  · cases h
theorem cut_len {α : Type} {l : List α} {a b : Nat} (ha : a ≤ l.length) (hb : b ≤ l.length) : (cut l a b).length = max a b - a := by
  unfold cut
  rw [List.length_take, List.length_drop]; omega
def spanE (P : List (List En)) (t : List Int) : Nat := if t = [] then P.length else min (pgi P t + 1) P.length
def wthE (es : List En) (t : List Int) : Nat := if t = [] then es.length else plc (kys es) t
def wth (es : List En) (f t : List Int) : List En := cut es (plc (kys es) f) (wthE es t)
def wlk (P : List (List En)) (f t : List Int) : List En := (cut P (pgi P f) (spanE P t)).flatMap fun es => wth es f t
set_option maxHeartbeats 1000000 in
set_option maxRecDepth 100000 in
theorem bounds_any {w : World} {v : Value} {t : List Int} (h : By w v t) : Calls Try.prog 89 #[v] w fun e w' => e = .returned (.bool (decide (t ≠ []))) ∧ w' = w := by
  obtain ⟨ao, c, rfl, h2, h3, h4, h5, h6⟩ := h.ex
  have hz : (decide (t ≠ [])) = decide ((0 : Int) < (t.length : Int)) := by
    cases t with
    | nil => rfl
    | cons a l => simp
  rw [hz]
  clear h h6
  have hz2 : decide ((0 : Int) < (t.length : Int)) = decide (0 < t.length) := by congr 1; exact propext ⟨fun h => by omega, fun h => by omega⟩
  rw [hz2]
  go_enter Try.func89, Try.ntmps89
  go_wp2
  go_ret
  exact ⟨rfl, rfl⟩
/-- a slice of pages -/
structure SpA (w : World) (F : Nat → Prop) (v : Value) (Q : List Pg) : Prop where
  ex : ∃ ao c, v = .slice ao Q.length c ∧ Q.length ≤ c ∧ c ≤ 9223372036854775807 ∧ ∀ j p, Q[j]? = some p → ∃ b o, ao = some ⟨b, o, none⟩ ∧ F b ∧ w.cell? ⟨b, o + j, none⟩ = some p.v
/-- a slice of entries -/
structure ESl (w : World) (q : Nat) (v : Value) (es : List En) : Prop where
  ex : ∃ ao c, v = .slice ao es.length c ∧ es.length ≤ c ∧ c ≤ 9223372036854775807 ∧ ∀ j e, es[j]? = some e → ∃ o, ao = some ⟨q, o, none⟩ ∧ w.cell? ⟨q, o + j * 2, none⟩ = some e.kv ∧ w.cell? ⟨q, o + j * 2 + 1, none⟩ = some e.vv
set_option maxHeartbeats 1000000 in
set_option maxRecDepth 100000 in
theorem within_any {w : World} {D : Nat → Prop} {p : Pg} {fv tv : Value} {f t : List Int} (A : PgA w D p) (S : Srt (kys p.es)) (hf : By w fv f) (ht : By w tv t) (hn : p.es.length ≤ 1000000) :
    Calls Try.prog 76 #[p.v, fv, tv] w fun e w' => ∃ v, e = .returned v ∧ ESl w' p.b v (wth p.es f t) ∧ Below w.heap.size w w' := by
  have t1 := placeOf_any A S hf hn
  have tb : ∀ w', Below w.heap.size w w' → Calls Try.prog 89 #[tv] w' _ := fun w' hB => bounds_any (ht.keep hB)
  have t2 : ∀ w', Below w.heap.size w w' → Calls Try.prog 81 #[p.v, tv] w' _ := fun w' hB => placeOf_any (A.keep hB) S (ht.keep hB) hn
  have hrow := A.row
  have hcm := hrow.le
  simp only [maxLen] at hcm
  have hcm1 := hcm.1
  have hcm2 := hcm.2
  have hl1 := plc_le (kys p.es) f
  have hl2 := plc_le (kys p.es) t
  have hkl : (kys p.es).length = p.es.length := by simp [kys]
  rw [hkl] at hl1 hl2
  have hfin : ∀ (ao : Option Addr) (k c y : Nat) (w' : World), wthE p.es t = y → y ≤ p.es.length → Below w.heap.size w w' → k = max (plc (kys p.es) f) y - plc (kys p.es) f → k ≤ c → c ≤ 9223372036854775807 → (k = 0 ∨ ao = some ⟨p.b, plc (kys p.es) f * 2, none⟩) → ESl w' p.b (.slice ao k c) (wth p.es f t) := fun ao k c y w' he hy hB hk hkc hc hao => by
    have hl : (wth p.es f t).length = k := by
      unfold wth; rw [he, cut_len hl1 hy, hk]
    refine ⟨ao, c, by rw [hl], by rw [hl]; exact hkc, hc, fun j e hj => ?_⟩
    have hjk := (List.getElem?_eq_some_iff.1 hj).1
    rw [hl] at hjk
    have hj' := cut_get (show (cut p.es (plc (kys p.es) f) (wthE p.es t))[j]? = some e from hj)
    have hk := (hrow.keep hB).cell (flat_k hj')
    have hv := (hrow.keep hB).cell (flat_v hj')
    refine ⟨plc (kys p.es) f * 2, hao.resolve_left (by omega), ?_, ?_⟩
    · rw [← Nat.add_mul]; exact hk
    · rw [← Nat.add_mul]; exact hv
  have hfin : Hid _ := hfin
  have hw0 : Hid (wthE p.es t = if t = [] then p.es.length else plc (kys p.es) t) := rfl
  generalize hx : plc (kys p.es) f = x at *
  have HX : Hid _ := hx
  generalize hy : plc (kys p.es) t = y at *
  have HY : Hid _ := hy
  generalize thr (kys p.es) f = bx at *
  generalize thr (kys p.es) t = by' at *
  simp only [Pg.v] at t1 t2 ⊢
  generalize hm : p.es.length = m at *
  have HM : Hid _ := hm
  have z0 : (0 : Int) ≤ (x : Int) := by omega
  have z1 : (x : Int) ≤ (m : Int) := by omega
  clear A S hf ht hrow hcm hkl hx hy hm
  by_cases h0 : t = []
  · have hd : decide (t ≠ []) = false := by simp [h0]
    rw [hd] at tb
    have he : Hid (wthE p.es t = m) := by show _ = _; rw [hw0.out, if_pos h0]
    clear h0 hd t2 hw0
    go_enter Try.func76, Try.ntmps76
    go_wp2_with (first
      | (go_at_call 81; refine t1.mono ?_; rintro e' w1 ⟨rfl, hB1⟩; have tb1 := tb w1 hB1; clear t1 tb)
      | (go_at_call 89; refine tb1.mono ?_; rintro e' w2 ⟨rfl, rfl⟩))
    all_goals (
      go_ret
      exact ⟨_, rfl, hfin.out _ _ _ m _ he.out (Nat.le_refl _) hB1 (by omega) (by omega) (by omega) (by first | exact .inr rfl | exact .inl (by omega) | exact .inl rfl), hB1⟩)
  · have hd : decide (t ≠ []) = true := by simp [h0]
    rw [hd] at tb
    have he : Hid (wthE p.es t = y) := by show _ = _; rw [hw0.out, if_neg h0]
    have mk : True := trivial
    clear h0 hd hw0
    go_enter Try.func76, Try.ntmps76
    go_wp2_with (first
      | (go_at_call 81; clear mk; refine t1.mono ?_; rintro e' w1 ⟨rfl, hB1⟩; have tb1 := tb w1 hB1; have t21 := t2 w1 hB1; clear t1 tb t2)
      | (go_at_call 89; refine tb1.mono ?_; rintro e' w2 ⟨rfl, rfl⟩)
      | (go_at_call 81; refine t21.mono ?_; rintro e' w3 ⟨rfl, hB3⟩; have hB := joinB hB1 hB3))
    all_goals (
      go_ret
      exact ⟨_, rfl, hfin.out _ _ _ y _ he.out (by omega) hB (by omega) (by omega) (by omega) (by first | exact .inr rfl | exact .inl (by omega) | exact .inl rfl), hB⟩)
theorem pgi_le {P : List (List En)} (k : List Int) : pgi P k ≤ P.length := by
  have h1 := plq_le (fks P) k
  simp only [fks, List.length_map] at h1
  unfold pgi fks
  omega
set_option maxHeartbeats 2000000 in
set_option maxRecDepth 100000 in
theorem span_any {w : World} {F D : Nat → Prop} {g : Nat} {L : List Pg} {fv tv : Value} {f t : List Int} (A : MapA w F D g L) (O : Ord (ens L)) (hf : By w fv f) (ht : By w tv t) (hn : L.length ≤ 100000000) :
    Calls Try.prog 75 #[.pointer (some ⟨g, 0, none⟩), fv, tv] w fun e w' => ∃ v, e = .returned v ∧ SpA w' F v (cut L (pgi (ens L) f) (spanE (ens L) t)) ∧ Below w.heap.size w w' := by
  have t1 := pageOf_any A.drew O hf.drew (by omega)
  have tb : ∀ w', Below w.heap.size w w' → Calls Try.prog 89 #[tv] w' _ := fun w' hB => bounds_any (ht.keep hB)
  have t2 : ∀ w', Below w.heap.size w w' → Calls Try.prog 80 #[.pointer (some ⟨g, 0, none⟩), tv] w' _ := fun w' hB => pageOf_any (A.keep hB) O (ht.keep hB) (by omega)
  obtain ⟨ao, c, hc, hc1, hc2, hat⟩ := A.rd
  have hel : (ens L).length = L.length := by simp [ens]
  have hl1 : pgi (ens L) f ≤ L.length := by rw [← hel]; exact pgi_le f
  have hl2 : pgi (ens L) t ≤ L.length := by rw [← hel]; exact pgi_le t
  have hFG : ∀ G, ao = some ⟨G, 0, none⟩ → F G := fun G e => by
    obtain ⟨pv, hb, hg, ⟨rfl, rfl⟩ | ⟨G', C, rfl, hG, hR⟩⟩ := A.top
    · have := hb.cell (i := 0) rfl
      rw [hc] at this
      cases this
      cases e
    · have := hb.cell (i := 0) rfl
      rw [hc] at this
      cases this
      cases e
      exact hG
  have hfin : ∀ (bo : Option Addr) (k d y : Nat) (w' : World), spanE (ens L) t = y → y ≤ L.length → Below w.heap.size w w' → k = max (pgi (ens L) f) y - pgi (ens L) f → k ≤ d → d ≤ 9223372036854775807 → (k = 0 ∨ ∀ b o, ao = some ⟨b, o, none⟩ → bo = some ⟨b, o + pgi (ens L) f, none⟩) → SpA w' F (.slice bo k d) (cut L (pgi (ens L) f) (spanE (ens L) t)) := fun bo k d y w' he hy hB hk hkd hd hbo => by
    have hl : (cut L (pgi (ens L) f) (spanE (ens L) t)).length = k := by rw [he, cut_len hl1 hy, hk]
    refine ⟨bo, d, by rw [hl], by rw [hl]; exact hkd, hd, fun j p hj => ?_⟩
    have hjk := (List.getElem?_eq_some_iff.1 hj).1
    rw [hl] at hjk
    have hj' := cut_get hj
    obtain ⟨G, rfl, cG⟩ := hat _ p hj'
    exact ⟨G, 0 + pgi (ens L) f, (hbo.resolve_left (by omega)) G 0 rfl, hFG G rfl, by
      rw [Nat.zero_add, hB.cell (p := ⟨G, pgi (ens L) f + j, none⟩) (cell_lt cG)]; exact cG⟩
  have hfin : Hid _ := hfin
  have hw0 : Hid (spanE (ens L) t = if t = [] then L.length else min (pgi (ens L) t + 1) L.length) := by show _ = _; unfold spanE; rw [hel]
  have hgl := cell_lt hc
  have hat : Hid _ := hat
  have hnil : Hid (ao = none ∨ ∃ G, ao = some ⟨G, 0, none⟩) := by
    obtain ⟨pv, hb, hg, ⟨rfl, rfl⟩ | ⟨G, C, rfl, hG, hR⟩⟩ := A.top
    · have := hb.cell (i := 0) rfl
      rw [hc] at this
      cases this
      exact .inl rfl
    · have := hb.cell (i := 0) rfl
      rw [hc] at this
      cases this
      exact .inr ⟨G, rfl⟩
  have hc0 : ao = none → c = 0 := by
    intro e
    obtain ⟨pv, hb, hg, ⟨rfl, rfl⟩ | ⟨G, C, rfl, hG, hR⟩⟩ := A.top
    · have := hb.cell (i := 0) rfl
      rw [hc] at this
      cases this
      rfl
    · have := hb.cell (i := 0) rfl
      rw [hc] at this
      cases this
      cases e
  generalize hx : pgi (ens L) f = x at *
  have HX : Hid _ := hx
  generalize hy : pgi (ens L) t = y at *
  have HY : Hid _ := hy
  obtain ⟨n, hnn⟩ : ∃ n, Hid (L.length = n) := ⟨_, rfl⟩
  rw [hnn.out] at hc hc1 hl1 hl2 hn hfin hw0
  have cgd : w.drew.cell? ⟨g, 0, none⟩ = some (.slice ao n c) := hc
  have z0 : (0 : Int) ≤ (x : Int) := by omega
  have z1 : (x : Int) ≤ (n : Int) := by omega
  have zw : IntKind.i64.wrap ((y : Int) + 1) = (y : Int) + 1 := by rw [IntKind.wrap_i64]; omega
  have hbd := belowD w
  have HN := hnil.out
  clear A O hf ht hx hy hel hFG
  by_cases h0 : t = []
  · have hd : decide (t ≠ []) = false := by simp [h0]
    rw [hd] at tb
    have he : Hid (spanE (ens L) t = n) := by show _ = _; rw [hw0.out, if_pos h0]
    clear h0 hd t2 hw0
    rcases HN with rfl | ⟨G, rfl⟩
    · obtain rfl : c = 0 := hc0 rfl
      obtain rfl : n = 0 := by omega
      obtain rfl : x = 0 := by omega
      go_enter Try.func75, Try.ntmps75
      go_wp2
      go_region_held3 (fun w' => w'.cell? ⟨g, 0, none⟩ = some (.slice none 0 0)) (assumption)
        (first
          | (go_at_call 80; refine t1.mono ?_; rintro e' w1 ⟨rfl, hB1⟩; have cg1 : w1.cell? ⟨g, 0, none⟩ = _ := (hB1.cell (p := ⟨g, 0, none⟩) hgl).trans cgd; have hB1' := joinB hbd hB1))
      have tb1 := tb w1 hB1'
      clear t1 tb
      go_wp2_with (go_at_call 89; refine tb1.mono ?_; rintro e' w2 ⟨rfl, rfl⟩)
      all_goals (
        go_ret
        exact ⟨_, rfl, hfin.out _ _ _ 0 _ he.out (by omega) hB1' (by omega) (by omega) (by omega) (by first | exact .inl (by omega) | exact .inr (fun b o e => by cases e; simp)), hB1'⟩)
    · clear hc0
      go_enter Try.func75, Try.ntmps75
      go_wp2
      go_region_held3 (fun w' => w'.cell? ⟨g, 0, none⟩ = some (.slice (some ⟨G, 0, none⟩) n c)) (assumption)
        (first
          | (go_at_call 80; refine t1.mono ?_; rintro e' w1 ⟨rfl, hB1⟩; have cg1 : w1.cell? ⟨g, 0, none⟩ = _ := (hB1.cell (p := ⟨g, 0, none⟩) hgl).trans cgd; have hB1' := joinB hbd hB1))
      have tb1 := tb w1 hB1'
      clear t1 tb
      go_wp2_with (go_at_call 89; refine tb1.mono ?_; rintro e' w2 ⟨rfl, rfl⟩)
      all_goals (
        go_ret
        exact ⟨_, rfl, hfin.out _ _ _ n _ he.out (by omega) hB1' (by omega) (by omega) (by omega) (by first | exact .inl (by omega) | exact .inr (fun b o e => by cases e; simp)), hB1'⟩)
  · have hd : decide (t ≠ []) = true := by simp [h0]
    rw [hd] at tb
    have he : Hid (spanE (ens L) t = min (y + 1) n) := by show _ = _; rw [hw0.out, if_neg h0]
    clear h0 hd hw0
    rcases HN with rfl | ⟨G, rfl⟩
    · obtain rfl : c = 0 := hc0 rfl
      obtain rfl : n = 0 := by omega
      obtain rfl : x = 0 := by omega
      go_enter Try.func75, Try.ntmps75
      go_wp2
      go_region_held3 (fun w' => w'.cell? ⟨g, 0, none⟩ = some (.slice none 0 0)) (assumption)
        (first
          | (go_at_call 80; refine t1.mono ?_; rintro e' w1 ⟨rfl, hB1⟩; have cg1 : w1.cell? ⟨g, 0, none⟩ = _ := (hB1.cell (p := ⟨g, 0, none⟩) hgl).trans cgd; have hB1' := joinB hbd hB1))
      have tb1 := tb w1 hB1'
      have t21 := t2 w1 hB1'
      clear t1 tb t2
      go_wp2_with (first
        | (go_at_call 89; refine tb1.mono ?_; rintro e' w2 ⟨rfl, rfl⟩)
        | (go_at_call 80; refine t21.mono ?_; rintro e' w3 ⟨rfl, hB3⟩; have cg3 : w3.cell? ⟨g, 0, none⟩ = _ := (hB3.cell (p := ⟨g, 0, none⟩) (cell_lt cg1)).trans cg1; have hB := joinB hB1' hB3))
      all_goals (
        go_ret
        exact ⟨_, rfl, hfin.out _ _ _ (min (y + 1) 0) _ he.out (by omega) hB (by omega) (by omega) (by omega) (by first | exact .inl (by omega) | exact .inr (fun b o e => by cases e; simp)), hB⟩)
    · clear hc0
      go_enter Try.func75, Try.ntmps75
      go_wp2
      go_region_held3 (fun w' => w'.cell? ⟨g, 0, none⟩ = some (.slice (some ⟨G, 0, none⟩) n c)) (assumption)
        (first
          | (go_at_call 80; refine t1.mono ?_; rintro e' w1 ⟨rfl, hB1⟩; have cg1 : w1.cell? ⟨g, 0, none⟩ = _ := (hB1.cell (p := ⟨g, 0, none⟩) hgl).trans cgd; have hB1' := joinB hbd hB1))
      have tb1 := tb w1 hB1'
      have t21 := t2 w1 hB1'
      clear t1 tb t2
      go_wp2_with (first
        | (go_at_call 89; refine tb1.mono ?_; rintro e' w2 ⟨rfl, rfl⟩)
        | (go_at_call 80; refine t21.mono ?_; rintro e' w3 ⟨rfl, hB3⟩; have cg3 : w3.cell? ⟨g, 0, none⟩ = _ := (hB3.cell (p := ⟨g, 0, none⟩) (cell_lt cg1)).trans cg1; have hB := joinB hB1' hB3))
      all_goals (
        go_ret
        exact ⟨_, rfl, hfin.out _ _ _ (min (y + 1) n) _ he.out (by omega) hB (by omega) (by omega) (by omega) (by first | exact .inl (by omega) | exact .inr (fun b o e => by cases e; simp)), hB⟩)
end Pg
end Go.Proofs.Ytplminnejheceaa
