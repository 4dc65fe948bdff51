/- Several texts, joined: PgY, PgIa, PgHd, PgIb, PgIc, PgId, PgIe, PgSp, PgHe, PgPr, PgWd, PgHl, PgSh, PgTh, PgTi, PgTj, PgTk, PgNt, PgPa, PgTl, PgTm. -/
import Derived.Test.YtpoifdokmjhclaaGreatJyf
import Derived.Shelf.Abstract
import Derived.Shelf.RegionOpen
import Derived.OwnWalkIn
import Derived.TacticsInMore
import Derived.LoopNIn
import Derived.LoopIn
namespace Go.Proofs.YtpoifdokmjhclaaGreat
namespace Pg
open Go.RowKit Go.Lib
/-- where a walk over sorted things begins and ends -/
def cut {α : Type} (l : List α) (a b : Nat) : List α := (l.drop a).take (max a b - a)
theorem cut_get {α : Type} {l : List α} {a b j : Nat} {x : α} (h : (cut l a b)[j]? = some x) : l[a + j]? = some x := by
  unfold cut at h
  rw [List.getElem?_take] at h
  split at h
  · rw [List.getElem?_drop] at h; exact h
  · cases h
theorem cut_len {α : Type} {l : List α} {a b : Nat} (ha : a ≤ l.length) (hb : b ≤ l.length) : (cut l a b).length = max a b - a := by
  unfold cut
  rw [List.length_take, List.length_drop]; omega
def spanE (P : List (List En)) (t : List Int) : Nat := if t = [] then P.length else min (pgi P t + 1) P.length
def wthE (es : List En) (t : List Int) : Nat := if t = [] then es.length else plc (kys es) t
def wth (es : List En) (f t : List Int) : List En := cut es (plc (kys es) f) (wthE es t)
def wlk (P : List (List En)) (f t : List Int) : List En := (cut P (pgi P f) (spanE P t)).flatMap fun es => wth es f t
set_option maxHeartbeats 1000000 in
set_option maxRecDepth 100000 in
theorem bounds_any {w : World} {v : Value} {t : List Int} (h : By w v t) : Calls Tryz.prog 369 #[v] w fun e w' => e = .returned (.bool (decide (t ≠ []))) ∧ w' = w := by
  obtain ⟨ao, c, rfl, h2, h3, h4, h5, h6⟩ := h.ex
  have hz : (decide (t ≠ [])) = decide ((0 : Int) < (t.length : Int)) := by
    cases t with
    | nil => rfl
    | cons a l => simp
  rw [hz]
  clear h h6
  have hz2 : decide ((0 : Int) < (t.length : Int)) = decide (0 < t.length) := by congr 1; exact propext ⟨fun h => by omega, fun h => by omega⟩
  rw [hz2]
  go_enter Tryz.func369, Tryz.ntmps369
  go_wp2
  go_ret
  exact ⟨rfl, rfl⟩
/-- a slice of pages -/
structure SpA (w : World) (F : Nat → Prop) (v : Value) (Q : List Pg) : Prop where
  ex : ∃ ao c, v = .slice ao Q.length c ∧ Q.length ≤ c ∧ c ≤ 9223372036854775807 ∧ ∀ j p, Q[j]? = some p → ∃ b o, ao = some ⟨b, o, none⟩ ∧ F b ∧ w.cell? ⟨b, o + j, none⟩ = some p.v
/-- a slice of entries -/
structure ESl (w : World) (q : Nat) (v : Value) (es : List En) : Prop where
  ex : ∃ ao c, v = .slice ao es.length c ∧ es.length ≤ c ∧ c ≤ 9223372036854775807 ∧ ∀ j e, es[j]? = some e → ∃ o, ao = some ⟨q, o, none⟩ ∧ w.cell? ⟨q, o + j * 2, none⟩ = some e.kv ∧ w.cell? ⟨q, o + j * 2 + 1, none⟩ = some e.vv
set_option maxHeartbeats 1000000 in
set_option maxRecDepth 100000 in
theorem within_any {w : World} {D : Nat → Prop} {p : Pg} {fv tv : Value} {f t : List Int} (A : PgA w D p) (S : Srt (kys p.es)) (hf : By w fv f) (ht : By w tv t) (hn : p.es.length ≤ 1000000) :
    Calls Tryz.prog 350 #[p.v, fv, tv] w fun e w' => ∃ v, e = .returned v ∧ ESl w' p.b v (wth p.es f t) ∧ Below w.heap.size w w' := by
  have t1 := placeOf_any A S hf hn
  have tb : ∀ w', Below w.heap.size w w' → Calls Tryz.prog 369 #[tv] w' _ := fun w' hB => bounds_any (ht.keep hB)
  have t2 : ∀ w', Below w.heap.size w w' → Calls Tryz.prog 152 #[p.v, tv] w' _ := fun w' hB => placeOf_any (A.keep hB) S (ht.keep hB) hn
  have hrow := A.row
  have hcm := hrow.le
  simp only [maxLen] at hcm
  have hcm1 := hcm.1
  have hcm2 := hcm.2
  have hl1 := plc_le (kys p.es) f
  have hl2 := plc_le (kys p.es) t
  have hkl : (kys p.es).length = p.es.length := by simp [kys]
  rw [hkl] at hl1 hl2
  have hfin : ∀ (ao : Option Addr) (k c y : Nat) (w' : World), wthE p.es t = y → y ≤ p.es.length → Below w.heap.size w w' → k = max (plc (kys p.es) f) y - plc (kys p.es) f → k ≤ c → c ≤ 9223372036854775807 → (k = 0 ∨ ao = some ⟨p.b, plc (kys p.es) f * 2, none⟩) → ESl w' p.b (.slice ao k c) (wth p.es f t) := fun ao k c y w' he hy hB hk hkc hc hao => by
    have hl : (wth p.es f t).length = k := by
      unfold wth; rw [he, cut_len hl1 hy, hk]
    refine ⟨ao, c, by rw [hl], by rw [hl]; exact hkc, hc, fun j e hj => ?_⟩
    have hjk := (List.getElem?_eq_some_iff.1 hj).1
    rw [hl] at hjk
    have hj' := cut_get (show (cut p.es (plc (kys p.es) f) (wthE p.es t))[j]? = some e from hj)
    have hk := (hrow.keep hB).cell (flat_k hj')
    have hv := (hrow.keep hB).cell (flat_v hj')
    refine ⟨plc (kys p.es) f * 2, hao.resolve_left (by omega), ?_, ?_⟩
    · rw [← Nat.add_mul]; exact hk
    · rw [← Nat.add_mul]; exact hv
  have hfin : Hid _ := hfin
  have hw0 : Hid (wthE p.es t = if t = [] then p.es.length else plc (kys p.es) t) := rfl
  generalize hx : plc (kys p.es) f = x at *
  have HX : Hid _ := hx
  generalize hy : plc (kys p.es) t = y at *
  have HY : Hid _ := hy
  generalize thr (kys p.es) f = bx at *
  generalize thr (kys p.es) t = by' at *
  simp only [Pg.v] at t1 t2 ⊢
  generalize hm : p.es.length = m at *
  have HM : Hid _ := hm
  have z0 : (0 : Int) ≤ (x : Int) := by omega
  have z1 : (x : Int) ≤ (m : Int) := by omega
  clear A S hf ht hrow hcm hkl hx hy hm
  by_cases h0 : t = []
  · have hd : decide (t ≠ []) = false := by simp [h0]
    rw [hd] at tb
    have he : Hid (wthE p.es t = m) := by show _ = _; rw [hw0.out, if_pos h0]
    clear h0 hd t2 hw0
    go_enter Tryz.func350, Tryz.ntmps350
    go_wp2_with (first
      | (go_at_call 152; refine t1.mono ?_; rintro e' w1 ⟨rfl, hB1⟩; have tb1 := tb w1 hB1; clear t1 tb)
      | (go_at_call 369; refine tb1.mono ?_; rintro e' w2 ⟨rfl, rfl⟩))
    all_goals (
      go_ret
      exact ⟨_, rfl, hfin.out _ _ _ m _ he.out (Nat.le_refl _) hB1 (by omega) (by omega) (by omega) (by first | exact .inr rfl | exact .inl (by omega) | exact .inl rfl), hB1⟩)
  · have hd : decide (t ≠ []) = true := by simp [h0]
    rw [hd] at tb
    have he : Hid (wthE p.es t = y) := by show _ = _; rw [hw0.out, if_neg h0]
    have mk : True := trivial
    clear h0 hd hw0
    go_enter Tryz.func350, Tryz.ntmps350
    go_wp2_with (first
      | (go_at_call 152; clear mk; refine t1.mono ?_; rintro e' w1 ⟨rfl, hB1⟩; have tb1 := tb w1 hB1; have t21 := t2 w1 hB1; clear t1 tb t2)
      | (go_at_call 369; refine tb1.mono ?_; rintro e' w2 ⟨rfl, rfl⟩)
      | (go_at_call 152; refine t21.mono ?_; rintro e' w3 ⟨rfl, hB3⟩; have hB := joinB hB1 hB3))
    all_goals (
      go_ret
      exact ⟨_, rfl, hfin.out _ _ _ y _ he.out (by omega) hB (by omega) (by omega) (by omega) (by first | exact .inr rfl | exact .inl (by omega) | exact .inl rfl), hB⟩)
theorem pgi_le {P : List (List En)} (k : List Int) : pgi P k ≤ P.length := by
  have h1 := plq_le (fks P) k
  simp only [fks, List.length_map] at h1
  unfold pgi fks
  omega
set_option maxHeartbeats 2000000 in
set_option maxRecDepth 100000 in
theorem span_any {w : World} {F D : Nat → Prop} {g : Nat} {L : List Pg} {fv tv : Value} {f t : List Int} (A : MapA w F D g L) (O : Ord (ens L)) (hf : By w fv f) (ht : By w tv t) (hn : L.length ≤ 100000000) :
    Calls Tryz.prog 349 #[.pointer (some ⟨g, 0, none⟩), fv, tv] w fun e w' => ∃ v, e = .returned v ∧ SpA w' F v (cut L (pgi (ens L) f) (spanE (ens L) t)) ∧ Below w.heap.size w w' := by
  have t1 := pageOf_any A.drew O hf.drew (by omega)
  have tb : ∀ w', Below w.heap.size w w' → Calls Tryz.prog 369 #[tv] w' _ := fun w' hB => bounds_any (ht.keep hB)
  have t2 : ∀ w', Below w.heap.size w w' → Calls Tryz.prog 151 #[.pointer (some ⟨g, 0, none⟩), tv] w' _ := fun w' hB => pageOf_any (A.keep hB) O (ht.keep hB) (by omega)
  obtain ⟨ao, c, hc, hc1, hc2, hat⟩ := A.rd
  have hel : (ens L).length = L.length := by simp [ens]
  have hl1 : pgi (ens L) f ≤ L.length := by rw [← hel]; exact pgi_le f
  have hl2 : pgi (ens L) t ≤ L.length := by rw [← hel]; exact pgi_le t
  have hFG : ∀ G, ao = some ⟨G, 0, none⟩ → F G := fun G e => by
    obtain ⟨pv, hb, hg, ⟨rfl, rfl⟩ | ⟨G', C, rfl, hG, hR⟩⟩ := A.top
    · have := hb.cell (i := 0) rfl
      rw [hc] at this
      cases this
      cases e
    · have := hb.cell (i := 0) rfl
      rw [hc] at this
      cases this
      cases e
      exact hG
  have hfin : ∀ (bo : Option Addr) (k d y : Nat) (w' : World), spanE (ens L) t = y → y ≤ L.length → Below w.heap.size w w' → k = max (pgi (ens L) f) y - pgi (ens L) f → k ≤ d → d ≤ 9223372036854775807 → (k = 0 ∨ ∀ b o, ao = some ⟨b, o, none⟩ → bo = some ⟨b, o + pgi (ens L) f, none⟩) → SpA w' F (.slice bo k d) (cut L (pgi (ens L) f) (spanE (ens L) t)) := fun bo k d y w' he hy hB hk hkd hd hbo => by
    have hl : (cut L (pgi (ens L) f) (spanE (ens L) t)).length = k := by rw [he, cut_len hl1 hy, hk]
    refine ⟨bo, d, by rw [hl], by rw [hl]; exact hkd, hd, fun j p hj => ?_⟩
    have hjk := (List.getElem?_eq_some_iff.1 hj).1
    rw [hl] at hjk
    have hj' := cut_get hj
    obtain ⟨G, rfl, cG⟩ := hat _ p hj'
    exact ⟨G, 0 + pgi (ens L) f, (hbo.resolve_left (by omega)) G 0 rfl, hFG G rfl, by
      rw [Nat.zero_add, hB.cell (p := ⟨G, pgi (ens L) f + j, none⟩) (cell_lt cG)]; exact cG⟩
  have hfin : Hid _ := hfin
  have hw0 : Hid (spanE (ens L) t = if t = [] then L.length else min (pgi (ens L) t + 1) L.length) := by show _ = _; unfold spanE; rw [hel]
  have hgl := cell_lt hc
  have hat : Hid _ := hat
  have hnil : Hid (ao = none ∨ ∃ G, ao = some ⟨G, 0, none⟩) := by
    obtain ⟨pv, hb, hg, ⟨rfl, rfl⟩ | ⟨G, C, rfl, hG, hR⟩⟩ := A.top
    · have := hb.cell (i := 0) rfl
      rw [hc] at this
      cases this
      exact .inl rfl
    · have := hb.cell (i := 0) rfl
      rw [hc] at this
      cases this
      exact .inr ⟨G, rfl⟩
  have hc0 : ao = none → c = 0 := by
    intro e
    obtain ⟨pv, hb, hg, ⟨rfl, rfl⟩ | ⟨G, C, rfl, hG, hR⟩⟩ := A.top
    · have := hb.cell (i := 0) rfl
      rw [hc] at this
      cases this
      rfl
    · have := hb.cell (i := 0) rfl
      rw [hc] at this
      cases this
      cases e
  generalize hx : pgi (ens L) f = x at *
  have HX : Hid _ := hx
  generalize hy : pgi (ens L) t = y at *
  have HY : Hid _ := hy
  obtain ⟨n, hnn⟩ : ∃ n, Hid (L.length = n) := ⟨_, rfl⟩
  rw [hnn.out] at hc hc1 hl1 hl2 hn hfin hw0
  have cgd : w.drew.cell? ⟨g, 0, none⟩ = some (.slice ao n c) := hc
  have z0 : (0 : Int) ≤ (x : Int) := by omega
  have z1 : (x : Int) ≤ (n : Int) := by omega
  have zw : IntKind.i64.wrap ((y : Int) + 1) = (y : Int) + 1 := by rw [IntKind.wrap_i64]; omega
  have hbd := belowD w
  have HN := hnil.out
  clear A O hf ht hx hy hel hFG
  by_cases h0 : t = []
  · have hd : decide (t ≠ []) = false := by simp [h0]
    rw [hd] at tb
    have he : Hid (spanE (ens L) t = n) := by show _ = _; rw [hw0.out, if_pos h0]
    clear h0 hd t2 hw0
    rcases HN with rfl | ⟨G, rfl⟩
    · obtain rfl : c = 0 := hc0 rfl
      obtain rfl : n = 0 := by omega
      obtain rfl : x = 0 := by omega
      go_enter Tryz.func349, Tryz.ntmps349
      go_wp2
      go_region_held3 (fun w' => w'.cell? ⟨g, 0, none⟩ = some (.slice none 0 0)) (assumption)
        (first
          | (go_at_call 151; refine t1.mono ?_; rintro e' w1 ⟨rfl, hB1⟩; have cg1 : w1.cell? ⟨g, 0, none⟩ = _ := (hB1.cell (p := ⟨g, 0, none⟩) hgl).trans cgd; have hB1' := joinB hbd hB1))
      have tb1 := tb w1 hB1'
      clear t1 tb
      go_wp2_with (go_at_call 369; refine tb1.mono ?_; rintro e' w2 ⟨rfl, rfl⟩)
      all_goals (
        go_ret
        exact ⟨_, rfl, hfin.out _ _ _ 0 _ he.out (by omega) hB1' (by omega) (by omega) (by omega) (by first | exact .inl (by omega) | exact .inr (fun b o e => by cases e; simp)), hB1'⟩)
    · clear hc0
      go_enter Tryz.func349, Tryz.ntmps349
      go_wp2
      go_region_held3 (fun w' => w'.cell? ⟨g, 0, none⟩ = some (.slice (some ⟨G, 0, none⟩) n c)) (assumption)
        (first
          | (go_at_call 151; refine t1.mono ?_; rintro e' w1 ⟨rfl, hB1⟩; have cg1 : w1.cell? ⟨g, 0, none⟩ = _ := (hB1.cell (p := ⟨g, 0, none⟩) hgl).trans cgd; have hB1' := joinB hbd hB1))
      have tb1 := tb w1 hB1'
      clear t1 tb
      go_wp2_with (go_at_call 369; refine tb1.mono ?_; rintro e' w2 ⟨rfl, rfl⟩)
      all_goals (
        go_ret
        exact ⟨_, rfl, hfin.out _ _ _ n _ he.out (by omega) hB1' (by omega) (by omega) (by omega) (by first | exact .inl (by omega) | exact .inr (fun b o e => by cases e; simp)), hB1'⟩)
  · have hd : decide (t ≠ []) = true := by simp [h0]
    rw [hd] at tb
    have he : Hid (spanE (ens L) t = min (y + 1) n) := by show _ = _; rw [hw0.out, if_neg h0]
    clear h0 hd hw0
    rcases HN with rfl | ⟨G, rfl⟩
    · obtain rfl : c = 0 := hc0 rfl
      obtain rfl : n = 0 := by omega
      obtain rfl : x = 0 := by omega
      go_enter Tryz.func349, Tryz.ntmps349
      go_wp2
      go_region_held3 (fun w' => w'.cell? ⟨g, 0, none⟩ = some (.slice none 0 0)) (assumption)
        (first
          | (go_at_call 151; refine t1.mono ?_; rintro e' w1 ⟨rfl, hB1⟩; have cg1 : w1.cell? ⟨g, 0, none⟩ = _ := (hB1.cell (p := ⟨g, 0, none⟩) hgl).trans cgd; have hB1' := joinB hbd hB1))
      have tb1 := tb w1 hB1'
      have t21 := t2 w1 hB1'
      clear t1 tb t2
      go_wp2_with (first
        | (go_at_call 369; refine tb1.mono ?_; rintro e' w2 ⟨rfl, rfl⟩)
        | (go_at_call 151; refine t21.mono ?_; rintro e' w3 ⟨rfl, hB3⟩; have cg3 : w3.cell? ⟨g, 0, none⟩ = _ := (hB3.cell (p := ⟨g, 0, none⟩) (cell_lt cg1)).trans cg1; have hB := joinB hB1' hB3))
      all_goals (
        go_ret
        exact ⟨_, rfl, hfin.out _ _ _ (min (y + 1) 0) _ he.out (by omega) hB (by omega) (by omega) (by omega) (by first | exact .inl (by omega) | exact .inr (fun b o e => by cases e; simp)), hB⟩)
    · clear hc0
      go_enter Tryz.func349, Tryz.ntmps349
      go_wp2
      go_region_held3 (fun w' => w'.cell? ⟨g, 0, none⟩ = some (.slice (some ⟨G, 0, none⟩) n c)) (assumption)
        (first
          | (go_at_call 151; refine t1.mono ?_; rintro e' w1 ⟨rfl, hB1⟩; have cg1 : w1.cell? ⟨g, 0, none⟩ = _ := (hB1.cell (p := ⟨g, 0, none⟩) hgl).trans cgd; have hB1' := joinB hbd hB1))
      have tb1 := tb w1 hB1'
      have t21 := t2 w1 hB1'
      clear t1 tb t2
      go_wp2_with (first
        | (go_at_call 369; refine tb1.mono ?_; rintro e' w2 ⟨rfl, rfl⟩)
        | (go_at_call 151; refine t21.mono ?_; rintro e' w3 ⟨rfl, hB3⟩; have cg3 : w3.cell? ⟨g, 0, none⟩ = _ := (hB3.cell (p := ⟨g, 0, none⟩) (cell_lt cg1)).trans cg1; have hB := joinB hB1' hB3))
      all_goals (
        go_ret
        exact ⟨_, rfl, hfin.out _ _ _ (min (y + 1) n) _ he.out (by omega) hB (by omega) (by omega) (by omega) (by first | exact .inl (by omega) | exact .inr (fun b o e => by cases e; simp)), hB⟩)
end Pg
end Go.Proofs.YtpoifdokmjhclaaGreat

namespace Go.Proofs.YtpoifdokmjhclaaGreat
namespace Pg
open Go.RowKit Go.Lib
attribute [local go_sem] Oper.semAt_some
theorem OB.chg {w w' : World} {D X : Nat → Prop} {v : Value} {l : List Int} (h : OB w D v l) (hc : Chg X w w') (hX : ∀ b, X b → ∀ cs, ¬ Blk w b cs 5) : OB w' D v l := by
  refine ⟨h.oct, h.ex.imp id ?_⟩
  rintro ⟨b, c, e, hd, hR⟩
  obtain ⟨cs, k⟩ := hR.kind
  exact ⟨b, c, e, hd, hR.chg hc fun x => hX b x cs k⟩
/-- what a walk over a map leans on -/
structure Wk (W : World) (X F D : Nat → Prop) (g : Nat) (L : List Pg) (bm bf bt : Nat) (fv tv : Value) (f t : List Int) : Prop where
  map : MapA W F D g L
  ord : Ord (ens L)
  few : ∀ es ∈ ens L, es.length ≤ 32
  big : L.length ≤ 100000000
  xF : ∀ b, X b → ¬ F b
  xU : ∀ b, X b → ∀ cs, ¬ Blk W b cs 5
  boxm : Blk W bm [.pointer (some ⟨g, 0, none⟩)] 144 ∧ ¬ X bm
  boxf : Blk W bf [fv] 29 ∧ ¬ X bf
  boxt : Blk W bt [tv] 29 ∧ ¬ X bt
  byf : ∃ Df, OB W Df fv f
  byt : ∃ Dt, OB W Dt tv t
theorem Wk.at {W V : World} {X F D : Nat → Prop} {g : Nat} {L : List Pg} {bm bf bt : Nat} {fv tv : Value} {f t : List Int} (h : Wk W X F D g L bm bf bt fv tv f t) (hc : Chg X W V) : MapA V F D g L ∧ By V fv f ∧ By V tv t ∧ V.cell? ⟨bm, 0, none⟩ = some (.pointer (some ⟨g, 0, none⟩)) ∧ V.cell? ⟨bf, 0, none⟩ = some fv ∧ V.cell? ⟨bt, 0, none⟩ = some tv := by
  obtain ⟨Df, hf⟩ := h.byf
  obtain ⟨Dt, ht⟩ := h.byt
  exact ⟨h.map.chg hc h.xF h.xU, (hf.chg hc h.xU).by, (ht.chg hc h.xU).by, (h.boxm.1.chg hc h.boxm.2).cell (i := 0) rfl, (h.boxf.1.chg hc h.boxf.2).cell (i := 0) rfl, (h.boxt.1.chg hc h.boxt.2).cell (i := 0) rfl⟩
theorem cut_mem {α : Type} {l : List α} {a b : Nat} {x : α} (h : x ∈ cut l a b) : x ∈ l := List.mem_of_mem_drop (List.mem_of_mem_take h)
/-- entries of pages, behind k of them -/
theorem flatMap_take {α β : Type} (l : List α) (f : α → List β) (k : Nat) (x : α) (h : l[k]? = some x) : (l.take (k + 1)).flatMap f = (l.take k).flatMap f ++ f x := by
  rw [List.take_add_one, h]; simp
theorem flatMap_at {α β : Type} (l : List α) (f : α → List β) (k j : Nat) (x : α) (y : β) (h : l[k]? = some x) (hj : (f x)[j]? = some y) : (l.flatMap f)[((l.take k).flatMap f).length + j]? = some y := by
  have hk := (List.getElem?_eq_some_iff.1 h).1
  have e : l.flatMap f = (l.take k).flatMap f ++ (f x ++ (l.drop (k + 1)).flatMap f) := by
    conv => lhs; rw [← List.take_append_drop (k + 1) l, List.flatMap_append, flatMap_take l f k x h]
    rw [List.append_assoc]
  rw [e, List.getElem?_append_right (by omega), Nat.add_sub_cancel_left, List.getElem?_append_left (List.getElem?_eq_some_iff.1 hj).1]
  exact hj
set_option maxHeartbeats 4000000 in
set_option maxRecDepth 100000 in
theorem rising_itr {Tp : TypeId → Prop} {W0 : World} {X F D : Nat → Prop} {g : Nat} {L : List Pg} {bm bf bt : Nat} {fv tv : Value} {f t : List Int} (K : Wk W0 X F D g L bm bf bt fv tv f t) :
    Itr Tp 348 #[.pointer (some ⟨bm, 0, none⟩), .pointer (some ⟨bf, 0, none⟩), .pointer (some ⟨bt, 0, none⟩)] (wlk (ens L) f t).length (fun i args _ _ => ∃ e, (wlk (ens L) f t)[i]? = some e ∧ args = #[.agg #[e.kv, e.vv]]) (fun V => Chg X W0 V) := by
  intro l J Jx W hJ hJx hRd hY h0
  obtain ⟨Am, hf, ht, cm, cf, ct⟩ := K.at (hRd 0 W h0)
  have tS := span_any Am K.ord hf ht K.big
  obtain ⟨Q, hQ⟩ : ∃ Q, Hid (cut L (pgi (ens L) f) (spanE (ens L) t) = Q) := ⟨_, rfl⟩
  rw [hQ.out] at tS
  have hQe : Hid (wlk (ens L) f t = (ens Q).flatMap fun es => wth es f t) := by
    show _ = _
    rw [← hQ.out]
    unfold wlk cut ens
    rw [List.map_take, List.map_drop]
  have hQm : ∀ p ∈ Q, p ∈ L := fun p hp => by rw [← hQ.out] at hp; exact List.mem_of_mem_drop (List.mem_of_mem_take hp)
  obtain ⟨E, hE⟩ : ∃ E, Hid (wlk (ens L) f t = E) := ⟨_, rfl⟩
  rw [hE.out] at hY ⊢
  have hQe2 : Hid (E = (ens Q).flatMap fun es => wth es f t) := by show _ = _; rw [← hE.out]; exact hQe.out
  refine (callsIn_wide (n := 0)).1 ?_
  refine callsIn_of_wp Tryz.func348 rfl trivial ?_ rfl
  simp only [Tryz.ntmps348, List.size_toArray, List.length_cons, List.length_nil, Nat.reduceAdd, Nat.reduceSub, Array.replicate_succ, Array.replicate_zero, List.push_toArray, List.append_toArray, List.nil_append, List.cons_append]
  gi_wp2_with (refine ⟨trivial, rfl, ?_⟩; gi_at_call 349; refine (callsIn_wide.2 tS).mono ?_; rintro e' w1 ⟨v1, rfl, hSp, hB1⟩; obtain ⟨ao, cc, rfl, hc1, hc2, hat⟩ := hSp.ex)
  have J1 := hJ 0 _ _ h0 (Rec.of hB1)
  clear tS h0 cm cf ct hf ht hSp
  have hat : Hid _ := hat
  have hWl : W.heap.size ≤ w1.heap.size := hB1.size
  have hCw : Hid (Chg X W0 w1) := hRd 0 _ J1
  obtain ⟨n, hnn⟩ : ∃ n, Hid (Q.length = n) := ⟨_, rfl⟩
  rw [hnn.out] at hc1 ⊢
  have hFlt : ∀ b, F b → b < W0.heap.size ∧ ¬ X b := fun b hb => ⟨K.map.lt hb, fun x => K.xF b x hb⟩
  have hcell : Hid (∀ j p, Q[j]? = some p → ∀ V, Chg X W0 V → ∃ b o, ao = some ⟨b, o, none⟩ ∧ V.cell? ⟨b, o + j, none⟩ = some p.v) := fun j p hj V hV => by
    obtain ⟨b, o, e, hF, hc⟩ := hat.out j p hj
    obtain ⟨h1, h2⟩ := hFlt b hF
    refine ⟨b, o, e, ?_⟩
    rw [World.cell?_of_block (w := W0) (a := ⟨b, o + j, none⟩) (hV.same b h1 h2), ← World.cell?_of_block (w := W0) (w' := w1) (a := ⟨b, o + j, none⟩) (hCw.out.same b h1 h2)]
    exact hc
  gi_loopw [14] (fun ti wr => ∃ a : Nat, a ≤ n ∧ ti = .int .i64 a ∧ W.heap.size ≤ wr.heap.size ∧ J ((((ens Q).take a).flatMap fun es => wth es f t).length) wr) (fun ti _ => n - (intOf ti).toNat)
  case atStart => exact ⟨0, Nat.zero_le _, rfl, hWl, J1⟩
  case round =>
    clear J1 hWl
    obtain ⟨a, ha, rfl, hsz, hJa⟩ := hrel
    by_cases hlt : a < n
    · obtain ⟨p, hp⟩ : ∃ p, Q[a]? = some p := ⟨Q[a]'(by have := hnn.out; omega), List.getElem?_eq_getElem _⟩
      obtain ⟨b, o, rfl, cP⟩ := hcell.out a p hp wr (hRd _ _ hJa)
      obtain ⟨Ap, hf, ht, cm, cf, ct⟩ := K.at (hRd _ _ hJa)
      have hpm := hQm p (List.mem_of_getElem? hp)
      have hpL : p.es ∈ ens L := List.mem_map.2 ⟨p, hpm, rfl⟩
      have hps := K.few _ hpL
      obtain ⟨pj, hpj⟩ := List.getElem?_of_mem hpL
      have tW := within_any (Ap.pages p hpm).1 (K.ord.page hpj) hf ht (by omega)
      have z1 : (a : Int) < n := by omega
      simp only [Pg.v] at cP tW
      gi_wp2_with (refine ⟨trivial, rfl, ?_⟩; gi_at_call 350; refine (callsIn_wide.2 tW).mono ?_; rintro e' w2 ⟨v2, rfl, hEs, hB2⟩; obtain ⟨ao2, cc2, rfl, hd1, hd2, hat2⟩ := hEs.ex)
      have J2 := hJ _ _ _ hJa (Rec.of hB2)
      have hsz2 : W.heap.size ≤ w2.heap.size := Nat.le_trans hsz hB2.size
      have hat2 : Hid _ := hat2
      have hCw2 : Hid (Chg X W0 w2) := hRd _ _ J2
      have hpF := (K.map.pages p hpm).2
      obtain ⟨es, hes⟩ : ∃ es, Hid (wth p.es f t = es) := ⟨_, rfl⟩
      rw [hes.out] at hd1 hat2 ⊢
      obtain ⟨m, hmm⟩ : ∃ m, Hid (es.length = m) := ⟨_, rfl⟩
      rw [hmm.out] at hd1 ⊢
      obtain ⟨bs, hbs⟩ : ∃ bs, Hid ((((ens Q).take a).flatMap fun es => wth es f t).length = bs) := ⟨_, rfl⟩
      rw [hbs.out] at J2
      have hcell2 : Hid (∀ j e, es[j]? = some e → ∀ V, Chg X W0 V → ∃ o, ao2 = some ⟨p.b, o, none⟩ ∧ V.cell? ⟨p.b, o + j * 2, none⟩ = some e.kv ∧ V.cell? ⟨p.b, o + j * 2 + 1, none⟩ = some e.vv) := fun j e hj V hV => by
        obtain ⟨o, e', hk, hv⟩ := hat2.out j e hj
        obtain ⟨h1, h2⟩ := hFlt p.b hpF
        have e1 : V.heap[p.b]? = w2.heap[p.b]? := (hV.same p.b h1 h2).trans (hCw2.out.same p.b h1 h2).symm
        exact ⟨o, e', by rw [World.cell?_of_block (w := w2) (a := ⟨p.b, o + j * 2, none⟩) e1]; exact hk, by rw [World.cell?_of_block (w := w2) (a := ⟨p.b, o + j * 2 + 1, none⟩) e1]; exact hv⟩
      have hEat : Hid (∀ j e, es[j]? = some e → E[bs + j]? = some e) := fun j e hj => by
        rw [hQe2.out, ← hbs.out]
        exact flatMap_at (ens Q) (fun es => wth es f t) a j p.es e (ens_get hp) (by rw [hes.out]; exact hj)
      clear hEs cm cf ct hf ht tW hat2 hB2 cP
      gi_loopw [23] (fun ti wv => ∃ c : Nat, c ≤ m ∧ ti = .int .i64 c ∧ W.heap.size ≤ wv.heap.size ∧ J (bs + c) wv) (fun ti _ => m - (intOf ti).toNat)
      case atStart => exact ⟨0, Nat.zero_le _, rfl, hsz2, J2⟩
      case round =>
        clear J2 hsz2
        rename World => wv
        obtain ⟨c, hc, rfl, hszv, hJc⟩ := hrel
        by_cases hltc : c < m
        · obtain ⟨e, he⟩ : ∃ e, es[c]? = some e := ⟨es[c]'(by have := hmm.out; omega), List.getElem?_eq_getElem _⟩
          obtain ⟨o2, rfl, ck, cv⟩ := hcell2.out c e he wv (hRd _ _ hJc)
          have z2 : (c : Int) < m := by omega
          have hem : e ∈ p.es := by
            have h1 := List.mem_of_getElem? he
            rw [← hes.out] at h1
            exact cut_mem h1
          have hEn := ((K.at (hRd _ _ hJc)).1.pages p hpm).1.ents e hem
          have hEi := hEat.out c e he
          have hbE : bs + c < E.length := (List.getElem?_eq_some_iff.1 hEi).1
          obtain ⟨ekv, ekl, evv, evl⟩ := e
          obtain ⟨ak, nk, hk1⟩ := hEn.k.shape
          obtain ⟨av, nv, hv1⟩ := hEn.v.shape
          simp only at hk1 hv1
          subst hk1 hv1
          have B3 := blk_new wv [.slice ak ekl.length nk, .slice av evl.length nv] 197
          have hb3 := below_alloc wv (.cells #[.slice ak ekl.length nk, .slice av evl.length nv] 197)
          have k3 := B3.cell (i := 0) rfl
          have v3 := B3.cell (i := 1) rfl
          obtain ⟨fn, tmps, assign, body, hy, hR⟩ := hY (bs + c) #[.agg #[.slice ak ekl.length nk, .slice av evl.length nv]] wv _ hbE hJc hszv hb3 ⟨_, hEi, rfl⟩
          have hs3 := hb3.size
          clear hEn B3 hb3 he hem hEi
          gi_wp2
          refine ⟨rfl, hR.mono ?_⟩
          rintro e' W4 ⟨hk4, ⟨rfl, hJ4⟩ | ⟨rfl, hJ4⟩⟩
          · gi_wp2
            go_roundw
            case rel => exact ⟨c + 1, by omega, by go_num, Nat.le_trans (Nat.le_trans hszv hs3) hk4.size, hJ4⟩
            case measure => simp [intOf]; omega
          · gi_wp2
            refine bodyPost_ret (results_none rfl _ _ _) rfl ?_
            exact ⟨⟨_, rfl⟩, Nat.le_trans (Nat.le_trans hszv hs3) hk4.size, .inr ⟨bs + c, hbE, hJ4⟩⟩
        · have hcm : c = m := by omega
          have HJ : Hid (J ((((ens Q).take (a + 1)).flatMap fun es => wth es f t).length) wv) := by
            show J _ wv
            rw [flatMap_take (ens Q) (fun es => wth es f t) a p.es (ens_get hp), List.length_append, hbs.out, hes.out, hmm.out, ← hcm]
            exact hJc
          have z2 : ¬ ((c : Int) < m) := by omega
          have HC : Hid _ := hcm
          clear hcm hJc
          gi_wp2
          go_roundw
          case rel => exact ⟨a + 1, by omega, by go_num, hszv, HJ.out⟩
          case measure => simp [intOf]; omega
    · have han : a = n := by omega
      have HJ : Hid (J E.length wr) := by
        show J _ wr
        have : (ens Q).take a = ens Q := List.take_of_length_le (by simp [ens]; have := hnn.out; omega)
        rw [this, ← hQe2.out] at hJa
        exact hJa
      have z1 : ¬ ((a : Int) < n) := by omega
      have HA : Hid _ := han
      clear han hJa
      gi_wp2
      go_end0
      exact ⟨⟨_, rfl⟩, hsz, .inl HJ.out⟩
end Pg
end Go.Proofs.YtpoifdokmjhclaaGreat

namespace Go.Proofs.YtpoifdokmjhclaaGreat
namespace Pg
open Go.RowKit Go.Lib
section
variable {F : Fence} {n : Nat} {P : Program} {ops : Array Oper} {Q : Exit → Act → World → Prop} {md : Region.Mode} {S : World → Prop}
/-- whatever order is picked, and S holds behind every step -/
def inH (F : Fence) (n : Nat) (P : Program) (md : Region.Mode) (ops : Array Oper) (Q : Exit → Act → World → Prop) (S : World → Prop) : Nat → Array Bool → Act → World → Prop
  | 0, listed, a, w => Region.ready md ops listed = [] ∧ Q .normal a w
  | fuel + 1, listed, a, w =>
    (Region.ready md ops listed = [] → Q .normal a w) ∧
    ∀ i ∈ Region.ready md ops listed, wpOpIn F n P ops Q i (fun a' w' => S w' ∧ inH F n P md ops Q S fuel (listed.setIfInBounds i true) a' w') a w
theorem any_of_inH : ∀ (fuel : Nat) (listed : Array Bool) (a : Act) (w : World), inH F n P md ops Q S fuel listed a w → wpAnyIn F n P md ops Q fuel listed a w
  | 0, _, _, _, h => h
  | fuel + 1, _, _, _, h => ⟨h.1, fun i hi => wpOpIn_mono (fun a' w' h' => any_of_inH fuel _ a' w' h'.2) (h.2 i hi)⟩
/-- no operation is a defer or a select -/
def tame (ops : Array Oper) : Bool := ops.all fun o => match o.op with | .defer _ => false | .select .. => false | _ => true
theorem tame_at (h : tame ops = true) {j : Nat} {o : Oper} (hj : ops[j]? = some o) : (∀ c, o.op ≠ .defer c) ∧ (∀ cs b, o.op ≠ .select cs b) := by
  unfold tame at h
  rw [Array.all_eq_true] at h
  obtain ⟨hl, rfl⟩ := Array.getElem?_eq_some_iff.1 hj
  have := h j hl
  refine ⟨fun c e => ?_, fun cs b e => ?_⟩
  · rw [e] at this; simp at this
  · rw [e] at this; simp at this
theorem yields_in {i : Nat} {o : Oper} {v : Value} {a : Act} (hF : ∀ f, F.fn f) (ht : tame ops = true) (hi : ops[i]? = some o) (hy : YieldsIf P ops S o v a) {K : Act → World → Prop} {w : World} (hS : S w) (h : K (a.put o.dst v) w) : wpOpIn F n P ops Q i K a w := by
  unfold wpOpIn
  simp only [hi]
  rcases hy with ⟨hw, hv⟩ | ⟨hw, rfl⟩
  · simp only [hw, if_true, Oper.wpIn, Oper.semAt_eq F.round a.eval o (tame_at ht hi).1, hv w hS, Oper.uponIn]
    exact ⟨fun f _ => hF f, h⟩
  · simp only [hw, Bool.false_eq_true, if_false]; exact ⟨fun f _ => hF f, h⟩
theorem put_in {j : Nat} {oi oj : Oper} {v : Value} (hF : ∀ f, F.fn f) (ht : tame ops = true) (hj : ops[j]? = some oj) (hap : oi.apart ops oj = true) (hsi : ∀ cs b, oi.op ≠ .select cs b)
    (hQ : ∀ c a w, Q (.panic c) (a.put oi.dst v) w → Q (.panic c) a w) {K : Act → World → Prop} {a : Act} {w : World}
    (hy : YieldsIf P ops S oi v a) (h : wpOpIn F n P ops Q j K (a.put oi.dst v) w) :
    wpOpIn F n P ops Q j (fun a' w' => YieldsIf P ops S oi v a' ∧ K (a'.put oi.dst v) w') a w := by
  obtain ⟨h1, h2, h3⟩ := Oper.apart_spec hap
  obtain ⟨hd, hsj⟩ := tame_at ht hj
  have keep : ∀ (a : Act), YieldsIf P ops S oi v a → ∀ u, YieldsIf P ops S oi v (a.put oj.dst u) := fun a hy u =>
    hy.of_same (execOp_put oi hsi a oj.dst u h3) (wanted_put oi a oj.dst u h3)
  have keepD : ∀ d, YieldsIf P ops S oi v { a with defers := d :: a.defers } := fun d => hy.of_same rfl rfl
  unfold wpOpIn at *
  simp only [hj] at *
  rw [wanted_put oj a oi.dst v h1] at h
  split
  · rename_i hw
    simp only [hw, if_true] at h
    unfold Oper.wpIn at *
    refine ⟨fun f _ => hF f, ?_⟩
    have h := h.2
    rw [Oper.semAt_eq _ _ _ hd, execOp_put oj hsj a oi.dst v h1] at h
    rw [Oper.semAt_eq _ _ _ hd]
    generalize (execOp a.eval oj).run P w = r at *
    cases r with
    | ok x w' =>
      cases x <;> simp only [Oper.uponIn] at h ⊢
      case value u => exact ⟨keep a hy u, by rw [← Act.put_comm a v u h2]; exact h⟩
      case skip => exact ⟨keep a hy _, by rw [← Act.put_comm a v undef h2]; exact h⟩
      case defer d =>
        refine ⟨keep _ (keepD d) _, ?_⟩
        rw [← Act.put_comm _ v undef h2, ← Act.put_defers]
        exact h
      case enter f args =>
        refine ⟨h.1, CallsIn.mono h.2 fun e w'' he => ?_⟩
        cases e with
        | returned u => exact ⟨keep a hy u, by rw [← Act.put_comm a v u h2]; exact he⟩
        | panicked c => exact hQ _ _ _ he
        | outgrown => exact he
      case row row args => exact ⟨h.1, RowsIn.mono h.2 fun u w'' he => ⟨keep a hy u, by rw [← Act.put_comm a v u h2]; exact he⟩⟩
      case round l f tmps assign body =>
        refine ⟨h.1, RoundIn.mono h.2 fun e w'' he => ?_⟩
        cases e with
        | returned u => exact ⟨keep a hy u, by rw [← Act.put_comm a v u h2]; exact he⟩
        | panicked c => exact hQ _ _ _ he
        | outgrown => exact he
    | halt x w' =>
      cases x <;> simp only [Oper.uponIn] at h ⊢
      case panic u => exact hQ _ _ _ h
  · rename_i hw
    simp only [hw] at h
    exact ⟨fun f _ => hF f, keep a hy _, by rw [← Act.put_comm a v undef h2]; exact h.2⟩
theorem inH_first {i : Nat} {oi : Oper} {v : Value} (hF : ∀ f, F.fn f) (ht : tame ops = true) (hi : ops[i]? = some oi)
    (hQ : ∀ c a w, Q (.panic c) (a.put oi.dst v) w → Q (.panic c) a w) :
    ∀ (fuel : Nat) (listed : Array Bool) (a : Act) (w : World),
      (∀ j oj, ops[j]? = some oj → j ≠ i → listed.getD j true = false → (∀ e ∈ oj.after, Region.binds md e = true → e.on ≠ i) → oi.apart ops oj = true) →
      i ∈ Region.ready md ops listed → YieldsIf P ops S oi v a → S w →
      inH F n P md ops Q S fuel (listed.setIfInBounds i true) (a.put oi.dst v) w → inH F n P md ops Q S (fuel + 1) listed a w := by
  intro fuel
  induction fuel with
  | zero =>
    intro listed a w _ hr hy hS H
    refine ⟨fun h => (by rw [h] at hr; cases hr), fun j hj => ?_⟩
    by_cases hji : j = i
    · subst hji; exact yields_in hF ht hi hy hS ⟨hS, H⟩
    · have := ready_mono hj hji
      rw [H.1] at this
      cases this
  | succ fuel ih =>
    intro listed a w hfree hr hy hS H
    refine ⟨fun h => (by rw [h] at hr; cases hr), fun j hj => ?_⟩
    by_cases hji : j = i
    · subst hji; exact yields_in hF ht hi hy hS ⟨hS, H⟩
    · have h1 := H.2 j (ready_mono hj hji)
      obtain ⟨hjun, oj, hoj, hall⟩ := mem_ready.1 hj
      have hnot : ∀ e ∈ oj.after, Region.binds md e = true → e.on ≠ i := fun e he hb heq => by
        have h1 := hall e he hb
        have h0 := (mem_ready.1 hr).1
        rw [heq] at h1
        rcases Nat.lt_or_ge i listed.size with h' | h'
        · simp [h'] at h0 h1; rw [h0] at h1; cases h1
        · simp [Array.getElem?_eq_none h'] at h1
      have h2 := put_in hF ht hoj (hfree j oj hoj hji hjun hnot) (tame_at ht hi).2 hQ hy h1
      have hfree' : ∀ k ok, ops[k]? = some ok → k ≠ i → (listed.setIfInBounds j true).getD k true = false →
          (∀ e ∈ ok.after, Region.binds md e = true → e.on ≠ i) → oi.apart ops ok = true := fun k ok hk hki hun hno => by
        refine hfree k ok hk hki ?_ hno
        by_cases hjk : j = k
        · subst hjk; exact hjun
        · rw [getD_set_ne true hjk] at hun; exact hun
      refine wpOpIn_mono (fun a' w' h3 => ⟨h3.2.1, ih (listed.setIfInBounds j true) a' w' hfree' (ready_mono hr (Ne.symm hji)) h3.1 h3.2.1 ?_⟩) h2
      rw [Array.setIfInBounds_comm _ _ hji]
      exact h3.2.2
end
section
variable {ops : Array Oper} {Q : Exit → Act → World → Prop} {S : World → Prop} {fuel : Nat} {listed : Array Bool} {a : Act} {w : World} {l n : Nat}
theorem ih_start {id : Nat} (hm : Tryz.prog.follows .mixedOrders = true) (h : inH (Fence.wide.inRound l) n Tryz.prog .any ops Q S ops.size (Array.replicate ops.size false) a w.drew) : (Code.region id ops true).wpIn (Fence.wide.inRound l) n Tryz.prog Q a w :=
  wpIn_region_any hm (any_of_inH _ _ _ _ h)
theorem ih_take (i : Nat) (d : Option Tmp) (v : Value) (ht : tame ops = true) (hc : rgChk ops listed a i d = true) (hy : ∀ w', S w' → (execOp a.eval (ops.getD i default)).run Tryz.prog w' = .ok (.value v) w')
    (hQ : ∀ c a w, Q (.panic c) (a.put d v) w → Q (.panic c) a w) (hS : S w)
    (h : inH (Fence.wide.inRound l) n Tryz.prog .any ops Q S fuel (listed.setIfInBounds i true) (a.put d v) w) : inH (Fence.wide.inRound l) n Tryz.prog .any ops Q S (fuel + 1) listed a w := by
  simp only [rgChk, Bool.and_eq_true, decide_eq_true_eq] at hc
  obtain ⟨⟨⟨⟨⟨_, h2⟩, h3⟩, h4⟩, h5⟩, h6⟩ := hc
  subst h6
  exact inH_first (fun _ => trivial) ht (at_getD h4) hQ fuel listed a w (Region.free_spec (at_getD h4) h2) (by simpa using h3) (.inl ⟨h5, hy⟩) hS h
theorem ih_load (i : Nat) (d : Option Tmp) (v : Value) (T : TypeId) (k g o : Nat) (ht : tame ops = true) (hc : rgChk ops listed a i d = true) (ho : (ops.getD i default).op = .load T (.tmp k)) (hp : a.eval (.tmp k) = .pointer (some ⟨g, o, none⟩))
    (hl : ∀ w', S w' → (loadVar T ⟨g, o, none⟩).run Tryz.prog w' = .ok v w')
    (hQ : ∀ c a w, Q (.panic c) (a.put d v) w → Q (.panic c) a w) (hS : S w)
    (h : inH (Fence.wide.inRound l) n Tryz.prog .any ops Q S fuel (listed.setIfInBounds i true) (a.put d v) w) : inH (Fence.wide.inRound l) n Tryz.prog .any ops Q S (fuel + 1) listed a w :=
  ih_take i d v ht hc (fun w' hS' => run_lp k ho hp (hl w' hS')) hQ hS h
theorem ih_call (i : Nat) (d : Option Tmp) (f : FuncId) (args : Array Value) {Qc : Ending → World → Prop} (ht : tame ops = true) (hc : rgLone ops listed a i d = true) (hrun : (execOp a.eval (ops.getD i default)).run Tryz.prog w = .ok (.enter f args) w)
    (hcall : Calls Tryz.prog f args w Qc) (hk : ∀ e w', Qc e w' → ∃ v, e = .returned v ∧ S w' ∧ inH (Fence.wide.inRound l) n Tryz.prog .any ops Q S fuel (listed.setIfInBounds i true) (a.put d v) w') :
    inH (Fence.wide.inRound l) n Tryz.prog .any ops Q S (fuel + 1) listed a w := by
  simp only [rgLone, Bool.and_eq_true, decide_eq_true_eq] at hc
  obtain ⟨⟨⟨h3, h4⟩, h5⟩, h6⟩ := hc
  subst h6
  refine ⟨fun h0 => absurd (h3 ▸ h0) (by simp), fun j hj => ?_⟩
  rw [h3] at hj
  obtain rfl : j = i := by simpa using hj
  unfold wpOpIn
  rw [at_getD h4]
  simp only [h5, if_true, Oper.wpIn]
  refine ⟨fun _ _ => trivial, ?_⟩
  rw [Oper.semAt_eq _ _ _ (tame_at ht (at_getD h4)).1, hrun]
  refine ⟨fun h => (by cases h), CallsIn.inRound l (callsIn_wide.2 (hcall.mono fun e w' he => ?_))⟩
  obtain ⟨v, rfl, hS', hw⟩ := hk e w' he
  exact ⟨hS', hw⟩
theorem ih_yield (i : Nat) (d : Option Tmp) (l2 : Nat) (args : Array Value) {R : Ending → World → Prop} (ht : tame ops = true) (hc : rgLone ops listed a i d = true) (hrun : (execOp a.eval (ops.getD i default)).run Tryz.prog w = (Instr.yield l2 args).run Tryz.prog w)
    (hy : YieldAt Fence.wide 0 Tryz.prog l2 args w R) (hk : ∀ e w', R e w' → ∃ v, e = .returned v ∧ S w' ∧ inH (Fence.wide.inRound l) n Tryz.prog .any ops Q S fuel (listed.setIfInBounds i true) (a.put d v) w') :
    inH (Fence.wide.inRound l) n Tryz.prog .any ops Q S (fuel + 1) listed a w := by
  simp only [rgLone, Bool.and_eq_true, decide_eq_true_eq] at hc
  obtain ⟨⟨⟨h3, h4⟩, h5⟩, h6⟩ := hc
  subst h6
  obtain ⟨fn, tmps, assign, body, hy, hR⟩ := hy
  refine ⟨fun h0 => absurd (h3 ▸ h0) (by simp), fun j hj => ?_⟩
  rw [h3] at hj
  obtain rfl : j = i := by simpa using hj
  unfold wpOpIn
  rw [at_getD h4]
  simp only [h5, if_true, Oper.wpIn]
  refine ⟨fun _ _ => trivial, ?_⟩
  rw [Oper.semAt_eq _ _ _ (tame_at ht (at_getD h4)).1, hrun, hy]
  have hR2 : RoundIn (Fence.wide.inRound l) (n - 1) Tryz.prog l2 fn tmps assign body w R := ⟨hR.1, fun c cs _ => hR.2 c cs (fun _ h => by cases h)⟩
  refine ⟨fun h => (by cases h), hR2.mono fun e w' he => ?_⟩
  obtain ⟨v, rfl, hS', hw⟩ := hk e w' he
  exact ⟨hS', hw⟩
theorem ih_done (hr : Region.ready .any ops listed = []) (h : Q .normal a w) : inH (Fence.wide.inRound l) n Tryz.prog .any ops Q S fuel listed a w := by
  cases fuel with
  | zero => exact ⟨hr, h⟩
  | succ k => exact ⟨fun _ => h, by rw [hr]; simp⟩
end
end Pg
end Go.Proofs.YtpoifdokmjhclaaGreat

namespace Go.Proofs.YtpoifdokmjhclaaGreat
namespace Pg
open Go.RowKit Go.Lib
attribute [local go_sem] Oper.semAt_some
/-- arguments that are copies of the entry's bytes, made since -/
def ArC (E : List En) (i : Nat) (args : Array Value) (n : Nat) (V : World) : Prop :=
  ∃ e kv vv s, E[i]? = some e ∧ args = #[kv, vv] ∧ OB V (fun b => n ≤ b ∧ b < s) kv e.kl ∧ OB V (s ≤ ·) vv e.vl ∧ n ≤ s
def ArE (E : List En) (i : Nat) (args : Array Value) (_ : Nat) (_ : World) : Prop := ∃ e, E[i]? = some e ∧ args = #[.agg #[e.kv, e.vv]]
theorem OB.cel {W W' : World} {D : Nat → Prop} {v : Value} {l : List Int} (h : OB W D v l) (hc : Cel W W') : OB W' D v l := by
  refine ⟨h.oct, h.ex.imp id ?_⟩
  rintro ⟨b, c, e, hd, hR⟩
  obtain ⟨cs, k⟩ := hR.kind
  exact ⟨b, c, e, hd, hR.same ((hc.same b _ k.blk rfl).trans k.blk.symm)⟩
theorem ArC.cel {E : List En} {i : Nat} {args : Array Value} {n : Nat} {V W : World} (h : ArC E i args n V) (hc : Cel V W) : ArC E i args n W := by
  obtain ⟨e, kv, vv, s, h1, h2, h3, h4, h5⟩ := h
  exact ⟨e, kv, vv, s, h1, h2, h3.cel hc, h4.cel hc, h5⟩
theorem ld_f {w : World} {g : Nat} {v : Value} (c : Blk w g [v] 38) : (loadVar 38 ⟨g, 0, none⟩).run Tryz.prog w = .ok v w := by
  have c := c.cell (i := 0) rfl
  go_simp
theorem ld_b {w : World} {g o : Nat} {v : Value} (c : w.cell? ⟨g, o, none⟩ = some v) : (loadVar 29 ⟨g, o, none⟩).run Tryz.prog w = .ok v w := by go_simp
theorem OB.lt' {w : World} {D : Nat → Prop} {v : Value} {l : List Int} (h : OB w D v l) : OB w (fun b => D b ∧ b < w.heap.size) v l := by
  refine ⟨h.oct, h.ex.imp id ?_⟩
  rintro ⟨b, c, e, hd, hR⟩
  exact ⟨b, c, e, ⟨hd, hR.lt⟩, hR⟩
theorem run_yv2 {a : Act} {w : World} {o : Oper} {f x y l : Nat} {t1 t2 : TypeId} {u v : Value} (ho : o.op = .call { callee := .value (.tmp f), args := #[.tmp x, .tmp y], argTypes := #[t1, t2] }) (hf : a.eval (.tmp f) = .func (.yield l) #[] #[]) (hx : a.eval (.tmp x) = u) (hy : a.eval (.tmp y) = v) :
    (execOp a.eval o).run Tryz.prog w = (Instr.yield l #[u, v]).run Tryz.prog w := by
  have hx' : a.tmps[x]?.getD undef = u := by simpa [Act.eval] using hx
  have hy' : a.tmps[y]?.getD undef = v := by simpa [Act.eval] using hy
  simp only [execOp, ho, resolve, hf]
  simp [go_sem, hx', hy', invoke]
theorem rec_cel {B : Nat} {W W' : World} {b : Nat} {cs : List Value} {t : TypeId} (h : Blk W b cs t) (hr : Rec B W W') : Blk W' b cs t := ⟨hr.same b _ h.blk (.inr rfl)⟩
set_option maxHeartbeats 4000000 in
set_option maxRecDepth 100000 in
theorem copies_itr {Tp : TypeId → Prop} {gf bw N : Nat} {lb : Array Value} {E : List En} {D : Nat → Prop} {Rd : World → Prop} (IT : Itr Tp gf lb N (ArE E) Rd) (eg : ∀ args w, (callFunc gf args).run Tryz.prog w = .ok (.enter gf args) w) (hT : ¬ Tp 38) (hTe : ¬ Tp 197)
    (hbw : ∀ V, Rd V → V.cell? ⟨bw, 0, none⟩ = some (.func (.func gf) #[] lb)) (hEn : ∀ V, Rd V → ∀ e ∈ E, EnA V D e) (hbig : ∀ e ∈ E, e.kl.length ≤ 1000000000 ∧ e.vl.length ≤ 1000000000) :
    Itr Tp 347 #[.pointer (some ⟨bw, 0, none⟩)] N (ArC E) Rd := by
  intro l J Jx W hJ hJx hRd hY h0
  have cw := hbw _ (hRd 0 W h0)
  have J1 := hJ 0 _ _ h0 (Rec.of (below_alloc W (.cells #[.func (.yield l) #[] #[]] 38)))
  have cw1 := hbw _ (hRd 0 _ J1)
  have Y1 := blk_new W [.func (.yield l) #[] #[]] 38
  refine (callsIn_wide (n := 0)).1 ?_
  refine callsIn_of_wp_marks Tryz.func347 rfl trivial ?_ rfl
  simp only [Tryz.ntmps347, List.size_toArray, List.length_cons, List.length_nil, Nat.reduceAdd, Nat.reduceSub, Array.replicate_succ, Array.replicate_zero, List.push_toArray, List.append_toArray, List.nil_append, List.cons_append]
  gi_wp2
  have hs1 : (W.alloc (.cells #[.func (.yield l) #[] #[]] 38)).heap.size = W.heap.size + 1 := by simp
  generalize W.alloc (.cells #[.func (.yield l) #[] #[]] 38) = W1 at *
  refine rf_outer IT (by rfl) eg (fun i args n V V' h _ => h) (fun i args n V h => by obtain ⟨e, _, rfl⟩ := h; rfl)
    (fun i V => J i V ∧ W1.heap.size ≤ V.heap.size ∧ Blk V W.heap.size [.func (.yield l) #[] #[]] 38)
    (fun c i V => c = .ret ∧ Jx i V ∧ W1.heap.size ≤ V.heap.size)
    (fun i X Y hx hr => ⟨hJ i X Y hx.1 (hr.mono (by omega)), Nat.le_trans hx.2.1 hr.size, rec_cel hx.2.2 hr⟩)
    (fun c i X Y hx hr => ⟨hx.1, hJx i X Y hx.2.1 (hr.mono (by omega)), Nat.le_trans hx.2.2 hr.size⟩)
    (fun i V hv => hRd i V hv.1) ⟨J1, Nat.le_refl _, Y1⟩ ?_ ?_ ?_
  · rintro l2 i args V Wv hl hlV hrec hiN ⟨hJi, hsz, hY2⟩ hb ⟨e, he, rfl⟩
    have hem := List.mem_of_getElem? he
    have hEnV := hEn V (hRd i V hJi) e hem
    obtain ⟨hkb, hvb⟩ := hbig e hem
    obtain ⟨ekv, ekl, evv, evl⟩ := e
    obtain ⟨ak, nk, hk1⟩ := hEnV.k.shape
    obtain ⟨av, nv, hv1⟩ := hEnV.v.shape
    simp only at hk1 hv1
    subst hk1 hv1
    simp
    gi_wp2
    refine ⟨below_alloc Wv _, ?_⟩
    intro V2 W2 hJ2 hsz2 hYb hb2 _ hoth hsz3 hV2 r hrec2
    have hEn2 := (hEn V2 (hRd i V2 hJ2) _ hem).keep (joinB hb2 (belowD W2))
    have hEb : Blk W2 Wv.heap.size [.slice ak ekl.length nk, .slice av evl.length nv] 197 := (blk_new Wv [.slice ak ekl.length nk, .slice av evl.length nv] 197).same (hoth _ (by have := hb.size; omega))
    have hYW := hYb.keep hb2
    gi_wp2
    refine ih_start (S := fun w' => Blk w' W.heap.size [.func (.yield l) #[] #[]] 38 ∧ Blk w' Wv.heap.size [.slice ak ekl.length nk, .slice av evl.length nv] 197) (by kernel_rfl) ?_
    have hS := (show _ ∧ _ from ⟨hYW.drew, hEb.drew⟩)
    have q1 := hb.size
    have q2 := hb2.size
    refine ih_load 0 (some 6) (.func (.yield l) #[] #[]) 38 2 W.heap.size 0 (by kernel_rfl) (by kernel_rfl) (by kernel_rfl) (by kernel_rfl) (fun w' h => ld_f h.1) (fun _ _ _ h => h) hS ?_
    refine ih_take 1 (some 7) (.pointer (some ⟨Wv.heap.size, 0, none⟩)) (by kernel_rfl) (by kernel_rfl) (fun _ _ => by kernel_rfl) (fun _ _ _ h => h) hS ?_
    refine ih_load 2 (some 8) (.slice ak ekl.length nk) 29 7 Wv.heap.size 0 (by kernel_rfl) (by kernel_rfl) (by kernel_rfl) (by kernel_rfl) (fun w' h => ld_b (h.2.cell (i := 0) rfl)) (fun _ _ _ h => h) hS ?_
    refine ih_take 4 (some 10) (.pointer (some ⟨Wv.heap.size, 1, none⟩)) (by kernel_rfl) (by kernel_rfl) (fun _ _ => by kernel_rfl) (fun _ _ _ h => h) hS ?_
    refine ih_load 5 (some 11) (.slice av evl.length nv) 29 10 Wv.heap.size 1 (by kernel_rfl) (by kernel_rfl) (by kernel_rfl) (by kernel_rfl) (fun w' h => ld_b (h.2.cell (i := 1) rfl)) (fun _ _ _ h => h) hS ?_
    refine ih_call 3 (some 9) 104 #[.slice ak ekl.length nk] (by kernel_rfl) (by kernel_rfl) (by kernel_rfl) (clone_any hEn2.k.by hkb) ?_
    rintro e' w3 ⟨nkv, rfl, hO3, hB3⟩
    refine ⟨_, rfl, ⟨hS.1.keep hB3, hS.2.keep hB3⟩, ?_⟩
    replace hS := (show _ ∧ _ from ⟨hS.1.keep hB3, hS.2.keep hB3⟩)
    refine ih_call 6 (some 12) 104 #[.slice av evl.length nv] (by kernel_rfl) (by kernel_rfl) (by kernel_rfl) (clone_any (hEn2.v.keep hB3).by hvb) ?_
    rintro e' w4 ⟨nvv, rfl, hO4, hB4⟩
    refine ⟨_, rfl, ⟨hS.1.keep hB4, hS.2.keep hB4⟩, ?_⟩
    replace hS := (show _ ∧ _ from ⟨hS.1.keep hB4, hS.2.keep hB4⟩)
    have hBV : Below V2.heap.size V2 w4 := joinB (joinB (joinB hb2 (belowD W2)) hB3) hB4
    have hBW : Below W2.heap.size W2 w4 := joinB (joinB (belowD W2) hB3) hB4
    have hAr : ArC E i #[nkv, nvv] V2.heap.size w4 := ⟨_, nkv, nvv, w3.heap.size, he, rfl, (hO3.lt'.keep hB4).mono (fun b _ hb => ⟨Nat.le_trans hb2.size hb.1, hb.2⟩), hO4, Nat.le_trans hb2.size hB3.size⟩
    refine ih_yield 7 (some 13) l #[nkv, nvv] (by kernel_rfl) (by kernel_rfl) (run_yv2 (t1 := 29) (t2 := 29) (f := 6) (x := 9) (y := 12) (by kernel_rfl) (by kernel_rfl) (by kernel_rfl) (by kernel_rfl)) (hY i _ V2 w4 hiN hJ2 (by omega) hBV hAr) ?_
    rintro e' w5 ⟨hk5, h5⟩
    have hY5 := hk5.blk hS.1 (Nat.le_refl _) hT
    have hE5 := hk5.blk hS.2 (by omega) hTe
    have hkk : KeepsT Tp (W.heap.size + 1) W2 w5 := (KeepsT.of (B := W.heap.size + 1) hBW).trans (hk5.mono (by omega))
    have hsz5 : W.heap.size + 1 ≤ w5.heap.size := by have := hkk.size; omega
    rcases h5 with ⟨rfl, hJ5⟩ | ⟨rfl, hJ5⟩
    · refine ⟨_, rfl, ⟨hY5, hE5⟩, ?_⟩
      have hS := (show _ ∧ _ from ⟨hY5, hE5⟩)
      refine ih_take 8 (some 14) (.bool false) (by kernel_rfl) (by kernel_rfl) (fun _ _ => by kernel_rfl) (fun _ _ _ h => h) hS ?_
      refine ih_done (by kernel_rfl) ?_
      simp only [Act.put, List.setIfInBounds_toArray, List.set_cons_zero, List.set_cons_succ]
      gi_wp2
      exact ⟨hkk, hJ5, hsz5, hY5⟩
    · refine ⟨_, rfl, ⟨hY5, hE5⟩, ?_⟩
      have hS := (show _ ∧ _ from ⟨hY5, hE5⟩)
      refine ih_take 8 (some 14) (.bool true) (by kernel_rfl) (by kernel_rfl) (fun _ _ => by kernel_rfl) (fun _ _ _ h => h) hS ?_
      refine ih_done (by kernel_rfl) ?_
      simp only [Act.put, List.setIfInBounds_toArray, List.set_cons_zero, List.set_cons_succ]
      gi_wp2
      exact ⟨hkk, rfl, hJ5, hsz5⟩
  · rintro D' W' hD hK ⟨hJn, hsz, hYb⟩
    gi_wp2
    refine ⟨by simp, .inl ⟨_, _, rfl, run_takeDeferred hK, ?_⟩⟩
    exact ⟨_, results_none rfl _ _ _, ⟨_, rfl⟩, by simp; omega, .inl (hJ N _ _ hJn (Rec.put hK rfl (by omega) _))⟩
  · rintro D' c i W' hD hK hiN ⟨rfl, hJx', hsz⟩
    gi_wp2
    refine ⟨by simp, .inl ⟨_, _, rfl, run_takeDeferred hK, ?_⟩⟩
    exact ⟨_, results_none rfl _ _ _, ⟨_, rfl⟩, by simp; omega, .inr ⟨i, hiN, hJx (i + 1) _ _ hJx' (Rec.put hK rfl (by omega) _)⟩⟩
end Pg
end Go.Proofs.YtpoifdokmjhclaaGreat

namespace Go.Proofs.YtpoifdokmjhclaaGreat
namespace Pg
open Go.RowKit Go.Lib
attribute [local go_sem] Oper.semAt_some
end Pg
end Go.Proofs.YtpoifdokmjhclaaGreat

namespace Go.Proofs.YtpoifdokmjhclaaGreat
namespace Pg
open Go.RowKit Go.Lib
attribute [local go_sem] Oper.semAt_some
end Pg
end Go.Proofs.YtpoifdokmjhclaaGreat

namespace Go.Proofs.YtpoifdokmjhclaaGreat
namespace Pg
open Go.RowKit Go.Lib
attribute [local go_sem] Oper.semAt_some
set_option maxHeartbeats 1000000 in
set_option maxRecDepth 100000 in
theorem rising_mk {w : World} {pm pf pt : Option Addr} {nf cf nt ct : Nat} : Calls Tryz.prog 305 #[.pointer pm, .slice pf nf cf, .slice pt nt ct] w fun e w' => e = .returned (.func (.func 348) #[] #[.pointer (some ⟨w.heap.size, 0, none⟩), .pointer (some ⟨w.heap.size + 1, 0, none⟩), .pointer (some ⟨w.heap.size + 2, 0, none⟩)]) ∧ Blk w' w.heap.size [.pointer pm] 144 ∧ Blk w' (w.heap.size + 1) [.slice pf nf cf] 29 ∧ Blk w' (w.heap.size + 2) [.slice pt nt ct] 29 ∧ Below w.heap.size w w' := by
  have b1 := below_alloc w (.cells #[.pointer pm] 144)
  have b2 := below_alloc (w.alloc (.cells #[.pointer pm] 144)) (.cells #[.slice pf nf cf] 29)
  have b3 := below_alloc ((w.alloc (.cells #[.pointer pm] 144)).alloc (.cells #[.slice pf nf cf] 29)) (.cells #[.slice pt nt ct] 29)
  have c1 := ((blk_new w [.pointer pm] 144).keep b2).keep b3
  have c2 := (blk_new (w.alloc (.cells #[.pointer pm] 144)) [.slice pf nf cf] 29).keep b3
  have c3 := blk_new ((w.alloc (.cells #[.pointer pm] 144)).alloc (.cells #[.slice pf nf cf] 29)) [.slice pt nt ct] 29
  have s1 : (w.alloc (.cells #[.pointer pm] 144)).heap.size = w.heap.size + 1 := by simp
  have s2 : ((w.alloc (.cells #[.pointer pm] 144)).alloc (.cells #[.slice pf nf cf] 29)).heap.size = w.heap.size + 2 := by simp
  rw [s1] at c2
  rw [s2] at c3
  clear s1 s2
  go_enter Tryz.func305, Tryz.ntmps305
  go_wp2
  go_ret
  exact ⟨by simp, c1, c2, c3, joinB (joinB b1 b2) b3⟩
set_option maxHeartbeats 1000000 in
set_option maxRecDepth 100000 in
theorem copies_mk {w : World} {k : Nat} {lb : Array Value} : Calls Tryz.prog 304 #[.func (.func k) #[] lb] w fun e w' => e = .returned (.func (.func 347) #[] #[.pointer (some ⟨w.heap.size, 0, none⟩)]) ∧ Blk w' w.heap.size [.func (.func k) #[] lb] 389 ∧ Below w.heap.size w w' := by
  go_enter Tryz.func304, Tryz.ntmps304
  go_wp2
  go_ret
  exact ⟨rfl, blk_new w _ _, below_alloc w _⟩
theorem wlk_mem {P : List (List En)} {f t : List Int} {e : En} (h : e ∈ wlk P f t) : ∃ es ∈ P, e ∈ es := by
  unfold wlk at h
  obtain ⟨es, h1, h2⟩ := List.mem_flatMap.1 h
  exact ⟨es, cut_mem h1, cut_mem h2⟩
/-- what holds of a map that is walked -/
structure Wm (W : World) (X F D : Nat → Prop) (g : Nat) (L : List Pg) : Prop where
  map : MapA W F D g L
  ord : Ord (ens L)
  few : ∀ es ∈ ens L, es.length ≤ 32
  big : L.length ≤ 100000000
  small : ∀ es ∈ ens L, ∀ e ∈ es, e.kl.length ≤ 1000000000 ∧ e.vl.length ≤ 1000000000
  xF : ∀ b, X b → ¬ F b
  xU : ∀ b, X b → ∀ cs, ¬ Blk W b cs 5
  xl : ∀ b, X b → b < W.heap.size
/-- an iterator over entries, made of a map's -/
theorem Wm.copies {Tp : TypeId → Prop} {W W1 : World} {X F D : Nat → Prop} {g gf bw N : Nat} {L : List Pg} {lb : Array Value} {E : List En} (K : Wm W X F D g L) (hB : Below W.heap.size W W1) (IT : Itr Tp gf lb N (ArE E) (fun V => Chg X W1 V)) (eg : ∀ args w, (callFunc gf args).run Tryz.prog w = .ok (.enter gf args) w) (hT : ¬ Tp 38) (hTe : ¬ Tp 197)
    (hw : Blk W1 bw [.func (.func gf) #[] lb] 389) (hbw : W.heap.size ≤ bw) (hE : ∀ e ∈ E, ∃ es ∈ ens L, e ∈ es) : Itr Tp 347 #[.pointer (some ⟨bw, 0, none⟩)] N (ArC E) (fun V => Chg X W1 V) := by
  refine copies_itr (D := D) IT eg hT hTe (fun V hV => (hw.chg hV (fun x => by have := K.xl _ x; omega)).cell (i := 0) rfl) (fun V hV e he => ?_) (fun e he => ?_)
  · obtain ⟨es, h1, h2⟩ := hE e he
    obtain ⟨p, hp, rfl⟩ := List.mem_map.1 h1
    have A := (K.map.keep hB).chg hV K.xF (fun b hb cs k => K.xU b hb cs (k.same (hB.block b (K.xl b hb)).symm))
    exact (A.pages p hp).1.ents e h2
  · obtain ⟨es, h1, h2⟩ := hE e he
    exact K.small es h1 e h2
theorem Wm.wk {W W1 : World} {X F D : Nat → Prop} {g : Nat} {L : List Pg} {bm bf bt : Nat} {fv tv : Value} {f t : List Int} (K : Wm W X F D g L) (hB : Below W.heap.size W W1) (hm : Blk W1 bm [.pointer (some ⟨g, 0, none⟩)] 144) (hf : Blk W1 bf [fv] 29) (ht : Blk W1 bt [tv] 29) (lm : W.heap.size ≤ bm) (lf : W.heap.size ≤ bf) (lt : W.heap.size ≤ bt) {Df Dt : Nat → Prop} (of : OB W1 Df fv f) (ot : OB W1 Dt tv t) : Wk W1 X F D g L bm bf bt fv tv f t :=
  ⟨K.map.keep hB, K.ord, K.few, K.big, K.xF, fun b hb cs k => K.xU b hb cs (k.same (hB.block b (K.xl b hb)).symm), ⟨hm, fun x => by have := K.xl _ x; omega⟩, ⟨hf, fun x => by have := K.xl _ x; omega⟩, ⟨ht, fun x => by have := K.xl _ x; omega⟩, ⟨_, of⟩, ⟨_, ot⟩⟩
set_option maxHeartbeats 2000000 in
set_option maxRecDepth 100000 in
theorem walk_any {Tp : TypeId → Prop} {W : World} {X F D : Nat → Prop} {g : Nat} {L : List Pg} {fv tv : Value} {f t : List Int} (K : Wm W X F D g L) (hf : By W fv f) (ht : By W tv t) (hfl : f.length ≤ 1000000000) (htl : t.length ≤ 1000000000) (hT : ¬ Tp 38) (hTe : ¬ Tp 197) :
    Calls Tryz.prog 244 #[.pointer (some ⟨g, 0, none⟩), fv, tv] W fun e W' => ∃ bw, e = .returned (.func (.func 347) #[] #[.pointer (some ⟨bw, 0, none⟩)]) ∧ Below W.heap.size W W' ∧ Itr Tp 347 #[.pointer (some ⟨bw, 0, none⟩)] (wlk (ens L) f t).length (ArC (wlk (ens L) f t)) (fun V => Chg X W' V) := by
  have t1 := clone_any hf hfl
  go_enter Tryz.func244, Tryz.ntmps244
  go_wp2_with (go_at_call 104; refine t1.mono ?_; rintro e w1 ⟨v1, rfl, O1, B1⟩; obtain ⟨a1, d1, rfl⟩ := O1.shape)
  have t2 := clone_any (ht.keep B1) htl
  go_wp2_with (first
    | (go_at_call 104; refine t2.mono ?_; rintro e w2 ⟨v2, rfl, O2, B2⟩; obtain ⟨a2, d2, rfl⟩ := O2.shape)
    | (go_at_call 305; refine rising_mk.mono ?_; rintro e w3 ⟨rfl, m3, f3, t3, B3⟩)
    | (go_at_call 304; refine copies_mk.mono ?_; rintro e w4 ⟨rfl, c4, B4⟩))
  go_ret
  have B12 := joinB B1 B2
  have B13 := joinB B12 B3
  have B14 := joinB B13 B4
  have s2 := B12.size
  have s3 := B13.size
  have B34 := joinB B3 B4
  have WK := K.wk B14 (m3.keep B4) (f3.keep B4) (t3.keep B4) (by omega) (by omega) (by omega) ((O1.keep B2).keep B34) (O2.keep B34)
  exact ⟨_, rfl, B14, K.copies B14 (rising_itr WK) (enters_of Tryz.func348 (by kernel_rfl) rfl) hT hTe c4 (by omega) (fun e he => wlk_mem he)⟩
end Pg
end Go.Proofs.YtpoifdokmjhclaaGreat

namespace Go.Proofs.YtpoifdokmjhclaaGreat
namespace Pg
open Go.RowKit Go.Lib
attribute [local go_sem] Oper.semAt_some
end Pg
end Go.Proofs.YtpoifdokmjhclaaGreat

namespace Go.Proofs.YtpoifdokmjhclaaGreat
namespace Pg
open Go.RowKit Go.Lib
section
variable {F : Fence} {n : Nat} {P : Program} {ops : Array Oper} {Q : Exit → Act → World → Prop} {md : Region.Mode} {S : World → Prop} {z : Nat}
/-- z waits for i -/
def waits (md : Region.Mode) (ops : Array Oper) (z i : Nat) : Bool := decide (z ≠ i) && (ops.getD z default).after.any fun e => Region.binds md e && decide (e.on = i)
end
section
variable {ops : Array Oper} {Q : Exit → Act → World → Prop} {S : World → Prop} {z fuel : Nat} {listed : Array Bool} {a : Act} {w : World} {l n : Nat}
end
end Pg
end Go.Proofs.YtpoifdokmjhclaaGreat

namespace Go.Proofs.YtpoifdokmjhclaaGreat
namespace Pg
open Go.RowKit Go.Lib
attribute [local go_sem] Oper.semAt_some
end Pg
end Go.Proofs.YtpoifdokmjhclaaGreat

namespace Go.Proofs.YtpoifdokmjhclaaGreat
namespace Pg
open Go.RowKit Go.Lib
attribute [local go_sem] Oper.semAt_some
/-- an entry's bytes -/
def En.kl2 (e : En) : List Int × List Int := (e.kl, e.vl)
end Pg
end Go.Proofs.YtpoifdokmjhclaaGreat

namespace Go.Proofs.YtpoifdokmjhclaaGreat
namespace Pg
open Go.RowKit Go.Lib
attribute [local go_sem] Oper.semAt_some
theorem By.at {w : World} {ao : Option Addr} {n c : Nat} {l : List Int} (h : By w (.slice ao n c) l) {i : Nat} {x : Int} (hi : l[i]? = some x) : ∃ b o, ao = some ⟨b, o, none⟩ ∧ w.cell? ⟨b, o + i, none⟩ = some (.int .u8 x) := by
  obtain ⟨ao', c', e, _, _, _, _, h6⟩ := h.ex
  cases e
  rcases h6 with rfl | ⟨b, o, e, _, hc⟩
  · simp at hi
  · exact ⟨b, o, e, hc i x hi⟩
end Pg
end Go.Proofs.YtpoifdokmjhclaaGreat

namespace Go.Proofs.YtpoifdokmjhclaaGreat
namespace Pg
open Go.RowKit Go.Lib
attribute [local go_sem] Oper.semAt_some
end Pg
end Go.Proofs.YtpoifdokmjhclaaGreat

namespace Go.Proofs.YtpoifdokmjhclaaGreat
namespace Pg
theorem Ord.pair {P : List (List En)} (h : Ord P) : (∀ es ∈ P, es.Pairwise fun x y => Lt x.kl y.kl) ∧ P.Pairwise fun a b => ∀ x ∈ a, ∀ y ∈ b, Lt x.kl y.kl := by
  have := h.rise
  simp only [Srt, kys, List.pairwise_map, List.pairwise_flatten] at this
  exact this
theorem Ord.of {P : List (List En)} (h0 : ∀ es ∈ P, es ≠ []) (h : P.flatten.Pairwise fun x y => Lt x.kl y.kl) : Ord P := ⟨h0, by simpa only [Srt, kys, List.pairwise_map] using h⟩
theorem Ord.two {P : List (List En)} (h : Ord P) {i j : Nat} {a b : List En} {x y : En} (hij : i < j) (ha : P[i]? = some a) (hb : P[j]? = some b) (hx : x ∈ a) (hy : y ∈ b) : Lt x.kl y.kl := by
  obtain ⟨h1, rfl⟩ := List.getElem?_eq_some_iff.1 ha
  obtain ⟨h2, rfl⟩ := List.getElem?_eq_some_iff.1 hb
  exact List.pairwise_iff_getElem.1 h.pair.2 i j h1 h2 hij x hx y hy
theorem Ord.head {P : List (List En)} (h : Ord P) {i : Nat} {a : List En} (ha : P[i]? = some a) : ∃ e, e ∈ a ∧ (fks P)[i]? = some e.kl ∧ ∀ x ∈ a, ¬ Lt x.kl e.kl := by
  have hm := List.mem_of_getElem? ha
  obtain ⟨e, l, rfl, he⟩ := mem_head (h.full a hm)
  refine ⟨e, List.mem_cons_self, by rw [fks, List.getElem?_map, ha]; simp [kys], fun x hx => ?_⟩
  rcases List.mem_cons.1 hx with rfl | hx
  · exact lt_irrefl _
  · exact ((List.pairwise_cons.1 (h.pair.1 _ hm)).1 x hx).not
theorem kys_at {es : List En} {j : Nat} {e : En} (h : es[j]? = some e) : (kys es)[j]? = some e.kl := by
  rw [kys, List.getElem?_map, h]; rfl
/-- a key's place parts the entries: smaller ones ahead, none behind -/
theorem Ord.parts {P : List (List En)} (O : Ord P) (hP : P ≠ []) (k : List Int) : ∃ A es B, P = A ++ es :: B ∧ A.length = pgi P k ∧ P.getD (pgi P k) [] = es ∧
    (∀ e ∈ A.flatten ++ es.take (plc (kys es) k), Lt e.kl k) ∧ (∀ e ∈ es.drop (plc (kys es) k), ¬ Lt e.kl k) ∧ (∀ e ∈ B.flatten, Lt k e.kl) := by
  have hi : pgi P k < P.length := by
    have := plq_le (fks P) k
    have : (fks P).length = P.length := by simp [fks]
    have : P.length ≠ 0 := fun e => hP (List.eq_nil_of_length_eq_zero e)
    unfold pgi
    omega
  obtain ⟨i, hii⟩ : ∃ i, pgi P k = i := ⟨_, rfl⟩
  rw [hii] at hi ⊢
  have hg : P[i]? = some P[i] := List.getElem?_eq_getElem hi
  refine ⟨P.take i, P[i], P.drop (i + 1), ?_, by rw [List.length_take]; omega, by rw [List.getD_eq_getElem?_getD, hg]; rfl, fun e he => ?_, fun e he => ?_, fun e he => ?_⟩
  · conv => lhs; rw [← List.take_append_drop i P, List.drop_eq_getElem_cons hi]
  · rcases List.mem_append.1 he with he | he
    · obtain ⟨a, ha, hea⟩ := List.mem_flatten.1 he
      obtain ⟨j, hj⟩ := List.getElem?_of_mem ha
      have hji : j < i := by have := (List.getElem?_eq_some_iff.1 hj).1; rw [List.length_take] at this; omega
      rw [List.getElem?_take_of_lt hji] at hj
      have hj1 : P[j + 1]? = some P[j + 1] := List.getElem?_eq_getElem (by omega)
      obtain ⟨h, h1, h2, h3⟩ := O.head hj1
      have hlt := O.two (Nat.lt_succ_self j) hj hj1 hea h1
      exact hlt.of_le (plq_lt (by unfold pgi at hii; omega) h2)
    · obtain ⟨j, hj⟩ := List.getElem?_of_mem he
      have hjq : j < plc (kys P[i]) k := by have := (List.getElem?_eq_some_iff.1 hj).1; rw [List.length_take] at this; omega
      rw [List.getElem?_take_of_lt hjq] at hj
      exact plc_lt hjq (by rw [kys, List.getElem?_map, hj]; rfl)
  · obtain ⟨j, hj⟩ := List.getElem?_of_mem he
    rw [List.getElem?_drop] at hj
    have hq : plc (kys P[i]) k < P[i].length := by have := (List.getElem?_eq_some_iff.1 hj).1; omega
    have h0 := plc_ge (l := kys P[i]) (k := k) (x := (P[i][plc (kys P[i]) k]).kl) (kys_at (List.getElem?_eq_getElem hq))
    cases j with
    | zero =>
      rw [Nat.add_zero, List.getElem?_eq_getElem hq] at hj
      cases hj
      exact h0
    | succ j =>
      intro hl
      have := (O.page hg).get (i := plc (kys P[i]) k) (j := plc (kys P[i]) k + (j + 1)) (x := (P[i][plc (kys P[i]) k]).kl) (y := e.kl) (by omega) (kys_at (List.getElem?_eq_getElem hq)) (kys_at hj)
      exact h0 (this.trans hl)
  · obtain ⟨a, ha, hea⟩ := List.mem_flatten.1 he
    obtain ⟨j, hj⟩ := List.getElem?_of_mem ha
    rw [List.getElem?_drop] at hj
    obtain ⟨h, h1, h2, h3⟩ := O.head hj
    have hk : Lt k h.kl := by
      have hq : plq (fks P) k < (fks P).length := by
        have := (List.getElem?_eq_some_iff.1 h2).1
        unfold pgi at hii
        omega
      have g0 := plq_ge (l := fks P) (k := k) (x := (fks P)[plq (fks P) k]) (List.getElem?_eq_getElem hq)
      by_cases e : plq (fks P) k = i + 1 + j
      · have g1 : (fks P)[plq (fks P) k]? = some h.kl := by rw [e]; exact h2
        rw [List.getElem?_eq_getElem hq] at g1
        rw [← Option.some.inj g1]
        exact g0
      · exact g0.trans (O.heads.get (by unfold pgi at hii; omega) (List.getElem?_eq_getElem hq) h2)
    exact hk.of_le (h3 e hea)
theorem ins_parts (A B : List (List En)) (es : List En) (q : Nat) (e : En) : insQ (A ++ es :: B) A.length q e =
    if 32 < es.length + 1 then A ++ (es.take q ++ [e] ++ es.drop q).take 16 :: (es.take q ++ [e] ++ es.drop q).drop 16 :: B else A ++ (es.take q ++ [e] ++ es.drop q) :: B := by
  have e1 : (A ++ es :: B).getD A.length [] = es := by simp
  have e2 : (es.take q ++ [e] ++ es.drop q).length = es.length + 1 := by
    simp only [List.length_append, List.length_take, List.length_drop, List.length_cons, List.length_nil]; omega
  unfold insQ
  simp only [e1, e2]
  split
  · simp
  · simp
/-- entries that rise stay so with one more at its place -/
theorem rise_ins {X Y : List En} {e : En} (h : (X ++ Y).Pairwise fun x y => Lt x.kl y.kl) (h1 : ∀ x ∈ X, Lt x.kl e.kl) (h2 : ∀ y ∈ Y, Lt e.kl y.kl) : (X ++ e :: Y).Pairwise fun x y => Lt x.kl y.kl := by
  rw [List.pairwise_append] at h ⊢
  refine ⟨h.1, List.pairwise_cons.2 ⟨h2, h.2.1⟩, fun x hx y hy => ?_⟩
  rcases List.mem_cons.1 hy with rfl | hy
  · exact h1 x hx
  · exact h.2.2 x hx y hy
theorem Ord.flat {P : List (List En)} (O : Ord P) : P.flatten.Pairwise fun x y => Lt x.kl y.kl := by
  simpa only [Srt, kys, List.pairwise_map] using O.rise
/-- what stands at a key's place or behind it is above a key that isn't there -/
theorem above {es : List En} {k : List Int} (hs : Srt (kys es)) (h : ∀ e ∈ es.drop (plc (kys es) k), ¬ Lt e.kl k) (hn : thr (kys es) k = false) : ∀ e ∈ es.drop (plc (kys es) k), Lt k e.kl := fun e he => by
  rcases lt_tri k e.kl with h1 | h1 | h1
  · exact h1
  · exfalso
    have : k ∈ kys es := List.mem_map.2 ⟨e, List.mem_of_mem_drop he, h1.symm⟩
    rw [(thr_iff hs).2 this] at hn
    cases hn
  · exact absurd h1 (h e he)
theorem has_thr {P : List (List En)} (hP : P ≠ []) (k : List Int) : has P k = thr (kys (P.getD (pgi P k) [])) k := by
  have e4 : P.isEmpty = false := by simpa using hP
  unfold has
  rw [e4, Bool.not_false, Bool.true_and]
/-- Set of a key that isn't there: where it comes to stand -/
theorem set_ins {P : List (List En)} (O : Ord P) (hP : P ≠ []) {e : En} (hn : has P e.kl = false) : ∃ A es B X Y, P = A ++ es :: B ∧ es = X ++ Y ∧ setQ P e = (if 32 < es.length + 1 then A ++ (X ++ e :: Y).take 16 :: (X ++ e :: Y).drop 16 :: B else A ++ (X ++ e :: Y) :: B) ∧
    (∀ x ∈ A.flatten ++ X, Lt x.kl e.kl) ∧ (∀ x ∈ Y ++ B.flatten, Lt e.kl x.kl) := by
  obtain ⟨A, es, B, e1, e2, e3, h1, h2, h4⟩ := O.parts hP e.kl
  have hes : es ∈ P := by rw [e1]; simp
  obtain ⟨i, hi⟩ := List.getElem?_of_mem hes
  rw [has_thr hP, e3] at hn
  have h3 := above (O.page hi) h2 hn
  refine ⟨A, es, B, es.take (plc (kys es) e.kl), es.drop (plc (kys es) e.kl), e1, (List.take_append_drop _ _).symm, ?_, h1, fun x hx => (List.mem_append.1 hx).elim (h3 x) (h4 x)⟩
  unfold setQ
  rw [if_neg hP]
  simp only [e3, hn, Bool.false_eq_true, if_false]
  rw [← e2]
  conv => lhs; rw [e1]
  rw [ins_parts]
  simp only [List.append_assoc, List.cons_append, List.nil_append]
theorem Ord.ins {P : List (List En)} (O : Ord P) {e : En} (hn : has P e.kl = false) : Ord (setQ P e) := by
  by_cases hP : P = []
  · subst hP
    exact ⟨fun es h => by simp [setQ] at h; simp [h], by simp [setQ, Srt, kys]⟩
  obtain ⟨A, es, B, X, Y, e1, e2, e3, h1, h2⟩ := set_ins O hP hn
  have hr : (A.flatten ++ X ++ e :: (Y ++ B.flatten)).Pairwise fun x y => Lt x.kl y.kl := by
    refine rise_ins ?_ h1 h2
    have := O.flat
    rw [e1, e2, List.flatten_append, List.flatten_cons] at this
    simpa only [List.append_assoc] using this
  have hl : (X ++ e :: Y).length = es.length + 1 := by rw [e2]; simp; omega
  rw [e3]
  split
  · rename_i h32
    refine Ord.of (fun a ha => ?_) ?_
    · rcases List.mem_append.1 ha with ha | ha
      · exact O.full a (by rw [e1]; exact List.mem_append_left _ ha)
      · rcases List.mem_cons.1 ha with rfl | ha
        · exact fun h => by have := congrArg List.length h; rw [List.length_take, hl] at this; simp at this
        · rcases List.mem_cons.1 ha with rfl | ha
          · exact fun h => by have := congrArg List.length h; rw [List.length_drop, hl] at this; simp at this; omega
          · exact O.full a (by rw [e1]; exact List.mem_append_right _ (List.mem_cons_of_mem _ ha))
    · rw [List.flatten_append, List.flatten_cons, List.flatten_cons, ← List.append_assoc (List.take 16 _), List.take_append_drop]
      simpa only [List.append_assoc, List.cons_append] using hr
  · refine Ord.of (fun a ha => ?_) ?_
    · rcases List.mem_append.1 ha with ha | ha
      · exact O.full a (by rw [e1]; exact List.mem_append_left _ ha)
      · rcases List.mem_cons.1 ha with rfl | ha
        · simp
        · exact O.full a (by rw [e1]; exact List.mem_append_right _ (List.mem_cons_of_mem _ ha))
    · rw [List.flatten_append, List.flatten_cons]
      simpa only [List.append_assoc, List.cons_append] using hr
/-- a key that is there: at which entry -/
theorem Ord.at {P : List (List En)} (O : Ord P) {k : List Int} (hk : has P k = true) : ∃ A es B X x Y, P = A ++ es :: B ∧ es = X ++ x :: Y ∧ x.kl = k ∧ A.length = pgi P k ∧ P.getD (pgi P k) [] = es ∧ X.length = plc (kys es) k ∧
    (∀ y ∈ A.flatten ++ X, Lt y.kl k) ∧ (∀ y ∈ Y ++ B.flatten, Lt k y.kl) := by
  have hP : P ≠ [] := fun e => by subst e; simp [has] at hk
  obtain ⟨A, es, B, e1, e2, e3, h1, h2, h4⟩ := O.parts hP k
  have hes : es ∈ P := by rw [e1]; simp
  obtain ⟨i, hi⟩ := List.getElem?_of_mem hes
  rw [has_thr hP, e3] at hk
  obtain ⟨x, hx, hxk⟩ := thr_get hk
  have hq := (List.getElem?_eq_some_iff.1 hx).1
  have e5 : es = es.take (plc (kys es) k) ++ x :: es.drop (plc (kys es) k + 1) := by
    conv => lhs; rw [← List.take_append_drop (plc (kys es) k) es, List.drop_eq_getElem_cons hq]
    rw [(List.getElem?_eq_some_iff.1 hx).2]
  refine ⟨A, es, B, _, x, _, e1, e5, hxk, e2, e3, by rw [List.length_take]; omega, h1, fun y hy => ?_⟩
  rcases List.mem_append.1 hy with hy | hy
  · have := O.pair.1 es hes
    rw [e5, List.pairwise_append, List.pairwise_cons] at this
    rw [← hxk]
    exact this.2.1.1 y hy
  · exact h4 y hy
theorem modify_mid {α : Type} (f : α → α) : ∀ (X Y : List α) (x : α), (X ++ x :: Y).modify X.length f = X ++ f x :: Y
  | [], _, _ => rfl
  | a :: X, Y, x => by
    show (a :: (X ++ x :: Y)).modify (X.length + 1) f = _
    rw [List.modify_succ_cons, modify_mid f X Y x]; rfl
theorem set_upd {P : List (List En)} (O : Ord P) {e : En} (hk : has P e.kl = true) : ∃ A es B X x Y, P = A ++ es :: B ∧ es = X ++ x :: Y ∧ x.kl = e.kl ∧ setQ P e = A ++ (X ++ { x with vv := e.vv, vl := e.vl } :: Y) :: B := by
  have hP : P ≠ [] := fun h => by subst h; simp [has] at hk
  obtain ⟨A, es, B, X, x, Y, e1, e2, e3, e4, e5, e6, _⟩ := O.at hk
  refine ⟨A, es, B, X, x, Y, e1, e2, e3, ?_⟩
  rw [has_thr hP, e5] at hk
  unfold setQ
  rw [if_neg hP]
  simp only [e5, hk, if_true]
  rw [← e6, ← e4]
  conv => lhs; rw [e1]
  rw [List.set_append_right _ _ (Nat.le_refl _), Nat.sub_self, List.set_cons_zero, e2, modify_mid]
theorem Ord.upd {P : List (List En)} (O : Ord P) {e : En} (hk : has P e.kl = true) : Ord (setQ P e) := by
  obtain ⟨A, es, B, X, x, Y, e1, e2, e3, e4⟩ := set_upd O hk
  rw [e4]
  have h0 := O.rise
  rw [e1, e2] at h0
  refine ⟨fun a ha => ?_, by simpa [kys, Srt] using h0⟩
  rcases List.mem_append.1 ha with ha | ha
  · exact O.full a (by rw [e1]; exact List.mem_append_left _ ha)
  · rcases List.mem_cons.1 ha with rfl | ha
    · simp
    · exact O.full a (by rw [e1]; exact List.mem_append_right _ (List.mem_cons_of_mem _ ha))
theorem Ord.set {P : List (List En)} (O : Ord P) (e : En) : Ord (setQ P e) := by
  cases h : has P e.kl
  · exact O.ins h
  · exact O.upd h
end Pg
end Go.Proofs.YtpoifdokmjhclaaGreat

namespace Go.Proofs.YtpoifdokmjhclaaGreat
namespace Pg
/-- neighbours have 17 at least -/
def Nb : List Nat → Prop
  | [] => True
  | [_] => True
  | x :: y :: l => 17 ≤ x + y ∧ Nb (y :: l)
theorem nb_append : ∀ {A : List Nat} {x : Nat} {B : List Nat}, Nb (A ++ x :: B) ↔ Nb (A ++ [x]) ∧ Nb (x :: B)
  | [], x, B => by simp [Nb]
  | [a], x, B => by simp [Nb]
  | a :: b :: A, x, B => by
    have := nb_append (A := b :: A) (x := x) (B := B)
    simp only [List.cons_append, Nb] at this ⊢
    rw [this, and_assoc]
theorem Nb.front {A : List Nat} {x x' : Nat} (h : Nb (A ++ [x])) (hx : x ≤ x') : Nb (A ++ [x']) := by
  induction A with
  | nil => trivial
  | cons a A ih =>
    cases A with
    | nil => simp only [List.cons_append, List.nil_append, Nb] at h ⊢; exact ⟨by omega, trivial⟩
    | cons b A => simp only [List.cons_append, Nb] at h ih ⊢; exact ⟨h.1, ih h.2⟩
theorem Nb.back {x x' : Nat} {B : List Nat} (h : Nb (x :: B)) (hx : x ≤ x') : Nb (x' :: B) := by
  cases B with
  | nil => trivial
  | cons b B => simp only [Nb] at h ⊢; exact ⟨by omega, h.2⟩
theorem Nb.front16 {A : List Nat} {x y : Nat} (h : Nb (A ++ [x])) (ha : ∀ a ∈ A, 1 ≤ a) (hy : 16 ≤ y) : Nb (A ++ [y]) := by
  induction A with
  | nil => trivial
  | cons a A ih =>
    cases A with
    | nil =>
      have := ha a List.mem_cons_self
      simp only [List.cons_append, List.nil_append, Nb]
      exact ⟨by omega, trivial⟩
    | cons b A => simp only [List.cons_append, Nb] at h ih ⊢; exact ⟨h.1, ih h.2 (fun a h => ha a (List.mem_cons_of_mem _ h))⟩
theorem Nb.back16 {x : Nat} {B : List Nat} (h : Nb (x :: B)) (hb : ∀ b ∈ B, 1 ≤ b) {y : Nat} (hy : 16 ≤ y) : Nb (y :: B) := by
  cases B with
  | nil => trivial
  | cons b B =>
    have := hb b List.mem_cons_self
    simp only [Nb] at h ⊢
    exact ⟨by omega, h.2⟩
/-- the rules of pages, by their sizes -/
structure Shq (P : List (List En)) : Prop where
  one : ∀ es ∈ P, 1 ≤ es.length ∧ es.length ≤ 32
  two : Nb (P.map List.length)
theorem Shq.nil : Shq [] := ⟨fun _ h => by simp at h, trivial⟩
theorem Shq.set {P : List (List En)} (h : Shq P) (O : Ord P) (e : En) : Shq (setQ P e) := by
  by_cases hP : P = []
  · subst hP
    exact ⟨fun es h => by simp [setQ] at h; simp [h], by simp [setQ, Nb]⟩
  cases hk : has P e.kl
  · obtain ⟨A, es, B, X, Y, e1, e2, e3, _⟩ := set_ins O hP hk
    have hl : (X ++ e :: Y).length = es.length + 1 := by rw [e2]; simp; omega
    have h0 := h.two
    rw [e1, List.map_append, List.map_cons, nb_append] at h0
    have hes := h.one es (by rw [e1]; simp)
    rw [e3]
    split
    · refine ⟨fun a ha => ?_, ?_⟩
      · rcases List.mem_append.1 ha with ha | ha
        · exact h.one a (by rw [e1]; exact List.mem_append_left _ ha)
        · rcases List.mem_cons.1 ha with rfl | ha
          · rw [List.length_take, hl]; omega
          · rcases List.mem_cons.1 ha with rfl | ha
            · rw [List.length_drop, hl]; omega
            · exact h.one a (by rw [e1]; exact List.mem_append_right _ (List.mem_cons_of_mem _ ha))
      · rw [List.map_append, List.map_cons, List.map_cons, List.length_take, List.length_drop, hl, show min 16 (es.length + 1) = 16 by omega, nb_append]
        refine ⟨h0.1.front16 (fun a ha => ?_) (Nat.le_refl _), ⟨by omega, h0.2.back16 (fun b hb => ?_) (by omega)⟩⟩
        · obtain ⟨a', h1, rfl⟩ := List.mem_map.1 ha
          exact (h.one a' (by rw [e1]; exact List.mem_append_left _ h1)).1
        · obtain ⟨b', h1, rfl⟩ := List.mem_map.1 hb
          exact (h.one b' (by rw [e1]; exact List.mem_append_right _ (List.mem_cons_of_mem _ h1))).1
    · refine ⟨fun a ha => ?_, ?_⟩
      · rcases List.mem_append.1 ha with ha | ha
        · exact h.one a (by rw [e1]; exact List.mem_append_left _ ha)
        · rcases List.mem_cons.1 ha with rfl | ha
          · rw [hl]; omega
          · exact h.one a (by rw [e1]; exact List.mem_append_right _ (List.mem_cons_of_mem _ ha))
      · rw [List.map_append, List.map_cons, hl, nb_append]
        exact ⟨h0.1.front (by omega), h0.2.back (by omega)⟩
  · obtain ⟨A, es, B, X, x, Y, e1, e2, e3, e4⟩ := set_upd O hk
    have hl : (X ++ { x with vv := e.vv, vl := e.vl } :: Y).length = es.length := by rw [e2]; simp
    rw [e4]
    refine ⟨fun a ha => ?_, ?_⟩
    · rcases List.mem_append.1 ha with ha | ha
      · exact h.one a (by rw [e1]; exact List.mem_append_left _ ha)
      · rcases List.mem_cons.1 ha with rfl | ha
        · rw [hl]; exact h.one es (by rw [e1]; simp)
        · exact h.one a (by rw [e1]; exact List.mem_append_right _ (List.mem_cons_of_mem _ ha))
    · have h0 := h.two
      rw [e1, List.map_append, List.map_cons] at h0
      rw [List.map_append, List.map_cons, hl]
      exact h0
end Pg
end Go.Proofs.YtpoifdokmjhclaaGreat

namespace Go.Proofs.YtpoifdokmjhclaaGreat
namespace Pg
theorem jn_parts {P : List (List En)} {i : Nat} (h : jnb P i = true) : ∃ A a b B, P = A ++ a :: b :: B ∧ A.length = i ∧ jnQ P i = A ++ (a ++ b) :: B ∧ a.length + b.length ≤ 16 := by
  unfold jnb at h
  rw [Bool.and_eq_true, decide_eq_true_eq, decide_eq_true_eq] at h
  obtain ⟨h1, h2⟩ := h
  have g1 : P.getD i [] = P[i] := by rw [List.getD_eq_getElem?_getD, List.getElem?_eq_getElem (by omega)]; rfl
  have g2 : P.getD (i + 1) [] = P[i + 1] := by rw [List.getD_eq_getElem?_getD, List.getElem?_eq_getElem h1]; rfl
  rw [g1, g2] at h2
  refine ⟨P.take i, P[i], P[i + 1], P.drop (i + 2), ?_, by rw [List.length_take]; omega, ?_, h2⟩
  · conv => lhs; rw [← List.take_append_drop i P, List.drop_eq_getElem_cons (show i < P.length by omega), List.drop_eq_getElem_cons h1]
  · unfold jnQ; rw [g1, g2]; simp
theorem jn_no {A B : List (List En)} {a b : List En} (h : jnb (A ++ a :: b :: B) A.length = false) : 17 ≤ a.length + b.length := by
  unfold jnb at h
  simp at h
  omega
/-- Delete of a key that is there -/
theorem del_parts {P : List (List En)} (O : Ord P) {k : List Int} (hk : has P k = true) : ∃ A es B X x Y, P = A ++ es :: B ∧ es = X ++ x :: Y ∧ x.kl = k ∧ delQ P k = (if X ++ Y = [] then A ++ B else if jnb (A ++ (X ++ Y) :: B) A.length then jnQ (A ++ (X ++ Y) :: B) A.length else if 1 ≤ A.length ∧ jnb (A ++ (X ++ Y) :: B) (A.length - 1) then jnQ (A ++ (X ++ Y) :: B) (A.length - 1) else A ++ (X ++ Y) :: B) ∧
    (∀ y ∈ A.flatten ++ X, Lt y.kl k) ∧ (∀ y ∈ Y ++ B.flatten, Lt k y.kl) := by
  obtain ⟨A, es, B, X, x, Y, e1, e2, e3, e4, e5, e6, h1, h2⟩ := O.at hk
  refine ⟨A, es, B, X, x, Y, e1, e2, e3, ?_, h1, h2⟩
  unfold delQ rmQ
  rw [if_pos hk]
  simp only [e5]
  rw [← e6, ← e4]
  have g1 : es.take X.length ++ es.drop (X.length + 1) = X ++ Y := by rw [e2]; simp
  have g2 : P.set A.length (X ++ Y) = A ++ (X ++ Y) :: B := by rw [e1]; simp
  have g3 : P.take A.length ++ P.drop (A.length + 1) = A ++ B := by rw [e1]; simp
  simp only [g1, g2, g3]
theorem Ord.join {P : List (List En)} (O : Ord P) {i : Nat} (h : jnb P i = true) : Ord (jnQ P i) := by
  obtain ⟨A, a, b, B, e1, e2, e3, _⟩ := jn_parts h
  rw [e3]
  have h0 := O.flat
  rw [e1] at h0
  refine Ord.of (fun c hc => ?_) (by simpa using h0)
  rcases List.mem_append.1 hc with hc | hc
  · exact O.full c (by rw [e1]; exact List.mem_append_left _ hc)
  · rcases List.mem_cons.1 hc with rfl | hc
    · intro h
      exact O.full a (by rw [e1]; simp) (List.append_eq_nil_iff.1 h).1
    · exact O.full c (by rw [e1]; simp [hc])
theorem Ord.del {P : List (List En)} (O : Ord P) (k : List Int) : Ord (delQ P k) := by
  cases hk : has P k
  · unfold delQ; rw [hk]; exact O
  obtain ⟨A, es, B, X, x, Y, e1, e2, e3, e4, _⟩ := del_parts O hk
  have h0 := O.flat
  rw [e1, e2] at h0
  have h1 : (A.flatten ++ (X ++ Y) ++ B.flatten).Pairwise fun x y => Lt x.kl y.kl := by
    refine h0.sublist ?_
    simp only [List.flatten_append, List.flatten_cons, List.append_assoc, List.cons_append]
    exact (List.Sublist.refl _).append ((List.Sublist.refl _).append (List.sublist_cons_self _ _))
  rw [e4]
  split
  · rename_i he
    rw [he, List.append_nil] at h1
    refine Ord.of (fun c hc => O.full c ?_) (by rw [List.flatten_append]; exact h1)
    rw [e1]
    rcases List.mem_append.1 hc with hc | hc <;> simp [hc]
  · rename_i he
    have OO : Ord (A ++ (X ++ Y) :: B) := Ord.of (fun c hc => by
      rcases List.mem_append.1 hc with hc | hc
      · exact O.full c (by rw [e1]; simp [hc])
      · rcases List.mem_cons.1 hc with rfl | hc
        · exact he
        · exact O.full c (by rw [e1]; simp [hc])) (by rw [List.flatten_append, List.flatten_cons, ← List.append_assoc]; exact h1)
    split
    · rename_i hj; exact OO.join hj
    · split
      · rename_i hj; exact OO.join hj.2
      · exact OO
theorem nb_init : ∀ {A : List Nat} {x : Nat}, Nb (A ++ [x]) → Nb A
  | [], _, _ => trivial
  | [_], _, _ => trivial
  | a :: b :: A, x, h => by
    simp only [List.cons_append, Nb] at h ⊢
    exact ⟨h.1, nb_init (A := b :: A) h.2⟩
theorem nb_two {A : List Nat} {x y : Nat} {B : List Nat} : Nb (A ++ x :: y :: B) ↔ Nb (A ++ [x]) ∧ 17 ≤ x + y ∧ Nb (y :: B) := by
  rw [nb_append]; simp only [Nb]
theorem Shq.del {P : List (List En)} (h : Shq P) (O : Ord P) (k : List Int) : Shq (delQ P k) := by
  cases hk : has P k
  · unfold delQ; rw [hk]; exact h
  obtain ⟨A, es, B, X, x, Y, e1, e2, e3, e4, _⟩ := del_parts O hk
  have hl : (X ++ Y).length + 1 = es.length := by rw [e2]; simp; omega
  have h0 := h.two
  rw [e1, List.map_append, List.map_cons, nb_append] at h0
  have hes := h.one es (by rw [e1]; simp)
  have hA : ∀ a ∈ A, 1 ≤ a.length ∧ a.length ≤ 32 := fun a ha => h.one a (by rw [e1]; simp [ha])
  have hB : ∀ b ∈ B, 1 ≤ b.length ∧ b.length ≤ 32 := fun b hb => h.one b (by rw [e1]; simp [hb])
  rw [e4]
  generalize X ++ Y = Z at hl ⊢
  split
  · rename_i hz
    subst hz
    simp at hl
    refine ⟨fun c hc => (List.mem_append.1 hc).elim (hA c) (hB c), ?_⟩
    rw [List.map_append]
    cases B with
    | nil =>
      rw [List.map_nil, List.append_nil]
      exact nb_init h0.1
    | cons b B =>
      have h2 := h0.2
      simp only [List.map_cons, Nb] at h2
      rw [List.map_cons, nb_append]
      exact ⟨h0.1.front (by omega), h2.2⟩
  · rename_i hz
    have hz1 : 1 ≤ Z.length := by cases Z with
      | nil => exact absurd rfl hz
      | cons => simp
    split
    · rename_i hj
      obtain ⟨A', a, b, B', g1, g2, g3, g4⟩ := jn_parts hj
      obtain ⟨rfl, g5⟩ := List.append_inj g1 g2.symm
      injection g5 with g5 g6
      subst g5 g6
      rw [g3]
      have h2 := h0.2
      simp only [List.map_cons, Nb] at h2
      have hb := hB b List.mem_cons_self
      refine ⟨fun c hc => ?_, ?_⟩
      · rcases List.mem_append.1 hc with hc | hc
        · exact hA c hc
        · rcases List.mem_cons.1 hc with rfl | hc
          · rw [List.length_append]; omega
          · exact hB c (List.mem_cons_of_mem _ hc)
      · rw [List.map_append, List.map_cons, List.length_append, nb_append]
        refine ⟨h0.1.front16 (fun a ha => ?_) (by omega), h2.2.back16 (fun c hc => ?_) (by omega)⟩
        · obtain ⟨a', h1, rfl⟩ := List.mem_map.1 ha; exact (hA a' h1).1
        · obtain ⟨c', h1, rfl⟩ := List.mem_map.1 hc; exact (hB c' (List.mem_cons_of_mem _ h1)).1
    · rename_i hj0
      split
      · rename_i hj
        obtain ⟨hA1, hj⟩ := hj
        obtain ⟨A', a, b, B', g1, g2, g3, g4⟩ := jn_parts hj
        have g5 : A ++ Z :: B = (A' ++ [a]) ++ b :: B' := by rw [g1]; simp
        obtain ⟨rfl, g6⟩ := List.append_inj g5 (by simp; omega)
        injection g6 with g6 g7
        subst g6 g7
        rw [g3]
        have h1 := h0.1
        rw [List.map_append, List.append_assoc, List.map_cons, List.map_nil, List.cons_append, List.nil_append, nb_two] at h1
        have ha := hA a (by simp)
        refine ⟨fun c hc => ?_, ?_⟩
        · rcases List.mem_append.1 hc with hc | hc
          · exact hA c (List.mem_append_left _ hc)
          · rcases List.mem_cons.1 hc with rfl | hc
            · rw [List.length_append]; omega
            · exact hB c hc
        · rw [List.map_append, List.map_cons, List.length_append, nb_append]
          refine ⟨h1.1.front16 (fun c hc => ?_) (by omega), h0.2.back16 (fun c hc => ?_) (by omega)⟩
          · obtain ⟨c', h1, rfl⟩ := List.mem_map.1 hc; exact (hA c' (List.mem_append_left _ h1)).1
          · obtain ⟨c', h1, rfl⟩ := List.mem_map.1 hc; exact (hB c' h1).1
      · rename_i hj1
        refine ⟨fun c hc => ?_, ?_⟩
        · rcases List.mem_append.1 hc with hc | hc
          · exact hA c hc
          · rcases List.mem_cons.1 hc with rfl | hc
            · omega
            · exact hB c hc
        · rw [List.map_append, List.map_cons, nb_append]
          constructor
          · rcases List.eq_nil_or_concat A with rfl | ⟨A', a, rfl⟩
            · trivial
            · have g : 17 ≤ a.length + Z.length := by
                refine jn_no (A := A') (B := B) (Bool.eq_false_iff.2 fun g => hj1 ⟨by simp, ?_⟩)
                simpa using g
              have h1 := h0.1
              simp only [List.concat_eq_append, List.map_append, List.append_assoc, List.map_cons, List.map_nil, List.cons_append, List.nil_append] at h1 ⊢
              rw [nb_two] at h1 ⊢
              exact ⟨h1.1, g, trivial⟩
          · cases B with
            | nil => trivial
            | cons b B =>
              have g : 17 ≤ Z.length + b.length := jn_no (A := A) (B := B) (Bool.eq_false_iff.2 fun g => hj0 g)
              have h2 := h0.2
              simp only [List.map_cons, Nb] at h2 ⊢
              exact ⟨g, h2.2⟩
end Pg
end Go.Proofs.YtpoifdokmjhclaaGreat

namespace Go.Proofs.YtpoifdokmjhclaaGreat
namespace Pg
/-- not below f, and below t, if t says anything -/
def btw (f t : List Int) (e : En) : Bool := !decide (Lt e.kl f) && (decide (t = []) || decide (Lt e.kl t))
theorem plc_take : ∀ (l : List (List Int)) (k : List Int) (b : Nat), plc (l.take b) k = min (plc l k) b
  | [], k, b => by simp [plc]
  | x :: l, k, 0 => by simp [plc]
  | x :: l, k, b + 1 => by
    rw [List.take_succ_cons, plc, plc]
    split
    · rw [plc_take l k b]; omega
    · simp
theorem take_flt : ∀ {es : List En} (_ : es.Pairwise fun x y => Lt x.kl y.kl) (k : List Int), es.take (plc (kys es) k) = es.filter fun e => decide (Lt e.kl k)
  | [], _, _ => by simp
  | x :: es, h, k => by
    have h' := List.pairwise_cons.1 h
    rw [show kys (x :: es) = x.kl :: kys es from rfl, plc]
    by_cases hx : Lt x.kl k
    · rw [if_pos hx, List.take_succ_cons, take_flt h'.2 k, List.filter_cons_of_pos (by simpa using hx)]
    · rw [if_neg hx, List.take_zero, List.filter_cons_of_neg (by simpa using hx)]
      symm
      rw [List.filter_eq_nil_iff]
      intro e he hl
      exact hx ((h'.1 e he).trans (by simpa using hl))
theorem drop_flt : ∀ {es : List En} (_ : es.Pairwise fun x y => Lt x.kl y.kl) (k : List Int), es.drop (plc (kys es) k) = es.filter fun e => !decide (Lt e.kl k)
  | [], _, _ => by simp
  | x :: es, h, k => by
    have h' := List.pairwise_cons.1 h
    rw [show kys (x :: es) = x.kl :: kys es from rfl, plc]
    by_cases hx : Lt x.kl k
    · rw [if_pos hx, List.drop_succ_cons, drop_flt h'.2 k, List.filter_cons_of_neg (by simpa using hx)]
    · rw [if_neg hx, List.drop_zero]
      symm
      rw [List.filter_eq_self]
      intro e he
      rcases List.mem_cons.1 he with rfl | he
      · simpa using hx
      · have := h'.1 e he
        simp only [Bool.not_eq_true', decide_eq_false_iff_not]
        exact fun hl => hx (this.trans hl)
theorem wth_flt {es : List En} (h : es.Pairwise fun x y => Lt x.kl y.kl) (f t : List Int) : wth es f t = es.filter (btw f t) := by
  unfold wth wthE cut
  by_cases ht : t = []
  · rw [if_pos ht, List.take_of_length_le (by rw [List.length_drop]; omega), drop_flt h]
    congr 1
    funext e
    simp [btw, ht]
  · rw [if_neg ht]
    have e1 : max (plc (kys es) f) (plc (kys es) t) - plc (kys es) f = plc (kys es) t - plc (kys es) f := by omega
    have e2 : es.filter (btw f t) = (es.filter fun e => decide (Lt e.kl t)).filter fun e => !decide (Lt e.kl f) := by
      rw [List.filter_filter]
      congr 1
      funext e
      simp [btw, ht]
    have hk : kys (es.take (plc (kys es) t)) = (kys es).take (plc (kys es) t) := by simp [kys, List.map_take]
    rw [e1, ← List.drop_take, e2, ← take_flt h, ← drop_flt (h.sublist (List.take_sublist _ _)), hk, plc_take]
    by_cases hb : plc (kys es) f ≤ plc (kys es) t
    · rw [Nat.min_eq_left hb]
    · rw [List.drop_of_length_le (by rw [List.length_take]; omega), List.drop_of_length_le (by rw [List.length_take]; omega)]
theorem flatMap_flt {P : List (List En)} (p : En → Bool) : P.flatMap (fun es => es.filter p) = P.flatten.filter p := by
  induction P with
  | nil => rfl
  | cons a P ih => rw [List.flatMap_cons, ih, List.flatten_cons, List.filter_append]
theorem flatMap_same {P : List (List En)} {f g : List En → List En} (h : ∀ es ∈ P, f es = g es) : P.flatMap f = P.flatMap g := by
  induction P with
  | nil => rfl
  | cons a P ih => rw [List.flatMap_cons, List.flatMap_cons, h a List.mem_cons_self, ih fun es he => h es (List.mem_cons_of_mem _ he)]
theorem wlk_flt {P : List (List En)} (O : Ord P) (f t : List Int) : wlk P f t = P.flatten.filter (btw f t) := by
  by_cases hP : P = []
  · subst hP; simp [wlk, cut]
  obtain ⟨A, es, B, e1, e2, e3, h1, h2, h4⟩ := O.parts hP f
  have hA : (P.take (pgi P f)).flatten.filter (btw f t) = [] := by
    rw [← e2]
    have : P.take A.length = A := by rw [e1]; simp
    rw [this, List.filter_eq_nil_iff]
    intro e he hb
    have := h1 e (List.mem_append_left _ he)
    simp [btw, this] at hb
  have hB : (P.drop (max (pgi P f) (spanE P t))).flatten.filter (btw f t) = [] := by
    rw [List.filter_eq_nil_iff]
    intro e he hb
    unfold spanE at he
    by_cases ht : t = []
    · rw [if_pos ht, List.drop_of_length_le (by omega)] at he
      simp at he
    · rw [if_neg ht] at he
      obtain ⟨A', es', B', g1, g2, g3, k1, k2, k4⟩ := O.parts hP t
      have g5 : P.drop (pgi P t + 1) = B' := by
        rw [← g2]
        conv => lhs; rw [g1]
        simp
      have hmem : e ∈ B'.flatten := by
        obtain ⟨a, ha, hea⟩ := List.mem_flatten.1 he
        refine List.mem_flatten.2 ⟨a, ?_, hea⟩
        rw [← g5]
        have hlen : pgi P t + 1 ≤ P.length := by rw [← g2, g1]; simp
        rw [Nat.min_eq_left hlen] at ha
        obtain ⟨j, hj⟩ := List.getElem?_of_mem ha
        rw [List.getElem?_drop] at hj
        refine List.mem_of_getElem? (i := max (pgi P f) (pgi P t + 1) + j - (pgi P t + 1)) ?_
        rw [List.getElem?_drop, show pgi P t + 1 + (max (pgi P f) (pgi P t + 1) + j - (pgi P t + 1)) = max (pgi P f) (pgi P t + 1) + j by omega]
        exact hj
      have := k4 e hmem
      simp [btw, ht, this.not] at hb
  have hsplit : P = P.take (pgi P f) ++ (cut P (pgi P f) (spanE P t) ++ P.drop (max (pgi P f) (spanE P t))) := by
    unfold cut
    conv => lhs; rw [← List.take_append_drop (pgi P f) P, ← List.take_append_drop (max (pgi P f) (spanE P t) - pgi P f) (P.drop (pgi P f))]
    rw [List.drop_drop, show pgi P f + (max (pgi P f) (spanE P t) - pgi P f) = max (pgi P f) (spanE P t) by omega]
  unfold wlk
  rw [flatMap_same (g := fun es => es.filter (btw f t)) (fun es he => wth_flt (O.pair.1 es (cut_mem he)) f t), flatMap_flt]
  conv => rhs; rw [hsplit]
  rw [List.flatten_append, List.flatten_append, List.filter_append, List.filter_append, hA, hB, List.nil_append, List.append_nil]
end Pg
end Go.Proofs.YtpoifdokmjhclaaGreat

namespace Go.Proofs.YtpoifdokmjhclaaGreat
namespace Pg
open Go.RowKit Go.Lib
attribute [local go_sem] Oper.semAt_some
end Pg
end Go.Proofs.YtpoifdokmjhclaaGreat

namespace Go.Proofs.YtpoifdokmjhclaaGreat
namespace Pg
open Go.RowKit Go.Lib
attribute [local go_sem] Oper.semAt_some
end Pg
end Go.Proofs.YtpoifdokmjhclaaGreat

namespace Go.Proofs.YtpoifdokmjhclaaGreat
namespace Pg
/-- all entries behind a Set of a key that isn't there, or is -/
theorem set_flat_new {P : List (List En)} (O : Ord P) {e : En} (hn : has P e.kl = false) : ∃ X Y, P.flatten = X ++ Y ∧ (setQ P e).flatten = X ++ e :: Y ∧ (∀ x ∈ X, Lt x.kl e.kl) ∧ (∀ y ∈ Y, Lt e.kl y.kl) := by
  by_cases hP : P = []
  · subst hP
    exact ⟨[], [], rfl, by simp [setQ], by simp, by simp⟩
  obtain ⟨A, es, B, X, Y, e1, e2, e3, h1, h2⟩ := set_ins O hP hn
  refine ⟨A.flatten ++ X, Y ++ B.flatten, by rw [e1, e2]; simp, ?_, h1, h2⟩
  rw [e3]
  split
  · rw [List.flatten_append, List.flatten_cons, List.flatten_cons, ← List.append_assoc (List.take 16 _), List.take_append_drop]
    simp
  · simp
theorem set_flat_old {P : List (List En)} (O : Ord P) {e : En} (hk : has P e.kl = true) : ∃ X x Y, P.flatten = X ++ x :: Y ∧ x.kl = e.kl ∧ (setQ P e).flatten = X ++ { x with vv := e.vv, vl := e.vl } :: Y := by
  obtain ⟨A, es, B, X, x, Y, e1, e2, e3, e4⟩ := set_upd O hk
  refine ⟨A.flatten ++ X, x, Y ++ B.flatten, by rw [e1, e2]; simp, e3, by rw [e4]; simp⟩
theorem jn_flatten {P : List (List En)} {i : Nat} (h : jnb P i = true) : (jnQ P i).flatten = P.flatten := by
  obtain ⟨A, a, b, B, e1, e2, e3, _⟩ := jn_parts h
  rw [e3, e1]; simp
theorem del_flat {P : List (List En)} (O : Ord P) {k : List Int} (hk : has P k = true) : ∃ X x Y, P.flatten = X ++ x :: Y ∧ x.kl = k ∧ (delQ P k).flatten = X ++ Y := by
  obtain ⟨A, es, B, X, x, Y, e1, e2, e3, e4, _⟩ := del_parts O hk
  refine ⟨A.flatten ++ X, x, Y ++ B.flatten, by rw [e1, e2]; simp, e3, ?_⟩
  have g : (A ++ (X ++ Y) :: B).flatten = A.flatten ++ X ++ (Y ++ B.flatten) := by simp
  rw [e4, ← g]
  split
  · rename_i h; rw [h]; simp
  · split
    · rename_i h; exact jn_flatten h
    · split
      · rename_i h; exact jn_flatten h.2
      · rfl
theorem del_none {P : List (List En)} {k : List Int} (hk : has P k = false) : delQ P k = P := by unfold delQ; rw [hk]; rfl
theorem len_set {P : List (List En)} (O : Ord P) (e : En) : (setQ P e).flatten.length = P.flatten.length + if has P e.kl then 0 else 1 := by
  cases h : has P e.kl
  · obtain ⟨X, Y, e1, e2, _⟩ := set_flat_new O h
    rw [e1, e2]; simp; omega
  · obtain ⟨X, x, Y, e1, _, e2⟩ := set_flat_old O h
    rw [e1, e2]; simp
end Pg
end Go.Proofs.YtpoifdokmjhclaaGreat

namespace Go.Proofs.YtpoifdokmjhclaaGreat
namespace Pg
abbrev KV := List Int × List Int
def abs (P : List (List En)) : List (List KV) := P.map fun es => es.map En.kl2
def apl (Q : List (List KV)) (k : List Int) : Nat := plq (Q.map fun es => (es.map Prod.fst).headD []) k - 1
/-- is the key there? -/
def ahas (Q : List (List KV)) (k : List Int) : Bool := !Q.isEmpty && thr ((Q.getD (apl Q k) []).map Prod.fst) k
/-- what lies for it -/
def agot (Q : List (List KV)) (k : List Int) : List Int := ((Q.getD (apl Q k) [])[plc ((Q.getD (apl Q k) []).map Prod.fst) k]?.map Prod.snd).getD []
/-- the entry x laid at place q of page i -/
def ains (Q : List (List KV)) (i q : Nat) (x : KV) : List (List KV) :=
  let es := (Q.getD i []).take q ++ [x] ++ (Q.getD i []).drop q
  if 32 < es.length then Q.take i ++ [es.take 16, es.drop 16] ++ Q.drop (i + 1) else Q.set i es
/-- the pages behind a Set -/
def aset (Q : List (List KV)) (k v : List Int) : List (List KV) :=
  if Q = [] then [[(k, v)]]
  else
    let i := apl Q k
    let es := Q.getD i []
    let q := plc (es.map Prod.fst) k
    if thr (es.map Prod.fst) k then Q.set i (es.modify q fun x => (x.1, v)) else ains Q i q (k, v)
def ajnb (Q : List (List KV)) (i : Nat) : Bool := decide (i + 1 < Q.length) && decide ((Q.getD i []).length + (Q.getD (i + 1) []).length ≤ 16)
def ajn (Q : List (List KV)) (i : Nat) : List (List KV) := Q.take i ++ [Q.getD i [] ++ Q.getD (i + 1) []] ++ Q.drop (i + 2)
def arm (Q : List (List KV)) (i q : Nat) : List (List KV) :=
  let es := (Q.getD i []).take q ++ (Q.getD i []).drop (q + 1)
  if es = [] then Q.take i ++ Q.drop (i + 1)
  else
    let Q1 := Q.set i es
    if ajnb Q1 i then ajn Q1 i else if 1 ≤ i ∧ ajnb Q1 (i - 1) then ajn Q1 (i - 1) else Q1
/-- the pages behind a Delete -/
def adel (Q : List (List KV)) (k : List Int) : List (List KV) :=
  if ahas Q k then arm Q (apl Q k) (plc ((Q.getD (apl Q k) []).map Prod.fst) k) else Q
/-- what lies between two bounds -/
def abtw (f t : List Int) (x : KV) : Bool := !decide (Lt x.1 f) && (decide (t = []) || decide (Lt x.1 t))

theorem kl2_fst (es : List En) : (es.map En.kl2).map Prod.fst = kys es := by rw [List.map_map]; rfl
theorem abs_getD (P : List (List En)) (i : Nat) : (abs P).getD i [] = (P.getD i []).map En.kl2 := by
  simp only [abs, List.getD_eq_getElem?_getD, List.getElem?_map]
  cases P[i]? <;> rfl
theorem abs_pgi (P : List (List En)) (k : List Int) : apl (abs P) k = pgi P k := by
  unfold apl pgi abs fks
  rw [List.map_map]
  congr 2
  apply List.map_congr_left
  intro es _
  simp only [Function.comp_apply, kl2_fst]
theorem abs_has (P : List (List En)) (k : List Int) : ahas (abs P) k = has P k := by
  unfold ahas has
  rw [abs_pgi, abs_getD, kl2_fst]
  cases P <;> rfl
theorem abs_got (P : List (List En)) (k : List Int) : agot (abs P) k = got P k := by
  unfold agot got
  rw [abs_pgi, abs_getD, kl2_fst, List.getElem?_map, Option.map_map]
  rfl
theorem map_modify {α β : Type} {f : α → α} {g : α → β} {f' : β → β} (h : ∀ x, g (f x) = f' (g x)) : ∀ (l : List α) (q : Nat), (l.modify q f).map g = (l.map g).modify q f'
  | [], q => by cases q <;> rfl
  | a :: l, 0 => by simp [h]
  | a :: l, q + 1 => by simp [map_modify h l q]
theorem abs_nil {P : List (List En)} : abs P = [] ↔ P = [] := by simp [abs]
theorem abs_set_at (P : List (List En)) (i : Nat) (es : List En) : abs (P.set i es) = (abs P).set i (es.map En.kl2) := by simp [abs, List.map_set]
theorem abs_len (P : List (List En)) : (abs P).length = P.length := by simp [abs]
theorem abs_ins (P : List (List En)) (i q : Nat) (e : En) : abs (insQ P i q e) = ains (abs P) i q (e.kl, e.vl) := by
  have h : (((abs P).getD i []).take q ++ [(e.kl, e.vl)] ++ ((abs P).getD i []).drop q) = ((P.getD i []).take q ++ [e] ++ (P.getD i []).drop q).map En.kl2 := by
    rw [abs_getD]
    simp [List.map_take, List.map_drop, En.kl2]
  unfold ains insQ
  simp only
  rw [h]
  simp only [List.length_map]
  split
  · simp [abs, List.map_take, List.map_drop]
  · rw [abs_set_at]
theorem abs_set (P : List (List En)) (e : En) : abs (setQ P e) = aset (abs P) e.kl e.vl := by
  unfold setQ aset
  by_cases h : P = []
  · subst h; rfl
  rw [if_neg h, if_neg (fun e => h (abs_nil.1 e))]
  simp only
  rw [abs_pgi, abs_getD, kl2_fst]
  split
  · rw [abs_set_at, map_modify (f' := fun x => (x.1, e.vl)) (fun x => rfl)]
  · rw [abs_ins]
theorem abs_jnb (P : List (List En)) (i : Nat) : ajnb (abs P) i = jnb P i := by
  unfold ajnb jnb
  rw [abs_getD, abs_getD, abs_len, List.length_map, List.length_map]
theorem abs_jn (P : List (List En)) (i : Nat) : ajn (abs P) i = abs (jnQ P i) := by
  unfold ajn jnQ
  rw [abs_getD, abs_getD]
  simp [abs, List.map_take, List.map_drop]
theorem abs_del (P : List (List En)) (k : List Int) : abs (delQ P k) = adel (abs P) k := by
  unfold delQ adel
  rw [abs_has]
  split
  · rw [abs_pgi, abs_getD, kl2_fst]
    unfold rmQ arm
    simp only
    rw [abs_getD]
    have h : ∀ q, (((P.getD (pgi P k) []).map En.kl2).take q ++ ((P.getD (pgi P k) []).map En.kl2).drop (q + 1)) = ((P.getD (pgi P k) []).take q ++ (P.getD (pgi P k) []).drop (q + 1)).map En.kl2 := fun q => by
      simp [List.map_take, List.map_drop]
    rw [h, ← abs_set_at, abs_jnb, abs_jnb, abs_jn, abs_jn]
    simp only [List.map_eq_nil_iff]
    split
    · simp [abs, List.map_take, List.map_drop]
    · split
      · rfl
      · split <;> rfl
  · rfl
theorem abs_flat (P : List (List En)) : (abs P).flatten = P.flatten.map En.kl2 := by
  unfold abs
  rw [List.map_flatten]
theorem abs_walk {P : List (List En)} (O : Ord P) (f t : List Int) : (wlk P f t).map En.kl2 = (abs P).flatten.filter (abtw f t) := by
  rw [wlk_flt O, abs_flat, List.filter_map]
  rfl
/-- pages in order -/
def AOrd (Q : List (List KV)) : Prop := ∃ P, abs P = Q ∧ Ord P
theorem AOrd.flat {Q : List (List KV)} (h : AOrd Q) : Q.flatten.Pairwise fun x y => Lt x.1 y.1 := by
  obtain ⟨P, rfl, O⟩ := h
  rw [abs_flat, List.pairwise_map]
  exact O.flat
theorem AOrd.set_new {Q : List (List KV)} (h : AOrd Q) {k : List Int} (v : List Int) (hn : ahas Q k = false) : ∃ X Y, Q.flatten = X ++ Y ∧ (aset Q k v).flatten = X ++ (k, v) :: Y ∧ (∀ x ∈ X, Lt x.1 k) ∧ (∀ y ∈ Y, Lt k y.1) := by
  obtain ⟨P, rfl, O⟩ := h
  rw [abs_has] at hn
  obtain ⟨X, Y, e1, e2, h1, h2⟩ := set_flat_new O (e := ⟨undef, k, undef, v⟩) hn
  refine ⟨X.map En.kl2, Y.map En.kl2, by rw [abs_flat, e1, List.map_append], ?_, ?_, ?_⟩
  · rw [← abs_set P ⟨undef, k, undef, v⟩, abs_flat, e2]
    simp [En.kl2]
  · intro x hx
    obtain ⟨e, he, rfl⟩ := List.mem_map.1 hx
    exact h1 e he
  · intro x hx
    obtain ⟨e, he, rfl⟩ := List.mem_map.1 hx
    exact h2 e he
theorem AOrd.set_old {Q : List (List KV)} (h : AOrd Q) {k : List Int} (v : List Int) (hn : ahas Q k = true) : ∃ X x Y, Q.flatten = X ++ (k, x) :: Y ∧ (aset Q k v).flatten = X ++ (k, v) :: Y := by
  obtain ⟨P, rfl, O⟩ := h
  rw [abs_has] at hn
  obtain ⟨X, x, Y, e1, hx, e2⟩ := set_flat_old O (e := ⟨undef, k, undef, v⟩) hn
  refine ⟨X.map En.kl2, x.vl, Y.map En.kl2, ?_, ?_⟩
  · rw [abs_flat, e1]
    simp [En.kl2, hx]
  · rw [← abs_set P ⟨undef, k, undef, v⟩, abs_flat, e2]
    simp [En.kl2, hx]
theorem AOrd.del_old {Q : List (List KV)} (h : AOrd Q) {k : List Int} (hn : ahas Q k = true) : ∃ X x Y, Q.flatten = X ++ (k, x) :: Y ∧ (adel Q k).flatten = X ++ Y := by
  obtain ⟨P, rfl, O⟩ := h
  rw [abs_has] at hn
  obtain ⟨X, x, Y, e1, hx, e2⟩ := del_flat O hn
  refine ⟨X.map En.kl2, x.vl, Y.map En.kl2, ?_, ?_⟩
  · rw [abs_flat, e1]
    simp [En.kl2, hx]
  · rw [← abs_del P k, abs_flat, e2]
    simp
theorem adel_none {Q : List (List KV)} {k : List Int} (hn : ahas Q k = false) : adel Q k = Q := by
  unfold adel
  rw [hn]
  rfl
end Pg
end Go.Proofs.YtpoifdokmjhclaaGreat
