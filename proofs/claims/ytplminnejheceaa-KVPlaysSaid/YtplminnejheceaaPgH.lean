/- Set. -/
import Derived.Test.YtplminnejheceaaPgG
namespace Go.Proofs.Ytplminnejheceaa
namespace Pg
open Go.RowKit Go.Lib
theorem modify_at {es : List En} {q : Nat} {e : En} (h : es[q]? = some e) (f : En → En) : es.modify q f = es.set q (f e) := by
  have hl := (List.getElem?_eq_some_iff.1 h).1
  apply List.ext_getElem?
  intro j
  rw [List.getElem?_modify, List.getElem?_set]
  by_cases e : q = j
  · subst e; rw [if_pos rfl, if_pos hl, h]; simp
  · rw [if_neg e]; simp [e]
theorem OB.shape {w : World} {D : Nat → Prop} {v : Value} {l : List Int} (h : OB w D v l) : ∃ ao c, v = .slice ao l.length c := by
  rcases h.ex with ⟨rfl, rfl⟩ | ⟨b, c, rfl, _⟩
  · exact ⟨none, 0, rfl⟩
  · exact ⟨_, c, rfl⟩
/-- what Set leaves -/
def SetR (w w' : World) (F D : Nat → Prop) (g : Nat) (L : List Pg) (k v : List Int) : Prop :=
  ∃ F' L' nk nv, ens L' = setQ (ens L) ⟨nk, k, nv, v⟩ ∧ MapA w' F' (fun b => D b ∨ w.heap.size ≤ b) g L' ∧ (∀ b, F' b → F b ∨ w.heap.size ≤ b) ∧ Chg F w w'
set_option maxHeartbeats 2000000 in
set_option maxRecDepth 100000 in
theorem set_there {w : World} {F D : Nat → Prop} {g : Nat} {L : List Pg} {p : Pg} {kv vv : Value} {k v : List Int} (A : MapA w F D g L) (O : Ord (ens L)) (hs : p.es.length ≤ 1000) (hn : L.length ≤ 100000000) (h : By w kv k) (hv : By w vv v) (hvl : v.length ≤ 1000000000) (hL : L ≠ []) (hp : L[pgi (ens L) k]? = some p) (hpe : (ens L).getD (pgi (ens L) k) [] = p.es) (ht : thr (kys p.es) k = true) :
    Calls Try.prog 47 #[.pointer (some ⟨g, 0, none⟩), kv, vv] w fun e w' => e = .returned (.bool false) ∧ SetR w w' F D g L k v := by
  have t := find_at A O h (by omega) hp (by omega)
  obtain ⟨G, C, hg, hFg, hFG, hR⟩ := A.opn hL
  obtain ⟨e, he, hek⟩ := thr_get ht
  have hpm := List.mem_of_getElem? hp
  have hlt := (List.getElem?_eq_some_iff.1 hp).1
  have hql := (List.getElem?_eq_some_iff.1 he).1
  have hS : ∀ u, setQ (ens L) ⟨e.kv, k, u, v⟩ = (ens L).set (pgi (ens L) k) (p.es.set (plc (kys p.es) k) { e with vv := u, vl := v }) := fun u => by
    unfold setQ
    rw [if_neg (ens_ne hL)]
    simp only [hpe]
    rw [if_pos ht, modify_at he]
  have hS : Hid _ := hS
  rw [ht] at t
  have cg := hg.cell (i := 0) rfl
  have cG := hR.cell (i := pgi (ens L) k) (v := p.v) (by simp [hp])
  have tC : ∀ w', Below w.heap.size w w' → Calls Try.prog 62 #[vv] w' _ := fun w' hB => clone_any (hv.keep hB) hvl
  have hPA := (A.pages p hpm).1
  have cv := hPA.row.cell (flat_v he)
  have fv := hPA.row.free (plc (kys p.es) k * 2 + 1)
  have n1 : g ≠ p.b := fun e => hPA.ne_map hg e.symm
  have n2 : G ≠ p.b := fun e => hPA.ne_row hR e.symm
  generalize hgi : pgi (ens L) k = i at *
  generalize hgq : plc (kys p.es) k = q at *
  have hgi : Hid _ := hgi
  have hgq : Hid _ := hgq
  have z1 : (i : Int) < L.length := by omega
  have z2 : (q : Int) < p.es.length := by omega
  simp only [Pg.v] at cG
  generalize hln : L.length = n at *
  generalize hlm : p.es.length = m at *
  have hln : Hid _ := hln
  have hlm : Hid _ := hlm
  clear ht hpe
  have mixed := mixed
  go_enter Try.func47, Try.ntmps47
  go_wp2_with (first | (go_at_call 66; refine t.mono ?_; rintro e' w1 ⟨rfl, hB⟩))
  have cg1 : w1.drew.cell? ⟨g, 0, none⟩ = some (.slice (some ⟨G, 0, none⟩) n C) := (hB.cell (p := ⟨g, 0, none⟩) (cell_lt cg)).trans cg
  have cG1 : w1.drew.cell? ⟨G, i, none⟩ = some (.slice (some ⟨p.b, 0, none⟩) m p.c) := (hB.cell (p := ⟨G, i, none⟩) (cell_lt cG)).trans cG
  have hB1 : Below w.heap.size w w1.drew := joinB hB (belowD w1)
  have tC1 := tC w1.drew hB1
  go_region_held3 (fun w' => w'.cell? ⟨g, 0, none⟩ = some (.slice (some ⟨G, 0, none⟩) n C) ∧ w'.cell? ⟨G, i, none⟩ = some (.slice (some ⟨p.b, 0, none⟩) m p.c)) (first | exact ⟨by assumption, by assumption⟩ | exact ⟨cell_off n1 (by assumption), cell_off n2 (by assumption)⟩)
    (first
    | (go_at_call 62; refine tC1.mono ?_; rintro e' w2 ⟨v', rfl, hO, hB2⟩; obtain ⟨aq, cq, rfl⟩ := hO.shape; have cg2 : w2.cell? ⟨g, 0, none⟩ = _ := (hB2.cell (p := ⟨g, 0, none⟩) (cell_lt cg1)).trans cg1; have cG2 : w2.cell? ⟨G, i, none⟩ = _ := (hB2.cell (p := ⟨G, i, none⟩) (cell_lt cG1)).trans cG1; have hB3 := joinB hB1 hB2; have cv2 : w2.cell? ⟨p.b, q * 2 + 1, none⟩ = _ := (hB3.cell (p := ⟨p.b, q * 2 + 1, none⟩) (cell_lt cv)).trans cv; have fv2 : w2.frozen? ⟨p.b, q * 2 + 1, none⟩ = false := (hPA.row.keep hB3).free _))
  all_goals (
    have hO' : OB w2 (w.heap.size ≤ ·) (.slice aq v.length cq) v := hO.mono (fun b _ hb => Nat.le_trans hB1.size hb)
    obtain ⟨A2, C2⟩ := A.upd hp he hB3 hO'
    generalize (w2.setCell ⟨p.b, q * 2 + 1, none⟩ (.slice aq v.length cq)) = W3 at *
    go_wp2
    go_ret
    exact ⟨rfl, F, _, e.kv, .slice aq v.length cq, by rw [hS.out, ens_set], A2, fun b hb => .inl hb, C2⟩)
set_option maxHeartbeats 2000000 in
set_option maxRecDepth 100000 in
theorem set_new {w : World} {F D : Nat → Prop} {g i q : Nat} {L : List Pg} {kv vv : Value} {k v : List Int} (A : MapA w F D g L) (h : By w kv k) (hv : By w vv v) (hkl : k.length ≤ 1000000000) (hvl : v.length ≤ 1000000000)
    (t : Calls Try.prog 66 #[.pointer (some ⟨g, 0, none⟩), kv] w fun e w' => e = .returned (.tuple #[.int .i64 i, .int .i64 q, .bool false]) ∧ Below w.heap.size w w')
    (tI : ∀ (w' : World) (nk nv : Value), MapA w' F (fun b => D b ∨ w.heap.size ≤ b) g L → EnA w' (fun b => D b ∨ w.heap.size ≤ b) ⟨nk, k, nv, v⟩ → Calls Try.prog 67 #[.pointer (some ⟨g, 0, none⟩), .int .i64 i, .int .i64 q, .agg #[nk, nv]] w' fun e' w'' => ∃ F' L', e' = .returned (.tuple #[]) ∧ ens L' = setQ (ens L) ⟨nk, k, nv, v⟩ ∧ MapA w'' F' (fun b => D b ∨ w.heap.size ≤ b) g L' ∧ (∀ b, F' b → F b ∨ w'.heap.size ≤ b) ∧ Chg F w' w'') :
    Calls Try.prog 47 #[.pointer (some ⟨g, 0, none⟩), kv, vv] w fun e w' => e = .returned (.bool true) ∧ SetR w w' F D g L k v := by
  have tC : ∀ w', Below w.heap.size w w' → Calls Try.prog 62 #[kv] w' _ := fun w' hB => clone_any (h.keep hB) hkl
  have tV : ∀ w', Below w.heap.size w w' → Calls Try.prog 62 #[vv] w' _ := fun w' hB => clone_any (hv.keep hB) hvl
  have mk : True := trivial
  clear h hv
  go_enter Try.func47, Try.ntmps47
  go_wp2_with (first
    | (go_at_call 66; refine t.mono ?_; rintro e' w1 ⟨rfl, hB⟩; have tC1 := tC w1 hB; clear t tC)
    | (go_at_call 62; clear mk; refine tC1.mono ?_; rintro e' w2 ⟨nk, rfl, hO, hB2⟩; have hBB := joinB hB hB2; have tV1 := tV w2 hBB; clear tC1 tV; obtain ⟨aq, cq, rfl⟩ := hO.shape)
    | (go_at_call 62; refine tV1.mono ?_; rintro e' w3 ⟨nv, rfl, hO3, hB3⟩; clear tV1; obtain ⟨ar, cr, rfl⟩ := hO3.shape; have hB0 := joinB hBB hB3; have tI1 := tI w3 _ _ ((A.keep hB0).mono (fun _ _ h => .inl h)) ⟨(hO.keep hB3).mono (fun b _ hb => .inr (Nat.le_trans hB.size hb)), hO3.mono (fun b _ hb => .inr (Nat.le_trans hBB.size hb))⟩)
    | (go_at_call 67; refine tI1.mono ?_; rintro e' w4 ⟨F', L', rfl, hE, hA, hF, hC⟩))
  go_ret
  exact ⟨rfl, F', L', _, _, hE, hA, fun b hb => (hF b hb).imp id (fun h => Nat.le_trans hB0.size h), (Chg.of (F := F) hB0).trans hC (fun _ _ h => h)⟩
/-- Set -/
theorem set_any {w : World} {F D : Nat → Prop} {g : Nat} {L : List Pg} {kv vv : Value} {k v : List Int} (A : MapA w F D g L) (O : Ord (ens L)) (hs : ∀ es ∈ ens L, es.length ≤ 32) (hn : L.length ≤ 100000000) (h : By w kv k) (hv : By w vv v) (hkl : k.length ≤ 1000000000) (hvl : v.length ≤ 1000000000) :
    Calls Try.prog 47 #[.pointer (some ⟨g, 0, none⟩), kv, vv] w fun e w' => e = .returned (.bool (!has (ens L) k)) ∧ SetR w w' F D g L k v := by
  by_cases hL : L = []
  · subst hL
    refine set_new (i := 0) (q := 0) A h hv hkl hvl ((find_nil A).mono ?_) (fun w' nk nv A' E' => (insert_empty A' E').mono ?_)
    · rintro e w' ⟨rfl, rfl⟩; exact ⟨rfl, Below.refl _ _⟩
    · rintro e w'' ⟨F', L', rfl, hE, hA, hF, hC⟩
      exact ⟨F', L', rfl, hE, hA, hF, hC⟩
  · obtain ⟨p, hp, hpe⟩ := at_page hL k
    have hpm := List.mem_of_getElem? hp
    have hps := hs p.es (List.mem_map.2 ⟨p, hpm, rfl⟩)
    have hh : has (ens L) k = thr (kys p.es) k := by
      unfold has
      rw [hpe]
      have : (ens L).isEmpty = false := by simp [ens, hL]
      simp [this]
    rw [hh]
    by_cases ht : thr (kys p.es) k = true
    · rw [ht]
      exact set_there A O (by omega) hn h hv hvl hL hp hpe ht
    · have ht' : thr (kys p.es) k = false := by simpa using ht
      have t := find_at A O h (by omega) hp (by omega)
      rw [ht'] at t ⊢
      have hql := plc_le (kys p.es) k
      simp only [kys, List.length_map] at hql
      refine set_new A h hv hkl hvl t (fun w' nk nv A' E' => (insert_any A' hp (q := plc (kys p.es) k) hql hps hn E').mono ?_)
      rintro e w'' ⟨F', L', rfl, hE, hA, hF, hC⟩
      refine ⟨F', L', rfl, ?_, hA, hF, hC⟩
      rw [hE]
      unfold setQ
      rw [if_neg (ens_ne hL)]
      simp only [hpe]
      rw [if_neg (by rw [ht']; decide)]
end Pg
end Go.Proofs.Ytplminnejheceaa
