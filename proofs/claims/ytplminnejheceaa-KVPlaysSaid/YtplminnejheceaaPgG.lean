/- Get and Set. -/
import Derived.Test.YtplminnejheceaaPgWe
namespace Go.Proofs.Ytplminnejheceaa
namespace Pg
open Go.RowKit Go.Lib

/-- is the key there? -/
def has (P : List (List En)) (k : List Int) : Bool := !P.isEmpty && thr (kys (P.getD (pgi P k) [])) k
/-- what lies for a key -/
def got (P : List (List En)) (k : List Int) : List Int := ((P.getD (pgi P k) [])[plc (kys (P.getD (pgi P k) [])) k]?.map En.vl).getD []
def setQ (P : List (List En)) (e : En) : List (List En) :=
  if P = [] then [[e]]
  else
    let i := pgi P e.kl
    let es := P.getD i []
    let q := plc (kys es) e.kl
    if thr (kys es) e.kl then P.set i (es.modify q fun x => { x with vv := e.vv, vl := e.vl }) else insQ P i q e
theorem thr_get {es : List En} {k : List Int} (h : thr (kys es) k = true) : ∃ e, es[plc (kys es) k]? = some e ∧ e.kl = k := by
  simp only [thr, decide_eq_true_eq, kys, List.getElem?_map] at h
  obtain ⟨e, he, hk⟩ := Option.map_eq_some_iff.1 h
  exact ⟨e, he, hk⟩
theorem ens_ne {L : List Pg} (h : L ≠ []) : ens L ≠ [] := fun e => h (by simpa [ens] using e)
theorem at_page {L : List Pg} (h : L ≠ []) (k : List Int) : ∃ p, L[pgi (ens L) k]? = some p ∧ (ens L).getD (pgi (ens L) k) [] = p.es := by
  have := pgi_lt (ens_ne h) k
  simp only [ens, List.length_map] at this
  refine ⟨L[pgi (ens L) k]'this, List.getElem?_eq_getElem _, ?_⟩
  exact ens_getD (List.getElem?_eq_getElem _)
/-- storing what lies there already changes nothing -/
theorem set_same {w : World} {G i : Nat} {cs : List Value} {t : TypeId} {v : Value} (h : Blk w G cs t) (hi : cs[i]? = some v) (b : Nat) : (w.setCell ⟨G, i, none⟩ v).heap[b]? = w.heap[b]? := by
  by_cases e : b = G
  · subst e
    have h1 := (h.setCell (i := i) v).blk
    rw [h1, h.blk]
    have : cs.set i v = cs := by
      obtain ⟨hl, rfl⟩ := List.getElem?_eq_some_iff.1 hi
      exact List.set_getElem_self hl
    rw [this]
  · exact Below.heap_setCell w _ v b e
/-- an entry's value put anew -/
theorem MapA.upd {w w1 : World} {F D : Nat → Prop} {g i q : Nat} {L : List Pg} {p : Pg} {e : En} {u : Value} {ul : List Int} (A : MapA w F D g L) (hi : L[i]? = some p) (he : p.es[q]? = some e) (B : Below w.heap.size w w1) (hu : OB w1 (w.heap.size ≤ ·) u ul) :
    MapA (w1.setCell ⟨p.b, q * 2 + 1, none⟩ u) F (fun b => D b ∨ w.heap.size ≤ b) g (L.set i ⟨p.b, p.c, p.es.set q { e with vv := u, vl := ul }⟩) ∧ Chg F w (w1.setCell ⟨p.b, q * 2 + 1, none⟩ u) := by
  have hil := (List.getElem?_eq_some_iff.1 hi).1
  have hL : L ≠ [] := fun e => by subst e; simp at hil
  obtain ⟨G, C, hg, hFg, hFG, hR⟩ := A.opn hL
  have hp := A.pages p (List.mem_of_getElem? hi)
  have hql := (List.getElem?_eq_some_iff.1 he).1
  have hC : Chg (· = p.b) w (w1.setCell ⟨p.b, q * 2 + 1, none⟩ u) := (Chg.of (F := (· = p.b)) B).cell (.inl rfl) _
  have hoff : ∀ {v : Value} {l : List Int} {D' : Nat → Prop}, OB w1 D' v l → OB (w1.setCell ⟨p.b, q * 2 + 1, none⟩ u) D' v l := fun h => ⟨h.oct, h.ex.imp id (by
    rintro ⟨b, c, e, hd, hR'⟩
    refine ⟨b, c, e, hd, hR'.same (Below.heap_setCell w1 _ _ b ?_)⟩
    obtain ⟨ds, k⟩ := hR'.kind
    obtain ⟨ds', k'⟩ := (hp.1.row.keep B).kind
    exact blk_ne k k' (by decide))⟩
  have hrow : Rw (w1.setCell ⟨p.b, q * 2 + 1, none⟩ u) 90 2 p.b p.es.length p.c (flat (p.es.set q { e with vv := u, vl := ul })) :=
    ((hp.1.row.keep B).set (q * 2 + 1) (by rw [flat_len]; omega) u).to (flat_set_v u ul he)
  have hA : PgA (w1.setCell ⟨p.b, q * 2 + 1, none⟩ u) (fun b => D b ∨ w.heap.size ≤ b) ⟨p.b, p.c, p.es.set q { e with vv := u, vl := ul }⟩ := by
    refine ⟨by simpa using hrow, fun e' he' => ?_⟩
    obtain ⟨j, hj⟩ := List.getElem?_of_mem he'
    rw [List.getElem?_set] at hj
    by_cases ej : q = j
    · subst ej
      rw [if_pos rfl, if_pos hql] at hj
      cases hj
      have he0 := hp.1.ents e (List.mem_of_getElem? he)
      exact ⟨(hoff (he0.k.keep B)).mono (fun _ _ h => .inl h), (hoff hu).mono (fun _ _ h => .inr h)⟩
    · rw [if_neg ej] at hj
      have he0 := hp.1.ents e' (List.mem_of_getElem? hj)
      exact ⟨(hoff (he0.k.keep B)).mono (fun _ _ h => .inl h), (hoff (he0.v.keep B)).mono (fun _ _ h => .inl h)⟩
  obtain ⟨A2, C2⟩ := A.put (p' := ⟨p.b, p.c, p.es.set q { e with vv := u, vl := ul }⟩) (D' := fun b => D b ∨ w.heap.size ≤ b) hg hFg hFG hR hi hC (.inl rfl) hA (fun _ _ h => .inl h)
  have hv : (⟨p.b, p.c, p.es.set q { e with vv := u, vl := ul }⟩ : Pg).v = p.v := by simp [Pg.v]
  rw [hv] at A2 C2
  have hRG : Rw (w1.setCell ⟨p.b, q * 2 + 1, none⟩ u) 87 1 G L.length C (L.map Pg.v) := hR.chg hC (fun e => hp.1.ne_row hR e.symm)
  have hsame : ∀ b, ((w1.setCell ⟨p.b, q * 2 + 1, none⟩ u).setCell ⟨G, i, none⟩ p.v).heap[b]? = (w1.setCell ⟨p.b, q * 2 + 1, none⟩ u).heap[b]? := fun b => by
    obtain ⟨sp, h, _⟩ := hRG.ex
    exact set_same h (by rw [List.getElem?_append_left (by simpa using hil)]; simp [hi]) b
  have hFF : ∀ x, ((F x ∧ x ≠ p.b) ∨ x = p.b) ↔ F x := fun x => ⟨fun h => h.elim (fun h => h.1) (fun h => by subst h; exact hp.2), fun h => by
    by_cases ex : x = p.b
    · exact .inr ex
    · exact .inl ⟨h, ex⟩⟩
  have A3 := A2.same (w' := w1.setCell ⟨p.b, q * 2 + 1, none⟩ u) (fun b _ => (hsame b).symm) (fun b _ _ _ => (hsame b).symm)
  rw [show (fun x => (F x ∧ x ≠ p.b) ∨ x = p.b) = F from funext fun x => propext (hFF x)] at A3
  exact ⟨A3, ⟨hC.os, hC.tape, hC.output, hC.size, fun b hb hf => hC.same b hb fun e => hf (by subst e; exact hp.2)⟩⟩
set_option maxHeartbeats 2000000 in
set_option maxRecDepth 100000 in
theorem get_any {w : World} {F D : Nat → Prop} {g : Nat} {L : List Pg} {kv : Value} {k : List Int} (A : MapA w F D g L) (O : Ord (ens L)) (hs : ∀ es ∈ ens L, es.length ≤ 1000) (hn : L.length ≤ 100000000) (h : By w kv k) (hb : ∀ p ∈ L, ∀ e ∈ p.es, e.vl.length ≤ 1000000000) :
    Calls Try.prog 55 #[.pointer (some ⟨g, 0, none⟩), kv] w fun e w' => ∃ v, e = .returned (.tuple #[v, .bool (has (ens L) k)]) ∧ OB w' (w.heap.size ≤ ·) v (if has (ens L) k then got (ens L) k else []) ∧ Below w.heap.size w w' := by
  by_cases hL : L = []
  · subst hL
    have t := find_nil (v := kv) A
    have e1 : has (ens []) k = false := rfl
    rw [e1]
    clear A O hs hb h
    go_enter Try.func55, Try.ntmps55
    go_wp2_with (go_at_call 66; refine t.mono ?_; rintro e' w1 ⟨rfl, rfl⟩)
    go_ret2
    exact ⟨_, rfl, ⟨fun _ h => by simp at h, .inl ⟨rfl, rfl⟩⟩, Below.refl _ _⟩
  · obtain ⟨p, hp, hpe⟩ := at_page hL k
    have hpm := List.mem_of_getElem? hp
    have t := find_at A O h (by omega) hp (by have := hs p.es (List.mem_map.2 ⟨p, hpm, rfl⟩); omega)
    obtain ⟨G, C, hg, hFg, hFG, hR⟩ := A.opn hL
    have hlt := (List.getElem?_eq_some_iff.1 hp).1
    have hh : has (ens L) k = thr (kys p.es) k := by
      unfold has
      rw [hpe]
      have : (ens L).isEmpty = false := by simp [ens, hL]
      simp [this]
    have hg' : got (ens L) k = ((p.es)[plc (kys p.es) k]?.map En.vl).getD [] := by unfold got; rw [hpe]
    rw [hh]
    by_cases ht : thr (kys p.es) k = true
    · obtain ⟨e, he, hek⟩ := thr_get ht
      rw [he] at hg'
      simp only [Option.map_some, Option.getD_some] at hg'
      rw [ht, if_pos rfl, hg']
      rw [ht] at t
      have cg := hg.cell (i := 0) rfl
      have cG := hR.cell (i := pgi (ens L) k) (v := p.v) (by simp [hp])
      have hE := (A.pages p hpm).1.ents e (List.mem_of_getElem? he)
      have cv := (A.pages p hpm).1.row.cell (flat_v he)
      have tC : ∀ w', Below w.heap.size w w' → Calls Try.prog 62 #[e.vv] w' _ := fun w' hB => clone_any (hE.v.keep hB).by (hb p hpm e (List.mem_of_getElem? he))
      have hql := (List.getElem?_eq_some_iff.1 he).1
      generalize pgi (ens L) k = i at *
      generalize plc (kys p.es) k = q at *
      have z1 : (i : Int) < L.length := by omega
      have z2 : (q : Int) < p.es.length := by omega
      simp only [Pg.v] at cG
      generalize L.length = n at *
      generalize p.es.length = m at *
      clear A O hs hb h hR hg hE ht
      go_enter Try.func55, Try.ntmps55
      go_wp2_with (first | (go_at_call 66; refine t.mono ?_; rintro e' w1 ⟨rfl, hB⟩; have cg1 : w1.cell? ⟨g, 0, none⟩ = _ := (hB.cell (p := ⟨g, 0, none⟩) (cell_lt cg)).trans cg; have cG1 : w1.cell? ⟨G, i, none⟩ = _ := (hB.cell (p := ⟨G, i, none⟩) (cell_lt cG)).trans cG; have cv1 : w1.cell? ⟨p.b, q * 2 + 1, none⟩ = _ := (hB.cell (p := ⟨p.b, q * 2 + 1, none⟩) (cell_lt cv)).trans cv; have tC1 := tC w1 hB; clear t tC) | (go_at_call 62; refine tC1.mono ?_; rintro e' w2 ⟨v', rfl, hO, hB2⟩))
      go_ret2
      exact ⟨v', rfl, hO.mono (fun b _ hb => Nat.le_trans hB.size hb), joinB hB hB2⟩
    · have ht' : thr (kys p.es) k = false := by simpa using ht
      rw [ht'] at t ⊢
      generalize pgi (ens L) k = i at *
      generalize plc (kys p.es) k = q at *
      clear A O hs hb h hR hg ht ht' hh hg'
      go_enter Try.func55, Try.ntmps55
      go_wp2_with (go_at_call 66; refine t.mono ?_; rintro e' w1 ⟨rfl, hB⟩)
      go_ret2
      exact ⟨_, rfl, ⟨fun _ h => by simp at h, .inl ⟨rfl, rfl⟩⟩, hB⟩
end Pg
end Go.Proofs.Ytplminnejheceaa
