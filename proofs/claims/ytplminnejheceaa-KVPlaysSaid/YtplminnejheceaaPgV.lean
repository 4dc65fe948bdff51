/- split: two pages of one. -/
import Derived.Test.YtplminnejheceaaPgZ
namespace Go.Proofs.Ytplminnejheceaa
namespace Pg
open Go.RowKit Go.Lib

theorem enA_all {w : World} {D : Nat → Prop} {p : Pg} (h : PgA w D p) {es : List En} (hs : ∀ e ∈ es, e ∈ p.es) : ∀ e ∈ es, EnA w D e := fun e he => h.ents e (hs e he)
theorem belowD (w : World) : Below w.heap.size w w.drew := ⟨rfl, rfl, rfl, Nat.le_refl _, fun _ _ => rfl⟩
theorem cell_off {w : World} {g G i j : Nat} {v u : Value} (h : g ≠ G) (hc : w.cell? ⟨g, j, none⟩ = some u) : (w.setCell ⟨G, i, none⟩ v).cell? ⟨g, j, none⟩ = some u := by
  rw [World.cell?_of_block (w := w) (a := ⟨g, j, none⟩) (Below.heap_setCell w _ v g h)]; exact hc
theorem set_two {α : Type} (L : List α) (i : Nat) (a b : α) (h : i < L.length) : (L.set i a).take (i + 1) ++ [b] ++ (L.set i a).drop (i + 1) = L.take i ++ [a, b] ++ L.drop (i + 1) := by
  have e1 : (L.set i a).take (i + 1) = L.take i ++ [a] := by
    rw [List.take_add_one, List.take_set_of_le (Nat.le_refl _), List.getElem?_set_self h]; rfl
  rw [e1, List.drop_set_of_lt (by omega)]
  simp
theorem split_end {w W2 w3 w5 : World} {F F2 D : Nat → Prop} {g G n m C i b2 c2 G5 C5 : Nat} {L : List Pg} {q1 : Pg} {es : List En} {c0 : Value} (A2 : MapA W2 F2 D g (L.set i q1)) (hF2 : ∀ b, F2 b → F b ∨ w.heap.size ≤ b) (C2 : Chg F w W2) (hgx : Blk W2 g [.slice (some ⟨G, 0, none⟩) (L.set i q1).length C] 86) (hg3 : Blk w3 g [c0] 86) (hFg : F2 g) (hFG : F2 G)
    (hR2 : Rw W2 87 1 G (L.set i q1).length C ((L.set i q1).map Pg.v)) (hgG : g ≠ G) (hil : i < L.length) (hq1 : q1.es = es.take 16) (hdl : (es.drop 16).length = m - 16) (hnn : L.length = n) (B3 : Below W2.drew.heap.size W2.drew w3) (hb2 : W2.drew.heap.size ≤ b2)
    (R3 : Rw w3 90 2 b2 (m - 16) c2 (flat (es.drop 16))) (E0 : ∀ e ∈ es, EnA W2.drew D e) (hb5 : G5 = G ∨ w3.heap.size + 1 ≤ G5)
    (R5 : Rw w5 87 1 G5 (n + 1) C5 (((L.set i q1).map Pg.v).take (i + 1) ++ [.slice (some ⟨b2, 0, none⟩) (m - 16) c2] ++ ((L.set i q1).map Pg.v).drop (i + 1))) (C5' : Chg (· = G) (w3.alloc (.cells #[.slice (some ⟨b2, 0, none⟩) (m - 16) c2] 87)) w5) :
    ∃ F' p1 p2, Ending.returned (.tuple #[]) = Ending.returned (.tuple #[]) ∧ p1.es = es.take 16 ∧ p2.es = es.drop 16 ∧ MapA (w5.setCell ⟨g, 0, none⟩ (.slice (some ⟨G5, 0, none⟩) (n + 1) C5)) F' D g (L.take i ++ [p1, p2] ++ L.drop (i + 1)) ∧ (∀ b, F' b → F b ∨ w.heap.size ≤ b) ∧ Chg F w (w5.setCell ⟨g, 0, none⟩ (.slice (some ⟨G5, 0, none⟩) (n + 1) C5)) := by
  obtain ⟨W4, hW4⟩ : ∃ W4, W4 = w3.alloc (.cells #[.slice (some ⟨b2, 0, none⟩) (m - 16) c2] 87) := ⟨_, rfl⟩
  have B4 : Below W2.heap.size W2 W4 := by rw [hW4]; exact joinB (joinB (belowD W2) B3) (below_alloc w3 _)
  have B34 : Below w3.heap.size w3 W4 := by rw [hW4]; exact below_alloc w3 _
  rw [← hW4] at C5'
  have A4 := A2.keep B4
  have hP2 : PgA W4 D ⟨b2, c2, es.drop 16⟩ := by
    refine ⟨?_, fun e he => ((E0 e (List.mem_of_mem_drop he)).keep B3).keep B34⟩
    show Rw W4 _ 2 b2 (es.drop 16).length c2 _
    rw [hdl]; exact R3.keep B34
  have hb2' : W2.heap.size ≤ b2 := hb2
  have hv2 : (⟨b2, c2, es.drop 16⟩ : Pg).v = .slice (some ⟨b2, 0, none⟩) (m - 16) c2 := by simp only [Pg.v]; rw [hdl]
  have hL' : ∀ p ∈ (L.set i q1).take (i + 1) ++ [(⟨b2, c2, es.drop 16⟩ : Pg)] ++ (L.set i q1).drop (i + 1), p ∈ L.set i q1 ∨ p = ⟨b2, c2, es.drop 16⟩ := fun p hp => by
    rcases List.mem_append.1 hp with h | h
    · rcases List.mem_append.1 h with h | h
      · exact .inl (List.mem_of_mem_take h)
      · exact .inr (by simpa using h)
    · exact .inl (List.mem_of_mem_drop h)
  have hlen : ((L.set i q1).take (i + 1) ++ [(⟨b2, c2, es.drop 16⟩ : Pg)] ++ (L.set i q1).drop (i + 1)).length = n + 1 := by
    simp; omega
  have hold : ∀ p ∈ L.set i q1, p.b ≠ b2 := fun p hp => by
    have := (A2.pages p hp).1.row.lt
    omega
  obtain ⟨A5, C6⟩ := mapA_swap (w := W4) (w1 := w5) (F := fun x => F2 x ∨ x = b2) (D := D) (g := g) (G := G) (G' := G5) (C' := C5) (n := n + 1) (L' := (L.set i q1).take (i + 1) ++ [(⟨b2, c2, es.drop 16⟩ : Pg)] ++ (L.set i q1).drop (i + 1))
    (fun p hp => by
      rcases hL' p hp with h | rfl
      · exact ⟨(A4.pages p h).1, .inl (A4.pages p h).2⟩
      · exact ⟨hP2, .inr rfl⟩)
    (by
      have hn := A2.apart
      have e : (L.set i q1).map Pg.b = ((L.set i q1).take (i + 1)).map Pg.b ++ ((L.set i q1).drop (i + 1)).map Pg.b := by rw [← List.map_append, List.take_append_drop]
      rw [e] at hn
      have h2 : ∀ x ∈ ((L.set i q1).take (i + 1)).map Pg.b, x ≠ b2 := fun x hx => by
        obtain ⟨p, hp, rfl⟩ := List.mem_map.1 hx
        exact hold p (List.mem_of_mem_take hp)
      have h3 : ∀ x ∈ ((L.set i q1).drop (i + 1)).map Pg.b, x ≠ b2 := fun x hx => by
        obtain ⟨p, hp, rfl⟩ := List.mem_map.1 hx
        exact hold p (List.mem_of_mem_drop hp)
      simp only [List.map_append, List.map_cons, List.map_nil]
      rw [List.nodup_append] at hn
      rw [List.append_assoc, List.nodup_append]
      refine ⟨hn.1, ?_, ?_⟩
      · rw [List.singleton_append, List.nodup_cons]
        exact ⟨fun h => h3 b2 h rfl, hn.2.1⟩
      · intro a ha b hb
        rcases List.mem_append.1 hb with hb | hb
        · simp at hb; subst hb; exact h2 a ha
        · exact hn.2.2 a ha b hb)
    (fun b hb => by
      rcases hb with h | rfl
      · exact A4.kind b h
      · obtain ⟨ds, k⟩ := hP2.row.kind
        exact ⟨ds, _, k, by decide⟩)
    (hg3.keep B34) (.inl hFg) (.inl hFG) (fun e => hgG e.symm) C5'
    (fun p hp => by
      rcases hL' p hp with h | rfl
      · exact (A4.pages p h).1.ne_row (hR2.keep B4)
      · exact hP2.ne_row (hR2.keep B4)) hlen
    (by simpa [List.map_take, List.map_drop, hv2] using R5)
  rw [set_two L i q1 _ hil] at A5
  refine ⟨_, q1, ⟨b2, c2, es.drop 16⟩, rfl, hq1, rfl, A5, fun b hb => ?_, (C2.trans (Chg.of (F := F) B4) (fun _ _ h => h)).trans C6 fun b hb h => ?_⟩
  · rcases hb with ⟨h | rfl, _⟩ | rfl
    · exact hF2 b h
    · exact .inr (by have := C2.size; omega)
    · rcases hb5 with rfl | h
      · exact hF2 _ hFG
      · have h3 := B3.size
        have h2 := C2.size
        have : W2.drew.heap.size = W2.heap.size := rfl
        exact .inr (by omega)
  · rcases h with h | rfl
    · exact (hF2 b h).resolve_right (by omega)
    · have := C2.size; omega
theorem cell_far {w : World} {G i j : Nat} {v u : Value} (h : j ≠ i) (hc : w.cell? ⟨G, j, none⟩ = some u) : (w.setCell ⟨G, i, none⟩ v).cell? ⟨G, j, none⟩ = some u := by
  have hlt := cell_lt hc
  simp only [World.cell?, World.setCell, Array.getElem?_modify, if_true] at hc ⊢
  cases hh : w.heap[G]? with
  | none => rw [hh] at hc; simp at hc
  | some ob =>
    rw [hh] at hc
    cases ob with
    | cells c e f =>
      simp at hc ⊢
      rw [Array.getElem?_setIfInBounds, if_neg (by omega)]; exact hc
    | _ => simp at hc
set_option maxHeartbeats 4000000 in
set_option maxRecDepth 100000 in
theorem split_any {w : World} {F D : Nat → Prop} {g i : Nat} {L : List Pg} {p : Pg} (A : MapA w F D g L) (hi : L[i]? = some p) (h1 : 17 ≤ p.es.length) (h2 : p.es.length ≤ 1000) (hn : L.length ≤ 100000000) :
    Calls Try.prog 83 #[.pointer (some ⟨g, 0, none⟩), .int .i64 i] w fun e w' => ∃ F' p1 p2, e = .returned (.tuple #[]) ∧ p1.es = p.es.take 16 ∧ p2.es = p.es.drop 16 ∧ MapA w' F' D g (L.take i ++ [p1, p2] ++ L.drop (i + 1)) ∧ (∀ b, F' b → F b ∨ w.heap.size ≤ b) ∧ Chg F w w' := by
  have hil := (List.getElem?_eq_some_iff.1 hi).1
  have hL : L ≠ [] := fun e => by subst e; simp at hil
  obtain ⟨G, C, hg, hFg, hFG, hR⟩ := A.opn hL
  have hp := A.pages p (List.mem_of_getElem? hi)
  have cg := hg.cell (i := 0) rfl
  have cG := hR.cell (i := i) (v := p.v) (by simp [hi])
  have hpc := hp.1.row.le
  have hCC := hR.le
  simp only [maxLen] at hpc hCC
  have cgd : w.drew.cell? ⟨g, 0, none⟩ = some (.slice (some ⟨G, 0, none⟩) L.length C) := cg
  have t1 := cloneE (w := w.drew) (a := ⟨p.b, 0, none⟩) (n := 16) (c := p.c) (xs := flat (p.es.take 16)) (by decide) (by rw [flat_len, List.length_take]; omega) (fun j v hj => by
    rw [Addr.add_lit, Nat.zero_add]
    have : (flat p.es)[j]? = some v := by
      rw [← flat_take, List.getElem?_take] at hj
      split at hj
      · exact hj
      · cases hj
    exact hp.1.row.drew.cell this) (flat_one (enA_all hp.1 fun e he => List.mem_of_mem_take he))
  obtain ⟨n, hnn⟩ : ∃ n, Hid (L.length = n) := ⟨_, rfl⟩
  obtain ⟨m, hmm⟩ : ∃ m, Hid (p.es.length = m) := ⟨_, rfl⟩
  simp only [Pg.v] at cG
  rw [hnn.out] at cg cgd
  rw [hmm.out] at cG
  have z1 : (i : Int) < n := by have := hnn.out; omega
  have z2 : m ≤ p.c := by have := hmm.out; omega
  have z3 : p.c ≤ 9223372036854775807 := by omega
  have z4 : 17 ≤ m := by have := hmm.out; omega
  have z5 : 16 ≤ p.c := by omega
  have z6 : (16 : Int) ≤ (p.c : Int) := by omega
  have hgG : g ≠ G := fun e => hR.ne_map hg e.symm
  have mixed := mixed
  go_enter Try.func83, Try.ntmps83
  go_wp2
  go_region_held3 (fun w' => w'.cell? ⟨g, 0, none⟩ = some (.slice (some ⟨G, 0, none⟩) n C)) (first | assumption | exact cell_off hgG (by assumption))
    (first
    | (go_at_call 56; refine t1.mono ?_; rintro e' w1 ⟨b1, c1, rfl, hb1, R1, B1⟩; have cg1 : w1.cell? ⟨g, 0, none⟩ = some (.slice (some ⟨G, 0, none⟩) n C) := (B1.cell (p := ⟨g, 0, none⟩) (cell_lt cgd)).trans cgd; have cG1 : w1.cell? ⟨G, i, none⟩ = some (.slice (some ⟨p.b, 0, none⟩) m p.c) := (B1.cell (p := ⟨G, i, none⟩) (cell_lt (w := w.drew) cG)).trans cG; have fG1 : w1.frozen? ⟨G, i, none⟩ = false := (hR.drew.keep B1).free i))
  -- the first half is laid
  obtain ⟨q1, hq1⟩ : ∃ q1 : Pg, Hid (q1 = ⟨b1, c1, p.es.take 16⟩) := ⟨_, rfl⟩
  have hq1l : (p.es.take 16).length = 16 := by rw [List.length_take]; omega
  have hq1v : q1.v = .slice (some ⟨b1, 0, none⟩) 16 c1 := by rw [hq1.out]; simp only [Pg.v]; rw [hq1l]
  have hPA1 : PgA w1 D q1 := by
    rw [hq1.out]
    refine ⟨?_, fun e he => ((hp.1.ents e (List.mem_of_mem_take he)).keep (belowD w)).keep B1⟩
    show Rw w1 _ 2 b1 (p.es.take 16).length c1 _
    rw [hq1l]; exact R1
  obtain ⟨A2, C2⟩ := A.put (p' := q1) (D' := D) hg hFg hFG hR hi (Chg.of (joinB (belowD w) B1)) (.inr (by rw [hq1.out]; exact hb1)) hPA1 (fun _ _ h => h)
  rw [hq1v] at A2 C2
  have R0 : Rw (w1.setCell ⟨G, i, none⟩ (.slice (some ⟨b1, 0, none⟩) 16 c1)) 90 2 p.b p.es.length p.c (flat p.es) := ((hp.1.row.keep (belowD w)).keep B1).same (Below.heap_setCell w1 _ _ _ (hp.1.ne_row hR))
  have E0 : ∀ e ∈ p.es, EnA (w1.setCell ⟨G, i, none⟩ (.slice (some ⟨b1, 0, none⟩) 16 c1)) D e := fun e he => (((hp.1.ents e he).keep (belowD w)).keep B1).off fun b hb hk => by
    obtain ⟨cs, k⟩ := hk
    obtain ⟨ds, k'⟩ := (hR.drew.keep B1).kind
    exact Below.heap_setCell w1 _ _ b (blk_ne k k' (by decide))
  have hw1l : w.heap.size ≤ (w1.setCell ⟨G, i, none⟩ (.slice (some ⟨b1, 0, none⟩) 16 c1)).heap.size := C2.size
  have hb1q : q1.b = b1 := by rw [hq1.out]
  have hq1e : q1.es = p.es.take 16 := by rw [hq1.out]
  have hgb2 := (hg.drew.keep B1).off hgG (i := i) (.slice (some ⟨b1, 0, none⟩) 16 c1)
  have hF2 : ∀ b, ((F b ∧ b ≠ p.b) ∨ b = q1.b) → F b ∨ w.heap.size ≤ b := fun b h => h.imp (fun h => h.1) (fun h => by rw [h, hb1q]; exact hb1)
  generalize (w1.setCell ⟨G, i, none⟩ (.slice (some ⟨b1, 0, none⟩) 16 c1)) = W2 at *
  generalize hF2d : (fun x => (F x ∧ x ≠ p.b) ∨ x = q1.b) = F2 at A2
  obtain ⟨G2, D2, hg2, hFg2, hFG2, hR2⟩ := A2.opn (by simp [hL])
  obtain ⟨rfl, rfl⟩ : G2 = G ∧ D2 = C := by
    have := (hg2.eq hgb2).1
    simp at this
    exact ⟨this.1, this.2⟩
  have hF2' : ∀ b, F2 b → F b ∨ w.heap.size ≤ b := fun b h => hF2 b (by rw [← hF2d] at h; exact h)
  have cg2 : W2.cell? ⟨g, 0, none⟩ = some (.slice (some ⟨G2, 0, none⟩) n D2) := by
    have := hgb2.cell (i := 0) rfl
    rwa [hnn.out] at this
  have cg2d : W2.drew.cell? ⟨g, 0, none⟩ = some (.slice (some ⟨G2, 0, none⟩) n D2) := cg2
  have hdl : (p.es.drop 16).length = m - 16 := by rw [List.length_drop, hmm.out]
  have t2 := cloneE (w := W2.drew) (a := ⟨p.b, 32, none⟩) (n := m - 16) (c := p.c - 16) (xs := flat (p.es.drop 16)) (by have := hmm.out; omega) (by rw [flat_len, hdl]) (fun j v hj => by
    rw [Addr.add_lit]
    have : (flat p.es)[32 + j]? = some v := by
      rw [← flat_drop, List.getElem?_drop] at hj
      exact hj
    exact R0.drew.cell this) (flat_one (w := W2) (D := D) (fun e he => E0 e (List.mem_of_mem_drop he)))
  have zz1 : IntKind.i64.wrap ((i : Int) + 1) = (i : Int) + 1 := by rw [IntKind.wrap_i64]; have := hnn.out; omega
  have zz2 : ¬ (p.c = 16) := by omega
  have zz3 : (16 : Int) ≤ m := by omega
  have t3 : ∀ (w3 : World) (b2 c2 : Nat), Below W2.drew.heap.size W2.drew w3 → Calls Try.prog 95 #[.slice (some ⟨G2, 0, none⟩) n D2, .int .i64 ((i : Int) + 1), .slice (some ⟨w3.heap.size, 0, none⟩) 1 1] (w3.alloc (.cells #[.slice (some ⟨b2, 0, none⟩) (m - 16) c2] 87)) fun e w' => ∃ b' c', e = .returned (.slice (some ⟨b', 0, none⟩) (n + 1) c') ∧ (b' = G2 ∨ w3.heap.size + 1 ≤ b') ∧ Rw w' 87 1 b' (n + 1) c' (((L.set i q1).map Pg.v).take (i + 1) ++ [.slice (some ⟨b2, 0, none⟩) (m - 16) c2] ++ ((L.set i q1).map Pg.v).drop (i + 1)) ∧ Chg (· = G2) (w3.alloc (.cells #[.slice (some ⟨b2, 0, none⟩) (m - 16) c2] 87)) w' := fun w3 b2 c2 B3 => by
    have hk := (hR2.drew.keep B3).keep (below_alloc w3 (.cells #[.slice (some ⟨b2, 0, none⟩) (m - 16) c2] 87))
    rw [List.length_set, hnn.out] at hk
    have hGl : G2 < w3.heap.size := (hR2.drew.keep B3).lt
    have := insP (i := i + 1) hk (blk_new w3 [.slice (some ⟨b2, 0, none⟩) (m - 16) c2] 87) (by omega) (by have := hnn.out; omega) (by have := hnn.out; omega) (pv_one _) (by simp [Value.oneCell'])
    rw [World.size_alloc] at this
    simpa using this
  go_wp2
  go_region_with (first
    | (go_at_call 56; refine t2.mono ?_; rintro e' w3 ⟨b2, c2, rfl, hb2, R3, B3⟩; have cg3 : w3.cell? ⟨g, 0, none⟩ = some (.slice (some ⟨G2, 0, none⟩) n D2) := (B3.cell (p := ⟨g, 0, none⟩) (cell_lt cg2d)).trans cg2d; have cg3' := blk_cell cg3 (.cells #[.slice (some ⟨b2, 0, none⟩) (m - 16) c2] 87))
    | (go_at_call 95; refine (t3 w3 b2 c2 B3).mono ?_; rintro e' w5 ⟨G5, C5, rfl, hb5, R5, C5'⟩; have cg5 : w5.cell? ⟨g, 0, none⟩ = some (.slice (some ⟨G2, 0, none⟩) n D2) := (World.cell?_of_block (w := w3.alloc (.cells #[.slice (some ⟨b2, 0, none⟩) (m - 16) c2] 87)) (a := ⟨g, 0, none⟩) (C5'.same g (cell_lt cg3') hgG)).trans cg3'; have fg5 : w5.frozen? ⟨g, 0, none⟩ = false := (((hgb2.drew.keep B3).keep (below_alloc w3 _)).chg C5' hgG).free 0))
  all_goals go_wp2
  all_goals go_end0
  all_goals exact split_end A2 hF2' C2 hg2 (hgb2.drew.keep B3) hFg2 hFG2 hR2 hgG hil hq1e hdl hnn.out B3 hb2 R3 (fun e he => (E0 e he).keep (belowD W2)) hb5 R5 C5'
end Pg
end Go.Proofs.Ytplminnejheceaa
