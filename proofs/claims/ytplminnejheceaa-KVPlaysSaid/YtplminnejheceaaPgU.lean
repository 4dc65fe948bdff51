/- A page of a map, and its list of pages, put anew. -/
import Derived.Test.YtplminnejheceaaPgQ
namespace Go.Proofs.Ytplminnejheceaa
namespace Pg
open Go.RowKit Go.Lib

theorem MapA.opn {w : World} {F D : Nat → Prop} {g : Nat} {L : List Pg} (A : MapA w F D g L) (h : L ≠ []) : ∃ G C, Blk w g [.slice (some ⟨G, 0, none⟩) L.length C] 86 ∧ F g ∧ F G ∧ Rw w 87 1 G L.length C (L.map Pg.v) := by
  obtain ⟨pv, hb, hg, ⟨rfl, rfl⟩ | ⟨G, C, rfl, hG, hR⟩⟩ := A.top
  · exact absurd rfl h
  · exact ⟨G, C, hb, hg, hG, hR⟩
theorem blk_ne {w : World} {a b : Nat} {cs ds : List Value} {t u : TypeId} (h : Blk w a cs t) (h' : Blk w b ds u) (ht : t ≠ u) : a ≠ b := fun e => by subst e; exact ht (h.eq h').2
theorem PgA.ne_map {w : World} {D : Nat → Prop} {p : Pg} (h : PgA w D p) {g : Nat} {cs : List Value} (hg : Blk w g cs 86) : p.b ≠ g := by
  obtain ⟨ds, k⟩ := h.row.kind
  exact blk_ne k hg (by decide)
theorem PgA.ne_row {w : World} {D : Nat → Prop} {p : Pg} (h : PgA w D p) {G n c : Nat} {xs : List Value} (hG : Rw w 87 1 G n c xs) : p.b ≠ G := by
  obtain ⟨ds, k⟩ := h.row.kind
  obtain ⟨es, k'⟩ := hG.kind
  exact blk_ne k k' (by decide)
theorem Rw.ne_map {w : World} {G n c : Nat} {xs : List Value} (hG : Rw w 87 1 G n c xs) {g : Nat} {cs : List Value} (hg : Blk w g cs 86) : G ≠ g := by
  obtain ⟨es, k'⟩ := hG.kind
  exact blk_ne k' hg (by decide)
theorem nodup_lt {L : List Pg} (h : (L.map Pg.b).Nodup) {i j : Nat} {p q : Pg} (hi : L[i]? = some p) (hj : L[j]? = some q) (hij : i < j) : p.b ≠ q.b := by
  obtain ⟨l1, e1⟩ := List.getElem?_eq_some_iff.1 hi
  obtain ⟨l2, e2⟩ := List.getElem?_eq_some_iff.1 hj
  have := List.pairwise_iff_getElem.1 h i j (by simpa using l1) (by simpa using l2) hij
  simpa [e1, e2] using this
theorem nodup_ne {L : List Pg} (h : (L.map Pg.b).Nodup) {i j : Nat} {p q : Pg} (hi : L[i]? = some p) (hj : L[j]? = some q) (hij : i ≠ j) : p.b ≠ q.b := by
  rcases Nat.lt_or_gt_of_ne hij with k | k
  · exact nodup_lt h hi hj k
  · exact (nodup_lt h hj hi k).symm
theorem nodup_of {L : List Pg} (h : ∀ (i j : Nat) (p q : Pg), L[i]? = some p → L[j]? = some q → i < j → p.b ≠ q.b) : (L.map Pg.b).Nodup := by
  refine List.pairwise_iff_getElem.2 fun i j h1 h2 hij => ?_
  have l1 : i < L.length := by simpa using h1
  have l2 : j < L.length := by simpa using h2
  simpa using h i j _ _ (List.getElem?_eq_getElem l1) (List.getElem?_eq_getElem l2) hij
/-- bytes stay where no list of bytes is changed -/
theorem EnA.off {w w' : World} {D : Nat → Prop} {e : En} (h : EnA w D e) (h2 : ∀ b, b < w.heap.size → (∃ cs, Blk w b cs 5) → w'.heap[b]? = w.heap[b]?) : EnA w' D e := by
  have hob : ∀ {v : Value} {l : List Int}, OB w D v l → OB w' D v l := fun h => ⟨h.oct, h.ex.imp id (by
    rintro ⟨b, c, e, hd, hR⟩
    exact ⟨b, c, e, hd, hR.same (h2 b hR.lt hR.kind)⟩)⟩
  exact ⟨hob h.k, hob h.v⟩
/-- a page put anew -/
theorem MapA.put {w w1 : World} {F D D' : Nat → Prop} {g G C i : Nat} {L : List Pg} {p p' : Pg} (A : MapA w F D g L) (hg : Blk w g [.slice (some ⟨G, 0, none⟩) L.length C] 86) (hFg : F g) (hFG : F G) (hR : Rw w 87 1 G L.length C (L.map Pg.v))
    (hi : L[i]? = some p) (hC : Chg (· = p.b) w w1) (hb : p'.b = p.b ∨ w.heap.size ≤ p'.b) (hA : PgA w1 D' p') (hD : ∀ b, b < w.heap.size → D b → D' b) :
    MapA (w1.setCell ⟨G, i, none⟩ p'.v) (fun x => (F x ∧ x ≠ p.b) ∨ x = p'.b) D' g (L.set i p') ∧ Chg F w (w1.setCell ⟨G, i, none⟩ p'.v) := by
  have hil := (List.getElem?_eq_some_iff.1 hi).1
  have hp := A.pages p (List.mem_of_getElem? hi)
  have n1 := hp.1.ne_map hg
  have n2 := hp.1.ne_row hR
  have n3 := hR.ne_map hg
  have hg1 : Blk w1 g _ _ := hg.chg hC (fun e => n1 e.symm)
  have hR1 := hR.chg hC (fun e => n2 e.symm)
  have hR2 := hR1.set i (by simpa using hil) p'.v
  have n4 : p'.b ≠ G := hA.ne_row hR1
  have hC2 : Chg F w (w1.setCell ⟨G, i, none⟩ p'.v) := (hC.mono (F' := F) (fun b _ e => by subst e; exact hp.2)).cell (.inl hFG) _
  have hu8 : ∀ b, b < w.heap.size → (∃ cs, Blk w b cs 5) → (w1.setCell ⟨G, i, none⟩ p'.v).heap[b]? = w.heap[b]? := fun b hb hk => by
    obtain ⟨cs, k⟩ := hk
    exact hC2.same b hb fun f => A.noU f cs k
  have hset : ∀ b, b ≠ G → (w1.setCell ⟨G, i, none⟩ p'.v).heap[b]? = w1.heap[b]? := fun b hb => Below.heap_setCell w1 _ _ b hb
  refine ⟨⟨⟨_, hg1.off (fun e => n3 e.symm) _, .inl ⟨hFg, fun e => n1 e.symm⟩, .inr ⟨G, C, ?_, .inl ⟨hFG, fun e => n2 e.symm⟩, ?_⟩⟩, fun q hq => ?_, nodup_of fun x y a b hx hy hxy => ?_, fun b hb => ?_⟩, hC2⟩
  · rw [List.length_set]
  · rw [List.length_set]
    refine hR2.to ?_
    rw [List.map_set]
  · obtain ⟨j, hj⟩ := List.getElem?_of_mem hq
    rw [List.getElem?_set] at hj
    by_cases e : i = j
    · subst e
      rw [if_pos rfl, if_pos hil] at hj
      cases hj
      refine ⟨⟨hA.row.same (hset _ n4), fun e he => (hA.ents e he).off fun b _ hk => ?_⟩, .inr rfl⟩
      obtain ⟨cs, k⟩ := hk
      obtain ⟨ds, k'⟩ := hR1.kind
      exact hset b (blk_ne k k' (by decide))
    · rw [if_neg e] at hj
      have hqm := A.pages q (List.mem_of_getElem? hj)
      have hne : q.b ≠ p.b := fun e' => nodup_ne A.apart hi hj e e'.symm
      exact ⟨⟨(hqm.1.row.chg hC hne).same (hset _ (hqm.1.ne_row hR)), fun e he => ((hqm.1.ents e he).mono hD).off hu8⟩, .inl ⟨hqm.2, hne⟩⟩
  · have key : ∀ (y : Nat) (b : Pg), y ≠ i → L[y]? = some b → p'.b ≠ b.b := fun y b hy hb' => by
      rcases hb with e | e
      · rw [e]; exact nodup_ne A.apart hi hb' (fun e' => hy e'.symm)
      · have := (A.pages b (List.mem_of_getElem? hb')).1.row.lt
        omega
    rw [List.getElem?_set] at hx hy
    by_cases e : i = x
    · subst e
      rw [if_pos rfl, if_pos hil] at hx
      cases hx
      rw [if_neg (by omega)] at hy
      exact key y b (by omega) hy
    · rw [if_neg e] at hx
      by_cases e' : i = y
      · subst e'
        rw [if_pos rfl, if_pos hil] at hy
        cases hy
        exact (key x a (by omega) hx).symm
      · rw [if_neg e'] at hy
        exact nodup_lt A.apart hx hy hxy
  · by_cases e : b = p'.b
    · subst e
      obtain ⟨cs, k⟩ := hA.row.kind
      exact ⟨cs, _, k.same (hset _ n4), by decide⟩
    · obtain ⟨hF, e2⟩ := hb.resolve_right e
      obtain ⟨cs, t, k, ht⟩ := A.kind b hF
      by_cases e1 : b = G
      · subst e1
        obtain ⟨ds, k'⟩ := hR2.kind
        exact ⟨ds, _, k', by decide⟩
      · exact ⟨cs, t, (k.chg hC e2).same (hset b e1), ht⟩
/-- the list of pages put anew -/
theorem mapA_swap {w w1 : World} {F D : Nat → Prop} {g G G' C' n : Nat} {c0 : Value} {L' : List Pg} (hP : ∀ p ∈ L', PgA w D p ∧ F p.b) (hap : (L'.map Pg.b).Nodup) (hk : ∀ b, F b → ∃ cs t, Blk w b cs t ∧ t ≠ 5) (hg : Blk w g [c0] 86) (hFg : F g) (hFG : F G) (hgG : G ≠ g) (hC : Chg (· = G) w w1) (hnG : ∀ p ∈ L', p.b ≠ G) (hn : L'.length = n)
    (hR : Rw w1 87 1 G' n C' (L'.map Pg.v)) :
    MapA (w1.setCell ⟨g, 0, none⟩ (.slice (some ⟨G', 0, none⟩) n C')) (fun x => (F x ∧ x ≠ G) ∨ x = G') D g L' ∧ Chg F w (w1.setCell ⟨g, 0, none⟩ (.slice (some ⟨G', 0, none⟩) n C')) := by
  subst hn
  have hg1 : Blk w1 g [c0] 86 := hg.chg hC (fun e => hgG e.symm)
  have hg2 := hg1.setCell (i := 0) (.slice (some ⟨G', 0, none⟩) L'.length C')
  have hne : G' ≠ g := hR.ne_map hg1
  have hset : ∀ b, b ≠ g → (w1.setCell ⟨g, 0, none⟩ (.slice (some ⟨G', 0, none⟩) L'.length C')).heap[b]? = w1.heap[b]? := fun b hb => Below.heap_setCell w1 _ _ b hb
  have hC2 : Chg F w (w1.setCell ⟨g, 0, none⟩ (.slice (some ⟨G', 0, none⟩) L'.length C')) := (hC.mono (F' := F) (fun b _ e => by subst e; exact hFG)).cell (.inl hFg) _
  have hu8 : ∀ b, b < w.heap.size → (∃ cs, Blk w b cs 5) → (w1.setCell ⟨g, 0, none⟩ (.slice (some ⟨G', 0, none⟩) L'.length C')).heap[b]? = w.heap[b]? := fun b hb hkk => by
    obtain ⟨cs, k⟩ := hkk
    exact hC2.same b hb fun f => by
      obtain ⟨cs', t, hk', ht⟩ := hk b f
      exact ht (hk'.eq k).2
  refine ⟨⟨⟨_, hg2, .inl ⟨hFg, fun e => hgG e.symm⟩, .inr ⟨G', C', rfl, .inr rfl, hR.same (hset _ hne)⟩⟩, fun q hq => ?_, hap, fun b hb => ?_⟩, hC2⟩
  · have hqm := hP q hq
    exact ⟨⟨(hqm.1.row.chg hC (hnG q hq)).same (hset _ (hqm.1.ne_map hg)), fun e he => (hqm.1.ents e he).off hu8⟩, .inl ⟨hqm.2, hnG q hq⟩⟩
  · by_cases e : b = G'
    · subst e
      obtain ⟨ds, k⟩ := hR.kind
      exact ⟨ds, _, k.same (hset _ hne), by decide⟩
    · obtain ⟨hF, e2⟩ := hb.resolve_right e
      obtain ⟨ds, t, k, ht⟩ := hk b hF
      by_cases e1 : b = g
      · subst e1
        exact ⟨_, _, hg2, by decide⟩
      · exact ⟨ds, t, (k.chg hC e2).same (hset b e1), ht⟩
theorem pv_one (L : List Pg) : ∀ v ∈ L.map Pg.v, v.oneCell' = true := fun v hv => by
  obtain ⟨p, _, rfl⟩ := List.mem_map.1 hv
  rfl
/-- all ways of a region to one end -/
theorem region_mid {P : Program} {X : Type} {id : Nat} {ops : Array Oper} {dr : Bool} {K : Act → World → Prop} {Q' : Exit → Act → World → Prop} {a : Act} {w : World} (F : X → Act → World → Prop)
    (h1 : (Code.region id ops dr).wp P (Exit.then (fun a' w' => ∃ x, F x a' w') (fun _ _ _ => False)) a w) (h2 : ∀ x a' w', F x a' w' → K a' w') : (Code.region id ops dr).wp P (Exit.then K Q') a w :=
  Code.wp_mono (fun e a' w' h => by
    cases e <;> first
      | (obtain ⟨x, hF⟩ := h; exact h2 x a' w' hF)
      | exact h.elim) h1
end Pg
end Go.Proofs.Ytplminnejheceaa
