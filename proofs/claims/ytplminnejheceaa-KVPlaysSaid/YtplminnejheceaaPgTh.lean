/- Pages of entries: where a key stands. -/
import Derived.Test.YtplminnejheceaaPgSh
namespace Go.Proofs.Ytplminnejheceaa
namespace Pg
theorem Ord.pair {P : List (List En)} (h : Ord P) : (∀ es ∈ P, es.Pairwise fun x y => Lt x.kl y.kl) ∧ P.Pairwise fun a b => ∀ x ∈ a, ∀ y ∈ b, Lt x.kl y.kl := by
  have := h.rise
  simp only [Srt, kys, List.pairwise_map, List.pairwise_flatten] at this
  exact this
theorem Ord.of {P : List (List En)} (h0 : ∀ es ∈ P, es ≠ []) (h : P.flatten.Pairwise fun x y => Lt x.kl y.kl) : Ord P := ⟨h0, by simpa only [Srt, kys, List.pairwise_map] using h⟩
theorem Ord.two {P : List (List En)} (h : Ord P) {i j : Nat} {a b : List En} {x y : En} (hij : i < j) (ha : P[i]? = some a) (hb : P[j]? = some b) (hx : x ∈ a) (hy : y ∈ b) : Lt x.kl y.kl := by
  obtain ⟨h1, rfl⟩ := List.getElem?_eq_some_iff.1 ha
  obtain ⟨h2, rfl⟩ := List.getElem?_eq_some_iff.1 hb
  exact List.pairwise_iff_getElem.1 h.pair.2 i j h1 h2 hij x hx y hy
theorem Ord.head {P : List (List En)} (h : Ord P) {i : Nat} {a : List En} (ha : P[i]? = some a) : ∃ e, e ∈ a ∧ (fks P)[i]? = some e.kl ∧ ∀ x ∈ a, ¬ Lt x.kl e.kl := by
  have hm := List.mem_of_getElem? ha
  obtain ⟨e, l, rfl, he⟩ := mem_head (h.full a hm)
  refine ⟨e, List.mem_cons_self, by rw [fks, List.getElem?_map, ha]; simp [kys], fun x hx => ?_⟩
  rcases List.mem_cons.1 hx with rfl | hx
  · exact lt_irrefl _
  · exact ((List.pairwise_cons.1 (h.pair.1 _ hm)).1 x hx).not
theorem kys_at {es : List En} {j : Nat} {e : En} (h : es[j]? = some e) : (kys es)[j]? = some e.kl := by
  rw [kys, List.getElem?_map, h]; rfl
/-- a key's place parts the entries: smaller ones ahead, none behind -/
theorem Ord.parts {P : List (List En)} (O : Ord P) (hP : P ≠ []) (k : List Int) : ∃ A es B, P = A ++ es :: B ∧ A.length = pgi P k ∧ P.getD (pgi P k) [] = es ∧
    (∀ e ∈ A.flatten ++ es.take (plc (kys es) k), Lt e.kl k) ∧ (∀ e ∈ es.drop (plc (kys es) k), ¬ Lt e.kl k) ∧ (∀ e ∈ B.flatten, Lt k e.kl) := by
  have hi : pgi P k < P.length := by
    have := plq_le (fks P) k
    have : (fks P).length = P.length := by simp [fks]
    have : P.length ≠ 0 := fun e => hP (List.eq_nil_of_length_eq_zero e)
    unfold pgi
    omega
  obtain ⟨i, hii⟩ : ∃ i, pgi P k = i := ⟨_, rfl⟩
  rw [hii] at hi ⊢
  have hg : P[i]? = some P[i] := List.getElem?_eq_getElem hi
  refine ⟨P.take i, P[i], P.drop (i + 1), ?_, by rw [List.length_take]; omega, by rw [List.getD_eq_getElem?_getD, hg]; rfl, fun e he => ?_, fun e he => ?_, fun e he => ?_⟩
  · conv => lhs; rw [← List.take_append_drop i P, List.drop_eq_getElem_cons hi]
  · rcases List.mem_append.1 he with he | he
    · obtain ⟨a, ha, hea⟩ := List.mem_flatten.1 he
      obtain ⟨j, hj⟩ := List.getElem?_of_mem ha
      have hji : j < i := by have := (List.getElem?_eq_some_iff.1 hj).1; rw [List.length_take] at this; omega
      rw [List.getElem?_take_of_lt hji] at hj
      have hj1 : P[j + 1]? = some P[j + 1] := List.getElem?_eq_getElem (by omega)
      obtain ⟨h, h1, h2, h3⟩ := O.head hj1
      have hlt := O.two (Nat.lt_succ_self j) hj hj1 hea h1
      exact hlt.of_le (plq_lt (by unfold pgi at hii; omega) h2)
    · obtain ⟨j, hj⟩ := List.getElem?_of_mem he
      have hjq : j < plc (kys P[i]) k := by have := (List.getElem?_eq_some_iff.1 hj).1; rw [List.length_take] at this; omega
      rw [List.getElem?_take_of_lt hjq] at hj
      exact plc_lt hjq (by rw [kys, List.getElem?_map, hj]; rfl)
  · obtain ⟨j, hj⟩ := List.getElem?_of_mem he
    rw [List.getElem?_drop] at hj
    have hq : plc (kys P[i]) k < P[i].length := by have := (List.getElem?_eq_some_iff.1 hj).1; omega
    have h0 := plc_ge (l := kys P[i]) (k := k) (x := (P[i][plc (kys P[i]) k]).kl) (kys_at (List.getElem?_eq_getElem hq))
    cases j with
    | zero =>
      rw [Nat.add_zero, List.getElem?_eq_getElem hq] at hj
      cases hj
      exact h0
    | succ j =>
      intro hl
      have := (O.page hg).get (i := plc (kys P[i]) k) (j := plc (kys P[i]) k + (j + 1)) (x := (P[i][plc (kys P[i]) k]).kl) (y := e.kl) (by omega) (kys_at (List.getElem?_eq_getElem hq)) (kys_at hj)
      exact h0 (this.trans hl)
  · obtain ⟨a, ha, hea⟩ := List.mem_flatten.1 he
    obtain ⟨j, hj⟩ := List.getElem?_of_mem ha
    rw [List.getElem?_drop] at hj
    obtain ⟨h, h1, h2, h3⟩ := O.head hj
    have hk : Lt k h.kl := by
      have hq : plq (fks P) k < (fks P).length := by
        have := (List.getElem?_eq_some_iff.1 h2).1
        unfold pgi at hii
        omega
      have g0 := plq_ge (l := fks P) (k := k) (x := (fks P)[plq (fks P) k]) (List.getElem?_eq_getElem hq)
      by_cases e : plq (fks P) k = i + 1 + j
      · have g1 : (fks P)[plq (fks P) k]? = some h.kl := by rw [e]; exact h2
        rw [List.getElem?_eq_getElem hq] at g1
        rw [← Option.some.inj g1]
        exact g0
      · exact g0.trans (O.heads.get (by unfold pgi at hii; omega) (List.getElem?_eq_getElem hq) h2)
    exact hk.of_le (h3 e hea)
theorem ins_parts (A B : List (List En)) (es : List En) (q : Nat) (e : En) : insQ (A ++ es :: B) A.length q e =
    if 32 < es.length + 1 then A ++ (es.take q ++ [e] ++ es.drop q).take 16 :: (es.take q ++ [e] ++ es.drop q).drop 16 :: B else A ++ (es.take q ++ [e] ++ es.drop q) :: B := by
  have e1 : (A ++ es :: B).getD A.length [] = es := by simp
  have e2 : (es.take q ++ [e] ++ es.drop q).length = es.length + 1 := by
    simp only [List.length_append, List.length_take, List.length_drop, List.length_cons, List.length_nil]; omega
  unfold insQ
  simp only [e1, e2]
  split
  · simp
  · simp
theorem ins_flatten (A B : List (List En)) (es : List En) (q : Nat) (e : En) : (insQ (A ++ es :: B) A.length q e).flatten = A.flatten ++ es.take q ++ e :: (es.drop q ++ B.flatten) := by
  rw [ins_parts]
  split
  · rw [List.flatten_append, List.flatten_cons, List.flatten_cons, ← List.append_assoc (List.take 16 _), List.take_append_drop]
    simp
  · simp
/-- entries that rise stay so with one more at its place -/
theorem rise_ins {X Y : List En} {e : En} (h : (X ++ Y).Pairwise fun x y => Lt x.kl y.kl) (h1 : ∀ x ∈ X, Lt x.kl e.kl) (h2 : ∀ y ∈ Y, Lt e.kl y.kl) : (X ++ e :: Y).Pairwise fun x y => Lt x.kl y.kl := by
  rw [List.pairwise_append] at h ⊢
  refine ⟨h.1, List.pairwise_cons.2 ⟨h2, h.2.1⟩, fun x hx y hy => ?_⟩
  rcases List.mem_cons.1 hy with rfl | hy
  · exact h1 x hx
  · exact h.2.2 x hx y hy
theorem Ord.flat {P : List (List En)} (O : Ord P) : P.flatten.Pairwise fun x y => Lt x.kl y.kl := by
  simpa only [Srt, kys, List.pairwise_map] using O.rise
/-- a key is there if and only if it is one of the entries' -/
theorem has_iff {P : List (List En)} (O : Ord P) (k : List Int) : has P k = true ↔ k ∈ kys P.flatten := by
  by_cases hP : P = []
  · subst hP; simp [has, kys]
  obtain ⟨A, es, B, e1, e2, e3, h1, h2, h4⟩ := O.parts hP k
  have hes : es ∈ P := by rw [e1]; simp
  obtain ⟨i, hi⟩ := List.getElem?_of_mem hes
  have e4 : P.isEmpty = false := by simpa using hP
  unfold has
  rw [e3, e4, Bool.not_false, Bool.true_and, thr_iff (O.page hi)]
  constructor
  · intro h
    obtain ⟨e, he, rfl⟩ := List.mem_map.1 h
    exact List.mem_map.2 ⟨e, List.mem_flatten.2 ⟨es, hes, he⟩, rfl⟩
  · intro h
    obtain ⟨e, he, rfl⟩ := List.mem_map.1 h
    refine List.mem_map.2 ⟨e, ?_, rfl⟩
    rw [e1, List.flatten_append, List.flatten_cons] at he
    rcases List.mem_append.1 he with he | he
    · exact absurd (h1 e (List.mem_append_left _ he)) (lt_irrefl _)
    · rcases List.mem_append.1 he with he | he
      · exact he
      · exact absurd (h4 e he) (lt_irrefl _)
/-- what stands at a key's place or behind it is above a key that isn't there -/
theorem above {es : List En} {k : List Int} (hs : Srt (kys es)) (h : ∀ e ∈ es.drop (plc (kys es) k), ¬ Lt e.kl k) (hn : thr (kys es) k = false) : ∀ e ∈ es.drop (plc (kys es) k), Lt k e.kl := fun e he => by
  rcases lt_tri k e.kl with h1 | h1 | h1
  · exact h1
  · exfalso
    have : k ∈ kys es := List.mem_map.2 ⟨e, List.mem_of_mem_drop he, h1.symm⟩
    rw [(thr_iff hs).2 this] at hn
    cases hn
  · exact absurd h1 (h e he)
theorem has_thr {P : List (List En)} (hP : P ≠ []) (k : List Int) : has P k = thr (kys (P.getD (pgi P k) [])) k := by
  have e4 : P.isEmpty = false := by simpa using hP
  unfold has
  rw [e4, Bool.not_false, Bool.true_and]
/-- Set of a key that isn't there: where it comes to stand -/
theorem set_ins {P : List (List En)} (O : Ord P) (hP : P ≠ []) {e : En} (hn : has P e.kl = false) : ∃ A es B X Y, P = A ++ es :: B ∧ es = X ++ Y ∧ setQ P e = (if 32 < es.length + 1 then A ++ (X ++ e :: Y).take 16 :: (X ++ e :: Y).drop 16 :: B else A ++ (X ++ e :: Y) :: B) ∧
    (∀ x ∈ A.flatten ++ X, Lt x.kl e.kl) ∧ (∀ x ∈ Y ++ B.flatten, Lt e.kl x.kl) := by
  obtain ⟨A, es, B, e1, e2, e3, h1, h2, h4⟩ := O.parts hP e.kl
  have hes : es ∈ P := by rw [e1]; simp
  obtain ⟨i, hi⟩ := List.getElem?_of_mem hes
  rw [has_thr hP, e3] at hn
  have h3 := above (O.page hi) h2 hn
  refine ⟨A, es, B, es.take (plc (kys es) e.kl), es.drop (plc (kys es) e.kl), e1, (List.take_append_drop _ _).symm, ?_, h1, fun x hx => (List.mem_append.1 hx).elim (h3 x) (h4 x)⟩
  unfold setQ
  rw [if_neg hP]
  simp only [e3, hn, Bool.false_eq_true, if_false]
  rw [← e2]
  conv => lhs; rw [e1]
  rw [ins_parts]
  simp only [List.append_assoc, List.cons_append, List.nil_append]
theorem Ord.ins {P : List (List En)} (O : Ord P) {e : En} (hn : has P e.kl = false) : Ord (setQ P e) := by
  by_cases hP : P = []
  · subst hP
    exact ⟨fun es h => by simp [setQ] at h; simp [h], by simp [setQ, Srt, kys]⟩
  obtain ⟨A, es, B, X, Y, e1, e2, e3, h1, h2⟩ := set_ins O hP hn
  have hr : (A.flatten ++ X ++ e :: (Y ++ B.flatten)).Pairwise fun x y => Lt x.kl y.kl := by
    refine rise_ins ?_ h1 h2
    have := O.flat
    rw [e1, e2, List.flatten_append, List.flatten_cons] at this
    simpa only [List.append_assoc] using this
  have hl : (X ++ e :: Y).length = es.length + 1 := by rw [e2]; simp; omega
  rw [e3]
  split
  · rename_i h32
    refine Ord.of (fun a ha => ?_) ?_
    · rcases List.mem_append.1 ha with ha | ha
      · exact O.full a (by rw [e1]; exact List.mem_append_left _ ha)
      · rcases List.mem_cons.1 ha with rfl | ha
        · exact fun h => by have := congrArg List.length h; rw [List.length_take, hl] at this; simp at this
        · rcases List.mem_cons.1 ha with rfl | ha
          · exact fun h => by have := congrArg List.length h; rw [List.length_drop, hl] at this; simp at this; omega
          · exact O.full a (by rw [e1]; exact List.mem_append_right _ (List.mem_cons_of_mem _ ha))
    · rw [List.flatten_append, List.flatten_cons, List.flatten_cons, ← List.append_assoc (List.take 16 _), List.take_append_drop]
      simpa only [List.append_assoc, List.cons_append] using hr
  · refine Ord.of (fun a ha => ?_) ?_
    · rcases List.mem_append.1 ha with ha | ha
      · exact O.full a (by rw [e1]; exact List.mem_append_left _ ha)
      · rcases List.mem_cons.1 ha with rfl | ha
        · simp
        · exact O.full a (by rw [e1]; exact List.mem_append_right _ (List.mem_cons_of_mem _ ha))
    · rw [List.flatten_append, List.flatten_cons]
      simpa only [List.append_assoc, List.cons_append] using hr
/-- a key that is there: at which entry -/
theorem Ord.at {P : List (List En)} (O : Ord P) {k : List Int} (hk : has P k = true) : ∃ A es B X x Y, P = A ++ es :: B ∧ es = X ++ x :: Y ∧ x.kl = k ∧ A.length = pgi P k ∧ P.getD (pgi P k) [] = es ∧ X.length = plc (kys es) k ∧
    (∀ y ∈ A.flatten ++ X, Lt y.kl k) ∧ (∀ y ∈ Y ++ B.flatten, Lt k y.kl) := by
  have hP : P ≠ [] := fun e => by subst e; simp [has] at hk
  obtain ⟨A, es, B, e1, e2, e3, h1, h2, h4⟩ := O.parts hP k
  have hes : es ∈ P := by rw [e1]; simp
  obtain ⟨i, hi⟩ := List.getElem?_of_mem hes
  rw [has_thr hP, e3] at hk
  obtain ⟨x, hx, hxk⟩ := thr_get hk
  have hq := (List.getElem?_eq_some_iff.1 hx).1
  have e5 : es = es.take (plc (kys es) k) ++ x :: es.drop (plc (kys es) k + 1) := by
    conv => lhs; rw [← List.take_append_drop (plc (kys es) k) es, List.drop_eq_getElem_cons hq]
    rw [(List.getElem?_eq_some_iff.1 hx).2]
  refine ⟨A, es, B, _, x, _, e1, e5, hxk, e2, e3, by rw [List.length_take]; omega, h1, fun y hy => ?_⟩
  rcases List.mem_append.1 hy with hy | hy
  · have := O.pair.1 es hes
    rw [e5, List.pairwise_append, List.pairwise_cons] at this
    rw [← hxk]
    exact this.2.1.1 y hy
  · exact h4 y hy
theorem modify_mid {α : Type} (f : α → α) : ∀ (X Y : List α) (x : α), (X ++ x :: Y).modify X.length f = X ++ f x :: Y
  | [], _, _ => rfl
  | a :: X, Y, x => by
    show (a :: (X ++ x :: Y)).modify (X.length + 1) f = _
    rw [List.modify_succ_cons, modify_mid f X Y x]; rfl
theorem set_upd {P : List (List En)} (O : Ord P) {e : En} (hk : has P e.kl = true) : ∃ A es B X x Y, P = A ++ es :: B ∧ es = X ++ x :: Y ∧ x.kl = e.kl ∧ setQ P e = A ++ (X ++ { x with vv := e.vv, vl := e.vl } :: Y) :: B := by
  have hP : P ≠ [] := fun h => by subst h; simp [has] at hk
  obtain ⟨A, es, B, X, x, Y, e1, e2, e3, e4, e5, e6, _⟩ := O.at hk
  refine ⟨A, es, B, X, x, Y, e1, e2, e3, ?_⟩
  rw [has_thr hP, e5] at hk
  unfold setQ
  rw [if_neg hP]
  simp only [e5, hk, if_true]
  rw [← e6, ← e4]
  conv => lhs; rw [e1]
  rw [List.set_append_right _ _ (Nat.le_refl _), Nat.sub_self, List.set_cons_zero, e2, modify_mid]
theorem Ord.upd {P : List (List En)} (O : Ord P) {e : En} (hk : has P e.kl = true) : Ord (setQ P e) := by
  obtain ⟨A, es, B, X, x, Y, e1, e2, e3, e4⟩ := set_upd O hk
  rw [e4]
  have h0 := O.rise
  rw [e1, e2] at h0
  refine ⟨fun a ha => ?_, by simpa [kys, Srt] using h0⟩
  rcases List.mem_append.1 ha with ha | ha
  · exact O.full a (by rw [e1]; exact List.mem_append_left _ ha)
  · rcases List.mem_cons.1 ha with rfl | ha
    · simp
    · exact O.full a (by rw [e1]; exact List.mem_append_right _ (List.mem_cons_of_mem _ ha))
theorem Ord.set {P : List (List En)} (O : Ord P) (e : En) : Ord (setQ P e) := by
  cases h : has P e.kl
  · exact O.ins h
  · exact O.upd h
end Pg
end Go.Proofs.Ytplminnejheceaa
