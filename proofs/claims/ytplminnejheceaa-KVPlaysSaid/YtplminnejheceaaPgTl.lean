/- What is there behind a Set and a Delete. -/
import Derived.Test.YtplminnejheceaaPgPa
namespace Go.Proofs.Ytplminnejheceaa
namespace Pg
/-- all entries behind a Set of a key that isn't there, or is -/
theorem set_flat_new {P : List (List En)} (O : Ord P) {e : En} (hn : has P e.kl = false) : ∃ X Y, P.flatten = X ++ Y ∧ (setQ P e).flatten = X ++ e :: Y ∧ (∀ x ∈ X, Lt x.kl e.kl) ∧ (∀ y ∈ Y, Lt e.kl y.kl) := by
  by_cases hP : P = []
  · subst hP
    exact ⟨[], [], rfl, by simp [setQ], by simp, by simp⟩
  obtain ⟨A, es, B, X, Y, e1, e2, e3, h1, h2⟩ := set_ins O hP hn
  refine ⟨A.flatten ++ X, Y ++ B.flatten, by rw [e1, e2]; simp, ?_, h1, h2⟩
  rw [e3]
  split
  · rw [List.flatten_append, List.flatten_cons, List.flatten_cons, ← List.append_assoc (List.take 16 _), List.take_append_drop]
    simp
  · simp
theorem set_flat_old {P : List (List En)} (O : Ord P) {e : En} (hk : has P e.kl = true) : ∃ X x Y, P.flatten = X ++ x :: Y ∧ x.kl = e.kl ∧ (setQ P e).flatten = X ++ { x with vv := e.vv, vl := e.vl } :: Y := by
  obtain ⟨A, es, B, X, x, Y, e1, e2, e3, e4⟩ := set_upd O hk
  refine ⟨A.flatten ++ X, x, Y ++ B.flatten, by rw [e1, e2]; simp, e3, by rw [e4]; simp⟩
theorem jn_flatten {P : List (List En)} {i : Nat} (h : jnb P i = true) : (jnQ P i).flatten = P.flatten := by
  obtain ⟨A, a, b, B, e1, e2, e3, _⟩ := jn_parts h
  rw [e3, e1]; simp
theorem del_flat {P : List (List En)} (O : Ord P) {k : List Int} (hk : has P k = true) : ∃ X x Y, P.flatten = X ++ x :: Y ∧ x.kl = k ∧ (delQ P k).flatten = X ++ Y := by
  obtain ⟨A, es, B, X, x, Y, e1, e2, e3, e4, _⟩ := del_parts O hk
  refine ⟨A.flatten ++ X, x, Y ++ B.flatten, by rw [e1, e2]; simp, e3, ?_⟩
  have g : (A ++ (X ++ Y) :: B).flatten = A.flatten ++ X ++ (Y ++ B.flatten) := by simp
  rw [e4, ← g]
  split
  · rename_i h; rw [h]; simp
  · split
    · rename_i h; exact jn_flatten h
    · split
      · rename_i h; exact jn_flatten h.2
      · rfl
theorem del_none {P : List (List En)} {k : List Int} (hk : has P k = false) : delQ P k = P := by unfold delQ; rw [hk]; rfl
theorem len_set {P : List (List En)} (O : Ord P) (e : En) : (setQ P e).flatten.length = P.flatten.length + if has P e.kl then 0 else 1 := by
  cases h : has P e.kl
  · obtain ⟨X, Y, e1, e2, _⟩ := set_flat_new O h
    rw [e1, e2]; simp; omega
  · obtain ⟨X, x, Y, e1, _, e2⟩ := set_flat_old O h
    rw [e1, e2]; simp
theorem has_set {P : List (List En)} (O : Ord P) (e : En) (k : List Int) : has (setQ P e) k = (decide (k = e.kl) || has P k) := by
  rw [Bool.eq_iff_iff, Bool.or_eq_true, decide_eq_true_eq, has_iff (O.set e), has_iff O]
  cases h : has P e.kl
  · obtain ⟨X, Y, e1, e2, _⟩ := set_flat_new O h
    rw [e1, e2]
    simp only [kys, List.map_append, List.map_cons, List.mem_append, List.mem_cons]
    constructor
    · rintro (h | h | h)
      · exact .inr (.inl h)
      · exact .inl h
      · exact .inr (.inr h)
    · rintro (h | h | h)
      · exact .inr (.inl h)
      · exact .inl h
      · exact .inr (.inr h)
  · obtain ⟨X, x, Y, e1, e3, e2⟩ := set_flat_old O h
    rw [e1, e2]
    simp only [kys, List.map_append, List.map_cons, List.mem_append, List.mem_cons, e3]
    constructor
    · exact .inr
    · rintro (h | h)
      · exact .inr (.inl h)
      · exact h
theorem has_del {P : List (List En)} (O : Ord P) (k' k : List Int) : has (delQ P k') k = (has P k && !decide (k = k')) := by
  cases h : has P k'
  · rw [del_none h]
    by_cases e : k = k'
    · subst e; rw [h]; simp
    · simp [e]
  · rw [Bool.eq_iff_iff, Bool.and_eq_true, has_iff (O.del k'), has_iff O]
    obtain ⟨X, x, Y, e1, e3, e2⟩ := del_flat O h
    have hr := O.flat
    rw [e1, List.pairwise_append, List.pairwise_cons] at hr
    rw [e1, e2]
    simp only [kys, List.map_append, List.map_cons, List.mem_append, List.mem_cons, e3, Bool.not_eq_true', decide_eq_false_iff_not]
    constructor
    · intro hm
      refine ⟨hm.elim .inl (fun h => .inr (.inr h)), fun e => ?_⟩
      subst e
      rcases hm with hm | hm
      · obtain ⟨y, hy, e⟩ := List.mem_map.1 hm
        have := hr.2.2 y hy x List.mem_cons_self
        rw [e, e3] at this
        exact lt_irrefl _ this
      · obtain ⟨y, hy, e⟩ := List.mem_map.1 hm
        have := hr.2.1.1 y hy
        rw [e, e3] at this
        exact lt_irrefl _ this
    · rintro ⟨h | h | h, hne⟩
      · exact .inl h
      · exact absurd h hne
      · exact .inr h
end Pg
end Go.Proofs.Ytplminnejheceaa
