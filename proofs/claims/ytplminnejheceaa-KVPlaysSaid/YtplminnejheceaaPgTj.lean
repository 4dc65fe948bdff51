/- Pages of entries: Delete keeps order and the rules of their sizes. -/
import Derived.Test.YtplminnejheceaaPgTi
namespace Go.Proofs.Ytplminnejheceaa
namespace Pg
theorem jn_parts {P : List (List En)} {i : Nat} (h : jnb P i = true) : ∃ A a b B, P = A ++ a :: b :: B ∧ A.length = i ∧ jnQ P i = A ++ (a ++ b) :: B ∧ a.length + b.length ≤ 16 := by
  unfold jnb at h
  rw [Bool.and_eq_true, decide_eq_true_eq, decide_eq_true_eq] at h
  obtain ⟨h1, h2⟩ := h
  have g1 : P.getD i [] = P[i] := by rw [List.getD_eq_getElem?_getD, List.getElem?_eq_getElem (by omega)]; rfl
  have g2 : P.getD (i + 1) [] = P[i + 1] := by rw [List.getD_eq_getElem?_getD, List.getElem?_eq_getElem h1]; rfl
  rw [g1, g2] at h2
  refine ⟨P.take i, P[i], P[i + 1], P.drop (i + 2), ?_, by rw [List.length_take]; omega, ?_, h2⟩
  · conv => lhs; rw [← List.take_append_drop i P, List.drop_eq_getElem_cons (show i < P.length by omega), List.drop_eq_getElem_cons h1]
  · unfold jnQ; rw [g1, g2]; simp
theorem jn_no {A B : List (List En)} {a b : List En} (h : jnb (A ++ a :: b :: B) A.length = false) : 17 ≤ a.length + b.length := by
  unfold jnb at h
  simp at h
  omega
/-- Delete of a key that is there -/
theorem del_parts {P : List (List En)} (O : Ord P) {k : List Int} (hk : has P k = true) : ∃ A es B X x Y, P = A ++ es :: B ∧ es = X ++ x :: Y ∧ x.kl = k ∧ delQ P k = (if X ++ Y = [] then A ++ B else if jnb (A ++ (X ++ Y) :: B) A.length then jnQ (A ++ (X ++ Y) :: B) A.length else if 1 ≤ A.length ∧ jnb (A ++ (X ++ Y) :: B) (A.length - 1) then jnQ (A ++ (X ++ Y) :: B) (A.length - 1) else A ++ (X ++ Y) :: B) ∧
    (∀ y ∈ A.flatten ++ X, Lt y.kl k) ∧ (∀ y ∈ Y ++ B.flatten, Lt k y.kl) := by
  obtain ⟨A, es, B, X, x, Y, e1, e2, e3, e4, e5, e6, h1, h2⟩ := O.at hk
  refine ⟨A, es, B, X, x, Y, e1, e2, e3, ?_, h1, h2⟩
  unfold delQ rmQ
  rw [if_pos hk]
  simp only [e5]
  rw [← e6, ← e4]
  have g1 : es.take X.length ++ es.drop (X.length + 1) = X ++ Y := by rw [e2]; simp
  have g2 : P.set A.length (X ++ Y) = A ++ (X ++ Y) :: B := by rw [e1]; simp
  have g3 : P.take A.length ++ P.drop (A.length + 1) = A ++ B := by rw [e1]; simp
  simp only [g1, g2, g3]
theorem Ord.join {P : List (List En)} (O : Ord P) {i : Nat} (h : jnb P i = true) : Ord (jnQ P i) := by
  obtain ⟨A, a, b, B, e1, e2, e3, _⟩ := jn_parts h
  rw [e3]
  have h0 := O.flat
  rw [e1] at h0
  refine Ord.of (fun c hc => ?_) (by simpa using h0)
  rcases List.mem_append.1 hc with hc | hc
  · exact O.full c (by rw [e1]; exact List.mem_append_left _ hc)
  · rcases List.mem_cons.1 hc with rfl | hc
    · intro h
      exact O.full a (by rw [e1]; simp) (List.append_eq_nil_iff.1 h).1
    · exact O.full c (by rw [e1]; simp [hc])
theorem Ord.del {P : List (List En)} (O : Ord P) (k : List Int) : Ord (delQ P k) := by
  cases hk : has P k
  · unfold delQ; rw [hk]; exact O
  obtain ⟨A, es, B, X, x, Y, e1, e2, e3, e4, _⟩ := del_parts O hk
  have h0 := O.flat
  rw [e1, e2] at h0
  have h1 : (A.flatten ++ (X ++ Y) ++ B.flatten).Pairwise fun x y => Lt x.kl y.kl := by
    refine h0.sublist ?_
    simp only [List.flatten_append, List.flatten_cons, List.append_assoc, List.cons_append]
    exact (List.Sublist.refl _).append ((List.Sublist.refl _).append (List.sublist_cons_self _ _))
  rw [e4]
  split
  · rename_i he
    rw [he, List.append_nil] at h1
    refine Ord.of (fun c hc => O.full c ?_) (by rw [List.flatten_append]; exact h1)
    rw [e1]
    rcases List.mem_append.1 hc with hc | hc <;> simp [hc]
  · rename_i he
    have OO : Ord (A ++ (X ++ Y) :: B) := Ord.of (fun c hc => by
      rcases List.mem_append.1 hc with hc | hc
      · exact O.full c (by rw [e1]; simp [hc])
      · rcases List.mem_cons.1 hc with rfl | hc
        · exact he
        · exact O.full c (by rw [e1]; simp [hc])) (by rw [List.flatten_append, List.flatten_cons, ← List.append_assoc]; exact h1)
    split
    · rename_i hj; exact OO.join hj
    · split
      · rename_i hj; exact OO.join hj.2
      · exact OO
theorem nb_init : ∀ {A : List Nat} {x : Nat}, Nb (A ++ [x]) → Nb A
  | [], _, _ => trivial
  | [_], _, _ => trivial
  | a :: b :: A, x, h => by
    simp only [List.cons_append, Nb] at h ⊢
    exact ⟨h.1, nb_init (A := b :: A) h.2⟩
theorem nb_two {A : List Nat} {x y : Nat} {B : List Nat} : Nb (A ++ x :: y :: B) ↔ Nb (A ++ [x]) ∧ 17 ≤ x + y ∧ Nb (y :: B) := by
  rw [nb_append]; simp only [Nb]
theorem Shq.del {P : List (List En)} (h : Shq P) (O : Ord P) (k : List Int) : Shq (delQ P k) := by
  cases hk : has P k
  · unfold delQ; rw [hk]; exact h
  obtain ⟨A, es, B, X, x, Y, e1, e2, e3, e4, _⟩ := del_parts O hk
  have hl : (X ++ Y).length + 1 = es.length := by rw [e2]; simp; omega
  have h0 := h.two
  rw [e1, List.map_append, List.map_cons, nb_append] at h0
  have hes := h.one es (by rw [e1]; simp)
  have hA : ∀ a ∈ A, 1 ≤ a.length ∧ a.length ≤ 32 := fun a ha => h.one a (by rw [e1]; simp [ha])
  have hB : ∀ b ∈ B, 1 ≤ b.length ∧ b.length ≤ 32 := fun b hb => h.one b (by rw [e1]; simp [hb])
  rw [e4]
  generalize X ++ Y = Z at hl ⊢
  split
  · rename_i hz
    subst hz
    simp at hl
    refine ⟨fun c hc => (List.mem_append.1 hc).elim (hA c) (hB c), ?_⟩
    rw [List.map_append]
    cases B with
    | nil =>
      rw [List.map_nil, List.append_nil]
      exact nb_init h0.1
    | cons b B =>
      have h2 := h0.2
      simp only [List.map_cons, Nb] at h2
      rw [List.map_cons, nb_append]
      exact ⟨h0.1.front (by omega), h2.2⟩
  · rename_i hz
    have hz1 : 1 ≤ Z.length := by cases Z with
      | nil => exact absurd rfl hz
      | cons => simp
    split
    · rename_i hj
      obtain ⟨A', a, b, B', g1, g2, g3, g4⟩ := jn_parts hj
      obtain ⟨rfl, g5⟩ := List.append_inj g1 g2.symm
      injection g5 with g5 g6
      subst g5 g6
      rw [g3]
      have h2 := h0.2
      simp only [List.map_cons, Nb] at h2
      have hb := hB b List.mem_cons_self
      refine ⟨fun c hc => ?_, ?_⟩
      · rcases List.mem_append.1 hc with hc | hc
        · exact hA c hc
        · rcases List.mem_cons.1 hc with rfl | hc
          · rw [List.length_append]; omega
          · exact hB c (List.mem_cons_of_mem _ hc)
      · rw [List.map_append, List.map_cons, List.length_append, nb_append]
        refine ⟨h0.1.front16 (fun a ha => ?_) (by omega), h2.2.back16 (fun c hc => ?_) (by omega)⟩
        · obtain ⟨a', h1, rfl⟩ := List.mem_map.1 ha; exact (hA a' h1).1
        · obtain ⟨c', h1, rfl⟩ := List.mem_map.1 hc; exact (hB c' (List.mem_cons_of_mem _ h1)).1
    · rename_i hj0
      split
      · rename_i hj
        obtain ⟨hA1, hj⟩ := hj
        obtain ⟨A', a, b, B', g1, g2, g3, g4⟩ := jn_parts hj
        have g5 : A ++ Z :: B = (A' ++ [a]) ++ b :: B' := by rw [g1]; simp
        obtain ⟨rfl, g6⟩ := List.append_inj g5 (by simp; omega)
        injection g6 with g6 g7
        subst g6 g7
        rw [g3]
        have h1 := h0.1
        rw [List.map_append, List.append_assoc, List.map_cons, List.map_nil, List.cons_append, List.nil_append, nb_two] at h1
        have ha := hA a (by simp)
        refine ⟨fun c hc => ?_, ?_⟩
        · rcases List.mem_append.1 hc with hc | hc
          · exact hA c (List.mem_append_left _ hc)
          · rcases List.mem_cons.1 hc with rfl | hc
            · rw [List.length_append]; omega
            · exact hB c hc
        · rw [List.map_append, List.map_cons, List.length_append, nb_append]
          refine ⟨h1.1.front16 (fun c hc => ?_) (by omega), h0.2.back16 (fun c hc => ?_) (by omega)⟩
          · obtain ⟨c', h1, rfl⟩ := List.mem_map.1 hc; exact (hA c' (List.mem_append_left _ h1)).1
          · obtain ⟨c', h1, rfl⟩ := List.mem_map.1 hc; exact (hB c' h1).1
      · rename_i hj1
        refine ⟨fun c hc => ?_, ?_⟩
        · rcases List.mem_append.1 hc with hc | hc
          · exact hA c hc
          · rcases List.mem_cons.1 hc with rfl | hc
            · omega
            · exact hB c hc
        · rw [List.map_append, List.map_cons, nb_append]
          constructor
          · rcases List.eq_nil_or_concat A with rfl | ⟨A', a, rfl⟩
            · trivial
            · have g : 17 ≤ a.length + Z.length := by
                refine jn_no (A := A') (B := B) (Bool.eq_false_iff.2 fun g => hj1 ⟨by simp, ?_⟩)
                simpa using g
              have h1 := h0.1
              simp only [List.concat_eq_append, List.map_append, List.append_assoc, List.map_cons, List.map_nil, List.cons_append, List.nil_append] at h1 ⊢
              rw [nb_two] at h1 ⊢
              exact ⟨h1.1, g, trivial⟩
          · cases B with
            | nil => trivial
            | cons b B =>
              have g : 17 ≤ Z.length + b.length := jn_no (A := A) (B := B) (Bool.eq_false_iff.2 fun g => hj0 g)
              have h2 := h0.2
              simp only [List.map_cons, Nb] at h2 ⊢
              exact ⟨g, h2.2⟩
end Pg
end Go.Proofs.Ytplminnejheceaa
