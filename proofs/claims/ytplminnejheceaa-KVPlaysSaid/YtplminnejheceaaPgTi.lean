/- Pages of entries: Set keeps the rules of their sizes. -/
import Derived.Test.YtplminnejheceaaPgTh
namespace Go.Proofs.Ytplminnejheceaa
namespace Pg
/-- neighbours have 17 at least -/
def Nb : List Nat → Prop
  | [] => True
  | [_] => True
  | x :: y :: l => 17 ≤ x + y ∧ Nb (y :: l)
theorem Nb.get : ∀ {l : List Nat}, Nb l → ∀ {i x y : Nat}, l[i]? = some x → l[i + 1]? = some y → 17 ≤ x + y
  | [], _, i, x, y, h, _ => by simp at h
  | [a], _, i, x, y, _, h => by simp at h
  | a :: b :: l, hn, 0, x, y, h1, h2 => by
    simp at h1 h2
    subst h1 h2
    exact hn.1
  | a :: b :: l, hn, i + 1, x, y, h1, h2 => Nb.get (l := b :: l) hn.2 (by simpa using h1) (by simpa using h2)
theorem nb_append : ∀ {A : List Nat} {x : Nat} {B : List Nat}, Nb (A ++ x :: B) ↔ Nb (A ++ [x]) ∧ Nb (x :: B)
  | [], x, B => by simp [Nb]
  | [a], x, B => by simp [Nb]
  | a :: b :: A, x, B => by
    have := nb_append (A := b :: A) (x := x) (B := B)
    simp only [List.cons_append, Nb] at this ⊢
    rw [this, and_assoc]
theorem Nb.front {A : List Nat} {x x' : Nat} (h : Nb (A ++ [x])) (hx : x ≤ x') : Nb (A ++ [x']) := by
  induction A with
  | nil => trivial
  | cons a A ih =>
    cases A with
    | nil => simp only [List.cons_append, List.nil_append, Nb] at h ⊢; exact ⟨by omega, trivial⟩
    | cons b A => simp only [List.cons_append, Nb] at h ih ⊢; exact ⟨h.1, ih h.2⟩
theorem Nb.back {x x' : Nat} {B : List Nat} (h : Nb (x :: B)) (hx : x ≤ x') : Nb (x' :: B) := by
  cases B with
  | nil => trivial
  | cons b B => simp only [Nb] at h ⊢; exact ⟨by omega, h.2⟩
theorem Nb.front16 {A : List Nat} {x y : Nat} (h : Nb (A ++ [x])) (ha : ∀ a ∈ A, 1 ≤ a) (hy : 16 ≤ y) : Nb (A ++ [y]) := by
  induction A with
  | nil => trivial
  | cons a A ih =>
    cases A with
    | nil =>
      have := ha a List.mem_cons_self
      simp only [List.cons_append, List.nil_append, Nb]
      exact ⟨by omega, trivial⟩
    | cons b A => simp only [List.cons_append, Nb] at h ih ⊢; exact ⟨h.1, ih h.2 (fun a h => ha a (List.mem_cons_of_mem _ h))⟩
theorem Nb.back16 {x : Nat} {B : List Nat} (h : Nb (x :: B)) (hb : ∀ b ∈ B, 1 ≤ b) {y : Nat} (hy : 16 ≤ y) : Nb (y :: B) := by
  cases B with
  | nil => trivial
  | cons b B =>
    have := hb b List.mem_cons_self
    simp only [Nb] at h ⊢
    exact ⟨by omega, h.2⟩
/-- the rules of pages, by their sizes -/
structure Shq (P : List (List En)) : Prop where
  one : ∀ es ∈ P, 1 ≤ es.length ∧ es.length ≤ 32
  two : Nb (P.map List.length)
theorem Shq.shp {P : List (List En)} (h : Shq P) : Shp P := ⟨h.one, fun i x y hx hy => h.two.get (i := i) (by rw [List.getElem?_map, hx]; rfl) (by rw [List.getElem?_map, hy]; rfl)⟩
theorem Shq.nil : Shq [] := ⟨fun _ h => by simp at h, trivial⟩
theorem Shq.set {P : List (List En)} (h : Shq P) (O : Ord P) (e : En) : Shq (setQ P e) := by
  by_cases hP : P = []
  · subst hP
    exact ⟨fun es h => by simp [setQ] at h; simp [h], by simp [setQ, Nb]⟩
  cases hk : has P e.kl
  · obtain ⟨A, es, B, X, Y, e1, e2, e3, _⟩ := set_ins O hP hk
    have hl : (X ++ e :: Y).length = es.length + 1 := by rw [e2]; simp; omega
    have h0 := h.two
    rw [e1, List.map_append, List.map_cons, nb_append] at h0
    have hes := h.one es (by rw [e1]; simp)
    rw [e3]
    split
    · refine ⟨fun a ha => ?_, ?_⟩
      · rcases List.mem_append.1 ha with ha | ha
        · exact h.one a (by rw [e1]; exact List.mem_append_left _ ha)
        · rcases List.mem_cons.1 ha with rfl | ha
          · rw [List.length_take, hl]; omega
          · rcases List.mem_cons.1 ha with rfl | ha
            · rw [List.length_drop, hl]; omega
            · exact h.one a (by rw [e1]; exact List.mem_append_right _ (List.mem_cons_of_mem _ ha))
      · rw [List.map_append, List.map_cons, List.map_cons, List.length_take, List.length_drop, hl, show min 16 (es.length + 1) = 16 by omega, nb_append]
        refine ⟨h0.1.front16 (fun a ha => ?_) (Nat.le_refl _), ⟨by omega, h0.2.back16 (fun b hb => ?_) (by omega)⟩⟩
        · obtain ⟨a', h1, rfl⟩ := List.mem_map.1 ha
          exact (h.one a' (by rw [e1]; exact List.mem_append_left _ h1)).1
        · obtain ⟨b', h1, rfl⟩ := List.mem_map.1 hb
          exact (h.one b' (by rw [e1]; exact List.mem_append_right _ (List.mem_cons_of_mem _ h1))).1
    · refine ⟨fun a ha => ?_, ?_⟩
      · rcases List.mem_append.1 ha with ha | ha
        · exact h.one a (by rw [e1]; exact List.mem_append_left _ ha)
        · rcases List.mem_cons.1 ha with rfl | ha
          · rw [hl]; omega
          · exact h.one a (by rw [e1]; exact List.mem_append_right _ (List.mem_cons_of_mem _ ha))
      · rw [List.map_append, List.map_cons, hl, nb_append]
        exact ⟨h0.1.front (by omega), h0.2.back (by omega)⟩
  · obtain ⟨A, es, B, X, x, Y, e1, e2, e3, e4⟩ := set_upd O hk
    have hl : (X ++ { x with vv := e.vv, vl := e.vl } :: Y).length = es.length := by rw [e2]; simp
    rw [e4]
    refine ⟨fun a ha => ?_, ?_⟩
    · rcases List.mem_append.1 ha with ha | ha
      · exact h.one a (by rw [e1]; exact List.mem_append_left _ ha)
      · rcases List.mem_cons.1 ha with rfl | ha
        · rw [hl]; exact h.one es (by rw [e1]; simp)
        · exact h.one a (by rw [e1]; exact List.mem_append_right _ (List.mem_cons_of_mem _ ha))
    · have h0 := h.two
      rw [e1, List.map_append, List.map_cons] at h0
      rw [List.map_append, List.map_cons, hl]
      exact h0
end Pg
end Go.Proofs.Ytplminnejheceaa
