/- Several texts, joined: PgTi, PgTj, PgTk, PgNt, PgPa, PgTl, PgTm, PgMp, PgMb, PgKn, PgLi, PgKm, PgArg. -/
import Derived.Test.YtjnjkgakdnjlmaaJad
import Derived.Deep.Slices
import Derived.ChangeSlices
import Derived.OpenShut
namespace Go.Proofs.Ytjnjkgakdnjlmaa
namespace Pg
/-- neighbours have 17 at least -/
def Nb : List Nat → Prop
  | [] => True
  | [_] => True
  | x :: y :: l => 17 ≤ x + y ∧ Nb (y :: l)
theorem Nb.get : ∀ {l : List Nat}, Nb l → ∀ {i x y : Nat}, l[i]? = some x → l[i + 1]? = some y → 17 ≤ x + y
  | [], _, i, x, y, h, _ => by simp at h
  | [a], _, i, x, y, _, h => by simp at h
  | a :: b :: l, hn, 0, x, y, h1, h2 => by
    simp at h1 h2
    subst h1 h2
    exact hn.1
  | a :: b :: l, hn, i + 1, x, y, h1, h2 => Nb.get (l := b :: l) hn.2 (by simpa using h1) (by simpa using h2)
theorem nb_append : ∀ {A : List Nat} {x : Nat} {B : List Nat}, Nb (A ++ x :: B) ↔ Nb (A ++ [x]) ∧ Nb (x :: B)
  | [], x, B => by simp [Nb]
  | [a], x, B => by simp [Nb]
  | a :: b :: A, x, B => by
    have := nb_append (A := b :: A) (x := x) (B := B)
    simp only [List.cons_append, Nb] at this ⊢
    rw [this, and_assoc]
theorem Nb.front {A : List Nat} {x x' : Nat} (h : Nb (A ++ [x])) (hx : x ≤ x') : Nb (A ++ [x']) := by
  induction A with
  | nil => trivial
  | cons a A ih =>
    cases A with
    | nil => simp only [List.cons_append, List.nil_append, Nb] at h ⊢; exact ⟨by omega, trivial⟩
    | cons b A => simp only [List.cons_append, Nb] at h ih ⊢; exact ⟨h.1, ih h.2⟩
theorem Nb.back {x x' : Nat} {B : List Nat} (h : Nb (x :: B)) (hx : x ≤ x') : Nb (x' :: B) := by
  cases B with
  | nil => trivial
  | cons b B => simp only [Nb] at h ⊢; exact ⟨by omega, h.2⟩
theorem Nb.front16 {A : List Nat} {x y : Nat} (h : Nb (A ++ [x])) (ha : ∀ a ∈ A, 1 ≤ a) (hy : 16 ≤ y) : Nb (A ++ [y]) := by
  induction A with
  | nil => trivial
  | cons a A ih =>
    cases A with
    | nil =>
      have := ha a List.mem_cons_self
      simp only [List.cons_append, List.nil_append, Nb]
      exact ⟨by omega, trivial⟩
    | cons b A => simp only [List.cons_append, Nb] at h ih ⊢; exact ⟨h.1, ih h.2 (fun a h => ha a (List.mem_cons_of_mem _ h))⟩
theorem Nb.back16 {x : Nat} {B : List Nat} (h : Nb (x :: B)) (hb : ∀ b ∈ B, 1 ≤ b) {y : Nat} (hy : 16 ≤ y) : Nb (y :: B) := by
  cases B with
  | nil => trivial
  | cons b B =>
    have := hb b List.mem_cons_self
    simp only [Nb] at h ⊢
    exact ⟨by omega, h.2⟩
/-- the rules of pages, by their sizes -/
structure Shq (P : List (List En)) : Prop where
  one : ∀ es ∈ P, 1 ≤ es.length ∧ es.length ≤ 32
  two : Nb (P.map List.length)
theorem Shq.shp {P : List (List En)} (h : Shq P) : Shp P := ⟨h.one, fun i x y hx hy => h.two.get (i := i) (by rw [List.getElem?_map, hx]; rfl) (by rw [List.getElem?_map, hy]; rfl)⟩
theorem Shq.nil : Shq [] := ⟨fun _ h => by simp at h, trivial⟩
theorem Shq.set {P : List (List En)} (h : Shq P) (O : Ord P) (e : En) : Shq (setQ P e) := by
  by_cases hP : P = []
  · subst hP
    exact ⟨fun es h => by simp [setQ] at h; simp [h], by simp [setQ, Nb]⟩
  cases hk : has P e.kl
  · obtain ⟨A, es, B, X, Y, e1, e2, e3, _⟩ := set_ins O hP hk
    have hl : (X ++ e :: Y).length = es.length + 1 := by rw [e2]; simp; omega
    have h0 := h.two
    rw [e1, List.map_append, List.map_cons, nb_append] at h0
    have hes := h.one es (by rw [e1]; simp)
    rw [e3]
    split
    · refine ⟨fun a ha => ?_, ?_⟩
      · rcases List.mem_append.1 ha with ha | ha
        · exact h.one a (by rw [e1]; exact List.mem_append_left _ ha)
        · rcases List.mem_cons.1 ha with rfl | ha
          · rw [List.length_take, hl]; omega
          · rcases List.mem_cons.1 ha with rfl | ha
            · rw [List.length_drop, hl]; omega
            · exact h.one a (by rw [e1]; exact List.mem_append_right _ (List.mem_cons_of_mem _ ha))
      · rw [List.map_append, List.map_cons, List.map_cons, List.length_take, List.length_drop, hl, show min 16 (es.length + 1) = 16 by omega, nb_append]
        refine ⟨h0.1.front16 (fun a ha => ?_) (Nat.le_refl _), ⟨by omega, h0.2.back16 (fun b hb => ?_) (by omega)⟩⟩
        · obtain ⟨a', h1, rfl⟩ := List.mem_map.1 ha
          exact (h.one a' (by rw [e1]; exact List.mem_append_left _ h1)).1
        · obtain ⟨b', h1, rfl⟩ := List.mem_map.1 hb
          exact (h.one b' (by rw [e1]; exact List.mem_append_right _ (List.mem_cons_of_mem _ h1))).1
    · refine ⟨fun a ha => ?_, ?_⟩
      · rcases List.mem_append.1 ha with ha | ha
        · exact h.one a (by rw [e1]; exact List.mem_append_left _ ha)
        · rcases List.mem_cons.1 ha with rfl | ha
          · rw [hl]; omega
          · exact h.one a (by rw [e1]; exact List.mem_append_right _ (List.mem_cons_of_mem _ ha))
      · rw [List.map_append, List.map_cons, hl, nb_append]
        exact ⟨h0.1.front (by omega), h0.2.back (by omega)⟩
  · obtain ⟨A, es, B, X, x, Y, e1, e2, e3, e4⟩ := set_upd O hk
    have hl : (X ++ { x with vv := e.vv, vl := e.vl } :: Y).length = es.length := by rw [e2]; simp
    rw [e4]
    refine ⟨fun a ha => ?_, ?_⟩
    · rcases List.mem_append.1 ha with ha | ha
      · exact h.one a (by rw [e1]; exact List.mem_append_left _ ha)
      · rcases List.mem_cons.1 ha with rfl | ha
        · rw [hl]; exact h.one es (by rw [e1]; simp)
        · exact h.one a (by rw [e1]; exact List.mem_append_right _ (List.mem_cons_of_mem _ ha))
    · have h0 := h.two
      rw [e1, List.map_append, List.map_cons] at h0
      rw [List.map_append, List.map_cons, hl]
      exact h0
end Pg
end Go.Proofs.Ytjnjkgakdnjlmaa

namespace Go.Proofs.Ytjnjkgakdnjlmaa
namespace Pg
theorem jn_parts {P : List (List En)} {i : Nat} (h : jnb P i = true) : ∃ A a b B, P = A ++ a :: b :: B ∧ A.length = i ∧ jnQ P i = A ++ (a ++ b) :: B ∧ a.length + b.length ≤ 16 := by
  unfold jnb at h
  rw [Bool.and_eq_true, decide_eq_true_eq, decide_eq_true_eq] at h
  obtain ⟨h1, h2⟩ := h
  have g1 : P.getD i [] = P[i] := by rw [List.getD_eq_getElem?_getD, List.getElem?_eq_getElem (by omega)]; rfl
  have g2 : P.getD (i + 1) [] = P[i + 1] := by rw [List.getD_eq_getElem?_getD, List.getElem?_eq_getElem h1]; rfl
  rw [g1, g2] at h2
  refine ⟨P.take i, P[i], P[i + 1], P.drop (i + 2), ?_, by rw [List.length_take]; omega, ?_, h2⟩
  · conv => lhs; rw [← List.take_append_drop i P, List.drop_eq_getElem_cons (show i < P.length by omega), List.drop_eq_getElem_cons h1]
  · unfold jnQ; rw [g1, g2]; simp
theorem jn_no {A B : List (List En)} {a b : List En} (h : jnb (A ++ a :: b :: B) A.length = false) : 17 ≤ a.length + b.length := by
  unfold jnb at h
  simp at h
  omega
/-- Delete of a key that is there -/
theorem del_parts {P : List (List En)} (O : Ord P) {k : List Int} (hk : has P k = true) : ∃ A es B X x Y, P = A ++ es :: B ∧ es = X ++ x :: Y ∧ x.kl = k ∧ delQ P k = (if X ++ Y = [] then A ++ B else if jnb (A ++ (X ++ Y) :: B) A.length then jnQ (A ++ (X ++ Y) :: B) A.length else if 1 ≤ A.length ∧ jnb (A ++ (X ++ Y) :: B) (A.length - 1) then jnQ (A ++ (X ++ Y) :: B) (A.length - 1) else A ++ (X ++ Y) :: B) ∧
    (∀ y ∈ A.flatten ++ X, Lt y.kl k) ∧ (∀ y ∈ Y ++ B.flatten, Lt k y.kl) := by
  obtain ⟨A, es, B, X, x, Y, e1, e2, e3, e4, e5, e6, h1, h2⟩ := O.at hk
  refine ⟨A, es, B, X, x, Y, e1, e2, e3, ?_, h1, h2⟩
  unfold delQ rmQ
  rw [if_pos hk]
  simp only [e5]
  rw [← e6, ← e4]
  have g1 : es.take X.length ++ es.drop (X.length + 1) = X ++ Y := by rw [e2]; simp
  have g2 : P.set A.length (X ++ Y) = A ++ (X ++ Y) :: B := by rw [e1]; simp
  have g3 : P.take A.length ++ P.drop (A.length + 1) = A ++ B := by rw [e1]; simp
  simp only [g1, g2, g3]
theorem Ord.join {P : List (List En)} (O : Ord P) {i : Nat} (h : jnb P i = true) : Ord (jnQ P i) := by
  obtain ⟨A, a, b, B, e1, e2, e3, _⟩ := jn_parts h
  rw [e3]
  have h0 := O.flat
  rw [e1] at h0
  refine Ord.of (fun c hc => ?_) (by simpa using h0)
  rcases List.mem_append.1 hc with hc | hc
  · exact O.full c (by rw [e1]; exact List.mem_append_left _ hc)
  · rcases List.mem_cons.1 hc with rfl | hc
    · intro h
      exact O.full a (by rw [e1]; simp) (List.append_eq_nil_iff.1 h).1
    · exact O.full c (by rw [e1]; simp [hc])
theorem Ord.del {P : List (List En)} (O : Ord P) (k : List Int) : Ord (delQ P k) := by
  cases hk : has P k
  · unfold delQ; rw [hk]; exact O
  obtain ⟨A, es, B, X, x, Y, e1, e2, e3, e4, _⟩ := del_parts O hk
  have h0 := O.flat
  rw [e1, e2] at h0
  have h1 : (A.flatten ++ (X ++ Y) ++ B.flatten).Pairwise fun x y => Lt x.kl y.kl := by
    refine h0.sublist ?_
    simp only [List.flatten_append, List.flatten_cons, List.append_assoc, List.cons_append]
    exact (List.Sublist.refl _).append ((List.Sublist.refl _).append (List.sublist_cons_self _ _))
  rw [e4]
  split
  · rename_i he
    rw [he, List.append_nil] at h1
    refine Ord.of (fun c hc => O.full c ?_) (by rw [List.flatten_append]; exact h1)
    rw [e1]
    rcases List.mem_append.1 hc with hc | hc <;> simp [hc]
  · rename_i he
    have OO : Ord (A ++ (X ++ Y) :: B) := Ord.of (fun c hc => by
      rcases List.mem_append.1 hc with hc | hc
      · exact O.full c (by rw [e1]; simp [hc])
      · rcases List.mem_cons.1 hc with rfl | hc
        · exact he
        · exact O.full c (by rw [e1]; simp [hc])) (by rw [List.flatten_append, List.flatten_cons, ← List.append_assoc]; exact h1)
    split
    · rename_i hj; exact OO.join hj
    · split
      · rename_i hj; exact OO.join hj.2
      · exact OO
theorem nb_init : ∀ {A : List Nat} {x : Nat}, Nb (A ++ [x]) → Nb A
  | [], _, _ => trivial
  | [_], _, _ => trivial
  | a :: b :: A, x, h => by
    simp only [List.cons_append, Nb] at h ⊢
    exact ⟨h.1, nb_init (A := b :: A) h.2⟩
theorem nb_two {A : List Nat} {x y : Nat} {B : List Nat} : Nb (A ++ x :: y :: B) ↔ Nb (A ++ [x]) ∧ 17 ≤ x + y ∧ Nb (y :: B) := by
  rw [nb_append]; simp only [Nb]
theorem Shq.del {P : List (List En)} (h : Shq P) (O : Ord P) (k : List Int) : Shq (delQ P k) := by
  cases hk : has P k
  · unfold delQ; rw [hk]; exact h
  obtain ⟨A, es, B, X, x, Y, e1, e2, e3, e4, _⟩ := del_parts O hk
  have hl : (X ++ Y).length + 1 = es.length := by rw [e2]; simp; omega
  have h0 := h.two
  rw [e1, List.map_append, List.map_cons, nb_append] at h0
  have hes := h.one es (by rw [e1]; simp)
  have hA : ∀ a ∈ A, 1 ≤ a.length ∧ a.length ≤ 32 := fun a ha => h.one a (by rw [e1]; simp [ha])
  have hB : ∀ b ∈ B, 1 ≤ b.length ∧ b.length ≤ 32 := fun b hb => h.one b (by rw [e1]; simp [hb])
  rw [e4]
  generalize X ++ Y = Z at hl ⊢
  split
  · rename_i hz
    subst hz
    simp at hl
    refine ⟨fun c hc => (List.mem_append.1 hc).elim (hA c) (hB c), ?_⟩
    rw [List.map_append]
    cases B with
    | nil =>
      rw [List.map_nil, List.append_nil]
      exact nb_init h0.1
    | cons b B =>
      have h2 := h0.2
      simp only [List.map_cons, Nb] at h2
      rw [List.map_cons, nb_append]
      exact ⟨h0.1.front (by omega), h2.2⟩
  · rename_i hz
    have hz1 : 1 ≤ Z.length := by cases Z with
      | nil => exact absurd rfl hz
      | cons => simp
    split
    · rename_i hj
      obtain ⟨A', a, b, B', g1, g2, g3, g4⟩ := jn_parts hj
      obtain ⟨rfl, g5⟩ := List.append_inj g1 g2.symm
      injection g5 with g5 g6
      subst g5 g6
      rw [g3]
      have h2 := h0.2
      simp only [List.map_cons, Nb] at h2
      have hb := hB b List.mem_cons_self
      refine ⟨fun c hc => ?_, ?_⟩
      · rcases List.mem_append.1 hc with hc | hc
        · exact hA c hc
        · rcases List.mem_cons.1 hc with rfl | hc
          · rw [List.length_append]; omega
          · exact hB c (List.mem_cons_of_mem _ hc)
      · rw [List.map_append, List.map_cons, List.length_append, nb_append]
        refine ⟨h0.1.front16 (fun a ha => ?_) (by omega), h2.2.back16 (fun c hc => ?_) (by omega)⟩
        · obtain ⟨a', h1, rfl⟩ := List.mem_map.1 ha; exact (hA a' h1).1
        · obtain ⟨c', h1, rfl⟩ := List.mem_map.1 hc; exact (hB c' (List.mem_cons_of_mem _ h1)).1
    · rename_i hj0
      split
      · rename_i hj
        obtain ⟨hA1, hj⟩ := hj
        obtain ⟨A', a, b, B', g1, g2, g3, g4⟩ := jn_parts hj
        have g5 : A ++ Z :: B = (A' ++ [a]) ++ b :: B' := by rw [g1]; simp
        obtain ⟨rfl, g6⟩ := List.append_inj g5 (by simp; omega)
        injection g6 with g6 g7
        subst g6 g7
        rw [g3]
        have h1 := h0.1
        rw [List.map_append, List.append_assoc, List.map_cons, List.map_nil, List.cons_append, List.nil_append, nb_two] at h1
        have ha := hA a (by simp)
        refine ⟨fun c hc => ?_, ?_⟩
        · rcases List.mem_append.1 hc with hc | hc
          · exact hA c (List.mem_append_left _ hc)
          · rcases List.mem_cons.1 hc with rfl | hc
            · rw [List.length_append]; omega
            · exact hB c hc
        · rw [List.map_append, List.map_cons, List.length_append, nb_append]
          refine ⟨h1.1.front16 (fun c hc => ?_) (by omega), h0.2.back16 (fun c hc => ?_) (by omega)⟩
          · obtain ⟨c', h1, rfl⟩ := List.mem_map.1 hc; exact (hA c' (List.mem_append_left _ h1)).1
          · obtain ⟨c', h1, rfl⟩ := List.mem_map.1 hc; exact (hB c' h1).1
      · rename_i hj1
        refine ⟨fun c hc => ?_, ?_⟩
        · rcases List.mem_append.1 hc with hc | hc
          · exact hA c hc
          · rcases List.mem_cons.1 hc with rfl | hc
            · omega
            · exact hB c hc
        · rw [List.map_append, List.map_cons, nb_append]
          constructor
          · rcases List.eq_nil_or_concat A with rfl | ⟨A', a, rfl⟩
            · trivial
            · have g : 17 ≤ a.length + Z.length := by
                refine jn_no (A := A') (B := B) (Bool.eq_false_iff.2 fun g => hj1 ⟨by simp, ?_⟩)
                simpa using g
              have h1 := h0.1
              simp only [List.concat_eq_append, List.map_append, List.append_assoc, List.map_cons, List.map_nil, List.cons_append, List.nil_append] at h1 ⊢
              rw [nb_two] at h1 ⊢
              exact ⟨h1.1, g, trivial⟩
          · cases B with
            | nil => trivial
            | cons b B =>
              have g : 17 ≤ Z.length + b.length := jn_no (A := A) (B := B) (Bool.eq_false_iff.2 fun g => hj0 g)
              have h2 := h0.2
              simp only [List.map_cons, Nb] at h2 ⊢
              exact ⟨g, h2.2⟩
end Pg
end Go.Proofs.Ytjnjkgakdnjlmaa

namespace Go.Proofs.Ytjnjkgakdnjlmaa
namespace Pg
/-- not below f, and below t, if t says anything -/
def btw (f t : List Int) (e : En) : Bool := !decide (Lt e.kl f) && (decide (t = []) || decide (Lt e.kl t))
theorem plc_take : ∀ (l : List (List Int)) (k : List Int) (b : Nat), plc (l.take b) k = min (plc l k) b
  | [], k, b => by simp [plc]
  | x :: l, k, 0 => by simp [plc]
  | x :: l, k, b + 1 => by
    rw [List.take_succ_cons, plc, plc]
    split
    · rw [plc_take l k b]; omega
    · simp
theorem take_flt : ∀ {es : List En} (_ : es.Pairwise fun x y => Lt x.kl y.kl) (k : List Int), es.take (plc (kys es) k) = es.filter fun e => decide (Lt e.kl k)
  | [], _, _ => by simp
  | x :: es, h, k => by
    have h' := List.pairwise_cons.1 h
    rw [show kys (x :: es) = x.kl :: kys es from rfl, plc]
    by_cases hx : Lt x.kl k
    · rw [if_pos hx, List.take_succ_cons, take_flt h'.2 k, List.filter_cons_of_pos (by simpa using hx)]
    · rw [if_neg hx, List.take_zero, List.filter_cons_of_neg (by simpa using hx)]
      symm
      rw [List.filter_eq_nil_iff]
      intro e he hl
      exact hx ((h'.1 e he).trans (by simpa using hl))
theorem drop_flt : ∀ {es : List En} (_ : es.Pairwise fun x y => Lt x.kl y.kl) (k : List Int), es.drop (plc (kys es) k) = es.filter fun e => !decide (Lt e.kl k)
  | [], _, _ => by simp
  | x :: es, h, k => by
    have h' := List.pairwise_cons.1 h
    rw [show kys (x :: es) = x.kl :: kys es from rfl, plc]
    by_cases hx : Lt x.kl k
    · rw [if_pos hx, List.drop_succ_cons, drop_flt h'.2 k, List.filter_cons_of_neg (by simpa using hx)]
    · rw [if_neg hx, List.drop_zero]
      symm
      rw [List.filter_eq_self]
      intro e he
      rcases List.mem_cons.1 he with rfl | he
      · simpa using hx
      · have := h'.1 e he
        simp only [Bool.not_eq_true', decide_eq_false_iff_not]
        exact fun hl => hx (this.trans hl)
theorem wth_flt {es : List En} (h : es.Pairwise fun x y => Lt x.kl y.kl) (f t : List Int) : wth es f t = es.filter (btw f t) := by
  unfold wth wthE cut
  by_cases ht : t = []
  · rw [if_pos ht, List.take_of_length_le (by rw [List.length_drop]; omega), drop_flt h]
    congr 1
    funext e
    simp [btw, ht]
  · rw [if_neg ht]
    have e1 : max (plc (kys es) f) (plc (kys es) t) - plc (kys es) f = plc (kys es) t - plc (kys es) f := by omega
    have e2 : es.filter (btw f t) = (es.filter fun e => decide (Lt e.kl t)).filter fun e => !decide (Lt e.kl f) := by
      rw [List.filter_filter]
      congr 1
      funext e
      simp [btw, ht]
    have hk : kys (es.take (plc (kys es) t)) = (kys es).take (plc (kys es) t) := by simp [kys, List.map_take]
    rw [e1, ← List.drop_take, e2, ← take_flt h, ← drop_flt (h.sublist (List.take_sublist _ _)), hk, plc_take]
    by_cases hb : plc (kys es) f ≤ plc (kys es) t
    · rw [Nat.min_eq_left hb]
    · rw [List.drop_of_length_le (by rw [List.length_take]; omega), List.drop_of_length_le (by rw [List.length_take]; omega)]
theorem flatMap_flt {P : List (List En)} (p : En → Bool) : P.flatMap (fun es => es.filter p) = P.flatten.filter p := by
  induction P with
  | nil => rfl
  | cons a P ih => rw [List.flatMap_cons, ih, List.flatten_cons, List.filter_append]
theorem flatMap_same {P : List (List En)} {f g : List En → List En} (h : ∀ es ∈ P, f es = g es) : P.flatMap f = P.flatMap g := by
  induction P with
  | nil => rfl
  | cons a P ih => rw [List.flatMap_cons, List.flatMap_cons, h a List.mem_cons_self, ih fun es he => h es (List.mem_cons_of_mem _ he)]
theorem wlk_flt {P : List (List En)} (O : Ord P) (f t : List Int) : wlk P f t = P.flatten.filter (btw f t) := by
  by_cases hP : P = []
  · subst hP; simp [wlk, cut]
  obtain ⟨A, es, B, e1, e2, e3, h1, h2, h4⟩ := O.parts hP f
  have hA : (P.take (pgi P f)).flatten.filter (btw f t) = [] := by
    rw [← e2]
    have : P.take A.length = A := by rw [e1]; simp
    rw [this, List.filter_eq_nil_iff]
    intro e he hb
    have := h1 e (List.mem_append_left _ he)
    simp [btw, this] at hb
  have hB : (P.drop (max (pgi P f) (spanE P t))).flatten.filter (btw f t) = [] := by
    rw [List.filter_eq_nil_iff]
    intro e he hb
    unfold spanE at he
    by_cases ht : t = []
    · rw [if_pos ht, List.drop_of_length_le (by omega)] at he
      simp at he
    · rw [if_neg ht] at he
      obtain ⟨A', es', B', g1, g2, g3, k1, k2, k4⟩ := O.parts hP t
      have g5 : P.drop (pgi P t + 1) = B' := by
        rw [← g2]
        conv => lhs; rw [g1]
        simp
      have hmem : e ∈ B'.flatten := by
        obtain ⟨a, ha, hea⟩ := List.mem_flatten.1 he
        refine List.mem_flatten.2 ⟨a, ?_, hea⟩
        rw [← g5]
        have hlen : pgi P t + 1 ≤ P.length := by rw [← g2, g1]; simp
        rw [Nat.min_eq_left hlen] at ha
        obtain ⟨j, hj⟩ := List.getElem?_of_mem ha
        rw [List.getElem?_drop] at hj
        refine List.mem_of_getElem? (i := max (pgi P f) (pgi P t + 1) + j - (pgi P t + 1)) ?_
        rw [List.getElem?_drop, show pgi P t + 1 + (max (pgi P f) (pgi P t + 1) + j - (pgi P t + 1)) = max (pgi P f) (pgi P t + 1) + j by omega]
        exact hj
      have := k4 e hmem
      simp [btw, ht, this.not] at hb
  have hsplit : P = P.take (pgi P f) ++ (cut P (pgi P f) (spanE P t) ++ P.drop (max (pgi P f) (spanE P t))) := by
    unfold cut
    conv => lhs; rw [← List.take_append_drop (pgi P f) P, ← List.take_append_drop (max (pgi P f) (spanE P t) - pgi P f) (P.drop (pgi P f))]
    rw [List.drop_drop, show pgi P f + (max (pgi P f) (spanE P t) - pgi P f) = max (pgi P f) (spanE P t) by omega]
  unfold wlk
  rw [flatMap_same (g := fun es => es.filter (btw f t)) (fun es he => wth_flt (O.pair.1 es (cut_mem he)) f t), flatMap_flt]
  conv => rhs; rw [hsplit]
  rw [List.flatten_append, List.flatten_append, List.filter_append, List.filter_append, hA, hB, List.nil_append, List.append_nil]
end Pg
end Go.Proofs.Ytjnjkgakdnjlmaa

namespace Go.Proofs.Ytjnjkgakdnjlmaa
namespace Pg
open Go.RowKit Go.Lib
attribute [local go_sem] Oper.semAt_some
theorem IntV.at {w : World} {B p n c : Nat} {l : List Int} (h : IntV w B (.slice (some ⟨p, 0, none⟩) n c) l) {i : Nat} {x : Int} (hi : l[i]? = some x) : w.cell? ⟨p, i, none⟩ = some (.int .i64 x) := by
  obtain ⟨b, c', e, _, hR⟩ := h.ex
  cases e
  exact hR.cell (by rw [List.getElem?_map, hi]; rfl)
set_option maxHeartbeats 1000000 in
set_option maxRecDepth 100000 in
theorem ints_any {w : World} {B B' : Nat} {u v : Value} {a b : List Int} (ha : IntV w B u a) (hb : IntV w B' v b) (hla : a.length ≤ 1000000000) (hlb : b.length ≤ 1000000000) :
    Calls Try.prog 31 #[u, v] w fun e w' => e = .returned (.bool (decide (a = b))) ∧ Below w.heap.size w w' := by
  obtain ⟨p, c, rfl, -⟩ := id ha.ex
  obtain ⟨p', d, rfl, -⟩ := id hb.ex
  obtain ⟨r, hr⟩ : ∃ r, Hid (decide (a = b) = r) := ⟨_, rfl⟩
  obtain ⟨n, hn⟩ : ∃ n, Hid (a.length = n) := ⟨_, rfl⟩
  obtain ⟨m, hm⟩ : ∃ m, Hid (b.length = m) := ⟨_, rfl⟩
  rw [hr.out]
  rw [hn.out] at hla ha ⊢
  rw [hm.out] at hlb hb ⊢
  have HA : Hid _ := ha
  have HB : Hid _ := hb
  clear ha hb
  by_cases hne : n = m
  · subst hne
    go_enter Try.func31, Try.ntmps31
    go_wp2_with fail
    go_loopw [5] (fun ti wr => ∃ k : Nat, k ≤ n ∧ ti = .int .i64 k ∧ Hid (a.take k = b.take k) ∧ Below w.heap.size w wr) (fun ti _ => n - (intOf ti).toNat)
    case atStart => exact ⟨0, Nat.zero_le _, rfl, by show _ = _; simp, Below.refl _ _⟩
    case round =>
      obtain ⟨k, hk, rfl, hz, hbe⟩ := hrel
      by_cases hlt : k < n
      · obtain ⟨x, hx⟩ : ∃ x, a[k]? = some x := ⟨a[k]'(by have := hn.out; omega), List.getElem?_eq_getElem _⟩
        obtain ⟨y, hy⟩ : ∃ y, b[k]? = some y := ⟨b[k]'(by have := hm.out; omega), List.getElem?_eq_getElem _⟩
        have c1 := (HA.out.keep hbe).at hx
        have c2 := (HB.out.keep hbe).at hy
        have hk0 : (k : Int) < n := by omega
        by_cases hd : x = y
        · subst hd
          have HY : Hid (a.take (k + 1) = b.take (k + 1)) := by
            show _ = _
            rw [List.take_add_one, List.take_add_one, hz.out, hx, hy]
          clear hx hy hz
          go_wp2_with fail
          go_quiet (fail)
          go_wp2
          go_roundw
          case rel => exact ⟨k + 1, by omega, by go_num, HY.out, below_drewK hbe _⟩
          case measure => simp [intOf]; omega
        · have HF : Hid (r = false) := by
            show _ = _
            rw [← hr.out, decide_eq_false]
            intro e
            rw [e, hy] at hx
            cases hx
            exact hd rfl
          have hd' : (x != y) = true := by rw [bne_iff_ne]; exact hd
          clear hx hy hz
          go_wp2_with fail
          go_quiet (fail)
          go_wp2
          go_ret
          exact ⟨by rw [HF.out]; rfl, below_drewK hbe _⟩
      · have hkn : k = n := by omega
        have HF : Hid (r = true) := by
          show _ = _
          have e := hz.out
          rw [List.take_of_length_le (by have := hn.out; omega), List.take_of_length_le (by have := hm.out; omega)] at e
          rw [← hr.out, decide_eq_true e]
        have hk0 : ¬ ((k : Int) < n) := by omega
        clear hkn
        go_wp2
        go_ret
        exact ⟨by rw [HF.out]; rfl, hbe⟩
  · have HF : Hid (r = false) := by
      show _ = _
      rw [← hr.out, decide_eq_false]
      intro e
      exact hne (by rw [← hn.out, ← hm.out, e])
    have h0 : ¬ ((n : Int) = m) := by omega
    have HN : Hid _ := hne
    clear hne
    go_enter Try.func31, Try.ntmps31
    go_wp2
    go_ret
    exact ⟨by rw [HF.out]; rfl, Below.refl _ _⟩
set_option maxHeartbeats 1000000 in
set_option maxRecDepth 100000 in
theorem place_by (k : Int) (n : Nat) (hn : 0 < n) (hn2 : n ≤ 2147483648) (w : World) :
    Calls Try.prog 10 #[.int .i64 k, .int .i64 n] w fun e w' => ∃ m : Nat, m < n ∧ e = .returned (.int .i64 m) ∧ w' = w := by
  have h0 : ¬ ((n : Int) = 0) := by omega
  have h1 : ¬ ((n : Int) = -1) := by omega
  have b1 := Int.lt_tmod_of_pos k (show (0 : Int) < n by omega)
  have b2 := Int.tmod_lt_of_pos k (show (0 : Int) < n by omega)
  obtain ⟨r, hr⟩ : ∃ r, Int.tmod k n = r := ⟨_, rfl⟩
  rw [hr] at b1 b2
  have b3 : -2147483648 ≤ r ∧ r ≤ 2147483648 := by omega
  by_cases hneg : r < 0
  · go_enter Try.func10, Try.ntmps10
    go_wp2
    go_ret
    exact ⟨(r + n).toNat, by omega, by rw [Int.toNat_of_nonneg (by omega)]; rfl, rfl⟩
  · go_enter Try.func10, Try.ntmps10
    go_wp2
    go_ret
    exact ⟨r.toNat, by omega, by rw [Int.toNat_of_nonneg (by omega)]; rfl, rfl⟩
end Pg
end Go.Proofs.Ytjnjkgakdnjlmaa

namespace Go.Proofs.Ytjnjkgakdnjlmaa
namespace Pg
open Go.RowKit Go.Lib
attribute [local go_sem] Oper.semAt_some
theorem run_iq {a : Act} {w : World} {op : Oper} {x y k n c b : Nat} (ho : op.op = .indexAddr 44 (.tmp x) (.tmp y)) (hx : a.eval (.tmp x) = .slice (some ⟨b, 0, none⟩) n c) {z : Int} (hy : a.eval (.tmp y) = .int .i64 z) (hz : z = (k : Int)) (hk : k < n) : (execOp a.eval op).run Try.prog w = .ok (.value (.pointer (some ⟨b, k * 2, none⟩))) w := by
  subst hz
  have h1 : (k : Int) < n := by omega
  have h2 : ¬ ((k : Int) < 0) := by omega
  obtain ⟨i0, hi, hz0, hs0, hb0⟩ := info_parts (P := Try.prog) KQ.inf
  simp only [execOp, ho, hx, hy]
  go_simp
theorem pcells {w w' : World} {p p2 i j i2 j2 : Nat} {a b c d : Value} (h : w.cell? ⟨p, i, none⟩ = some a ∧ w.cell? ⟨p, j, none⟩ = some b ∧ w.cell? ⟨p2, i2, none⟩ = some c ∧ w.cell? ⟨p2, j2, none⟩ = some d) (h1 : p < w.heap.size) (h2 : p2 < w.heap.size) (hb : Below w.heap.size w w') :
    w'.cell? ⟨p, i, none⟩ = some a ∧ w'.cell? ⟨p, j, none⟩ = some b ∧ w'.cell? ⟨p2, i2, none⟩ = some c ∧ w'.cell? ⟨p2, j2, none⟩ = some d := by
  refine ⟨?_, ?_, ?_, ?_⟩
  · rw [hb.cell (p := ⟨p, i, none⟩) h1]; exact h.1
  · rw [hb.cell (p := ⟨p, j, none⟩) h1]; exact h.2.1
  · rw [hb.cell (p := ⟨p2, i2, none⟩) h2]; exact h.2.2.1
  · rw [hb.cell (p := ⟨p2, j2, none⟩) h2]; exact h.2.2.2
theorem flat_at : ∀ {es : List En} {k : Nat} {e : En}, es[k]? = some e → (flat es)[k * 2]? = some e.kv ∧ (flat es)[k * 2 + 1]? = some e.vv
  | [], k, e, h => by simp at h
  | a :: es, 0, e, h => by simp at h; subst h; exact ⟨rfl, rfl⟩
  | a :: es, k + 1, e, h => by
    have := flat_at (es := es) (k := k) (e := e) (by simpa using h)
    rw [show (k + 1) * 2 = k * 2 + 1 + 1 by omega]
    simpa [flat] using this
theorem PrA.cells {w : World} {B p n c : Nat} {es : List En} (h : PrA w B (.slice (some ⟨p, 0, none⟩) n c) es) {k : Nat} {e : En} (hk : es[k]? = some e) : w.cell? ⟨p, k * 2, none⟩ = some e.kv ∧ w.cell? ⟨p, k * 2 + 1, none⟩ = some e.vv ∧ p < w.heap.size := by
  rcases h.ex with ⟨e1, rfl⟩ | ⟨b, c', e1, hl, hR⟩
  · simp at hk
  · cases e1
    obtain ⟨h1, h2⟩ := flat_at hk
    exact ⟨hR.cell h1, hR.cell h2, hR.lt⟩
set_option maxHeartbeats 2000000 in
set_option maxRecDepth 100000 in
theorem pairs_same {w : World} {B B' : Nat} {u v : Value} {a b : List En} (ha : PrA w B u a) (hb : PrA w B' v b) (hab : a.map En.kl2 = b.map En.kl2) (hbig : ∀ e ∈ a, e.kl.length ≤ 1000000000 ∧ e.vl.length ≤ 1000000000) (hn : a.length ≤ 1000000000) :
    Calls Try.prog 20 #[u, v] w fun e w' => e = .returned (.bool true) ∧ Below w.heap.size w w' := by
  obtain ⟨ao, c, rfl⟩ := ha.shape
  obtain ⟨bo, d, rfl⟩ := hb.shape
  have hl : b.length = a.length := by have := congrArg List.length hab; simpa using this.symm
  rw [hl] at hb ⊢
  obtain ⟨n, hnn⟩ : ∃ n, Hid (a.length = n) := ⟨_, rfl⟩
  rw [hnn.out] at ha hb hn ⊢
  have HA : Hid _ := ha
  have HB : Hid _ := hb
  have HQ : Hid _ := hab
  have HG : Hid _ := hbig
  have HL : Hid (b.length = n) := by show _ = _; rw [hl]; exact hnn.out
  clear ha hb hab hbig hl
  go_enter Try.func20, Try.ntmps20
  go_wp2_with fail
  go_loopw [5] (fun ti wr => ∃ k : Nat, k ≤ n ∧ ti = .int .i64 k ∧ Below w.heap.size w wr) (fun ti _ => n - (intOf ti).toNat)
  case atStart => exact ⟨0, Nat.zero_le _, rfl, Below.refl _ _⟩
  case round =>
    obtain ⟨k, hk, rfl, hbe⟩ := hrel
    by_cases hlt : k < n
    · obtain ⟨x, hx⟩ : ∃ x, a[k]? = some x := ⟨a[k]'(by have := hnn.out; omega), List.getElem?_eq_getElem _⟩
      obtain ⟨y, hy⟩ : ∃ y, b[k]? = some y := ⟨b[k]'(by have := HL.out; omega), List.getElem?_eq_getElem _⟩
      obtain ⟨p, e1⟩ : ∃ p, ao = some ⟨p, 0, none⟩ := by
        rcases HA.out.ex with ⟨_, e⟩ | ⟨p, c', e, _⟩
        · subst e; simp at hx
        · cases e; exact ⟨p, rfl⟩
      obtain ⟨p2, e2⟩ : ∃ p, bo = some ⟨p, 0, none⟩ := by
        rcases HB.out.ex with ⟨_, e⟩ | ⟨p, c', e, _⟩
        · subst e; simp at hy
        · cases e; exact ⟨p, rfl⟩
      subst e1 e2
      have hbD := joinB hbe (belowD wr)
      have PA := HA.out.keep hbD
      have PB := HB.out.keep hbD
      have X := PA.ents x (List.mem_of_getElem? hx)
      have Y := PB.ents y (List.mem_of_getElem? hy)
      obtain ⟨x1, x2, hlp⟩ := PA.cells hx
      obtain ⟨y1, y2, hlp2⟩ := PB.cells hy
      have hxy : x.kl2 = y.kl2 := by
        have e := congrArg (fun l => l[k]?) HQ.out
        simp only [List.getElem?_map, hx, hy] at e
        exact Option.some.inj e
      have hk2 : x.kl = y.kl := congrArg Prod.fst hxy
      have hv2 : x.vl = y.vl := congrArg Prod.snd hxy
      obtain ⟨hxk, hxv⟩ := HG.out x (List.mem_of_getElem? hx)
      have hyk : y.kl.length ≤ 1000000000 := by rw [← hk2]; exact hxk
      have hyv : y.vl.length ≤ 1000000000 := by rw [← hv2]; exact hxv
      have hk0 : (k : Int) < n := by omega
      have HK2 : Hid _ := hk2
      have HV2 : Hid _ := hv2
      have HX : Hid _ := X
      have HY : Hid _ := Y
      have HC : Hid (wr.drew.cell? ⟨p, k * 2, none⟩ = some x.kv ∧ wr.drew.cell? ⟨p, k * 2 + 1, none⟩ = some x.vv ∧ wr.drew.cell? ⟨p2, k * 2, none⟩ = some y.kv ∧ wr.drew.cell? ⟨p2, k * 2 + 1, none⟩ = some y.vv) := ⟨x1, x2, y1, y2⟩
      clear hk2 hv2 X Y PA PB hxy hx hy x1 x2 y1 y2
      go_wp2_with fail
      have X := HX.out
      have Y := HY.out
      have hk2 := HK2.out
      have hv2 := HV2.out
      have hS := HC.out
      refine rg_start (S := fun w' => w'.cell? ⟨p, k * 2, none⟩ = some x.kv ∧ w'.cell? ⟨p, k * 2 + 1, none⟩ = some x.vv ∧ w'.cell? ⟨p2, k * 2, none⟩ = some y.kv ∧ w'.cell? ⟨p2, k * 2 + 1, none⟩ = some y.vv) (by kernel_rfl) hS ?_
      refine rg_take 0 (some 17) (.slice (some ⟨p, 0, none⟩) n c) (by kernel_rfl) (fun _ _ => by kernel_rfl) (fun _ _ _ h => h) hS ?_
      refine rg_take 1 (some 18) (.int .i64 k) (by kernel_rfl) (fun _ _ => by kernel_rfl) (fun _ _ _ h => h) hS ?_
      refine rg_take 2 (some 19) (.pointer (some ⟨p, k * 2, none⟩)) (by kernel_rfl) (fun _ _ => run_iq (x := 17) (y := 18) (k := k) (n := n) (c := c) (by kernel_rfl) (by kernel_rfl) (by kernel_rfl) rfl hlt) (fun _ _ _ h => h) hS ?_
      refine rg_take 3 (some 20) (.pointer (some ⟨p, k * 2, none⟩)) (by kernel_rfl) (fun _ _ => by kernel_rfl) (fun _ _ _ h => h) hS ?_
      refine rg_load 4 (some 21) (x.kv) 33 20 (p) (k * 2) (by kernel_rfl) (by kernel_rfl) (by kernel_rfl) (fun w' h => ld_b h.1) (fun _ _ _ h => h) hS ?_
      refine rg_take 5 (some 22) (.slice (some ⟨p2, 0, none⟩) n d) (by kernel_rfl) (fun _ _ => by kernel_rfl) (fun _ _ _ h => h) hS ?_
      refine rg_take 6 (some 23) (.int .i64 k) (by kernel_rfl) (fun _ _ => by kernel_rfl) (fun _ _ _ h => h) hS ?_
      refine rg_take 7 (some 24) (.pointer (some ⟨p2, k * 2, none⟩)) (by kernel_rfl) (fun _ _ => run_iq (x := 22) (y := 23) (k := k) (n := n) (c := d) (by kernel_rfl) (by kernel_rfl) (by kernel_rfl) rfl hlt) (fun _ _ _ h => h) hS ?_
      refine rg_take 8 (some 25) (.pointer (some ⟨p2, k * 2, none⟩)) (by kernel_rfl) (fun _ _ => by kernel_rfl) (fun _ _ _ h => h) hS ?_
      refine rg_load 9 (some 26) (y.kv) 33 25 (p2) (k * 2) (by kernel_rfl) (by kernel_rfl) (by kernel_rfl) (fun w' h => ld_b h.2.2.1) (fun _ _ _ h => h) hS ?_
      refine rg_call 10 (some 27) 18 #[x.kv, y.kv] (by kernel_rfl) (by kernel_rfl) (bytes_any X.k.by Y.k.by hxk hyk) ?_
      rintro e' w2 ⟨rfl, hB2⟩
      rw [decide_eq_true hk2]
      have hS2 := pcells hS hlp hlp2 hB2
      refine ⟨_, rfl, hS2, ?_⟩
      clear hS
      have hS := hS2
      refine rg_take 11 (some 28) (.bool false) (by kernel_rfl) (fun _ _ => by kernel_rfl) (fun _ _ _ h => h) hS ?_
      refine rg_take 12 (some 29) (.bool false) (by kernel_rfl) (fun _ _ => by kernel_rfl) (fun _ _ _ h => h) hS ?_
      refine rg_take 13 (some 30) (.slice (some ⟨p, 0, none⟩) n c) (by kernel_rfl) (fun _ _ => by kernel_rfl) (fun _ _ _ h => h) hS ?_
      refine rg_take 14 (some 31) (.int .i64 k) (by kernel_rfl) (fun _ _ => by kernel_rfl) (fun _ _ _ h => h) hS ?_
      refine rg_take 15 (some 32) (.pointer (some ⟨p, k * 2, none⟩)) (by kernel_rfl) (fun _ _ => run_iq (x := 30) (y := 31) (k := k) (n := n) (c := c) (by kernel_rfl) (by kernel_rfl) (by kernel_rfl) rfl hlt) (fun _ _ _ h => h) hS ?_
      refine rg_take 16 (some 33) (.pointer (some ⟨p, k * 2 + 1, none⟩)) (by kernel_rfl) (fun _ _ => by kernel_rfl) (fun _ _ _ h => h) hS ?_
      refine rg_load 17 (some 34) (x.vv) 33 33 (p) (k * 2 + 1) (by kernel_rfl) (by kernel_rfl) (by kernel_rfl) (fun w' h => ld_b h.2.1) (fun _ _ _ h => h) hS ?_
      refine rg_take 18 (some 35) (.slice (some ⟨p2, 0, none⟩) n d) (by kernel_rfl) (fun _ _ => by kernel_rfl) (fun _ _ _ h => h) hS ?_
      refine rg_take 19 (some 36) (.int .i64 k) (by kernel_rfl) (fun _ _ => by kernel_rfl) (fun _ _ _ h => h) hS ?_
      refine rg_take 20 (some 37) (.pointer (some ⟨p2, k * 2, none⟩)) (by kernel_rfl) (fun _ _ => run_iq (x := 35) (y := 36) (k := k) (n := n) (c := d) (by kernel_rfl) (by kernel_rfl) (by kernel_rfl) rfl hlt) (fun _ _ _ h => h) hS ?_
      refine rg_take 21 (some 38) (.pointer (some ⟨p2, k * 2 + 1, none⟩)) (by kernel_rfl) (fun _ _ => by kernel_rfl) (fun _ _ _ h => h) hS ?_
      refine rg_load 22 (some 39) (y.vv) 33 38 (p2) (k * 2 + 1) (by kernel_rfl) (by kernel_rfl) (by kernel_rfl) (fun w' h => ld_b h.2.2.2) (fun _ _ _ h => h) hS ?_
      refine rg_call 23 (some 40) 18 #[x.vv, y.vv] (by kernel_rfl) (by kernel_rfl) (bytes_any (X.v.keep hB2).by (Y.v.keep hB2).by hxv hyv) ?_
      rintro e' w3 ⟨rfl, hB3⟩
      rw [decide_eq_true hv2]
      have hS3 := pcells hS (Nat.lt_of_lt_of_le hlp hB2.size) (Nat.lt_of_lt_of_le hlp2 hB2.size) hB3
      refine ⟨_, rfl, hS3, ?_⟩
      clear hS hS2
      have hS := hS3
      refine rg_take 24 (some 41) (.bool false) (by kernel_rfl) (fun _ _ => by kernel_rfl) (fun _ _ _ h => h) hS ?_
      refine rg_take 25 (some 42) (.bool false) (by kernel_rfl) (fun _ _ => by kernel_rfl) (fun _ _ _ h => h) hS ?_
      refine rg_done (by kernel_rfl) ?_
      simp only [Act.put, List.setIfInBounds_toArray, List.set_cons_zero, List.set_cons_succ]
      have HBB : Hid _ := joinB (joinB hbD hB2) hB3
      clear X Y hk2 hv2 hS hS3 hB2 hB3 hbD hbe
      go_wp2
      go_roundw
      case rel => exact ⟨k + 1, by omega, by go_num, HBB.out⟩
      case measure => simp [intOf]; omega
    · have hk0 : ¬ ((k : Int) < n) := by omega
      have HK : Hid _ := hlt
      clear hlt
      go_wp2
      go_ret
      exact ⟨rfl, hbe⟩
end Pg
end Go.Proofs.Ytjnjkgakdnjlmaa

namespace Go.Proofs.Ytjnjkgakdnjlmaa
namespace Pg
/-- all entries behind a Set of a key that isn't there, or is -/
theorem set_flat_new {P : List (List En)} (O : Ord P) {e : En} (hn : has P e.kl = false) : ∃ X Y, P.flatten = X ++ Y ∧ (setQ P e).flatten = X ++ e :: Y ∧ (∀ x ∈ X, Lt x.kl e.kl) ∧ (∀ y ∈ Y, Lt e.kl y.kl) := by
  by_cases hP : P = []
  · subst hP
    exact ⟨[], [], rfl, by simp [setQ], by simp, by simp⟩
  obtain ⟨A, es, B, X, Y, e1, e2, e3, h1, h2⟩ := set_ins O hP hn
  refine ⟨A.flatten ++ X, Y ++ B.flatten, by rw [e1, e2]; simp, ?_, h1, h2⟩
  rw [e3]
  split
  · rw [List.flatten_append, List.flatten_cons, List.flatten_cons, ← List.append_assoc (List.take 16 _), List.take_append_drop]
    simp
  · simp
theorem set_flat_old {P : List (List En)} (O : Ord P) {e : En} (hk : has P e.kl = true) : ∃ X x Y, P.flatten = X ++ x :: Y ∧ x.kl = e.kl ∧ (setQ P e).flatten = X ++ { x with vv := e.vv, vl := e.vl } :: Y := by
  obtain ⟨A, es, B, X, x, Y, e1, e2, e3, e4⟩ := set_upd O hk
  refine ⟨A.flatten ++ X, x, Y ++ B.flatten, by rw [e1, e2]; simp, e3, by rw [e4]; simp⟩
theorem jn_flatten {P : List (List En)} {i : Nat} (h : jnb P i = true) : (jnQ P i).flatten = P.flatten := by
  obtain ⟨A, a, b, B, e1, e2, e3, _⟩ := jn_parts h
  rw [e3, e1]; simp
theorem del_flat {P : List (List En)} (O : Ord P) {k : List Int} (hk : has P k = true) : ∃ X x Y, P.flatten = X ++ x :: Y ∧ x.kl = k ∧ (delQ P k).flatten = X ++ Y := by
  obtain ⟨A, es, B, X, x, Y, e1, e2, e3, e4, _⟩ := del_parts O hk
  refine ⟨A.flatten ++ X, x, Y ++ B.flatten, by rw [e1, e2]; simp, e3, ?_⟩
  have g : (A ++ (X ++ Y) :: B).flatten = A.flatten ++ X ++ (Y ++ B.flatten) := by simp
  rw [e4, ← g]
  split
  · rename_i h; rw [h]; simp
  · split
    · rename_i h; exact jn_flatten h
    · split
      · rename_i h; exact jn_flatten h.2
      · rfl
theorem del_none {P : List (List En)} {k : List Int} (hk : has P k = false) : delQ P k = P := by unfold delQ; rw [hk]; rfl
theorem len_set {P : List (List En)} (O : Ord P) (e : En) : (setQ P e).flatten.length = P.flatten.length + if has P e.kl then 0 else 1 := by
  cases h : has P e.kl
  · obtain ⟨X, Y, e1, e2, _⟩ := set_flat_new O h
    rw [e1, e2]; simp; omega
  · obtain ⟨X, x, Y, e1, _, e2⟩ := set_flat_old O h
    rw [e1, e2]; simp
theorem has_set {P : List (List En)} (O : Ord P) (e : En) (k : List Int) : has (setQ P e) k = (decide (k = e.kl) || has P k) := by
  rw [Bool.eq_iff_iff, Bool.or_eq_true, decide_eq_true_eq, has_iff (O.set e), has_iff O]
  cases h : has P e.kl
  · obtain ⟨X, Y, e1, e2, _⟩ := set_flat_new O h
    rw [e1, e2]
    simp only [kys, List.map_append, List.map_cons, List.mem_append, List.mem_cons]
    constructor
    · rintro (h | h | h)
      · exact .inr (.inl h)
      · exact .inl h
      · exact .inr (.inr h)
    · rintro (h | h | h)
      · exact .inr (.inl h)
      · exact .inl h
      · exact .inr (.inr h)
  · obtain ⟨X, x, Y, e1, e3, e2⟩ := set_flat_old O h
    rw [e1, e2]
    simp only [kys, List.map_append, List.map_cons, List.mem_append, List.mem_cons, e3]
    constructor
    · exact .inr
    · rintro (h | h)
      · exact .inr (.inl h)
      · exact h
theorem has_del {P : List (List En)} (O : Ord P) (k' k : List Int) : has (delQ P k') k = (has P k && !decide (k = k')) := by
  cases h : has P k'
  · rw [del_none h]
    by_cases e : k = k'
    · subst e; rw [h]; simp
    · simp [e]
  · rw [Bool.eq_iff_iff, Bool.and_eq_true, has_iff (O.del k'), has_iff O]
    obtain ⟨X, x, Y, e1, e3, e2⟩ := del_flat O h
    have hr := O.flat
    rw [e1, List.pairwise_append, List.pairwise_cons] at hr
    rw [e1, e2]
    simp only [kys, List.map_append, List.map_cons, List.mem_append, List.mem_cons, e3, Bool.not_eq_true', decide_eq_false_iff_not]
    constructor
    · intro hm
      refine ⟨hm.elim .inl (fun h => .inr (.inr h)), fun e => ?_⟩
      subst e
      rcases hm with hm | hm
      · obtain ⟨y, hy, e⟩ := List.mem_map.1 hm
        have := hr.2.2 y hy x List.mem_cons_self
        rw [e, e3] at this
        exact lt_irrefl _ this
      · obtain ⟨y, hy, e⟩ := List.mem_map.1 hm
        have := hr.2.1.1 y hy
        rw [e, e3] at this
        exact lt_irrefl _ this
    · rintro ⟨h | h | h, hne⟩
      · exact .inl h
      · exact absurd h hne
      · exact .inr h
end Pg
end Go.Proofs.Ytjnjkgakdnjlmaa

namespace Go.Proofs.Ytjnjkgakdnjlmaa
namespace Pg
abbrev KV := List Int × List Int
def abs (P : List (List En)) : List (List KV) := P.map fun es => es.map En.kl2
def apl (Q : List (List KV)) (k : List Int) : Nat := plq (Q.map fun es => (es.map Prod.fst).headD []) k - 1
/-- is the key there? -/
def ahas (Q : List (List KV)) (k : List Int) : Bool := !Q.isEmpty && thr ((Q.getD (apl Q k) []).map Prod.fst) k
/-- what lies for it -/
def agot (Q : List (List KV)) (k : List Int) : List Int := ((Q.getD (apl Q k) [])[plc ((Q.getD (apl Q k) []).map Prod.fst) k]?.map Prod.snd).getD []
/-- the entry x laid at place q of page i -/
def ains (Q : List (List KV)) (i q : Nat) (x : KV) : List (List KV) :=
  let es := (Q.getD i []).take q ++ [x] ++ (Q.getD i []).drop q
  if 32 < es.length then Q.take i ++ [es.take 16, es.drop 16] ++ Q.drop (i + 1) else Q.set i es
/-- the pages behind a Set -/
def aset (Q : List (List KV)) (k v : List Int) : List (List KV) :=
  if Q = [] then [[(k, v)]]
  else
    let i := apl Q k
    let es := Q.getD i []
    let q := plc (es.map Prod.fst) k
    if thr (es.map Prod.fst) k then Q.set i (es.modify q fun x => (x.1, v)) else ains Q i q (k, v)
def ajnb (Q : List (List KV)) (i : Nat) : Bool := decide (i + 1 < Q.length) && decide ((Q.getD i []).length + (Q.getD (i + 1) []).length ≤ 16)
def ajn (Q : List (List KV)) (i : Nat) : List (List KV) := Q.take i ++ [Q.getD i [] ++ Q.getD (i + 1) []] ++ Q.drop (i + 2)
def arm (Q : List (List KV)) (i q : Nat) : List (List KV) :=
  let es := (Q.getD i []).take q ++ (Q.getD i []).drop (q + 1)
  if es = [] then Q.take i ++ Q.drop (i + 1)
  else
    let Q1 := Q.set i es
    if ajnb Q1 i then ajn Q1 i else if 1 ≤ i ∧ ajnb Q1 (i - 1) then ajn Q1 (i - 1) else Q1
/-- the pages behind a Delete -/
def adel (Q : List (List KV)) (k : List Int) : List (List KV) :=
  if ahas Q k then arm Q (apl Q k) (plc ((Q.getD (apl Q k) []).map Prod.fst) k) else Q
/-- what lies between two bounds -/
def abtw (f t : List Int) (x : KV) : Bool := !decide (Lt x.1 f) && (decide (t = []) || decide (Lt x.1 t))

theorem kl2_fst (es : List En) : (es.map En.kl2).map Prod.fst = kys es := by rw [List.map_map]; rfl
theorem abs_getD (P : List (List En)) (i : Nat) : (abs P).getD i [] = (P.getD i []).map En.kl2 := by
  simp only [abs, List.getD_eq_getElem?_getD, List.getElem?_map]
  cases P[i]? <;> rfl
theorem abs_pgi (P : List (List En)) (k : List Int) : apl (abs P) k = pgi P k := by
  unfold apl pgi abs fks
  rw [List.map_map]
  congr 2
  apply List.map_congr_left
  intro es _
  simp only [Function.comp_apply, kl2_fst]
theorem abs_has (P : List (List En)) (k : List Int) : ahas (abs P) k = has P k := by
  unfold ahas has
  rw [abs_pgi, abs_getD, kl2_fst]
  cases P <;> rfl
theorem abs_got (P : List (List En)) (k : List Int) : agot (abs P) k = got P k := by
  unfold agot got
  rw [abs_pgi, abs_getD, kl2_fst, List.getElem?_map, Option.map_map]
  rfl
theorem map_modify {α β : Type} {f : α → α} {g : α → β} {f' : β → β} (h : ∀ x, g (f x) = f' (g x)) : ∀ (l : List α) (q : Nat), (l.modify q f).map g = (l.map g).modify q f'
  | [], q => by cases q <;> rfl
  | a :: l, 0 => by simp [h]
  | a :: l, q + 1 => by simp [map_modify h l q]
theorem abs_nil {P : List (List En)} : abs P = [] ↔ P = [] := by simp [abs]
theorem abs_set_at (P : List (List En)) (i : Nat) (es : List En) : abs (P.set i es) = (abs P).set i (es.map En.kl2) := by simp [abs, List.map_set]
theorem abs_len (P : List (List En)) : (abs P).length = P.length := by simp [abs]
theorem abs_ins (P : List (List En)) (i q : Nat) (e : En) : abs (insQ P i q e) = ains (abs P) i q (e.kl, e.vl) := by
  have h : (((abs P).getD i []).take q ++ [(e.kl, e.vl)] ++ ((abs P).getD i []).drop q) = ((P.getD i []).take q ++ [e] ++ (P.getD i []).drop q).map En.kl2 := by
    rw [abs_getD]
    simp [List.map_take, List.map_drop, En.kl2]
  unfold ains insQ
  simp only
  rw [h]
  simp only [List.length_map]
  split
  · simp [abs, List.map_take, List.map_drop]
  · rw [abs_set_at]
theorem abs_set (P : List (List En)) (e : En) : abs (setQ P e) = aset (abs P) e.kl e.vl := by
  unfold setQ aset
  by_cases h : P = []
  · subst h; rfl
  rw [if_neg h, if_neg (fun e => h (abs_nil.1 e))]
  simp only
  rw [abs_pgi, abs_getD, kl2_fst]
  split
  · rw [abs_set_at, map_modify (f' := fun x => (x.1, e.vl)) (fun x => rfl)]
  · rw [abs_ins]
theorem abs_jnb (P : List (List En)) (i : Nat) : ajnb (abs P) i = jnb P i := by
  unfold ajnb jnb
  rw [abs_getD, abs_getD, abs_len, List.length_map, List.length_map]
theorem abs_jn (P : List (List En)) (i : Nat) : ajn (abs P) i = abs (jnQ P i) := by
  unfold ajn jnQ
  rw [abs_getD, abs_getD]
  simp [abs, List.map_take, List.map_drop]
theorem abs_del (P : List (List En)) (k : List Int) : abs (delQ P k) = adel (abs P) k := by
  unfold delQ adel
  rw [abs_has]
  split
  · rw [abs_pgi, abs_getD, kl2_fst]
    unfold rmQ arm
    simp only
    rw [abs_getD]
    have h : ∀ q, (((P.getD (pgi P k) []).map En.kl2).take q ++ ((P.getD (pgi P k) []).map En.kl2).drop (q + 1)) = ((P.getD (pgi P k) []).take q ++ (P.getD (pgi P k) []).drop (q + 1)).map En.kl2 := fun q => by
      simp [List.map_take, List.map_drop]
    rw [h, ← abs_set_at, abs_jnb, abs_jnb, abs_jn, abs_jn]
    simp only [List.map_eq_nil_iff]
    split
    · simp [abs, List.map_take, List.map_drop]
    · split
      · rfl
      · split <;> rfl
  · rfl
theorem abs_flat (P : List (List En)) : (abs P).flatten = P.flatten.map En.kl2 := by
  unfold abs
  rw [List.map_flatten]
theorem abs_walk {P : List (List En)} (O : Ord P) (f t : List Int) : (wlk P f t).map En.kl2 = (abs P).flatten.filter (abtw f t) := by
  rw [wlk_flt O, abs_flat, List.filter_map]
  rfl
/-- sizes of pages -/
theorem abs_sizes (P : List (List En)) : (abs P).map List.length = P.map List.length := by
  simp [abs, Function.comp_def]
/-- pages in order -/
def AOrd (Q : List (List KV)) : Prop := ∃ P, abs P = Q ∧ Ord P
theorem AOrd.set {Q : List (List KV)} (h : AOrd Q) (k v : List Int) : AOrd (aset Q k v) := by
  obtain ⟨P, rfl, O⟩ := h
  exact ⟨setQ P ⟨undef, k, undef, v⟩, abs_set P _, O.set _⟩
theorem AOrd.del {Q : List (List KV)} (h : AOrd Q) (k : List Int) : AOrd (adel Q k) := by
  obtain ⟨P, rfl, O⟩ := h
  exact ⟨delQ P k, abs_del P _, O.del _⟩
theorem AOrd.nil : AOrd [] := ⟨[], rfl, ⟨fun _ h => by simp at h, List.Pairwise.nil⟩⟩
theorem AOrd.flat {Q : List (List KV)} (h : AOrd Q) : Q.flatten.Pairwise fun x y => Lt x.1 y.1 := by
  obtain ⟨P, rfl, O⟩ := h
  rw [abs_flat, List.pairwise_map]
  exact O.flat
theorem AOrd.has_iff {Q : List (List KV)} (h : AOrd Q) (k : List Int) : ahas Q k = true ↔ k ∈ Q.flatten.map Prod.fst := by
  obtain ⟨P, rfl, O⟩ := h
  rw [abs_has, Pg.has_iff O, abs_flat, kl2_fst]
theorem AOrd.set_new {Q : List (List KV)} (h : AOrd Q) {k : List Int} (v : List Int) (hn : ahas Q k = false) : ∃ X Y, Q.flatten = X ++ Y ∧ (aset Q k v).flatten = X ++ (k, v) :: Y ∧ (∀ x ∈ X, Lt x.1 k) ∧ (∀ y ∈ Y, Lt k y.1) := by
  obtain ⟨P, rfl, O⟩ := h
  rw [abs_has] at hn
  obtain ⟨X, Y, e1, e2, h1, h2⟩ := set_flat_new O (e := ⟨undef, k, undef, v⟩) hn
  refine ⟨X.map En.kl2, Y.map En.kl2, by rw [abs_flat, e1, List.map_append], ?_, ?_, ?_⟩
  · rw [← abs_set P ⟨undef, k, undef, v⟩, abs_flat, e2]
    simp [En.kl2]
  · intro x hx
    obtain ⟨e, he, rfl⟩ := List.mem_map.1 hx
    exact h1 e he
  · intro x hx
    obtain ⟨e, he, rfl⟩ := List.mem_map.1 hx
    exact h2 e he
theorem AOrd.set_old {Q : List (List KV)} (h : AOrd Q) {k : List Int} (v : List Int) (hn : ahas Q k = true) : ∃ X x Y, Q.flatten = X ++ (k, x) :: Y ∧ (aset Q k v).flatten = X ++ (k, v) :: Y := by
  obtain ⟨P, rfl, O⟩ := h
  rw [abs_has] at hn
  obtain ⟨X, x, Y, e1, hx, e2⟩ := set_flat_old O (e := ⟨undef, k, undef, v⟩) hn
  refine ⟨X.map En.kl2, x.vl, Y.map En.kl2, ?_, ?_⟩
  · rw [abs_flat, e1]
    simp [En.kl2, hx]
  · rw [← abs_set P ⟨undef, k, undef, v⟩, abs_flat, e2]
    simp [En.kl2, hx]
theorem AOrd.del_old {Q : List (List KV)} (h : AOrd Q) {k : List Int} (hn : ahas Q k = true) : ∃ X x Y, Q.flatten = X ++ (k, x) :: Y ∧ (adel Q k).flatten = X ++ Y := by
  obtain ⟨P, rfl, O⟩ := h
  rw [abs_has] at hn
  obtain ⟨X, x, Y, e1, hx, e2⟩ := del_flat O hn
  refine ⟨X.map En.kl2, x.vl, Y.map En.kl2, ?_, ?_⟩
  · rw [abs_flat, e1]
    simp [En.kl2, hx]
  · rw [← abs_del P k, abs_flat, e2]
    simp
theorem adel_none {Q : List (List KV)} {k : List Int} (hn : ahas Q k = false) : adel Q k = Q := by
  unfold adel
  rw [hn]
  rfl
end Pg
end Go.Proofs.Ytjnjkgakdnjlmaa

namespace Go.Proofs.Ytjnjkgakdnjlmaa
namespace Pg
open Go.RowKit Go.Lib
/-- at g lies a map with the pages Q, of N entries at most -/
structure Mp (w : World) (F D : Nat → Prop) (g : Nat) (Q : List (List KV)) (N : Nat) : Prop where
  ex : ∃ L, abs (ens L) = Q ∧ MapA w F D g L ∧ Ord (ens L) ∧ Shq (ens L) ∧ (ens L).flatten.length ≤ N ∧ ∀ es ∈ ens L, ∀ e ∈ es, e.kl.length ≤ 1000000000 ∧ e.vl.length ≤ 1000000000
theorem flen_ge : ∀ {P : List (List En)}, (∀ es ∈ P, 1 ≤ es.length) → P.length ≤ P.flatten.length
  | [], _ => Nat.le_refl _
  | a :: P, h => by
    have h1 := h a List.mem_cons_self
    have h2 := flen_ge (P := P) fun es he => h es (List.mem_cons_of_mem _ he)
    simp only [List.flatten_cons, List.length_append, List.length_cons]
    omega
theorem Shq.few {L : List Pg} (h : Shq (ens L)) {N : Nat} (hN : (ens L).flatten.length ≤ N) (hb : N ≤ 100000000) : L.length ≤ 100000000 := by
  have h1 := flen_ge fun es he => (h.one es he).1
  have h2 : (ens L).length = L.length := by simp [ens]
  omega
theorem Mp.lt {w : World} {F D : Nat → Prop} {g N : Nat} {Q : List (List KV)} (M : Mp w F D g Q N) {b : Nat} (hb : F b) : b < w.heap.size := by
  obtain ⟨L, _, A, _⟩ := M.ex
  exact A.lt hb
theorem Mp.noU {w : World} {F D : Nat → Prop} {g N : Nat} {Q : List (List KV)} (M : Mp w F D g Q N) {b : Nat} (hb : F b) (cs : List Value) : ¬ Blk w b cs 5 := by
  obtain ⟨L, _, A, _⟩ := M.ex
  exact A.noU hb cs
theorem Mp.keep {w w' : World} {F D : Nat → Prop} {g N : Nat} {Q : List (List KV)} (M : Mp w F D g Q N) (hb : Below w.heap.size w w') : Mp w' F D g Q N := by
  obtain ⟨L, e, A, r⟩ := M.ex
  exact ⟨L, e, A.keep hb, r⟩
theorem Mp.drew {w : World} {F D : Nat → Prop} {g N : Nat} {Q : List (List KV)} (M : Mp w F D g Q N) : Mp w.drew F D g Q N := by
  obtain ⟨L, e, A, r⟩ := M.ex
  exact ⟨L, e, A.drew, r⟩
theorem Mp.same {w w' : World} {F D : Nat → Prop} {g N : Nat} {Q : List (List KV)} (M : Mp w F D g Q N) (h1 : ∀ b, F b → w'.heap[b]? = w.heap[b]?) (h2 : ∀ b, b < w.heap.size → D b → (∃ cs, Blk w b cs 5) → w'.heap[b]? = w.heap[b]?) : Mp w' F D g Q N := by
  obtain ⟨L, e, A, r⟩ := M.ex
  exact ⟨L, e, A.same h1 h2, r⟩
theorem Mp.chg {w w' : World} {F D F' : Nat → Prop} {g N : Nat} {Q : List (List KV)} (M : Mp w F D g Q N) (hc : Chg F' w w') (h1 : ∀ b, F' b → ¬ F b) (h2 : ∀ b, F' b → ∀ cs, ¬ Blk w b cs 5) : Mp w' F D g Q N := by
  obtain ⟨L, e, A, r⟩ := M.ex
  exact ⟨L, e, A.chg hc h1 h2, r⟩
theorem Mp.mono {w : World} {F D D' : Nat → Prop} {g N : Nat} {Q : List (List KV)} (M : Mp w F D g Q N) (hD : ∀ b, b < w.heap.size → D b → D' b) : Mp w F D' g Q N := by
  obtain ⟨L, e, A, r⟩ := M.ex
  exact ⟨L, e, A.mono hD, r⟩
theorem Mp.more {w : World} {F D : Nat → Prop} {g N N' : Nat} {Q : List (List KV)} (M : Mp w F D g Q N) (h : N ≤ N') : Mp w F D g Q N' := by
  obtain ⟨L, e, A, O, S, n, r⟩ := M.ex
  exact ⟨L, e, A, O, S, by omega, r⟩
theorem Mp.ord {w : World} {F D : Nat → Prop} {g N : Nat} {Q : List (List KV)} (M : Mp w F D g Q N) : AOrd Q := by
  obtain ⟨L, e, A, O, _⟩ := M.ex
  exact ⟨_, e, O⟩
theorem Mp.len {w : World} {F D : Nat → Prop} {g N : Nat} {Q : List (List KV)} (M : Mp w F D g Q N) : Q.flatten.length ≤ N := by
  obtain ⟨L, rfl, A, O, S, n, r⟩ := M.ex
  rw [abs_flat, List.length_map]
  exact n
theorem Mp.small {w : World} {F D : Nat → Prop} {g N : Nat} {Q : List (List KV)} (M : Mp w F D g Q N) : ∀ x ∈ Q.flatten, x.1.length ≤ 1000000000 ∧ x.2.length ≤ 1000000000 := by
  obtain ⟨L, rfl, A, O, S, n, r⟩ := M.ex
  intro x hx
  rw [abs_flat] at hx
  obtain ⟨e, he, rfl⟩ := List.mem_map.1 hx
  obtain ⟨es, h1, h2⟩ := List.mem_flatten.1 he
  exact r es h1 e h2
theorem small_flat {P : List (List En)} {p : En → Prop} : (∀ es ∈ P, ∀ e ∈ es, p e) ↔ ∀ e ∈ P.flatten, p e :=
  ⟨fun h e he => by obtain ⟨es, h1, h2⟩ := List.mem_flatten.1 he; exact h es h1 e h2, fun h es he e hee => h e (List.mem_flatten.2 ⟨es, he, hee⟩)⟩
theorem mnew {w : World} : Calls Try.prog 9 #[] w fun e w' => e = .returned (.pointer (some ⟨w.heap.size, 0, none⟩)) ∧ Mp w' (· = w.heap.size) (fun _ => False) w.heap.size [] 0 ∧ Below w.heap.size w w' :=
  new_any.mono fun e w' ⟨g, he, hg, A, B⟩ => by
    subst hg
    exact ⟨he, ⟨[], rfl, A, ⟨fun _ h => by simp [ens] at h, List.Pairwise.nil⟩, Shq.nil, Nat.le_refl _, fun _ h => by simp [ens] at h⟩, B⟩
theorem mset {w : World} {F D : Nat → Prop} {g N : Nat} {Q : List (List KV)} {kv vv : Value} {k v : List Int} (M : Mp w F D g Q N) (hk : By w kv k) (hv : By w vv v) (hkl : k.length ≤ 1000000000) (hvl : v.length ≤ 1000000000) (hN : N ≤ 100000000) :
    Calls Try.prog 12 #[.pointer (some ⟨g, 0, none⟩), kv, vv] w fun e w' => e = .returned (.bool (!ahas Q k)) ∧ ∃ F', Mp w' F' (fun b => D b ∨ w.heap.size ≤ b) g (aset Q k v) (N + 1) ∧ (∀ b, F' b → F b ∨ w.heap.size ≤ b) ∧ Chg F w w' := by
  obtain ⟨L, rfl, A, O, S, n, r⟩ := M.ex
  refine (set_any A O (fun es he => (S.one es he).2) (S.few n hN) hk hv hkl hvl).mono fun e w' ⟨he, F', L', nk, nv, e1, A', hF, hc⟩ => ?_
  refine ⟨by rw [abs_has]; exact he, F', ⟨L', by rw [e1, abs_set], A', by rw [e1]; exact O.set _, by rw [e1]; exact S.set O _, ?_, ?_⟩, hF, hc⟩
  · rw [e1, len_set O]
    split <;> omega
  · rw [e1]
    rw [small_flat] at r ⊢
    intro x hx
    cases hh : has (ens L) k
    · obtain ⟨X, Y, e2, e3, _⟩ := set_flat_new O (e := ⟨nk, k, nv, v⟩) hh
      rw [e3] at hx
      rw [e2] at r
      rcases List.mem_append.1 hx with h | h
      · exact r x (List.mem_append_left _ h)
      · rcases List.mem_cons.1 h with h | h
        · subst h; exact ⟨hkl, hvl⟩
        · exact r x (List.mem_append_right _ h)
    · obtain ⟨X, y, Y, e2, hy, e3⟩ := set_flat_old O (e := ⟨nk, k, nv, v⟩) hh
      rw [e3] at hx
      rw [e2] at r
      rcases List.mem_append.1 hx with h | h
      · exact r x (List.mem_append_left _ h)
      · rcases List.mem_cons.1 h with h | h
        · subst h; exact ⟨by simp only; rw [hy]; exact hkl, hvl⟩
        · exact r x (List.mem_append_right _ (List.mem_cons_of_mem _ h))
theorem mdel {w : World} {F D : Nat → Prop} {g N : Nat} {Q : List (List KV)} {kv : Value} {k : List Int} (M : Mp w F D g Q N) (hk : By w kv k) (hN : N ≤ 100000000) :
    Calls Try.prog 14 #[.pointer (some ⟨g, 0, none⟩), kv] w fun e w' => e = .returned (.bool (ahas Q k)) ∧ ∃ F', Mp w' F' D g (adel Q k) N ∧ (∀ b, F' b → F b ∨ w.heap.size ≤ b) ∧ Chg F w w' := by
  obtain ⟨L, rfl, A, O, S, n, r⟩ := M.ex
  refine (delete_any A O (fun es he => (S.one es he).2) (S.few n hN) hk).mono fun e w' ⟨he, F', L', e1, A', hF, hc⟩ => ?_
  refine ⟨by rw [abs_has]; exact he, F', ⟨L', by rw [e1, abs_del], A', by rw [e1]; exact O.del _, by rw [e1]; exact S.del O _, ?_, ?_⟩, hF, hc⟩
  · rw [e1]
    cases hh : has (ens L) k
    · rw [del_none hh]; exact n
    · obtain ⟨X, x, Y, e2, _, e3⟩ := del_flat O hh
      rw [e2] at n
      rw [e3]
      simp only [List.length_append, List.length_cons] at n ⊢
      omega
  · rw [e1]
    rw [small_flat] at r ⊢
    intro x hx
    cases hh : has (ens L) k
    · rw [del_none hh] at hx; exact r x hx
    · obtain ⟨X, y, Y, e2, _, e3⟩ := del_flat O hh
      rw [e3] at hx
      rw [e2] at r
      rcases List.mem_append.1 hx with h | h
      · exact r x (List.mem_append_left _ h)
      · exact r x (List.mem_append_right _ (List.mem_cons_of_mem _ h))
theorem mget {w : World} {F D : Nat → Prop} {g N : Nat} {Q : List (List KV)} {kv : Value} {k : List Int} (M : Mp w F D g Q N) (hk : By w kv k) (hN : N ≤ 100000000) :
    Calls Try.prog 16 #[.pointer (some ⟨g, 0, none⟩), kv] w fun e w' => ∃ v, e = .returned (.tuple #[v, .bool (ahas Q k)]) ∧ OB w' (w.heap.size ≤ ·) v (if ahas Q k then agot Q k else []) ∧ Below w.heap.size w w' := by
  obtain ⟨L, rfl, A, O, S, n, r⟩ := M.ex
  rw [abs_has, abs_got]
  exact get_any A O (fun es he => by have := (S.one es he).2; omega) (S.few n hN) hk fun p hp e he => (r p.es (List.mem_map.2 ⟨p, hp, rfl⟩) e he).2
theorem mlen {w : World} {F D : Nat → Prop} {g N : Nat} {Q : List (List KV)} (M : Mp w F D g Q N) (hN : N ≤ 100000000) :
    Calls Try.prog 29 #[.pointer (some ⟨g, 0, none⟩)] w fun e w' => e = .returned (.int .i64 (Q.flatten.length)) ∧ w' = w := by
  obtain ⟨L, rfl, A, O, S, n, r⟩ := M.ex
  rw [abs_flat, List.length_map]
  exact len_any A (fun es he => by have := (S.one es he).2; omega) (S.few n hN)
theorem abs_ints (P : List (List En)) : ((abs P).map fun es => (es.length : Int)) = P.map fun es => (es.length : Int) := by
  simp [abs, Function.comp_def]
theorem mpages {w : World} {F D : Nat → Prop} {g N : Nat} {Q : List (List KV)} (M : Mp w F D g Q N) (hN : N ≤ 100000000) :
    Calls Try.prog 30 #[.pointer (some ⟨g, 0, none⟩)] w fun e w' => ∃ v, e = .returned v ∧ IntV w' w.heap.size v (Q.map fun es => (es.length : Int)) ∧ Below w.heap.size w w' := by
  obtain ⟨L, rfl, A, O, S, n, r⟩ := M.ex
  rw [abs_ints]
  exact pages_any A (S.few n hN)
theorem mcopy {w : World} {F D : Nat → Prop} {g N : Nat} {Q : List (List KV)} (M : Mp w F D g Q N) (hN : N ≤ 100000000) :
    Calls Try.prog 24 #[.pointer (some ⟨g, 0, none⟩)] w fun e w' => ∃ g' F', e = .returned (.pointer (some ⟨g', 0, none⟩)) ∧ Mp w' F' D g' Q N ∧ (∀ b, F' b → w.heap.size ≤ b) ∧ Below w.heap.size w w' := by
  obtain ⟨L, rfl, A, O, S, n, r⟩ := M.ex
  refine (copy_any A (fun es he => (S.one es he).2) (S.few n hN)).mono fun e w' ⟨g', F', L', he, e1, A', hF, B⟩ => ?_
  exact ⟨g', F', he, ⟨L', by rw [e1], A', by rw [e1]; exact O, by rw [e1]; exact S, by rw [e1]; exact n, by rw [e1]; exact r⟩, hF, B⟩
theorem mup {w : World} {F D : Nat → Prop} {g N n : Nat} {Q : List (List KV)} {fv tv : Value} {f t : List Int} (M : Mp w F D g Q N) (hN : N ≤ 100000000) (hf : By w fv f) (ht : By w tv t) (hfl : f.length ≤ 1000000000) (htl : t.length ≤ 1000000000) (hn0 : 0 < n) (hn : n ≤ 1073741824) :
    Calls Try.prog 21 #[.pointer (some ⟨g, 0, none⟩), fv, tv, .bool false, .int .i64 n] w fun e w' => ∃ v es, e = .returned v ∧ PrA w' w.heap.size v es ∧ es.map En.kl2 = (Q.flatten.filter (abtw f t)).take n ∧ Below w.heap.size w w' := by
  obtain ⟨L, rfl, A, O, S, m, r⟩ := M.ex
  rw [← abs_walk O, ← List.map_take]
  exact walked_up ⟨A, O, fun es he => (S.one es he).2, S.few m hN, r, fun _ h => h.elim, fun _ h => h.elim, fun _ h => h.elim⟩ hf ht hfl htl hn0 hn
theorem mdown {w : World} {F D : Nat → Prop} {g N n : Nat} {Q : List (List KV)} {fv tv : Value} {f t : List Int} (M : Mp w F D g Q N) (hN : N ≤ 100000000) (hf : By w fv f) (ht : By w tv t) (hfl : f.length ≤ 1000000000) (htl : t.length ≤ 1000000000) (hn0 : 0 < n) (hn : n ≤ 1073741824) :
    Calls Try.prog 21 #[.pointer (some ⟨g, 0, none⟩), fv, tv, .bool true, .int .i64 n] w fun e w' => ∃ v es, e = .returned v ∧ PrA w' w.heap.size v es ∧ es.map En.kl2 = (Q.flatten.filter (abtw f t)).reverse.take n ∧ Below w.heap.size w w' := by
  obtain ⟨L, rfl, A, O, S, m, r⟩ := M.ex
  rw [← abs_walk O, ← List.map_reverse, ← List.map_take]
  exact walked_down ⟨A, O, fun es he => (S.one es he).2, S.few m hN, r, fun _ h => h.elim, fun _ h => h.elim, fun _ h => h.elim⟩ hf ht hfl htl hn0 hn
theorem mno {w : World} {F D : Nat → Prop} {g N : Nat} {Q : List (List KV)} {fv tv : Value} {f t : List Int} {back : Bool} (M : Mp w F D g Q N) (hN : N ≤ 100000000) (hf : By w fv f) (ht : By w tv t) (hfl : f.length ≤ 1000000000) (htl : t.length ≤ 1000000000) :
    Calls Try.prog 21 #[.pointer (some ⟨g, 0, none⟩), fv, tv, .bool back, .int .i64 0] w fun e w' => e = .returned (.slice none 0 0) ∧ Below w.heap.size w w' := by
  obtain ⟨L, rfl, A, O, S, m, r⟩ := M.ex
  exact walked_no ⟨A, O, fun es he => (S.one es he).2, S.few m hN, r, fun _ h => h.elim, fun _ h => h.elim, fun _ h => h.elim⟩ hf ht hfl htl
theorem mshaped {w : World} {F D : Nat → Prop} {g N : Nat} {Q : List (List KV)} (M : Mp w F D g Q N) (hN : N ≤ 100000000) :
    Calls Try.prog 27 #[.pointer (some ⟨g, 0, none⟩)] w fun e w' => e = .returned (.bool true) ∧ Below w.heap.size w w' := by
  obtain ⟨L, rfl, A, O, S, m, r⟩ := M.ex
  exact shaped_any A S.shp (S.few m hN)
end Pg
end Go.Proofs.Ytjnjkgakdnjlmaa

namespace Go.Proofs.Ytjnjkgakdnjlmaa
namespace Pg
open Go.RowKit Go.Lib
theorem ob_lit (w : World) (x : Int) (hx : 0 ≤ x ∧ x < 256) : OB (w.alloc (.cells #[.int .u8 x] 5)) (w.heap.size ≤ ·) (.slice (some ⟨w.heap.size, 0, none⟩) 1 1) [x] :=
  ⟨fun y hy => by simp at hy; subst hy; exact hx, .inr ⟨_, 1, rfl, Nat.le_refl _, blk_rw (blk_new w [.int .u8 x] _) rfl (show 1 ≤ maxLen by decide)⟩⟩
/-- a map of blocks from B on -/
def Mb (w : World) (B g : Nat) (Q : List (List KV)) (N : Nat) : Prop := ∃ F, Mp w F (B ≤ ·) g Q N ∧ ∀ b, F b → B ≤ b
theorem Mb.keep {w w' : World} {B g N : Nat} {Q : List (List KV)} (h : Mb w B g Q N) (hb : Below w.heap.size w w') : Mb w' B g Q N := by
  obtain ⟨F, M, hF⟩ := h
  exact ⟨F, M.keep hb, hF⟩
theorem Mb.set {w : World} {B g N : Nat} {Q : List (List KV)} {kv vv : Value} {k v : List Int} (h : Mb w B g Q N) (hB : B ≤ w.heap.size) (hk : By w kv k) (hv : By w vv v) (hkl : k.length ≤ 1000000000) (hvl : v.length ≤ 1000000000) (hN : N ≤ 100000000) :
    Calls Try.prog 12 #[.pointer (some ⟨g, 0, none⟩), kv, vv] w fun e w' => e = .returned (.bool (!ahas Q k)) ∧ Mb w' B g (aset Q k v) (N + 1) ∧ Below B w w' := by
  obtain ⟨F, M, hF⟩ := h
  refine (mset M hk hv hkl hvl hN).mono fun e w' ⟨he, F', M', hF', hc⟩ => ⟨he, ⟨F', M'.mono fun b _ h => h.elim id (fun h => by show B ≤ b; omega), fun b hb => (hF' b hb).elim (hF b) (fun h => by omega)⟩, hc.below hF hB⟩
theorem Mb.del {w : World} {B g N : Nat} {Q : List (List KV)} {kv : Value} {k : List Int} (h : Mb w B g Q N) (hB : B ≤ w.heap.size) (hk : By w kv k) (hN : N ≤ 100000000) :
    Calls Try.prog 14 #[.pointer (some ⟨g, 0, none⟩), kv] w fun e w' => e = .returned (.bool (ahas Q k)) ∧ Mb w' B g (adel Q k) N ∧ Below B w w' := by
  obtain ⟨F, M, hF⟩ := h
  refine (mdel M hk hN).mono fun e w' ⟨he, F', M', hF', hc⟩ => ⟨he, ⟨F', M', fun b hb => (hF' b hb).elim (hF b) (fun h => by omega)⟩, hc.below hF hB⟩
theorem Mb.get {w : World} {B g N : Nat} {Q : List (List KV)} {kv : Value} {k : List Int} (h : Mb w B g Q N) (hk : By w kv k) (hN : N ≤ 100000000) :
    Calls Try.prog 16 #[.pointer (some ⟨g, 0, none⟩), kv] w fun e w' => ∃ v, e = .returned (.tuple #[v, .bool (ahas Q k)]) ∧ OB w' (w.heap.size ≤ ·) v (if ahas Q k then agot Q k else []) ∧ Below w.heap.size w w' := by
  obtain ⟨F, M, hF⟩ := h
  exact mget M hk hN
theorem Mb.len {w : World} {B g N : Nat} {Q : List (List KV)} (h : Mb w B g Q N) (hN : N ≤ 100000000) :
    Calls Try.prog 29 #[.pointer (some ⟨g, 0, none⟩)] w fun e w' => e = .returned (.int .i64 (Q.flatten.length)) ∧ w' = w := by
  obtain ⟨F, M, hF⟩ := h
  exact mlen M hN
theorem Mb.pages {w : World} {B g N : Nat} {Q : List (List KV)} (h : Mb w B g Q N) (hN : N ≤ 100000000) :
    Calls Try.prog 30 #[.pointer (some ⟨g, 0, none⟩)] w fun e w' => ∃ v, e = .returned v ∧ IntV w' w.heap.size v (Q.map fun es => (es.length : Int)) ∧ Below w.heap.size w w' := by
  obtain ⟨F, M, hF⟩ := h
  exact mpages M hN
theorem Mb.up {w : World} {B g N n : Nat} {Q : List (List KV)} {fv tv : Value} {f t : List Int} (h : Mb w B g Q N) (hN : N ≤ 100000000) (hf : By w fv f) (ht : By w tv t) (hfl : f.length ≤ 1000000000) (htl : t.length ≤ 1000000000) (hn0 : 0 < n) (hn : n ≤ 1073741824) :
    Calls Try.prog 21 #[.pointer (some ⟨g, 0, none⟩), fv, tv, .bool false, .int .i64 n] w fun e w' => ∃ v es, e = .returned v ∧ PrA w' w.heap.size v es ∧ es.map En.kl2 = (Q.flatten.filter (abtw f t)).take n ∧ Below w.heap.size w w' := by
  obtain ⟨F, M, hF⟩ := h
  exact mup M hN hf ht hfl htl hn0 hn
theorem Mb.down {w : World} {B g N n : Nat} {Q : List (List KV)} {fv tv : Value} {f t : List Int} (h : Mb w B g Q N) (hN : N ≤ 100000000) (hf : By w fv f) (ht : By w tv t) (hfl : f.length ≤ 1000000000) (htl : t.length ≤ 1000000000) (hn0 : 0 < n) (hn : n ≤ 1073741824) :
    Calls Try.prog 21 #[.pointer (some ⟨g, 0, none⟩), fv, tv, .bool true, .int .i64 n] w fun e w' => ∃ v es, e = .returned v ∧ PrA w' w.heap.size v es ∧ es.map En.kl2 = (Q.flatten.filter (abtw f t)).reverse.take n ∧ Below w.heap.size w w' := by
  obtain ⟨F, M, hF⟩ := h
  exact mdown M hN hf ht hfl htl hn0 hn
theorem Mb.shaped {w : World} {B g N : Nat} {Q : List (List KV)} (h : Mb w B g Q N) (hN : N ≤ 100000000) :
    Calls Try.prog 27 #[.pointer (some ⟨g, 0, none⟩)] w fun e w' => e = .returned (.bool true) ∧ Below w.heap.size w w' := by
  obtain ⟨F, M, hF⟩ := h
  exact mshaped M hN
theorem Mb.more {w : World} {B g N N' : Nat} {Q : List (List KV)} (h : Mb w B g Q N) (hN : N ≤ N') : Mb w B g Q N' := by
  obtain ⟨F, M, hF⟩ := h
  exact ⟨F, M.more hN, hF⟩
/-- two maps that share no block of pages -/
def Mt (w : World) (B g : Nat) (Q : List (List KV)) (N g' : Nat) (Q' : List (List KV)) (N' : Nat) : Prop := ∃ F F', Mp w F (B ≤ ·) g Q N ∧ Mp w F' (B ≤ ·) g' Q' N' ∧ (∀ b, F b → ¬ F' b) ∧ (∀ b, F b → B ≤ b) ∧ ∀ b, F' b → B ≤ b
theorem Mt.fst {w : World} {B g N g' N' : Nat} {Q Q' : List (List KV)} (h : Mt w B g Q N g' Q' N') : Mb w B g Q N := by
  obtain ⟨F, F', M, M', hd, hF, hF'⟩ := h
  exact ⟨F, M, hF⟩
theorem Mt.snd {w : World} {B g N g' N' : Nat} {Q Q' : List (List KV)} (h : Mt w B g Q N g' Q' N') : Mb w B g' Q' N' := by
  obtain ⟨F, F', M, M', hd, hF, hF'⟩ := h
  exact ⟨F', M', hF'⟩
theorem Mt.keep {w w' : World} {B g N g' N' : Nat} {Q Q' : List (List KV)} (h : Mt w B g Q N g' Q' N') (hb : Below w.heap.size w w') : Mt w' B g Q N g' Q' N' := by
  obtain ⟨F, F', M, M', r⟩ := h
  exact ⟨F, F', M.keep hb, M'.keep hb, r⟩
theorem Mt.del {w : World} {B g N g' N' : Nat} {Q Q' : List (List KV)} {kv : Value} {k : List Int} (h : Mt w B g Q N g' Q' N') (hB : B ≤ w.heap.size) (hk : By w kv k) (hN : N ≤ 100000000) :
    Calls Try.prog 14 #[.pointer (some ⟨g, 0, none⟩), kv] w fun e w' => e = .returned (.bool (ahas Q k)) ∧ Mt w' B g (adel Q k) N g' Q' N' ∧ Below B w w' := by
  obtain ⟨F, F', M, M', hd, hF, hF'⟩ := h
  refine (mdel M hk hN).mono fun e w' ⟨he, F2, M2, hF2, hc⟩ => ⟨he, ⟨F2, F', M2, M'.chg hc hd (fun b hb cs => M.noU hb cs), fun b hb hb' => ?_, fun b hb => (hF2 b hb).elim (hF b) (fun h => by omega), hF'⟩, hc.below hF hB⟩
  rcases hF2 b hb with h | h
  · exact hd b h hb'
  · have := M'.lt hb'; omega
theorem Mb.copy {w : World} {B g N : Nat} {Q : List (List KV)} (h : Mb w B g Q N) (hB : B ≤ w.heap.size) (hN : N ≤ 100000000) :
    Calls Try.prog 24 #[.pointer (some ⟨g, 0, none⟩)] w fun e w' => ∃ g', e = .returned (.pointer (some ⟨g', 0, none⟩)) ∧ Mt w' B g Q N g' Q N ∧ Below w.heap.size w w' := by
  obtain ⟨F, M, hF⟩ := h
  refine (mcopy M hN).mono fun e w' ⟨g', F', he, M', hF', hb⟩ => ⟨g', he, ⟨F, F', M.keep hb, M', fun b h h' => ?_, hF, fun b h => by have := hF' b h; omega⟩, hb⟩
  have := hF' b h'
  have := M.lt h
  omega
abbrev lit8 (w : World) (x : Int) : World := w.alloc (.cells #[.int .u8 x] 5)
theorem below_lit (w : World) (x : Int) : Below w.heap.size w (lit8 w x) := below_alloc w _
theorem lit_size (w : World) (x : Int) : (lit8 w x).heap.size = w.heap.size + 1 := by simp [lit8]
theorem below_two (w : World) (x y : Int) : Below w.heap.size w (lit8 (lit8 w x) y) := joinB (below_lit w x) (below_lit _ y)
theorem Mb.setL {w : World} {B g N : Nat} {Q : List (List KV)} {x y : Int} (h : Mb w B g Q N) (hB : B ≤ w.heap.size) (hx : 0 ≤ x ∧ x < 256) (hy : 0 ≤ y ∧ y < 256) (hN : N ≤ 100000000) :
    Calls Try.prog 12 #[.pointer (some ⟨g, 0, none⟩), .slice (some ⟨w.heap.size, 0, none⟩) 1 1, .slice (some ⟨w.heap.size + 1, 0, none⟩) 1 1] (lit8 (lit8 w x) y) fun e w' => e = .returned (.bool (!ahas Q [x])) ∧ Mb w' B g (aset Q [x] [y]) (N + 1) ∧ Below B w w' := by
  have h1 := ((ob_lit w x hx).keep (below_lit _ y)).by
  have h2 := (ob_lit (lit8 w x) y hy).by
  rw [lit_size] at h2
  have hb := below_two w x y
  refine ((h.keep hb).set (Nat.le_trans hB hb.size) h1 h2 (by simp) (by simp) hN).mono fun e w' ⟨he, M, hc⟩ => ⟨he, M, (hb.mono hB).trans hc⟩
theorem Mb.setN {w : World} {B g N : Nat} {Q : List (List KV)} {x : Int} (h : Mb w B g Q N) (hB : B ≤ w.heap.size) (hx : 0 ≤ x ∧ x < 256) (hN : N ≤ 100000000) :
    Calls Try.prog 12 #[.pointer (some ⟨g, 0, none⟩), .slice (some ⟨w.heap.size, 0, none⟩) 1 1, .slice none 0 0] (lit8 w x) fun e w' => e = .returned (.bool (!ahas Q [x])) ∧ Mb w' B g (aset Q [x] []) (N + 1) ∧ Below B w w' := by
  have h1 := (ob_lit w x hx).by
  have hb := below_lit w x
  refine ((h.keep hb).set (Nat.le_trans hB hb.size) h1 (By.nil _) (by simp) (by simp) hN).mono fun e w' ⟨he, M, hc⟩ => ⟨he, M, (hb.mono hB).trans hc⟩
theorem Mb.delL {w : World} {B g N : Nat} {Q : List (List KV)} {x : Int} (h : Mb w B g Q N) (hB : B ≤ w.heap.size) (hx : 0 ≤ x ∧ x < 256) (hN : N ≤ 100000000) :
    Calls Try.prog 14 #[.pointer (some ⟨g, 0, none⟩), .slice (some ⟨w.heap.size, 0, none⟩) 1 1] (lit8 w x) fun e w' => e = .returned (.bool (ahas Q [x])) ∧ Mb w' B g (adel Q [x]) N ∧ Below B w w' := by
  have h1 := (ob_lit w x hx).by
  have hb := below_lit w x
  refine ((h.keep hb).del (Nat.le_trans hB hb.size) h1 hN).mono fun e w' ⟨he, M, hc⟩ => ⟨he, M, (hb.mono hB).trans hc⟩
theorem Mt.delL {w : World} {B g N g' N' : Nat} {Q Q' : List (List KV)} {x : Int} (h : Mt w B g Q N g' Q' N') (hB : B ≤ w.heap.size) (hx : 0 ≤ x ∧ x < 256) (hN : N ≤ 100000000) :
    Calls Try.prog 14 #[.pointer (some ⟨g, 0, none⟩), .slice (some ⟨w.heap.size, 0, none⟩) 1 1] (lit8 w x) fun e w' => e = .returned (.bool (ahas Q [x])) ∧ Mt w' B g (adel Q [x]) N g' Q' N' ∧ Below B w w' := by
  have h1 := (ob_lit w x hx).by
  have hb := below_lit w x
  refine ((h.keep hb).del (Nat.le_trans hB hb.size) h1 hN).mono fun e w' ⟨he, M, hc⟩ => ⟨he, M, (hb.mono hB).trans hc⟩
theorem Mb.getL {w : World} {B g N : Nat} {Q : List (List KV)} {x : Int} (h : Mb w B g Q N) (hx : 0 ≤ x ∧ x < 256) (hN : N ≤ 100000000) :
    Calls Try.prog 16 #[.pointer (some ⟨g, 0, none⟩), .slice (some ⟨w.heap.size, 0, none⟩) 1 1] (lit8 w x) fun e w' => ∃ v, e = .returned (.tuple #[v, .bool (ahas Q [x])]) ∧ OB w' (w.heap.size ≤ ·) v (if ahas Q [x] then agot Q [x] else []) ∧ Below w.heap.size w w' := by
  have h1 := (ob_lit w x hx).by
  have hb := below_lit w x
  refine ((h.keep hb).get h1 hN).mono fun e w' ⟨v, he, V, hc⟩ => ⟨v, he, V.mono (fun b _ h => by have := hb.size; have h' : (lit8 w x).heap.size ≤ b := h; show w.heap.size ≤ b; omega), joinB hb hc⟩
theorem iv_lit (w : World) (l : List Int) (hl : l.length ≤ 1000) : IntV (w.alloc (.cells (l.map (Value.int .i64)).toArray 3)) w.heap.size (.slice (some ⟨w.heap.size, 0, none⟩) l.length l.length) l :=
  ⟨_, _, rfl, Nat.le_refl _, blk_rw (blk_new w _ _) (by simp) (by unfold maxLen; omega)⟩
end Pg
end Go.Proofs.Ytjnjkgakdnjlmaa

namespace Go.Proofs.Ytjnjkgakdnjlmaa
namespace Pg
open Go.RowKit Go.Lib
attribute [local go_sem] Oper.semAt_some
def kq : Nat → List (List KV)
  | 0 => []
  | i + 1 => aset (kq i) [(i : Int)] [2 * (i : Int)]
def kr : List (List KV) := aset (kq 33) [7] []
def kd : Nat → List (List KV)
  | 0 => kr
  | j + 1 => adel (kd j) [32 - (j : Int)]
theorem kq_new : ∀ i, i < 33 → ahas (kq i) [(i : Int)] = false := by
  have h : (List.range 33).all (fun i => !ahas (kq i) [(i : Int)]) = true := by decide +kernel
  intro i hi
  have := List.all_eq_true.1 h i (List.mem_range.2 hi)
  simpa using this
theorem kq_sizes : ((kq 33).map fun es => (es.length : Int)) = [16, 17] := by decide +kernel
theorem kq_has : ahas (kq 33) [7] = true := by decide +kernel
theorem kq_got : agot (kq 33) [7] = [14] := by decide +kernel
theorem kr_len : kr.flatten.length = 33 := by decide +kernel
theorem kd_has : ∀ j, j < 17 → ahas (kd j) [32 - (j : Int)] = true := by
  have h : (List.range 17).all (fun j => ahas (kd j) [32 - (j : Int)]) = true := by decide +kernel
  intro i hi
  exact List.all_eq_true.1 h i (List.mem_range.2 hi)
theorem kd_sizes : ((kd 17).map fun es => (es.length : Int)) = [16] := by decide +kernel
theorem kd_len : (kd 17).flatten.length = 16 := by decide +kernel
theorem kd_20 : ahas (kd 17) [20] = false := by decide +kernel
theorem kd_0 : ahas (kd 17) [0] = true := by decide +kernel
theorem kd_walk : (kd 17).flatten.filter (abtw [2] [4]) = [([2], [4]), ([3], [6])] := by decide +kernel
theorem ob_two (w : World) (x y : Int) (hy : 0 ≤ y ∧ y < 256) : OB (lit8 (lit8 w x) y) (w.heap.size + 1 ≤ ·) (.slice (some ⟨w.heap.size + 1, 0, none⟩) 1 1) [y] := by
  have h := ob_lit (lit8 w x) y hy
  rw [lit_size] at h
  exact h
theorem PrA.head {w : World} {B : Nat} {ao : Option Addr} {n c : Nat} {es : List En} {x0 : Int} {r : List Int} {rest : List KV} (h : PrA w B (.slice ao n c) es) (he : es.map En.kl2 = ([x0], r) :: rest) : ∃ p bx cx, ao = some ⟨p, 0, none⟩ ∧ w.cell? ⟨p, 0, none⟩ = some (.slice (some ⟨bx, 0, none⟩) 1 cx) ∧ w.cell? ⟨bx, 0, none⟩ = some (.int .u8 x0) := by
  cases es with
  | nil => simp at he
  | cons e es =>
    simp only [List.map_cons, List.cons.injEq, En.kl2, Prod.mk.injEq] at he
    have hk := (h.ents e List.mem_cons_self).k
    rw [he.1.1] at hk
    rcases h.ex with ⟨_, e0⟩ | ⟨p, c', e0, _, hR⟩
    · cases e0
    · cases e0
      rcases hk.ex with ⟨_, e1⟩ | ⟨bx, cx, e1, _, hRx⟩
      · cases e1
      · exact ⟨p, bx, cx, rfl, by rw [hR.cell (i := 0) (v := e.kv) rfl, e1]; rfl, hRx.cell rfl⟩
set_option maxHeartbeats 4000000 in
set_option maxRecDepth 100000 in
theorem known_any {w : World} : Calls Try.prog 7 #[] w fun e w' => e = .returned (.bool true) ∧ Below w.heap.size w w' := by
  go_enter Try.func7, Try.ntmps7
  go_wp2_with (go_at_call 9; refine mnew.mono ?_; rintro e w1 ⟨rfl, M1, B1⟩)
  obtain ⟨g, hg⟩ : ∃ g, Hid (w.heap.size = g) := ⟨_, rfl⟩
  rw [hg.out] at M1 ⊢
  have hgB : w.heap.size ≤ g := by have := hg.out; omega
  have M2 : Hid (Mb w1 w.heap.size g (kq 0) 0) := ⟨_, M1.mono (fun _ _ h => h.elim), fun b hb => by have hb' : b = g := hb; omega⟩
  have HB1 : Hid _ := B1
  clear M1 B1 hgB
  go_loopw [2] (fun ti wr => ∃ k : Nat, k ≤ 33 ∧ ti = .int .i64 k ∧ Hid (Mb wr w.heap.size g (kq k) k) ∧ Hid (Below w.heap.size w wr)) (fun ti _ => 33 - (intOf ti).toNat)
  case atStart => exact ⟨0, Nat.zero_le _, rfl, M2, HB1⟩
  case round =>
    obtain ⟨k, hk, rfl, HM, HB⟩ := hrel
    have hBr := HB.out.size
    by_cases hlt : k < 33
    · have hn := kq_new k hlt
      have hk0 : (k : Int) < 33 := by omega
      have HN : Hid _ := hn
      clear hn
      go_wp2_with (go_at_call 12; refine (HM.out.setL hBr ⟨by omega, by omega⟩ ⟨by omega, by omega⟩ (by omega)).mono ?_; rintro e w2 ⟨rfl, M2, B2⟩; rw [HN.out])
      go_roundw
      case rel => exact ⟨k + 1, by omega, by go_num, M2, HB.out.trans B2⟩
      case measure => simp [intOf]; omega
    · obtain rfl : k = 33 := by omega
      have t1 := fun (W : World) (h : Mb W w.heap.size g (kq 33) 33) => h.getL (x := 7) (by decide) (by decide)
      rw [kq_has, kq_got] at t1
      simp only [if_true] at t1
      go_wp2_with first
        | (go_at_call 16; refine (t1 _ HM.out).mono ?_; rintro e w2 ⟨v2, rfl, V2, B2⟩; obtain ⟨a2, c2, rfl⟩ := V2.shape)
        | (go_at_call 30; refine ((HM.out.keep B2).pages (by decide)).mono ?_; rintro e w3 ⟨v3, rfl, V3, B3⟩; rw [kq_sizes] at V3; obtain ⟨b3, c3, rfl, -⟩ := id V3.ex)
        | (go_at_call 31; refine (ints_any (V3.keep (below_alloc _ _)) (iv_lit w3 [16, 17] (by decide)) (by decide) (by decide)).mono ?_; rintro e w4 ⟨rfl, B4⟩; rw [show decide (([16, 17] : List Int) = [16, 17]) = true by decide]; have B24 := joinB B3 (joinB (below_alloc w3 _) B4))
        | (go_at_call 18; refine (bytes_any ((V2.keep B24).keep (below_lit w4 14)).by (ob_lit w4 14 (by decide)).by (by decide) (by decide)).mono ?_; rintro e w5 ⟨rfl, B5⟩; rw [show decide (([14] : List Int) = [14]) = true by decide]; have M5 := (HM.out.keep B2).keep (joinB B24 (joinB (below_lit w4 14) B5)); have hB5 : w.heap.size ≤ w5.heap.size := by (have := B2.size; have := B24.size; have := (below_lit w4 14).size; have := B5.size; omega))
        | (go_at_call 12; refine (M5.setN (x := 7) hB5 (by decide) (by decide)).mono ?_; rintro e w6 ⟨rfl, M6, B6⟩; rw [kq_has])
        | (go_at_call 29; refine (M6.len (by decide)).mono ?_; rintro e w7 ⟨rfl, rfl⟩; rw [show (aset (kq 33) [7] []).flatten.length = 33 from kr_len])
      have HM6 : Hid (Mb w7 w.heap.size g (kd 0) 34) := M6
      have hB6 : Hid (Below w.heap.size w w7) := by
        have q := joinB B24 (joinB (below_lit w4 14) B5)
        exact ((HB.out.trans (B2.mono hBr)).trans (q.mono (by have := B2.size; omega))).trans B6
      clear M5 M6 hB5 B6 B5 B24 B4 V3 B3 V2 B2 HM t1 hlt hk M2 HB1
      go_loopw [5] (fun ti wq => ∃ j : Nat, j ≤ 17 ∧ ti = .int .i64 (32 - (j : Int)) ∧ Hid (Mb wq w.heap.size g (kd j) 34) ∧ Hid (Below w.heap.size w wq)) (fun ti _ => (intOf ti).toNat - 15)
      case atStart => exact ⟨0, Nat.zero_le _, rfl, HM6, hB6⟩
      case round =>
        obtain ⟨j, hj, rfl, HN, HC⟩ := hrel
        have hCr := HC.out.size
        by_cases hjl : j < 17
        · have hn : Hid _ := kd_has j hjl
          have hj0 : (15 : Int) < 32 - (j : Int) := by omega
          go_wp2_with (go_at_call 14; refine (HN.out.delL (x := 32 - (j : Int)) hCr ⟨by omega, by omega⟩ (by decide)).mono ?_; rintro e w2 ⟨rfl, M2, B2⟩; rw [hn.out])
          go_roundw
          case rel => exact ⟨j + 1, by omega, by go_num, M2, HC.out.trans B2⟩
          case measure => simp [intOf]; omega
        · obtain rfl : j = 17 := by omega
          go_wp2_with first
            | (go_at_call 24; refine (HN.out.copy hCr (by decide)).mono ?_; rintro e w7 ⟨gc, rfl, M7, B7⟩)
            | (go_at_call 16; refine (M7.fst.getL (x := 20) (by decide) (by decide)).mono ?_; rintro e w8 ⟨v8, rfl, V8, B8⟩; rw [kd_20] at V8 ⊢; obtain ⟨a8, c8, rfl⟩ := V8.shape; have M8 := M7.keep B8; have hB8 : w.heap.size ≤ w8.heap.size := by (have := B7.size; have := B8.size; omega))
            | (go_at_call 29; refine (M12.snd.len (by decide)).mono ?_; rintro e w13 ⟨rfl, rfl⟩; rw [kd_len])
            | (go_at_call 14; refine (M11.delL (x := 0) hB11 (by decide) (by decide)).mono ?_; rintro e w12 ⟨rfl, M12, B12⟩; rw [kd_0])
            | (go_at_call 31; refine (ints_any (V10.keep (below_alloc _ _)) (iv_lit w10 [16] (by decide)) (by decide) (by decide)).mono ?_; rintro e w11 ⟨rfl, B11⟩; rw [show decide (([16] : List Int) = [16]) = true by decide]; have B911 := joinB B10 (joinB (below_alloc w10 _) B11); have M11 := M9.keep B911; have hB11 : w.heap.size ≤ w11.heap.size := by (have := B911.size; have := B9.size; omega))
            | (go_at_call 30; refine (M9.fst.pages (by decide)).mono ?_; rintro e w10 ⟨v10, rfl, V10, B10⟩; rw [kd_sizes] at V10; obtain ⟨b10, c10, rfl, -⟩ := id V10.ex)
            | (go_at_call 14; refine (M8.delL (x := 20) hB8 (by decide) (by decide)).mono ?_; rintro e w9 ⟨rfl, M9, B9⟩; rw [adel_none kd_20] at M9; rw [kd_20])
            | (go_at_call 21; refine ((M14.keep (below_two _ 2 4)).down (n := 9) (by decide) ((ob_lit _ 2 (by decide)).keep (below_lit _ 4)).by (ob_two _ 2 4 (by decide)).by (by simp) (by simp) (by decide) (by decide)).mono ?_; rintro e w15 ⟨v15, es15, rfl, P15, E15, B15⟩; rw [kd_walk] at E15; obtain ⟨a15, c15, rfl⟩ := P15.shape; have l15 : es15.length = 2 := (by have := congrArg List.length E15; simpa using this); rw [l15] at P15 ⊢; have BB := joinB (below_two w14 2 4) B15; obtain ⟨p1, b1, d1, rfl, q1, q2⟩ := (P14.keep BB).head E14; obtain ⟨p2, b2, d2, rfl, q3, q4⟩ := P15.head E15)
            | (go_at_call 21; refine ((M12.snd.keep (below_two _ 2 4)).up (n := 9) (by decide) ((ob_lit _ 2 (by decide)).keep (below_lit _ 4)).by (ob_two _ 2 4 (by decide)).by (by simp) (by simp) (by decide) (by decide)).mono ?_; rintro e w14 ⟨v14, es14, rfl, P14, E14, B14⟩; rw [kd_walk] at E14; obtain ⟨a14, c14, rfl⟩ := P14.shape; have l14 : es14.length = 2 := (by have := congrArg List.length E14; simpa using this); rw [l14] at P14 ⊢; have M14 := (M12.snd.keep (below_two _ 2 4)).keep B14)
          go_ret
          refine ⟨rfl, ?_⟩
          have s1 := HC.out.trans (B7.mono hCr)
          have s2 := s1.trans (B8.mono s1.size)
          have s3 := s2.trans B9
          have s4 := s3.trans (B911.mono s3.size)
          have s5 := s4.trans B12
          have s6 := s5.trans ((joinB (below_two w13 2 4) B14).mono s5.size)
          exact s6.trans (BB.mono s6.size)
end Pg
end Go.Proofs.Ytjnjkgakdnjlmaa

namespace Go.Proofs.Ytjnjkgakdnjlmaa
namespace Pg
open Go.RowKit Go.Lib
attribute [local go_sem] Oper.semAt_some
/-- a step of a script: its five cells, and what lies behind its two lists -/
structure Ste where
  loc : Int
  what : Int
  num : Int
  ka : Option Addr
  kc : Nat
  kl : List Int
  va : Option Addr
  vc : Nat
  vl : List Int
def Ste.kv (s : Ste) : Value := .slice s.ka s.kl.length s.kc
def Ste.vv (s : Ste) : Value := .slice s.va s.vl.length s.vc
structure SteA (w : World) (s : Ste) : Prop where
  a1 : -9223372036854775808 ≤ s.loc
  a2 : s.loc ≤ 9223372036854775807
  w1 : -9223372036854775808 ≤ s.what
  w2 : s.what ≤ 9223372036854775807
  n1 : -9223372036854775808 ≤ s.num
  n2 : s.num ≤ 9223372036854775807
  k : By w s.kv s.kl
  kb : s.kl.length ≤ 140737488355328
  v : By w s.vv s.vl
  vb : s.vl.length ≤ 140737488355328
theorem SteA.keep {w w' : World} {s : Ste} (h : SteA w s) (hb : Below w.heap.size w w') : SteA w' s := ⟨h.a1, h.a2, h.w1, h.w2, h.n1, h.n2, h.k.keep hb, h.kb, h.v.keep hb, h.vb⟩
structure SteC (w : World) (b o : Nat) (s : Ste) : Prop where
  c0 : w.cell? ⟨b, o, none⟩ = some (.int .i64 s.loc)
  c1 : w.cell? ⟨b, o + 1, none⟩ = some (.int .i64 s.what)
  c2 : w.cell? ⟨b, o + 2, none⟩ = some (.int .i64 s.num)
  c3 : w.cell? ⟨b, o + 3, none⟩ = some s.kv
  c4 : w.cell? ⟨b, o + 4, none⟩ = some s.vv
theorem SteC.keep {w w' : World} {b o : Nat} {s : Ste} (h : SteC w b o s) (hb : Below w.heap.size w w') : SteC w' b o s := by
  have k : ∀ {q : Nat} {v : Value}, w.cell? ⟨b, q, none⟩ = some v → w'.cell? ⟨b, q, none⟩ = some v := fun {q v} hc => by
    have hlt := cell_lt hc
    rw [World.cell?_of_block (w := w) (hb.block b hlt)]
    exact hc
  exact ⟨k h.c0, k h.c1, k h.c2, k h.c3, k h.c4⟩
/-- a script in memory -/
structure StesA (w : World) (ao : Option Addr) (n : Nat) (ss : List Ste) : Prop where
  len : ss.length = n
  le : n ≤ 9223372036854775807
  get : ∀ i s, ss[i]? = some s → ∃ b o, ao = some ⟨b, o, none⟩ ∧ SteC w b (o + i * 5) s ∧ SteA w s
theorem StesA.keep {w w' : World} {ao : Option Addr} {n : Nat} {ss : List Ste} (h : StesA w ao n ss) (hb : Below w.heap.size w w') : StesA w' ao n ss :=
  ⟨h.len, h.le, fun i s hs => by
    obtain ⟨b, o, h1, h2, h3⟩ := h.get i s hs
    exact ⟨b, o, h1, h2.keep hb, h3.keep hb⟩⟩
theorem StesA.at {w : World} {ao : Option Addr} {n : Nat} {ss : List Ste} (h : StesA w ao n ss) {i : Nat} (hi : i < n) : ∃ s b o, ss[i]? = some s ∧ ao = some ⟨b, o, none⟩ ∧ SteC w b (o + i * 5) s ∧ SteA w s := by
  have hl := h.len
  have e : ss[i]? = some ss[i] := List.getElem?_eq_getElem (by omega)
  obtain ⟨b, o, h1, h2, h3⟩ := h.get i _ e
  exact ⟨_, b, o, e, h1, h2, h3⟩
/-- how heavy steps are -/
def hvy : List Ste → Nat
  | [] => 0
  | s :: r => s.kl.length + s.vl.length + hvy r
theorem hvy_snoc (l : List Ste) (s : Ste) : hvy (l ++ [s]) = hvy l + (s.kl.length + s.vl.length) := by
  induction l with
  | nil => simp [hvy]
  | cons x l ih => simp only [List.cons_append, hvy, ih]; omega
theorem hvy_take {l : List Ste} {i : Nat} {s : Ste} (h : l[i]? = some s) : hvy (l.take (i + 1)) = hvy (l.take i) + (s.kl.length + s.vl.length) := by
  rw [List.take_add_one, h]
  simp [hvy_snoc]
theorem hvy_append (l r : List Ste) : hvy (l ++ r) = hvy l + hvy r := by
  induction l with
  | nil => simp [hvy]
  | cons x l ih => simp only [List.cons_append, hvy, ih]; omega
theorem hvy_le (l : List Ste) (k : Nat) : hvy (l.take k) ≤ hvy l := by
  have := hvy_append (l.take k) (l.drop k)
  rw [List.take_append_drop] at this
  omega
theorem hvy_mem {l : List Ste} {i : Nat} {s : Ste} (h : l[i]? = some s) : s.kl.length + s.vl.length ≤ hvy l := by
  have h1 := hvy_take h
  have h2 := hvy_le l (i + 1)
  omega
set_option maxHeartbeats 2000000 in
set_option maxRecDepth 100000 in
theorem light_any {w : World} {ao : Option Addr} {n c : Nat} {ss : List Ste} (S : StesA w ao n ss) :
    Calls Try.prog 8 #[.slice ao n c] w fun e w' => e = .returned (.bool (decide (n + hvy ss ≤ 6000))) ∧ Below w.heap.size w w' := by
  have hle := S.le
  have hle' : (n : Int) ≤ 9223372036854775807 := by omega
  have hl := S.len
  have HS := (show Hid _ from S)
  clear S hle
  go_enter Try.func8, Try.ntmps8
  go_wp2_with fail
  go_loopw [3, 4] (fun tn ti wr => ∃ k N : Nat, k ≤ n ∧ ti = .int .i64 k ∧ tn = .int .i64 N ∧ N = n + hvy (ss.take k) ∧ N ≤ 9223372036854775807 ∧ Below w.heap.size w wr) (fun _ ti _ => n - (intOf ti).toNat)
  case atStart => exact ⟨0, n, Nat.zero_le _, rfl, rfl, by simp [hvy], by omega, Below.refl _ _⟩
  case round =>
    obtain ⟨k, N, hk, rfl, rfl, hN, hN2, hB⟩ := hrel
    have HN := (show Hid _ from hN)
    have HB := (show Hid _ from hB)
    clear hN hB
    by_cases hlt : k < n
    · by_cases hN3 : N ≤ 6000
      · obtain ⟨s, b, o, e1, rfl, C, A⟩ := (HS.out.keep HB.out).at hlt
        have HE := (show Hid _ from e1)
        have h1 := A.kb
        have h2 := A.vb
        have c2 := C.c3
        have c3 := C.c4
        have hlt' : (k : Int) < n := by omega
        have hN3' : (N : Int) ≤ 6000 := by omega
        clear e1 C A hN3
        obtain ⟨loc, what, num, ka, kc, kl, va, vc, vl⟩ := s
        simp only [Ste.kv, Ste.vv] at c2 c3 h1 h2
        have e := hvy_take HE.out
        simp only at e
        have HE2 := (show Hid _ from e)
        clear e HE
        obtain ⟨x, hx⟩ : ∃ x, Hid (kl.length = x) := ⟨_, rfl⟩
        obtain ⟨y, hy⟩ : ∃ y, Hid (vl.length = y) := ⟨_, rfl⟩
        rw [hx.out] at c2 h1
        rw [hy.out] at c3 h2
        go_wp2_with fail
        go_region
        go_wp2
        refine ⟨⟨k + 1, N + x + y, by omega, by go_num, by go_num, ?_, by omega, HB.out.drew⟩, by simp [intOf]; omega⟩
        have e := HE2.out
        rw [hx.out, hy.out] at e
        have := HN.out
        omega
      · have hN3' : (6000 : Int) < N := by omega
        have hlt' : (k : Int) < n := by omega
        have HF : Hid (decide (n + hvy ss ≤ 6000) = false) := by
          show _ = _
          have h1 := HN.out
          have h2 := hvy_le ss k
          rw [decide_eq_false]
          omega
        have hq : ((N : Int) ≤ 6000) = False := eq_false (by omega)
        clear hN3
        go_wp2
        go_ret
        rw [HF.out]
        exact ⟨rfl, HB.out⟩
    · obtain rfl : k = n := by omega
      have HF : Hid (decide (k + hvy ss ≤ 6000) = decide ((N : Int) ≤ 6000)) := by
        show _ = _
        have h1 := HN.out
        rw [List.take_of_length_le (by omega)] at h1
        rw [decide_eq_decide]
        omega
      go_wp2
      go_ret
      rw [HF.out]
      exact ⟨rfl, HB.out⟩
end Pg
end Go.Proofs.Ytjnjkgakdnjlmaa

namespace Go.Proofs.Ytjnjkgakdnjlmaa
namespace Pg
open Go.RowKit Go.Lib
attribute [local go_sem] Oper.semAt_some
theorem pcells2 {B : Nat} {w w' : World} {p i j : Nat} {a b : Value} (h : w.cell? ⟨p, i, none⟩ = some a ∧ w.cell? ⟨p, j, none⟩ = some b) (h1 : p < B) (hb : Below B w w') : w'.cell? ⟨p, i, none⟩ = some a ∧ w'.cell? ⟨p, j, none⟩ = some b := by
  refine ⟨?_, ?_⟩
  · rw [hb.cell (p := ⟨p, i, none⟩) h1]; exact h.1
  · rw [hb.cell (p := ⟨p, j, none⟩) h1]; exact h.2
theorem below_drew0 {B : Nat} {w w' : World} (h : Below B w.drew w') : Below B w w' := ⟨h.os, h.tape, h.output, h.size, h.block⟩
theorem lt_nil (x : List Int) : ¬ Lt x [] := by
  unfold Lt
  cases x <;> simp [cmpB]
theorem filter_all (l : List KV) : l.filter (abtw [] []) = l := by
  rw [List.filter_eq_self]
  intro x _
  simp [abtw, lt_nil]
theorem run_st {a : Act} {w : World} {op : Oper} {x y k n c b o : Nat} (ho : op.op = .indexAddr 22 (.tmp x) (.tmp y)) (hx : a.eval (.tmp x) = .slice (some ⟨b, o, none⟩) n c) {z : Int} (hy : a.eval (.tmp y) = .int .i64 z) (hz : z = (k : Int)) (hk : k < n) : (execOp a.eval op).run Try.prog w = .ok (.value (.pointer (some ⟨b, o + k * 5, none⟩))) w := by
  subst hz
  have h1 : (k : Int) < n := by omega
  have h2 : ¬ ((k : Int) < 0) := by omega
  obtain ⟨i0, hi, hz0, hs0, hb0⟩ := info_parts (P := Try.prog) (show (Try.prog.info? 35).map (fun i => (i.zero, i.size, i.bytes)) = some (some (.agg #[.int .i64 0, .int .i64 0, .int .i64 0, .slice none 0 0, .slice none 0 0]), 5, 72) by kernel_rfl)
  simp only [execOp, ho, hx, hy]
  go_simp
end Pg
end Go.Proofs.Ytjnjkgakdnjlmaa

namespace Go.Proofs.Ytjnjkgakdnjlmaa
namespace Pg
open Go.RowKit Go.ChangeShapes Go.WideShapes

theorem mem_weightsAll {H : Type} {P : Program} {e : TypeId} {d : DataW H} {k : Nat} : ∀ {l : List (DataW H)}, d ∈ l → k ∈ d.weights P e → k ∈ DataW.weightsAll P e l
  | [], h, _ => by simp at h
  | x :: r, h, hk => by
    unfold DataW.weightsAll
    rcases List.mem_cons.1 h with h | h
    · subst h; exact List.mem_append_left _ hk
    · exact List.mem_append_right _ (mem_weightsAll h hk)
theorem spot_none {w : World} {x : Addr} {v : Value} (hx : w.cell? x = some v) : x.spot = none := by
  simp only [World.cell?] at hx
  cases hh : w.heap[x.block]? with
  | none => rw [hh] at hx; simp at hx
  | some ob =>
    rw [hh] at hx
    cases ob with
    | cells c e f =>
      simp at hx
      cases hs : x.spot with
      | none => rfl
      | some s => rw [hs] at hx; simp at hx
    | _ => simp at hx
theorem adr (b o n : Nat) : (⟨b, o, none⟩ : Addr).add n = ⟨b, o + n, none⟩ := by
  by_cases h : n = 0
  · subst h; rfl
  · simp [Addr.add, h]
theorem row_by {H : Type} {enc : TypeId × Value → H} {W : World} {base fuel : Nat} {spare : Nat → Bool} {held : Bool} {c : Value} {x : DataW H × List MemPlace} (h : DataW.trod enc Try.prog W base spare held fuel 33 [c] = some x) (hs : ∀ b, spare b = true) (hw : ∀ k ∈ x.1.weights Try.prog 33, k ≤ reachBytes) : ∃ a m l, c = .slice a l.length m ∧ By W c l ∧ l.length ≤ 140737488355328 := by
  rcases open_ints Try.underlying33 Try.underlying5 (by kernel_rfl) h with ⟨hc1, _⟩ | ⟨x, n, c1, zs, hc1, _, hl, hm, hz, rfl, hcell, hwz⟩
  · have e := List.cons.inj hc1 |>.1
    subst e
    exact ⟨none, 0, [], rfl, By.nil W, by decide⟩
  · have e := List.cons.inj hc1 |>.1
    subst e
    have hz' : zs.length = c1 := by simpa [hs] using hz
    have hln : (zs.take n).length = n := by simp; omega
    have e9 := hw ((n + (c1 - n)) * 1) (by
      simp only [DataW.weights, Try.underlying33]
      refine List.mem_cons.2 (.inl ?_)
      have e8 : Try.prog.bytesOf 5 = 1 := by kernel_rfl
      simp only [lits, List.length_map, List.length_take, List.length_drop, e8, hz']
      rw [Nat.min_eq_left hl])
    unfold reachBytes at e9
    refine ⟨some x, c1, zs.take n, by rw [hln], ⟨some x, c1, by rw [hln], by omega, by unfold maxLen at hm; omega, (fun e => by cases e), fun y hy => ?_, ?_⟩, by omega⟩
    · have := bounds_u8 (hwz y (List.mem_of_mem_take hy))
      omega
    · by_cases h0 : n = 0
      · exact .inl (List.eq_nil_of_length_eq_zero (by omega))
      · refine .inr ?_
        have hx := hcell 0 (by omega)
        have hsp : x.spot = none := spot_none (by rw [show x.add 0 = x from rfl] at hx; exact hx)
        obtain ⟨b, o, sp⟩ := x
        simp at hsp
        subst hsp
        rw [show (⟨b, o, none⟩ : Addr).add 0 = ⟨b, o, none⟩ from rfl] at hx
        refine ⟨b, o, rfl, cell_lt hx, fun i y hi => ?_⟩
        have hil : i < n := by
          have := (List.getElem?_eq_some_iff.1 hi).1
          omega
        have h6 := hcell i (by omega)
        rw [adr] at h6
        rw [List.getElem?_take, if_pos hil] at hi
        rw [h6, List.getD_eq_getElem?_getD, hi]
        rfl
theorem five {α : Type} {l : List α} (h : l.length = 5) : ∃ a b c d e, l = [a, b, c, d, e] := by
  match l, h with
  | [a, b, c, d, e], _ => exact ⟨a, b, c, d, e, rfl⟩
set_option maxRecDepth 100000 in
theorem ste_in {H : Type} {enc : TypeId × Value → H} {W : World} {base fuel : Nat} {spare : Nat → Bool} {held : Bool} {A : Addr} {cs : List Value} {x : DataW H × List MemPlace} (hs : ∀ b, spare b = true)
    (hc : W.cells? base A 5 = some cs) (h : DataW.trod enc Try.prog W base spare held fuel 35 cs = some x) (hw : ∀ k ∈ x.1.weights Try.prog 35, k ≤ reachBytes) : ∃ s, A.spot = none ∧ SteC W A.block A.off s ∧ SteA W s := by
  obtain ⟨_, hlen, hcell⟩ := World.cells?_some hc
  obtain ⟨xs, k, hk, rfl, _, hxl, hf⟩ := DataW.trod_struct Try.underlying35 h
  obtain ⟨y0, y1, y2, y3, y4, rfl⟩ := five (show xs.length = 5 from hxl)
  obtain ⟨v0, v1, v2, v3, v4, rfl⟩ := five hlen
  have g0 := hf 0 _ rfl
  have g1 := hf 1 _ rfl
  have g2 := hf 2 _ rfl
  have g3 := hf 3 _ rfl
  have g4 := hf 4 _ rfl
  have q3 : Try.prog.cellsOf 3 = 1 := by kernel_rfl
  have q22 : Try.prog.cellsOf 33 = 1 := by kernel_rfl
  simp [q3, q22] at g0 g1 g2 g3 g4
  have hW : ∀ k, (k ∈ y3.1.weights Try.prog 33 ∨ k ∈ y4.1.weights Try.prog 33) → k ≤ reachBytes := fun k hk => hw k (by
    simp only [DataW.weights, Try.underlying35, List.map_cons, List.map_nil, DataW.weightsEach, List.mem_append]
    rcases hk with hk | hk
    · exact .inr (.inr (.inr (.inl hk)))
    · exact .inr (.inr (.inr (.inr (.inl hk)))))
  obtain ⟨n0, e0, _, w0⟩ := DataW.trod_int Try.underlying3 g0
  obtain ⟨n1, e1, _, w1⟩ := DataW.trod_int Try.underlying3 g1
  obtain ⟨n2, e2, _, w2⟩ := DataW.trod_int Try.underlying3 g2
  obtain ⟨ka, kc, kl, e3, hK, hk1⟩ := row_by g3 hs fun k hk => hW k (.inl hk)
  obtain ⟨va, vc, vl, e4, hV, hv1⟩ := row_by g4 hs fun k hk => hW k (.inr hk)
  have c0 := hcell 0 (by decide)
  have c1 := hcell 1 (by decide)
  have c2 := hcell 2 (by decide)
  have c3 := hcell 3 (by decide)
  have c4 := hcell 4 (by decide)
  have hsp : A.spot = none := by
    rw [show A.add 0 = A from rfl] at c0
    exact spot_none c0
  obtain ⟨b, o, sp⟩ := A
  obtain rfl : sp = none := hsp
  rw [adr] at c0 c1 c2 c3 c4
  simp at e0 e1 e2 c0 c1 c2 c3 c4
  subst e0 e1 e2 e3 e4
  exact ⟨⟨n0, n1, n2, ka, kc, kl, va, vc, vl⟩, rfl, ⟨c0, c1, c2, c3, c4⟩, ⟨(bounds_i64 w0).1, (bounds_i64 w0).2, (bounds_i64 w1).1, (bounds_i64 w1).2, (bounds_i64 w2).1, (bounds_i64 w2).2, hK, hk1, hV, hv1⟩⟩
theorem stes_in {H : Type} {enc : TypeId × Value → H} {W : World} {base fuel : Nat} {spare : Nat → Bool} {held : Bool} {a : Option Addr} {len cap : Nat} {x : DataW H × List MemPlace} (hs : ∀ b, spare b = true)
    (h : DataW.trod enc Try.prog W base spare held fuel 22 [.slice a len cap] = some x) (hw : ∀ k ∈ x.1.weights Try.prog 22, k ≤ reachBytes) : ∃ ss, StesA W a len ss := by
  have _i:Inhabited Ste:=⟨⟨0, 0, 0, none, 0, [], none, 0, []⟩⟩
  have q5 : Try.prog.cellsOf 35 = 5 := by kernel_rfl
  rcases Go.Deep.open_slice Try.underlying22 h with ⟨hcs, _⟩ | ⟨A, l, c, m, n, D, Pl, hcs, _, hl, hm, hmm, rfl, hx⟩
  · simp at hcs
    obtain ⟨rfl, rfl, rfl⟩ := hcs
    exact ⟨[], rfl, by decide, fun i s hs => by simp at hs⟩
  · simp at hcs
    obtain ⟨rfl, rfl, rfl⟩ := hcs
    have hmc : m = cap := by rw [hmm, hs]; rfl
    have each0 : ∀ i, i < len → ∃ s, (A.add (i * 5)).spot = none ∧ SteC W (A.add (i * 5)).block (A.add (i * 5)).off s ∧ SteA W s := fun i hi => by
      obtain ⟨cs', h1, h2⟩ := hx i (by omega)
      rw [q5] at h1
      exact ste_in hs h1 h2 (fun k hk => hw k (by
        simp only [DataW.weights, Try.underlying22]
        exact List.mem_cons.2 (.inr (List.mem_append_left _ (mem_weightsAll (d := D i) (List.mem_map.2 ⟨i, List.mem_range.2 hi, rfl⟩) hk)))))
    have hsp : 0 < len → A.spot = none := fun h0 => by
      obtain ⟨s, k1, _⟩ := each0 0 h0
      exact k1
    have each : ∀ i, i < len → ∃ s, A = ⟨A.block, A.off, none⟩ ∧ SteC W A.block (A.off + i * 5) s ∧ SteA W s := fun i hi => by
      obtain ⟨s, k1, k2, k3⟩ := each0 i hi
      have e := hsp (by omega)
      obtain ⟨b, o, sp⟩ := A
      obtain rfl : sp = none := e
      rw [adr] at k2
      exact ⟨s, rfl, k2, k3⟩
    obtain ⟨f, hf⟩ := Go.Deep.choose_lt each
    refine ⟨(List.range len).map f, by simp, by unfold maxLen at hm; omega, fun i s hi => ?_⟩
    have hil : i < len := by
      rcases Nat.lt_or_ge i len with h | h
      · exact h
      · rw [List.getElem?_eq_none (by simpa using h)] at hi; cases hi
    obtain ⟨k1, k2, k3⟩ := hf i hil
    rw [List.getElem?_map, List.getElem?_range hil] at hi
    cases hi
    exact ⟨A.block, A.off, congrArg some k1, k2, k3⟩
end Pg
end Go.Proofs.Ytjnjkgakdnjlmaa
