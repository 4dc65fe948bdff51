/- A walk gives the entries between its bounds. -/
import Derived.Test.YtplminnejheceaaPgTj
namespace Go.Proofs.Ytplminnejheceaa
namespace Pg
/-- not below f, and below t, if t says anything -/
def btw (f t : List Int) (e : En) : Bool := !decide (Lt e.kl f) && (decide (t = []) || decide (Lt e.kl t))
theorem plc_take : ∀ (l : List (List Int)) (k : List Int) (b : Nat), plc (l.take b) k = min (plc l k) b
  | [], k, b => by simp [plc]
  | x :: l, k, 0 => by simp [plc]
  | x :: l, k, b + 1 => by
    rw [List.take_succ_cons, plc, plc]
    split
    · rw [plc_take l k b]; omega
    · simp
theorem take_flt : ∀ {es : List En} (_ : es.Pairwise fun x y => Lt x.kl y.kl) (k : List Int), es.take (plc (kys es) k) = es.filter fun e => decide (Lt e.kl k)
  | [], _, _ => by simp
  | x :: es, h, k => by
    have h' := List.pairwise_cons.1 h
    rw [show kys (x :: es) = x.kl :: kys es from rfl, plc]
    by_cases hx : Lt x.kl k
    · rw [if_pos hx, List.take_succ_cons, take_flt h'.2 k, List.filter_cons_of_pos (by simpa using hx)]
    · rw [if_neg hx, List.take_zero, List.filter_cons_of_neg (by simpa using hx)]
      symm
      rw [List.filter_eq_nil_iff]
      intro e he hl
      exact hx ((h'.1 e he).trans (by simpa using hl))
theorem drop_flt : ∀ {es : List En} (_ : es.Pairwise fun x y => Lt x.kl y.kl) (k : List Int), es.drop (plc (kys es) k) = es.filter fun e => !decide (Lt e.kl k)
  | [], _, _ => by simp
  | x :: es, h, k => by
    have h' := List.pairwise_cons.1 h
    rw [show kys (x :: es) = x.kl :: kys es from rfl, plc]
    by_cases hx : Lt x.kl k
    · rw [if_pos hx, List.drop_succ_cons, drop_flt h'.2 k, List.filter_cons_of_neg (by simpa using hx)]
    · rw [if_neg hx, List.drop_zero]
      symm
      rw [List.filter_eq_self]
      intro e he
      rcases List.mem_cons.1 he with rfl | he
      · simpa using hx
      · have := h'.1 e he
        simp only [Bool.not_eq_true', decide_eq_false_iff_not]
        exact fun hl => hx (this.trans hl)
theorem wth_flt {es : List En} (h : es.Pairwise fun x y => Lt x.kl y.kl) (f t : List Int) : wth es f t = es.filter (btw f t) := by
  unfold wth wthE cut
  by_cases ht : t = []
  · rw [if_pos ht, List.take_of_length_le (by rw [List.length_drop]; omega), drop_flt h]
    congr 1
    funext e
    simp [btw, ht]
  · rw [if_neg ht]
    have e1 : max (plc (kys es) f) (plc (kys es) t) - plc (kys es) f = plc (kys es) t - plc (kys es) f := by omega
    have e2 : es.filter (btw f t) = (es.filter fun e => decide (Lt e.kl t)).filter fun e => !decide (Lt e.kl f) := by
      rw [List.filter_filter]
      congr 1
      funext e
      simp [btw, ht]
    have hk : kys (es.take (plc (kys es) t)) = (kys es).take (plc (kys es) t) := by simp [kys, List.map_take]
    rw [e1, ← List.drop_take, e2, ← take_flt h, ← drop_flt (h.sublist (List.take_sublist _ _)), hk, plc_take]
    by_cases hb : plc (kys es) f ≤ plc (kys es) t
    · rw [Nat.min_eq_left hb]
    · rw [List.drop_of_length_le (by rw [List.length_take]; omega), List.drop_of_length_le (by rw [List.length_take]; omega)]
theorem flatMap_flt {P : List (List En)} (p : En → Bool) : P.flatMap (fun es => es.filter p) = P.flatten.filter p := by
  induction P with
  | nil => rfl
  | cons a P ih => rw [List.flatMap_cons, ih, List.flatten_cons, List.filter_append]
theorem flatMap_same {P : List (List En)} {f g : List En → List En} (h : ∀ es ∈ P, f es = g es) : P.flatMap f = P.flatMap g := by
  induction P with
  | nil => rfl
  | cons a P ih => rw [List.flatMap_cons, List.flatMap_cons, h a List.mem_cons_self, ih fun es he => h es (List.mem_cons_of_mem _ he)]
theorem wlk_flt {P : List (List En)} (O : Ord P) (f t : List Int) : wlk P f t = P.flatten.filter (btw f t) := by
  by_cases hP : P = []
  · subst hP; simp [wlk, cut]
  obtain ⟨A, es, B, e1, e2, e3, h1, h2, h4⟩ := O.parts hP f
  have hA : (P.take (pgi P f)).flatten.filter (btw f t) = [] := by
    rw [← e2]
    have : P.take A.length = A := by rw [e1]; simp
    rw [this, List.filter_eq_nil_iff]
    intro e he hb
    have := h1 e (List.mem_append_left _ he)
    simp [btw, this] at hb
  have hB : (P.drop (max (pgi P f) (spanE P t))).flatten.filter (btw f t) = [] := by
    rw [List.filter_eq_nil_iff]
    intro e he hb
    unfold spanE at he
    by_cases ht : t = []
    · rw [if_pos ht, List.drop_of_length_le (by omega)] at he
      simp at he
    · rw [if_neg ht] at he
      obtain ⟨A', es', B', g1, g2, g3, k1, k2, k4⟩ := O.parts hP t
      have g5 : P.drop (pgi P t + 1) = B' := by
        rw [← g2]
        conv => lhs; rw [g1]
        simp
      have hmem : e ∈ B'.flatten := by
        obtain ⟨a, ha, hea⟩ := List.mem_flatten.1 he
        refine List.mem_flatten.2 ⟨a, ?_, hea⟩
        rw [← g5]
        have hlen : pgi P t + 1 ≤ P.length := by rw [← g2, g1]; simp
        rw [Nat.min_eq_left hlen] at ha
        obtain ⟨j, hj⟩ := List.getElem?_of_mem ha
        rw [List.getElem?_drop] at hj
        refine List.mem_of_getElem? (i := max (pgi P f) (pgi P t + 1) + j - (pgi P t + 1)) ?_
        rw [List.getElem?_drop, show pgi P t + 1 + (max (pgi P f) (pgi P t + 1) + j - (pgi P t + 1)) = max (pgi P f) (pgi P t + 1) + j by omega]
        exact hj
      have := k4 e hmem
      simp [btw, ht, this.not] at hb
  have hsplit : P = P.take (pgi P f) ++ (cut P (pgi P f) (spanE P t) ++ P.drop (max (pgi P f) (spanE P t))) := by
    unfold cut
    conv => lhs; rw [← List.take_append_drop (pgi P f) P, ← List.take_append_drop (max (pgi P f) (spanE P t) - pgi P f) (P.drop (pgi P f))]
    rw [List.drop_drop, show pgi P f + (max (pgi P f) (spanE P t) - pgi P f) = max (pgi P f) (spanE P t) by omega]
  unfold wlk
  rw [flatMap_same (g := fun es => es.filter (btw f t)) (fun es he => wth_flt (O.pair.1 es (cut_mem he)) f t), flatMap_flt]
  conv => rhs; rw [hsplit]
  rw [List.flatten_append, List.flatten_append, List.filter_append, List.filter_append, hA, hB, List.nil_append, List.append_nil]
end Pg
end Go.Proofs.Ytplminnejheceaa
