/- Byte keys in their order; places in sorted lists. -/
import Derived.Test.YtplminnejheceaaPgE
namespace Go.Proofs.Ytplminnejheceaa
namespace Pg

theorem cmpB_cases : ∀ (a b : List Int), cmpB a b = -1 ∨ cmpB a b = 0 ∨ cmpB a b = 1
  | [], [] => .inr (.inl rfl)
  | [], _ :: _ => .inl rfl
  | _ :: _, [] => .inr (.inr rfl)
  | x :: a, y :: b => by
    rw [cmpB]
    split
    · exact .inl rfl
    · split
      · exact .inr (.inr rfl)
      · exact cmpB_cases a b
theorem cmpB_refl : ∀ (a : List Int), cmpB a a = 0
  | [] => rfl
  | x :: a => by rw [cmpB, if_neg (by omega), if_neg (by omega)]; exact cmpB_refl a
theorem cmpB_eq : ∀ {a b : List Int}, cmpB a b = 0 → a = b
  | [], [], _ => rfl
  | [], _ :: _, h => by simp [cmpB] at h
  | _ :: _, [], h => by simp [cmpB] at h
  | x :: a, y :: b, h => by
    rw [cmpB] at h
    split at h
    · omega
    · split at h
      · omega
      · rw [cmpB_eq h, show x = y by omega]
theorem cmpB_swap : ∀ (a b : List Int), cmpB b a = - cmpB a b
  | [], [] => rfl
  | [], _ :: _ => rfl
  | _ :: _, [] => rfl
  | x :: a, y :: b => by
    rw [cmpB, cmpB]
    by_cases h1 : x < y
    · rw [if_neg (by omega), if_pos h1, if_pos h1]; rfl
    · by_cases h2 : y < x
      · rw [if_pos h2, if_neg h1, if_pos h2]
      · rw [if_neg h2, if_neg h1, if_neg h1, if_neg h2]; exact cmpB_swap a b
/-- a stands ahead of b -/
abbrev Lt (a b : List Int) : Prop := cmpB a b = -1
theorem Lt.trans : ∀ {a b c : List Int}, Lt a b → Lt b c → Lt a c
  | [], [], _, h, _ => by simp [Lt, cmpB] at h
  | [], _ :: _, [], _, h => by simp [Lt, cmpB] at h
  | [], _ :: _, _ :: _, _, _ => rfl
  | _ :: _, [], _, h, _ => by simp [Lt, cmpB] at h
  | _ :: _, _ :: _, [], _, h => by simp [Lt, cmpB] at h
  | x :: a, y :: b, z :: c, h, h' => by
    simp only [Lt] at h h' ⊢
    rw [cmpB] at h h' ⊢
    by_cases h1 : x < z
    · rw [if_pos h1]
    · rw [if_neg h1]
      split at h
      · split at h'
        · omega
        · split at h'
          · omega
          · omega
      · split at h
        · omega
        · split at h'
          · omega
          · split at h'
            · omega
            · rw [if_neg (by omega)]; exact Lt.trans (a := a) (b := b) (c := c) h h'
theorem lt_irrefl (a : List Int) : ¬ Lt a a := by simp [Lt, cmpB_refl]
theorem Lt.not {a b : List Int} (h : Lt a b) : ¬ Lt b a := fun h' => lt_irrefl a (h.trans h')
theorem lt_tri (a b : List Int) : Lt a b ∨ a = b ∨ Lt b a := by
  rcases cmpB_cases a b with h | h | h
  · exact .inl h
  · exact .inr (.inl (cmpB_eq h))
  · exact .inr (.inr (by simp only [Lt]; rw [cmpB_swap, h]))
theorem cmpB_lt {a b : List Int} (h : Lt a b) : cmpB a b = -1 := h
theorem cmpB_gt {a b : List Int} (h : Lt b a) : cmpB a b = 1 := by rw [cmpB_swap, cmpB_lt h]; rfl
theorem not_lt {a b : List Int} : ¬ Lt a b ↔ a = b ∨ Lt b a := by
  constructor
  · intro h
    rcases lt_tri a b with k | k | k
    · exact absurd k h
    · exact .inl k
    · exact .inr k
  · rintro (h | h)
    · subst h; exact lt_irrefl a
    · exact h.not
theorem Lt.of_le {a b c : List Int} (h : Lt a b) (h' : ¬ Lt c b) : Lt a c := by
  rcases not_lt.1 h' with k | k
  · subst k; exact h
  · exact h.trans k
theorem Lt.of_le' {a b c : List Int} (h : ¬ Lt b a) (h' : Lt b c) : Lt a c := by
  rcases not_lt.1 h with k | k
  · subst k; exact h'
  · exact k.trans h'

/-- how many at a list's front are ahead of k -/
def plc : List (List Int) → List Int → Nat
  | [], _ => 0
  | x :: l, k => if Lt x k then plc l k + 1 else 0
theorem plc_le : ∀ (l : List (List Int)) (k : List Int), plc l k ≤ l.length
  | [], _ => Nat.le_refl _
  | x :: l, k => by
    rw [plc]
    split
    · have := plc_le l k; simp; omega
    · simp
theorem plc_eq : ∀ {l : List (List Int)} {k : List Int} {i : Nat}, i ≤ l.length → (∀ j x, j < i → l[j]? = some x → Lt x k) → (∀ x, l[i]? = some x → ¬ Lt x k) → plc l k = i
  | [], _, i, h, _, _ => by simp at h; subst h; rfl
  | x :: l, k, 0, _, _, h3 => by rw [plc, if_neg (h3 x rfl)]
  | x :: l, k, i + 1, h1, h2, h3 => by
    rw [plc, if_pos (h2 0 x (by omega) rfl), plc_eq (l := l) (i := i) (by simpa using h1) (fun j y hj hy => h2 (j + 1) y (by omega) (by simpa using hy)) (fun y hy => h3 y (by simpa using hy))]
theorem plc_lt : ∀ {l : List (List Int)} {k : List Int} {j : Nat} {x : List Int}, j < plc l k → l[j]? = some x → Lt x k
  | [], _, _, _, h, _ => by simp [plc] at h
  | y :: l, k, j, x, h, hx => by
    rw [plc] at h
    split at h
    · cases j with
      | zero => simp at hx; subst hx; assumption
      | succ j => exact plc_lt (l := l) (j := j) (by omega) (by simpa using hx)
    · omega
theorem plc_ge : ∀ {l : List (List Int)} {k : List Int} {x : List Int}, l[plc l k]? = some x → ¬ Lt x k
  | [], _, _, h => by simp at h
  | y :: l, k, x, h => by
    rw [plc] at h
    split at h
    · exact plc_ge (l := l) (by simpa using h)
    · simp at h; subst h; assumption
/-- rising -/
def Srt (l : List (List Int)) : Prop := l.Pairwise Lt
theorem Srt.get {l : List (List Int)} (h : Srt l) {i j : Nat} {x y : List Int} (hij : i < j) (hi : l[i]? = some x) (hj : l[j]? = some y) : Lt x y := by
  obtain ⟨h1, rfl⟩ := List.getElem?_eq_some_iff.1 hi
  obtain ⟨h2, rfl⟩ := List.getElem?_eq_some_iff.1 hj
  exact List.pairwise_iff_getElem.1 h i j h1 h2 hij
/-- is k there, at its place? -/
def thr (l : List (List Int)) (k : List Int) : Bool := decide (l[plc l k]? = some k)
theorem thr_iff {l : List (List Int)} (h : Srt l) {k : List Int} : thr l k = true ↔ k ∈ l := by
  simp only [thr, decide_eq_true_eq]
  constructor
  · intro e; exact List.mem_of_getElem? e
  · intro e
    obtain ⟨j, hj⟩ := List.getElem?_of_mem e
    have : plc l k = j := plc_eq (by have := (List.getElem?_eq_some_iff.1 hj).1; omega) (fun i x hi hx => h.get hi hx hj) (fun x hx => by rw [hj] at hx; cases hx; exact lt_irrefl k)
    rw [this]; exact hj
end Pg
end Go.Proofs.Ytplminnejheceaa
