/- Keys: the order of bytes and of numbers; what stands above all that begin so. -/
import Derived.Test.YtfljmcfipnmkgaaKyQ
namespace Go.Proofs.Ytfljmcfipnmkgaa
namespace Ky
open Go.RowKit Go.Lib Pg
theorem lt_cons {x y : Int} {a b : List Int} : Lt (x :: a) (y :: b) ↔ x < y ∨ (x = y ∧ Lt a b) := by
  unfold Lt
  rw [cmpB]
  by_cases h1 : x < y
  · simp [h1]
  · by_cases h2 : y < x
    · rw [if_neg h1, if_pos h2]
      constructor
      · intro h; exact absurd h (by decide)
      · rintro (h | ⟨h, _⟩) <;> omega
    · rw [if_neg h1, if_neg h2]
      have : x = y := by omega
      simp [this]
theorem lt_nil_cons {y : Int} {b : List Int} : Lt [] (y :: b) := by simp [Lt, cmpB]
theorem not_lt_nil {a : List Int} : ¬ Lt a [] := by cases a <;> simp [Lt, cmpB]
theorem lt_app (s : List Int) {a b : List Int} : Lt (s ++ a) (s ++ b) ↔ Lt a b := by
  induction s with
  | nil => exact Iff.rfl
  | cons x s ih => rw [List.cons_append, List.cons_append, lt_cons, ih]; simp
theorem lt_app_len : ∀ {x y s t : List Int}, x.length = y.length → (Lt (x ++ s) (y ++ t) ↔ Lt x y ∨ (x = y ∧ Lt s t))
  | [], [], s, t, _ => by simp [lt_irrefl]
  | [], _ :: _, _, _, h => by simp at h
  | _ :: _, [], _, _, h => by simp at h
  | a :: x, b :: y, s, t, h => by
    rw [List.cons_append, List.cons_append, lt_cons, lt_cons, lt_app_len (by simpa using h)]
    constructor
    · rintro (h1 | ⟨h1, h2 | ⟨h2, h3⟩⟩)
      · exact .inl (.inl h1)
      · exact .inl (.inr ⟨h1, h2⟩)
      · exact .inr ⟨by rw [h1, h2], h3⟩
    · rintro ((h1 | ⟨h1, h2⟩) | ⟨h1, h2⟩)
      · exact .inl h1
      · exact .inr ⟨h1, .inl h2⟩
      · cases h1; exact .inr ⟨rfl, .inr ⟨rfl, h2⟩⟩
theorem last255 : ∀ l : List Int, (∀ x ∈ l, x = 255) ∨ ∃ A x B, l = A ++ x :: B ∧ x ≠ 255 ∧ ∀ b ∈ B, b = 255
  | [] => .inl (fun _ h => by simp at h)
  | y :: t => by
    rcases last255 t with h | ⟨A, x, B, rfl, hx, hB⟩
    · by_cases hy : y = 255
      · exact .inl (fun x hx => by
          rcases List.mem_cons.1 hx with rfl | hx
          · exact hy
          · exact h x hx)
      · exact .inr ⟨[], y, t, rfl, hy, h⟩
    · exact .inr ⟨y :: A, x, B, rfl, hx, hB⟩
theorem nxt_eq {A B : List Int} {x : Int} (hx : x ≠ 255) (hB : ∀ b ∈ B, b = 255) : nxt (A ++ x :: B) = A ++ [x + 1] := by
  unfold nxt
  rw [dw_key A B hx hB]
  simp
theorem nxt_nil {l : List Int} (h : nxt l = []) : ∀ x ∈ l, x = 255 := by
  rcases last255 l with h1 | ⟨A, x, B, rfl, hx, hB⟩
  · exact h1
  · rw [nxt_eq hx hB] at h
    simp at h
theorem lt_nxt {l : List Int} (h : nxt l ≠ []) : Lt l (nxt l) := by
  rcases last255 l with h1 | ⟨A, x, B, rfl, hx, hB⟩
  · exact absurd (nxt_all h1) h
  · rw [nxt_eq hx hB, lt_app, lt_cons]
    exact .inl (by omega)
theorem not_pre_nxt {l : List Int} (h : nxt l ≠ []) : ¬ l <+: nxt l := by
  rcases last255 l with h1 | ⟨A, x, B, rfl, hx, hB⟩
  · exact absurd (nxt_all h1) h
  · rw [nxt_eq hx hB, List.prefix_append_right_inj, List.cons_prefix_cons]
    rintro ⟨h2, _⟩
    omega
theorem pre_lt_nxt {l c : List Int} (h : nxt l ≠ []) (hc : l <+: c) : Lt c (nxt l) := by
  rcases last255 l with h1 | ⟨A, x, B, rfl, hx, hB⟩
  · exact absurd (nxt_all h1) h
  · obtain ⟨t, rfl⟩ := hc
    rw [nxt_eq hx hB, List.append_assoc, lt_app, List.cons_append, lt_cons]
    exact .inl (by omega)
theorem all255 : ∀ {B t : List Int}, (∀ b ∈ B, b = 255) → Oct t → Lt t B ∨ B <+: t
  | [], _, _, _ => .inr (List.nil_prefix)
  | b :: B, [], _, _ => .inl lt_nil_cons
  | b :: B, z :: t, hB, ht => by
    have hb := hB b List.mem_cons_self
    have hz := ht z List.mem_cons_self
    subst hb
    by_cases h : z = 255
    · subst h
      rcases all255 (fun b hb => hB b (List.mem_cons_of_mem _ hb)) (fun y hy => ht y (List.mem_cons_of_mem _ hy)) with h1 | h1
      · exact .inl (lt_cons.2 (.inr ⟨rfl, h1⟩))
      · exact .inr (List.cons_prefix_cons.2 ⟨rfl, h1⟩)
    · exact .inl (lt_cons.2 (.inl (by omega)))
theorem below_nxt : ∀ {A B c : List Int} {x : Int}, (∀ b ∈ B, b = 255) → Oct c → Lt c (A ++ [x + 1]) → Lt c (A ++ x :: B) ∨ (A ++ x :: B) <+: c
  | [], B, [], x, _, _, _ => .inl lt_nil_cons
  | [], B, y :: t, x, hB, hc, h => by
    rw [List.nil_append, lt_cons] at h
    rw [List.nil_append]
    rcases h with h | ⟨_, h⟩
    · by_cases e : y = x
      · subst e
        rcases all255 hB (fun z hz => hc z (List.mem_cons_of_mem _ hz)) with h1 | h1
        · exact .inl (lt_cons.2 (.inr ⟨rfl, h1⟩))
        · exact .inr (List.cons_prefix_cons.2 ⟨rfl, h1⟩)
      · exact .inl (lt_cons.2 (.inl (by omega)))
    · exact absurd h not_lt_nil
  | a :: A, B, [], x, _, _, _ => .inl lt_nil_cons
  | a :: A, B, y :: t, x, hB, hc, h => by
    rw [List.cons_append, lt_cons] at h
    rw [List.cons_append]
    rcases h with h | ⟨h1, h2⟩
    · exact .inl (lt_cons.2 (.inl h))
    · subst h1
      rcases below_nxt hB (fun z hz => hc z (List.mem_cons_of_mem _ hz)) h2 with h3 | h3
      · exact .inl (lt_cons.2 (.inr ⟨rfl, h3⟩))
      · exact .inr (List.cons_prefix_cons.2 ⟨rfl, h3⟩)
theorem not_lt_nxt {l c : List Int} (hc : Oct c) (h1 : ¬ l <+: c) (h2 : ¬ Lt c l) : ¬ Lt c (nxt l) := by
  rcases last255 l with h3 | ⟨A, x, B, rfl, hx, hB⟩
  · rw [nxt_all h3]; exact not_lt_nil
  · rw [nxt_eq hx hB]
    intro h
    rcases below_nxt hB hc h with h4 | h4
    · exact h2 h4
    · exact h1 h4
/-- a number's last byte -/
theorem be_snoc : ∀ (n : Nat) (a : Int), be (n + 1) a = be n (a / 256) ++ [a % 256]
  | 0, a => by simp [be]
  | n + 1, a => by
    rw [be, be_snoc n a, be, List.cons_append]
    congr 2
    rw [Int.ediv_ediv_of_nonneg (by decide), Int.pow_succ, Int.mul_comm]
theorem pow_up (n : Nat) : (256 : Int) ^ (n + 1) = 256 ^ n * 256 := Int.pow_succ 256 n
/-- bytes of numbers stand in the numbers' order -/
theorem be_lt : ∀ (n : Nat) {a b : Int}, 0 ≤ a → a < 256 ^ n → 0 ≤ b → b < 256 ^ n → (Lt (be n a) (be n b) ↔ a < b)
  | 0, a, b, h1, h2, h3, h4 => by
    simp at h2 h4
    constructor
    · intro h; exact absurd h (lt_irrefl _)
    · intro h; omega
  | n + 1, a, b, h1, h2, h3, h4 => by
    rw [pow_up] at h2 h4
    have ih := be_lt n (a := a / 256) (b := b / 256) (by omega) (by omega) (by omega) (by omega)
    rw [be_snoc, be_snoc, lt_app_len (by rw [be_length, be_length]), ih]
    constructor
    · rintro (h | ⟨h, h'⟩)
      · omega
      · have he : a / 256 = b / 256 := by
          rcases Int.lt_trichotomy (a / 256) (b / 256) with h5 | h5 | h5
          · have := ih.2 h5; rw [h] at this; exact absurd this (lt_irrefl _)
          · exact h5
          · have ih2 := be_lt n (a := b / 256) (b := a / 256) (by omega) (by omega) (by omega) (by omega)
            have := ih2.2 h5; rw [h] at this; exact absurd this (lt_irrefl _)
        have h6 : a % 256 < b % 256 := by
          rcases lt_cons.1 h' with h7 | ⟨_, h7⟩
          · exact h7
          · exact absurd h7 not_lt_nil
        omega
    · intro h
      by_cases he : a / 256 < b / 256
      · exact .inl he
      · have he2 : a / 256 = b / 256 := by omega
        exact .inr ⟨by rw [he2], lt_cons.2 (.inl (by omega))⟩
theorem be_inj {n : Nat} {a b : Int} (h1 : 0 ≤ a) (h2 : a < 256 ^ n) (h3 : 0 ≤ b) (h4 : b < 256 ^ n) (h : be n a = be n b) : a = b := by
  rcases Int.lt_trichotomy a b with h5 | h5 | h5
  · have := (be_lt n h1 h2 h3 h4).2 h5; rw [h] at this; exact absurd this (lt_irrefl _)
  · exact h5
  · have := (be_lt n h3 h4 h1 h2).2 h5; rw [h] at this; exact absurd this (lt_irrefl _)
theorem bv_be : ∀ (n : Nat) {a : Int}, 0 ≤ a → a < 256 ^ n → bv (be n a) = a
  | 0, a, h1, h2 => by simp at h2; simp [be, bv]; omega
  | n + 1, a, h1, h2 => by
    rw [pow_up] at h2
    rw [be_snoc, bv_snoc, bv_be n (by omega) (by omega)]
    omega
end Ky
end Go.Proofs.Ytfljmcfipnmkgaa
