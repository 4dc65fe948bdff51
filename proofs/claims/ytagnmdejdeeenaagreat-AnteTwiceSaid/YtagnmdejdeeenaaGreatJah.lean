/- Several texts, joined: KyX. -/
import Derived.Test.YtagnmdejdeeenaaGreatJag
namespace Go.Proofs.YtagnmdejdeeenaaGreat
namespace Ky
open Go.RowKit Go.Lib Pg
attribute [local go_sem] Oper.semAt_some
theorem eight (l : List Int) (h : l.length = 8) : ∃ a b c d e f g i, l = [a, b, c, d, e, f, g, i] := by
  match l, h with
  | [a, b, c, d, e, f, g, i], _ => exact ⟨a, b, c, d, e, f, g, i, rfl⟩
theorem mk_eq {k a b n m0 m1 : Int} (hf : frm k = (n, m0, m1)) : mk k a b = [m0] ++ (if 8 < n then be 8 (tn k a) else []) ++ (if m1 = 0 then [] else [m1]) ++ (if 16 < n then be 8 b else []) := by
  unfold mk mkb
  rw [hf]
theorem mkE_eq {k a b n m0 m1 : Int} (hf : frm k = (n, m0, m1)) (hn : n ≠ 0) : mkE k a b = false ↔ (n ≤ 8 → a = 0) ∧ (n ≤ 16 → b = 0) := by
  unfold mkE
  rw [hf]
  simp [hn]
  constructor
  · rintro ⟨h1, h2⟩
    constructor
    · intro h
      by_cases e : a = 0
      · exact e
      · have := h1 e; omega
    · intro h
      by_cases e : b = 0
      · exact e
      · have := h2 e; omega
  · rintro ⟨h1, h2⟩
    constructor
    · intro e
      by_cases h : n ≤ 8
      · exact absurd (h1 h) e
      · omega
    · intro e
      by_cases h : n ≤ 16
      · exact absurd (h2 h) e
      · omega
theorem frm_form : ∀ k : Nat, k < 18 → 0 < k → ((frm k).1 = 1 ∧ (frm k).2.2 = 0) ∨ ((frm k).1 = 9 ∧ (frm k).2.2 = 0) ∨ ((frm k).1 = 10 ∧ (frm k).2.2 ≠ 0) ∨ ((frm k).1 = 17 ∧ (frm k).2.2 = 0) ∨ ((frm k).1 = 18 ∧ (frm k).2.2 ≠ 0) := by decide +kernel
theorem tn_tn {k a : Int} : tn k (tn k a) = a := by
  unfold tn
  split <;> omega
theorem tn_range {k a : Int} (h : 0 ≤ a ∧ a < 18446744073709551616) : 0 ≤ tn k a ∧ tn k a < 256 ^ 8 := by
  rw [show (256 : Int) ^ 8 = 18446744073709551616 by decide]
  unfold tn
  split <;> omega
theorem bv8 {a : Int} (h : 0 ≤ a ∧ a < 18446744073709551616) : bv (be 8 a) = a := bv_be 8 h.1 (by rw [show (256 : Int) ^ 8 = 18446744073709551616 by decide]; exact h.2)
theorem bv8t {k a : Int} (h : 0 ≤ a ∧ a < 18446744073709551616) : tn k (bv (be 8 (tn k a))) = a := by
  rw [bv_be 8 (tn_range h).1 (tn_range h).2, tn_tn]
/-- a key's bytes tell its form and its numbers -/
theorem mk_back {k : Nat} (hk : k < 18) (h0 : 0 < k) {a b : Int} (ha : 0 ≤ a ∧ a < 18446744073709551616) (hb : 0 ≤ b ∧ b < 18446744073709551616) (hE : mkE k a b = false) :
    frm k = fIn (mk k a b) ∧ rdA k (mk k a b) = a ∧ rdB (mk k a b) = b := by
  obtain ⟨⟨n, m0, m1⟩, hf⟩ : ∃ f, frm k = f := ⟨_, rfl⟩
  have hF := frm_form k hk h0
  rw [hf] at hF
  simp only at hF
  have e1 := bv8t (k := k) ha
  have e2 := bv8 hb
  obtain ⟨x0, x1, x2, x3, x4, x5, x6, x7, hx⟩ := eight (be 8 (tn k a)) (be_length _ _)
  obtain ⟨y0, y1, y2, y3, y4, y5, y6, y7, hy⟩ := eight (be 8 b) (be_length _ _)
  rw [hx] at e1
  rw [hy] at e2
  rcases hF with ⟨rfl, rfl⟩ | ⟨rfl, rfl⟩ | ⟨rfl, h1⟩ | ⟨rfl, rfl⟩ | ⟨rfl, h1⟩ <;>
    (obtain ⟨hA, hB⟩ := (mkE_eq hf (by decide)).1 hE
     rw [mk_eq hf, hf, hx, hy]
     simp_all [fIn, rdA, rdB])
theorem mk_inj {k o : Nat} (hk : k < 18) (h0 : 0 < k) (ho : o < 18) (o0 : 0 < o) {a b c d : Int} (ha : 0 ≤ a ∧ a < 18446744073709551616) (hb : 0 ≤ b ∧ b < 18446744073709551616) (hc : 0 ≤ c ∧ c < 18446744073709551616) (hd : 0 ≤ d ∧ d < 18446744073709551616) (hE : mkE k a b = false) (hE2 : mkE o c d = false) (h : mk k a b = mk o c d) : k = o ∧ a = c ∧ b = d := by
  obtain ⟨f1, a1, b1⟩ := mk_back hk h0 ha hb hE
  obtain ⟨f2, a2, b2⟩ := mk_back ho o0 hc hd hE2
  have e : k = o := frm_inj k hk o ho (by rw [f1, f2, h])
  subst e
  rw [h] at a1 b1
  exact ⟨rfl, by rw [← a1, a2], by rw [← b1, b2]⟩
theorem mk_len (k a b : Int) : (mk k a b).length ≤ 18 := by
  unfold mk
  rw [List.length_append]
  have := mkb_len (frm k) (tn k a)
  split
  · rw [be_length]; omega
  · simp; omega
end Ky
end Go.Proofs.YtagnmdejdeeenaaGreat
