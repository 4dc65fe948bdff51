/- Several texts, joined: KyX. -/
import Derived.Test.YtjmkhdlhjnlbiaaGreatJgg
namespace Go.Proofs.YtjmkhdlhjnlbiaaGreat
namespace Ky
open Go.RowKit Go.Lib Pg
attribute [local go_sem] Oper.semAt_some
/-- the number that gleanhelp.Place tells -/
def plk (k : Int) (n : Nat) : Nat := (if Int.tmod k n < 0 then Int.tmod k n + n else Int.tmod k n).toNat
theorem plk_lt (k : Int) {n : Nat} (hn : 0 < n) : plk k n < n := by
  have b1 := Int.lt_tmod_of_pos k (show (0 : Int) < n by omega)
  have b2 := Int.tmod_lt_of_pos k (show (0 : Int) < n by omega)
  unfold plk
  split <;> omega
theorem eight (l : List Int) (h : l.length = 8) : ∃ a b c d e f g i, l = [a, b, c, d, e, f, g, i] := by
  match l, h with
  | [a, b, c, d, e, f, g, i], _ => exact ⟨a, b, c, d, e, f, g, i, rfl⟩
theorem mk_eq {k a b n m0 m1 : Int} (hf : frm k = (n, m0, m1)) : mk k a b = [m0] ++ (if 8 < n then be 8 (tn k a) else []) ++ (if m1 = 0 then [] else [m1]) ++ (if 16 < n then be 8 b else []) := by
  unfold mk mkb
  rw [hf]
theorem mkE_eq {k a b n m0 m1 : Int} (hf : frm k = (n, m0, m1)) (hn : n ≠ 0) : mkE k a b = false ↔ (n ≤ 8 → a = 0) ∧ (n ≤ 16 → b = 0) := by
  unfold mkE
  rw [hf]
  simp [hn]
  constructor
  · rintro ⟨h1, h2⟩
    constructor
    · intro h
      by_cases e : a = 0
      · exact e
      · have := h1 e; omega
    · intro h
      by_cases e : b = 0
      · exact e
      · have := h2 e; omega
  · rintro ⟨h1, h2⟩
    constructor
    · intro e
      by_cases h : n ≤ 8
      · exact absurd (h1 h) e
      · omega
    · intro e
      by_cases h : n ≤ 16
      · exact absurd (h2 h) e
      · omega
theorem frm_form : ∀ k : Nat, k < 18 → 0 < k → ((frm k).1 = 1 ∧ (frm k).2.2 = 0) ∨ ((frm k).1 = 9 ∧ (frm k).2.2 = 0) ∨ ((frm k).1 = 10 ∧ (frm k).2.2 ≠ 0) ∨ ((frm k).1 = 17 ∧ (frm k).2.2 = 0) ∨ ((frm k).1 = 18 ∧ (frm k).2.2 ≠ 0) := by decide +kernel
theorem frm_ten : ∀ k : Nat, k < 18 → 0 < k → (k = 10 → (frm k).1 = 17) := by decide +kernel
theorem tn_tn {k a : Int} : tn k (tn k a) = a := by
  unfold tn
  split <;> omega
theorem tn_range {k a : Int} (h : 0 ≤ a ∧ a < 18446744073709551616) : 0 ≤ tn k a ∧ tn k a < 256 ^ 8 := by
  rw [show (256 : Int) ^ 8 = 18446744073709551616 by decide]
  unfold tn
  split <;> omega
theorem bv8 {a : Int} (h : 0 ≤ a ∧ a < 18446744073709551616) : bv (be 8 a) = a := bv_be 8 h.1 (by rw [show (256 : Int) ^ 8 = 18446744073709551616 by decide]; exact h.2)
theorem bv8t {k a : Int} (h : 0 ≤ a ∧ a < 18446744073709551616) : tn k (bv (be 8 (tn k a))) = a := by
  rw [bv_be 8 (tn_range h).1 (tn_range h).2, tn_tn]
/-- a key's bytes tell its form and its numbers -/
theorem mk_back {k : Nat} (hk : k < 18) (h0 : 0 < k) {a b : Int} (ha : 0 ≤ a ∧ a < 18446744073709551616) (hb : 0 ≤ b ∧ b < 18446744073709551616) (hE : mkE k a b = false) :
    frm k = fIn (mk k a b) ∧ rdA k (mk k a b) = a ∧ rdB (mk k a b) = b := by
  obtain ⟨⟨n, m0, m1⟩, hf⟩ : ∃ f, frm k = f := ⟨_, rfl⟩
  have hF := frm_form k hk h0
  rw [hf] at hF
  simp only at hF
  have e1 := bv8t (k := k) ha
  have e2 := bv8 hb
  obtain ⟨x0, x1, x2, x3, x4, x5, x6, x7, hx⟩ := eight (be 8 (tn k a)) (be_length _ _)
  obtain ⟨y0, y1, y2, y3, y4, y5, y6, y7, hy⟩ := eight (be 8 b) (be_length _ _)
  rw [hx] at e1
  rw [hy] at e2
  rcases hF with ⟨rfl, rfl⟩ | ⟨rfl, rfl⟩ | ⟨rfl, h1⟩ | ⟨rfl, rfl⟩ | ⟨rfl, h1⟩ <;>
    (obtain ⟨hA, hB⟩ := (mkE_eq hf (by decide)).1 hE
     rw [mk_eq hf, hf, hx, hy]
     simp_all [fIn, rdA, rdB])
theorem mk_inj {k o : Nat} (hk : k < 18) (h0 : 0 < k) (ho : o < 18) (o0 : 0 < o) {a b c d : Int} (ha : 0 ≤ a ∧ a < 18446744073709551616) (hb : 0 ≤ b ∧ b < 18446744073709551616) (hc : 0 ≤ c ∧ c < 18446744073709551616) (hd : 0 ≤ d ∧ d < 18446744073709551616) (hE : mkE k a b = false) (hE2 : mkE o c d = false) (h : mk k a b = mk o c d) : k = o ∧ a = c ∧ b = d := by
  obtain ⟨f1, a1, b1⟩ := mk_back hk h0 ha hb hE
  obtain ⟨f2, a2, b2⟩ := mk_back ho o0 hc hd hE2
  have e : k = o := frm_inj k hk o ho (by rw [f1, f2, h])
  subst e
  rw [h] at a1 b1
  exact ⟨rfl, by rw [← a1, a2], by rw [← b1, b2]⟩
theorem frm_pre : ∀ k : Nat, k < 18 → ∀ o : Nat, o < 18 → (0 < k ∧ 0 < o ∧ (frm k).2.1 = (frm o).2.1 ∧ (frm k).1 < (frm o).1) → (frm k).1 = 10 ∧ (frm o).1 = 18 ∧ (frm k).2.2 ≠ (frm o).2.2 := by decide +kernel
theorem mk_pre {k o : Nat} (hk : k < 18) (h0 : 0 < k) (ho : o < 18) (o0 : 0 < o) {a b c d : Int} (ha : 0 ≤ a ∧ a < 18446744073709551616) (hb : 0 ≤ b ∧ b < 18446744073709551616) (hc : 0 ≤ c ∧ c < 18446744073709551616) (hd : 0 ≤ d ∧ d < 18446744073709551616) (hE : mkE k a b = false) (hE2 : mkE o c d = false) (h : mk k a b <+: mk o c d) : mk k a b = mk o c d := by
  obtain ⟨f1, -, -⟩ := mk_back hk h0 ha hb hE
  obtain ⟨f2, -, -⟩ := mk_back ho o0 hc hd hE2
  have p1 := frm_pos k hk h0
  have q1 := fun h h' => frm_pre k hk o ho ⟨h0, o0, h, h'⟩
  have hle := h.length_le
  obtain ⟨t, ht⟩ := h
  rcases Nat.lt_or_ge (mk k a b).length (mk o c d).length with hlt | hge
  · exfalso
    rw [f1, f2] at q1
    rw [f1] at p1
    simp only [fIn] at q1 p1
    have g0 : (mk o c d)[0]? = (mk k a b)[0]? := by rw [← ht, List.getElem?_append_left (by omega)]
    obtain ⟨r1, r2, r3⟩ := q1 (by rw [g0]) (by omega)
    have g9 : (mk o c d)[9]? = (mk k a b)[9]? := by rw [← ht, List.getElem?_append_left (by omega)]
    rw [if_pos (by omega), if_pos (by omega), g9] at r3
    exact r3 rfl
  · have : t = [] := by
      have := congrArg List.length ht
      rw [List.length_append] at this
      exact List.eq_nil_of_length_eq_zero (by omega)
    rw [this, List.append_nil] at ht
    exact ht
theorem be8_lt {a b : Int} (ha : 0 ≤ a ∧ a < 256 ^ 8) (hb : 0 ≤ b ∧ b < 256 ^ 8) : Lt (be 8 a) (be 8 b) ↔ a < b := be_lt 8 ha.1 ha.2 hb.1 hb.2
theorem be8_eq {a b : Int} (ha : 0 ≤ a ∧ a < 256 ^ 8) (hb : 0 ≤ b ∧ b < 256 ^ 8) : be 8 a = be 8 b ↔ a = b := ⟨be_inj ha.1 ha.2 hb.1 hb.2, fun h => by rw [h]⟩
theorem not_lt_self {a : List Int} : ¬ Lt a a := lt_irrefl a
theorem mk_lt {k : Nat} (hk : k < 18) (h0 : 0 < k) {a b c d : Int} (ha : 0 ≤ a ∧ a < 18446744073709551616) (hb : 0 ≤ b ∧ b < 18446744073709551616) (hc : 0 ≤ c ∧ c < 18446744073709551616) (hd : 0 ≤ d ∧ d < 18446744073709551616) (hE : mkE k a b = false) (hE2 : mkE k c d = false) :
    Lt (mk k a b) (mk k c d) ↔ (if k = 10 then c < a else a < c) ∨ (a = c ∧ b < d) := by
  obtain ⟨⟨n, m0, m1⟩, hf⟩ : ∃ f, frm k = f := ⟨_, rfl⟩
  have hF := frm_form k hk h0
  have hT := frm_ten k hk h0
  rw [hf] at hF hT
  simp only at hF hT
  have tA := tn_range (k := k) ha
  have tC := tn_range (k := k) hc
  have e8 : (256 : Int) ^ 8 = 18446744073709551616 := by decide
  have L1 := be8_lt tA tC
  have L2 := be8_eq tA tC
  have L3 := be8_lt (a := b) (b := d) (by rw [e8]; exact hb) (by rw [e8]; exact hd)
  have T1 : tn k a < tn k c ↔ if k = 10 then c < a else a < c := by
    unfold tn
    by_cases h : k = 10
    · subst h; simp
    · rw [if_neg (by omega), if_neg (by omega), if_neg h]
  have T2 : tn k a = tn k c ↔ a = c := by
    unfold tn
    split <;> omega
  have N8 : (be 8 (tn k a)).length = (be 8 (tn k c)).length := by rw [be_length, be_length]
  rcases hF with ⟨rfl, rfl⟩ | ⟨rfl, rfl⟩ | ⟨rfl, h1⟩ | ⟨rfl, rfl⟩ | ⟨rfl, h1⟩ <;>
    (obtain ⟨hA, hB⟩ := (mkE_eq hf (by decide)).1 hE
     obtain ⟨hC, hD⟩ := (mkE_eq hf (by decide)).1 hE2
     rw [mk_eq hf, mk_eq hf])
  · have := hA (by decide); have := hB (by decide); have := hC (by decide); have := hD (by decide)
    subst_vars
    simp [not_lt_self]
  · have := hB (by decide); have := hD (by decide)
    subst_vars
    simp only [if_pos (show (8 : Int) < 9 by decide), if_neg (show ¬ (16 : Int) < 9 by decide), if_true, List.append_nil]
    rw [lt_app, L1, T1]
    simp
  · have := hB (by decide); have := hD (by decide)
    subst_vars
    simp only [if_pos (show (8 : Int) < 10 by decide), if_neg (show ¬ (16 : Int) < 10 by decide), if_neg h1, List.append_nil]
    rw [List.append_assoc, List.append_assoc, lt_app, lt_app_len N8, L1, T1]
    simp [not_lt_self]
  · simp only [if_pos (show (8 : Int) < 17 by decide), if_pos (show (16 : Int) < 17 by decide), if_true, List.append_nil]
    simp only [List.append_assoc]
    rw [lt_app, lt_app_len N8, L1, T1, L2, T2, L3]
  · simp only [if_pos (show (8 : Int) < 18 by decide), if_pos (show (16 : Int) < 18 by decide), if_neg h1]
    simp only [List.append_assoc]
    rw [lt_app, lt_app_len N8, lt_app, L1, T1, L2, T2, L3]
theorem read_mk {w : World} {ao : Option Addr} {n c : Nat} {k : Nat} (hk : k < 18) (h0 : 0 < k) {a b : Int} (ha : 0 ≤ a ∧ a < 18446744073709551616) (hb : 0 ≤ b ∧ b < 18446744073709551616) (hE : mkE k a b = false) (h : By w (.slice ao n c) (mk k a b)) (hn : n ≤ 1000000000) :
    Calls Tryz.prog 183 #[.slice ao n c] w fun e w' => e = .returned (.tuple #[.agg #[.int .i64 (k : Int), .int .u64 a, .int .u64 b], .int .i64 0]) ∧ Below w.heap.size w w' := by
  obtain ⟨f1, a1, b1⟩ := mk_back hk h0 ha hb hE
  refine (read_yes h hn hk h0 f1).mono ?_
  rw [a1, b1]
  exact fun e w' h => h
theorem mk_len (k a b : Int) : (mk k a b).length ≤ 18 := by
  unfold mk
  rw [List.length_append]
  have := mkb_len (frm k) (tn k a)
  split
  · rw [be_length]; omega
  · simp; omega
end Ky
end Go.Proofs.YtjmkhdlhjnlbiaaGreat
