/- gleanlaw7.KeysOrder: two keys: read again they are the same; neither is the other's beginning; in order. -/
import Derived.Test.YtfljmcfipnmkgaaKyYa
import Derived.Test.YtfljmcfipnmkgaaKyYb
import Derived.Test.YtfljmcfipnmkgaaKyYc
namespace Go.Proofs.Ytfljmcfipnmkgaa
namespace Ky
open Go.RowKit Go.Lib Pg
attribute [local go_sem] Oper.semAt_some
theorem castk (m : Nat) : (1 + (m : Int)) = ((1 + m : Nat) : Int) := by omega
theorem mk_injI {m o : Nat} (hm : m < 17) (ho : o < 17) {a b c d : Int} (ha : U64 a) (hb : U64 b) (hc : U64 c) (hd : U64 d) (hE : mkE (1 + (m : Int)) a b = false) (hF : mkE (1 + (o : Int)) c d = false) (h : mk (1 + (m : Int)) a b = mk (1 + (o : Int)) c d) : m = o ∧ a = c ∧ b = d := by
  rw [castk] at hE hF h
  rw [castk] at h
  obtain ⟨h1, h2⟩ := mk_inj (by omega) (by omega) (by omega) (by omega) ha hb hc hd hE hF h
  exact ⟨by omega, h2⟩
theorem mk_preI {m o : Nat} (hm : m < 17) (ho : o < 17) {a b c d : Int} (ha : U64 a) (hb : U64 b) (hc : U64 c) (hd : U64 d) (hE : mkE (1 + (m : Int)) a b = false) (hF : mkE (1 + (o : Int)) c d = false) (h : mk (1 + (m : Int)) a b <+: mk (1 + (o : Int)) c d) : mk (1 + (m : Int)) a b = mk (1 + (o : Int)) c d := by
  rw [castk m] at hE h ⊢
  rw [castk o] at hF h ⊢
  exact mk_pre (by omega) (by omega) (by omega) (by omega) ha hb hc hd hE hF h
theorem mk_ltI {m : Nat} (hm : m < 17) {a b c d : Int} (ha : U64 a) (hb : U64 b) (hc : U64 c) (hd : U64 d) (hE : mkE (1 + (m : Int)) a b = false) (hF : mkE (1 + (m : Int)) c d = false) : Lt (mk (1 + (m : Int)) a b) (mk (1 + (m : Int)) c d) ↔ (if m = 9 then c < a else a < c) ∨ (a = c ∧ b < d) := by
  rw [castk m] at hE hF ⊢
  rw [mk_lt (by omega) (by omega) ha hb hc hd hE hF]
  by_cases h : m = 9
  · subst h; simp
  · rw [if_neg h, if_neg (by omega)]
theorem ko1 {w : World} {kind other a b c d : Int} {m m2 : Nat} (hm : m < 17) (hm2 : m2 < 17) (hp : plk kind 17 = m) (hp2 : plk other 17 = m2) (ha : U64 a) (hb : U64 b) (hc : U64 c) (hd : U64 d) (hE : mkE (1 + (m : Int)) a b = false) :
    Calls Try.prog 5 #[.int .i64 kind, .int .i64 other, .int .u64 a, .int .u64 b, .int .u64 c, .int .u64 d] w fun e w' => e = .returned (.bool true) ∧ Below w.heap.size w w' := by
  have z0 : U64 0 := by decide
  cases hF : mkE (1 + (m2 : Int)) c d with
  | true => exact ko1_no hm hm2 hp hp2 ha hb hc hE hF
  | false =>
    have i1 := mk_injI hm hm2 ha hb hc hd hE hF
    have i2 := mk_preI hm hm2 ha hb hc hd hE hF
    have i3 := fun h => (mk_preI hm2 hm hc hd ha hb hF hE h).symm
    by_cases hmm : m = m2
    · subst hmm
      have i4 := mk_ltI hm ha hb hc hd hE hF
      by_cases hAc : a = c
      · subst hAc
        by_cases hBd : b = d
        · subst hBd
          by_cases h9 : m = 9
          · subst h9; exact ko1_same10 hp hp2 ha hb hE hF (decide_eq_false not_lt_self)
          · exact ko1_same hm hp hp2 ha hb hE hF h9 (decide_eq_false not_lt_self)
        · have n1 : ¬ mk (1 + (m : Int)) a b = mk (1 + (m : Int)) a d := fun h => hBd (i1 h).2.2
          have l1 : decide (Lt (mk (1 + (m : Int)) a b) (mk (1 + (m : Int)) a d)) = decide (b < d) := by
            rw [decide_eq_decide, i4]
            constructor
            · rintro (h | h)
              · split at h <;> omega
              · exact h.2
            · intro h; exact .inr ⟨rfl, h⟩
          by_cases h9 : m = 9
          · subst h9; exact ko1_bs10 hp hp2 ha hb hE hF hBd n1 (fun h => n1 (i2 h)) (fun h => n1 (i3 h)) l1
          · exact ko1_bs hm hp hp2 ha hb hE hF hBd h9 n1 (fun h => n1 (i2 h)) (fun h => n1 (i3 h)) l1
      · have n1 : ¬ mk (1 + (m : Int)) a b = mk (1 + (m : Int)) c d := fun h => hAc (i1 h).2.1
        by_cases hlt : a < c
        · by_cases h9 : m = 9
          · subst h9; exact ko1_lt10 hp hp2 ha hb hc hE hF hlt n1 (fun h => n1 (i2 h)) (fun h => n1 (i3 h)) (decide_eq_false (by have i5 := i4.1; rw [if_pos rfl] at i5; intro h; have := i5 h; omega))
          · exact ko1_lt hm hp hp2 ha hb hc hE hF hlt h9 n1 (fun h => n1 (i2 h)) (fun h => n1 (i3 h)) (decide_eq_true (i4.2 (by rw [if_neg h9]; exact .inl hlt)))
        · have hgt : c < a := by omega
          by_cases h9 : m = 9
          · subst h9; exact ko1_gt10 hp hp2 ha hb hc hE hF hgt n1 (fun h => n1 (i2 h)) (fun h => n1 (i3 h)) (decide_eq_true (i4.2 (by rw [if_pos rfl]; exact .inl hgt)))
          · exact ko1_gt hm hp hp2 ha hb hc hE hF hgt h9 n1 (fun h => n1 (i2 h)) (fun h => n1 (i3 h)) (decide_eq_false (by have i5 := i4.1; rw [if_neg h9] at i5; intro h; have := i5 h; omega))
    · have n1 : ¬ mk (1 + (m : Int)) a b = mk (1 + (m2 : Int)) c d := fun h => hmm (i1 h).1
      exact ko1_kinds hm hm2 hp hp2 ha hb hc hE hF hmm n1 (fun h => n1 (i2 h)) (fun h => n1 (i3 h))
theorem ko2 {w : World} {kind other a b c d : Int} {m m2 : Nat} (hm : m < 17) (hm2 : m2 < 17) (hp : plk kind 17 = m) (hp2 : plk other 17 = m2) (ha : U64 a) (hc : U64 c) (hd : U64 d) (hE1 : mkE (1 + (m : Int)) a b = true) (hE : mkE (1 + (m : Int)) a 0 = false) :
    Calls Try.prog 5 #[.int .i64 kind, .int .i64 other, .int .u64 a, .int .u64 b, .int .u64 c, .int .u64 d] w fun e w' => e = .returned (.bool true) ∧ Below w.heap.size w w' := by
  have z0 : U64 0 := by decide
  cases hF : mkE (1 + (m2 : Int)) c d with
  | true => exact ko2_no hm hm2 hp hp2 ha hc hE1 hE hF
  | false =>
    have i1 := mk_injI hm hm2 ha z0 hc hd hE hF
    have i2 := mk_preI hm hm2 ha z0 hc hd hE hF
    have i3 := fun h => (mk_preI hm2 hm hc hd ha z0 hF hE h).symm
    by_cases hmm : m = m2
    · subst hmm
      have i4 := mk_ltI hm ha z0 hc hd hE hF
      by_cases hAc : a = c
      · subst hAc
        by_cases hBd : d = 0
        · subst hBd
          by_cases h9 : m = 9
          · subst h9; exact ko2_same10 hp hp2 ha hE1 hE hF (decide_eq_false not_lt_self)
          · exact ko2_same hm hp hp2 ha hE1 hE hF h9 (decide_eq_false not_lt_self)
        · have n1 : ¬ mk (1 + (m : Int)) a 0 = mk (1 + (m : Int)) a d := fun h => hBd (i1 h).2.2.symm
          have l1 : decide (Lt (mk (1 + (m : Int)) a 0) (mk (1 + (m : Int)) a d)) = decide (0 < d) := by
            rw [decide_eq_decide, i4]
            constructor
            · rintro (h | h)
              · split at h <;> omega
              · exact h.2
            · intro h; exact .inr ⟨rfl, h⟩
          by_cases h9 : m = 9
          · subst h9; exact ko2_bs10 hp hp2 ha hE1 hE hF (fun h => hBd h.symm) n1 (fun h => n1 (i2 h)) (fun h => n1 (i3 h)) l1
          · exact ko2_bs hm hp hp2 ha hE1 hE hF (fun h => hBd h.symm) h9 n1 (fun h => n1 (i2 h)) (fun h => n1 (i3 h)) l1
      · have n1 : ¬ mk (1 + (m : Int)) a 0 = mk (1 + (m : Int)) c d := fun h => hAc (i1 h).2.1
        by_cases hlt : a < c
        · by_cases h9 : m = 9
          · subst h9; exact ko2_lt10 hp hp2 ha hc hE1 hE hF hlt n1 (fun h => n1 (i2 h)) (fun h => n1 (i3 h)) (decide_eq_false (by have i5 := i4.1; rw [if_pos rfl] at i5; intro h; have := i5 h; omega))
          · exact ko2_lt hm hp hp2 ha hc hE1 hE hF hlt h9 n1 (fun h => n1 (i2 h)) (fun h => n1 (i3 h)) (decide_eq_true (i4.2 (by rw [if_neg h9]; exact .inl hlt)))
        · have hgt : c < a := by omega
          by_cases h9 : m = 9
          · subst h9; exact ko2_gt10 hp hp2 ha hc hE1 hE hF hgt n1 (fun h => n1 (i2 h)) (fun h => n1 (i3 h)) (decide_eq_true (i4.2 (by rw [if_pos rfl]; exact .inl hgt)))
          · exact ko2_gt hm hp hp2 ha hc hE1 hE hF hgt h9 n1 (fun h => n1 (i2 h)) (fun h => n1 (i3 h)) (decide_eq_false (by have i5 := i4.1; rw [if_neg h9] at i5; intro h; have := i5 h; omega))
    · have n1 : ¬ mk (1 + (m : Int)) a 0 = mk (1 + (m2 : Int)) c d := fun h => hmm (i1 h).1
      exact ko2_kinds hm hm2 hp hp2 ha hc hE1 hE hF hmm n1 (fun h => n1 (i2 h)) (fun h => n1 (i3 h))
theorem ko3 {w : World} {kind other a b c d : Int} {m m2 : Nat} (hm : m < 17) (hm2 : m2 < 17) (hp : plk kind 17 = m) (hp2 : plk other 17 = m2) (ha : U64 a) (hc : U64 c) (hd : U64 d) (hE1 : mkE (1 + (m : Int)) a b = true) (hE2 : mkE (1 + (m : Int)) a 0 = true) (hE : mkE (1 + (m : Int)) 0 0 = false) :
    Calls Try.prog 5 #[.int .i64 kind, .int .i64 other, .int .u64 a, .int .u64 b, .int .u64 c, .int .u64 d] w fun e w' => e = .returned (.bool true) ∧ Below w.heap.size w w' := by
  have z0 : U64 0 := by decide
  cases hF : mkE (1 + (m2 : Int)) c d with
  | true => exact ko3_no hm hm2 hp hp2 ha hc hE1 hE2 hE hF
  | false =>
    have i1 := mk_injI hm hm2 z0 z0 hc hd hE hF
    have i2 := mk_preI hm hm2 z0 z0 hc hd hE hF
    have i3 := fun h => (mk_preI hm2 hm hc hd z0 z0 hF hE h).symm
    by_cases hmm : m = m2
    · subst hmm
      have i4 := mk_ltI hm z0 z0 hc hd hE hF
      by_cases hAc : c = 0
      · subst hAc
        by_cases hBd : d = 0
        · subst hBd
          by_cases h9 : m = 9
          · subst h9; exact ko3_same10 hp hp2 ha hE1 hE2 hE hF (decide_eq_false not_lt_self)
          · exact ko3_same hm hp hp2 ha hE1 hE2 hE hF h9 (decide_eq_false not_lt_self)
        · have n1 : ¬ mk (1 + (m : Int)) 0 0 = mk (1 + (m : Int)) 0 d := fun h => hBd (i1 h).2.2.symm
          have l1 : decide (Lt (mk (1 + (m : Int)) 0 0) (mk (1 + (m : Int)) 0 d)) = decide (0 < d) := by
            rw [decide_eq_decide, i4]
            constructor
            · rintro (h | h)
              · split at h <;> omega
              · exact h.2
            · intro h; exact .inr ⟨rfl, h⟩
          by_cases h9 : m = 9
          · subst h9; exact ko3_bs10 hp hp2 ha hE1 hE2 hE hF (fun h => hBd h.symm) n1 (fun h => n1 (i2 h)) (fun h => n1 (i3 h)) l1
          · exact ko3_bs hm hp hp2 ha hE1 hE2 hE hF (fun h => hBd h.symm) h9 n1 (fun h => n1 (i2 h)) (fun h => n1 (i3 h)) l1
      · have n1 : ¬ mk (1 + (m : Int)) 0 0 = mk (1 + (m : Int)) c d := fun h => hAc (i1 h).2.1.symm
        by_cases hlt : 0 < c
        · by_cases h9 : m = 9
          · subst h9; exact ko3_lt10 hp hp2 ha hc hE1 hE2 hE hF hlt n1 (fun h => n1 (i2 h)) (fun h => n1 (i3 h)) (decide_eq_false (by have i5 := i4.1; rw [if_pos rfl] at i5; intro h; have := i5 h; omega))
          · exact ko3_lt hm hp hp2 ha hc hE1 hE2 hE hF hlt h9 n1 (fun h => n1 (i2 h)) (fun h => n1 (i3 h)) (decide_eq_true (i4.2 (by rw [if_neg h9]; exact .inl hlt)))
        · have hgt : c < 0 := by omega
          exfalso; have := hc.1; omega
    · have n1 : ¬ mk (1 + (m : Int)) 0 0 = mk (1 + (m2 : Int)) c d := fun h => hmm (i1 h).1
      exact ko3_kinds hm hm2 hp hp2 ha hc hE1 hE2 hE hF hmm n1 (fun h => n1 (i2 h)) (fun h => n1 (i3 h))
theorem keysOrder_walk {w : World} {kind other a b c d : Int} (_ : -9223372036854775808 ≤ kind ∧ kind ≤ 9223372036854775807) (_ : -9223372036854775808 ≤ other ∧ other ≤ 9223372036854775807) (ha : U64 a) (hb : U64 b) (hc : U64 c) (hd : U64 d) :
    Calls Try.prog 5 #[.int .i64 kind, .int .i64 other, .int .u64 a, .int .u64 b, .int .u64 c, .int .u64 d] w fun e w' => e = .returned (.bool true) ∧ Below w.heap.size w w' := by
  obtain ⟨m, hp⟩ : ∃ m, plk kind 17 = m := ⟨_, rfl⟩
  obtain ⟨m2, hp2⟩ : ∃ m, plk other 17 = m := ⟨_, rfl⟩
  have hm : m < 17 := by rw [← hp]; exact plk_lt kind (by decide)
  have hm2 : m2 < 17 := by rw [← hp2]; exact plk_lt other (by decide)
  cases h1 : mkE (1 + (m : Int)) a b with
  | false => exact ko1 hm hm2 hp hp2 ha hb hc hd h1
  | true =>
    cases h2 : mkE (1 + (m : Int)) a 0 with
    | false => exact ko2 hm hm2 hp hp2 ha hc hd h1 h2
    | true =>
      have h3 : mkE (1 + (m : Int)) 0 0 = false := by
        have hf := frm_pos (1 + m) (by omega) (by omega)
        rw [← castk] at hf
        exact (mkE_eq (n := (frm (1 + (m : Int))).1) (m0 := (frm (1 + (m : Int))).2.1) (m1 := (frm (1 + (m : Int))).2.2) rfl (by omega)).2 ⟨fun _ => rfl, fun _ => rfl⟩
      exact ko3 hm hm2 hp hp2 ha hc hd h1 h2 h3
end Ky
end Go.Proofs.Ytfljmcfipnmkgaa
