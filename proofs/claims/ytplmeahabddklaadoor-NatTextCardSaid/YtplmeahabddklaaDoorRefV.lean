/- gleanref1.DivMod: digit by digit from the highest on, each one found by halving. -/
import Derived.Test.YtplmeahabddklaaDoorRefG
import Derived.Laws.OwnMore
namespace Go.Proofs.YtplmeahabddklaaDoor
open Go.RowKit Lim

theorem DigO.nonneg {w : World} {ao : Option Addr} {n c : Nat} {x : Int} (h : DigO w ao n c x) : 0 ≤ x := by
  obtain ⟨b, o, d, h1, h2, h3, h4, h5, rfl⟩ := h.ex
  exact (v32_bound h3).1
theorem DigO.len {w : World} {ao : Option Addr} {n c m : Nat} {x : Int} (h : DigO w ao n c x) (hx : x < 4294967296 ^ m) : n ≤ m := by
  obtain ⟨b, o, d, h1, h2, h3, h4, h5, rfl⟩ := h.ex
  rcases Nat.lt_or_ge m n with e | e
  · have e1 := nlen_last (l := d) (by omega)
    rw [h4] at e1
    have e2 := v32_ge h3 (by omega) e1
    have e3 := pow32_mono (show m ≤ d.length - 1 by omega)
    omega
  · exact e

theorem v32_drop (l : List Int) (m : Nat) : v32 (l.drop m) = nth l m + 4294967296 * v32 (l.drop (m + 1)) := by
  rw [v32_cons, nth_drop, Nat.add_zero]
  congr 2
  rw [List.tail_drop]
theorem v32_drop_set {l : List Int} {m : Nat} (h : m < l.length) (x : Int) : v32 ((l.set m x).drop m) = x + 4294967296 * v32 (l.drop (m + 1)) := by
  rw [v32_drop, nth_set h, if_pos rfl]
  congr 3
  rw [List.drop_set_of_lt (by omega)]
/-- a quotient's digits from m on are laid -/
structure QuoInv (l lq : List Int) (Y R : Int) (n m : Nat) : Prop where
  len : lq.length = n
  dig : Dig32 lq
  quo : v32 (lq.drop m) = v32 (l.drop m) / Y
  rest : R = v32 (l.drop m) % Y
theorem QuoInv.step {l lq : List Int} {Y R q : Int} {n m : Nat} (h : QuoInv l lq Y R n (m + 1)) (hm : m < n) (hY : 0 < Y) (hq : q = (nth l m + 4294967296 * R) / Y) (h0 : 0 ≤ q) (h1 : q ≤ 4294967295) :
    QuoInv l (lq.set m q) Y (nth l m + 4294967296 * R - Y * q) n m := by
  have hl := h.len
  have e1 := Int.mul_ediv_add_emod (v32 (l.drop (m + 1))) Y
  rw [← h.rest] at e1
  have e2 : v32 (l.drop m) = nth l m + 4294967296 * R + Y * (4294967296 * (v32 (l.drop (m + 1)) / Y)) := by
    rw [v32_drop l m, ← e1]
    have : (Y * (v32 (l.drop (m + 1)) / Y) + R) / Y = v32 (l.drop (m + 1)) / Y := by rw [e1]
    rw [this]; grind
  refine ⟨by simp [hl], h.dig.set _ h0 (by omega), ?_, ?_⟩
  · rw [v32_drop_set (by omega), h.quo, e2, Int.add_mul_ediv_left _ _ (by omega), hq]
  · rw [e2, Int.add_mul_emod_self_left, hq]
    have := Int.mul_ediv_add_emod (nth l m + 4294967296 * R) Y
    omega
theorem rest_room {x R Y : Int} (hx : 0 ≤ x ∧ x < 4294967296) (hR : 0 ≤ R) (hY : R < Y) : 0 ≤ x + 4294967296 * R ∧ x + 4294967296 * R < 4294967296 * Y := by omega
/-- by halving -/
theorem half_up {lo hi q mid Y R : Int} (h : lo < hi) (hm : mid = (lo + hi + 1) / 2) (hY : 0 < Y) (hq : q = R / Y) : (Y * mid ≤ R → mid ≤ q) ∧ (¬ Y * mid ≤ R → q ≤ mid - 1) ∧ lo < mid ∧ mid ≤ hi := by
  refine ⟨fun h => ?_, fun h => ?_, by omega, by omega⟩
  · rw [hq]; exact (Int.le_ediv_iff_mul_le hY).2 (by rw [Int.mul_comm]; exact h)
  · have : R / Y < mid := Int.ediv_lt_of_lt_mul hY (by rw [Int.mul_comm mid]; omega)
    omega

/-- a digit ahead of digits, in memory from block B on -/
theorem wpList_consR {w : World} {ops : Array Oper} {rest : List Oper} {o : Oper} {a : Act} {Q : Exit → Act → World → Prop}
    (hg : o.guard = none) (d s : Operand) (hop : o.op = .call { callee := .builtin .append, args := #[d, s], argTypes := #[22, 22] })
    (B : Nat) (x : Int) (v : Value) (hd : a.eval d = v) (hown : w.ownsRow B 33 1 v 1 [.int .u64 x]) (hB : B ≤ w.heap.size)
    (ar : Option Addr) (kr dr b f : Nat) (hs : a.eval s = .slice ar kr dr) (ds : List Int) (hl : ds.length = kr) (hat : At w ar b f ds) (hnil : ar = none → kr = 0 ∧ dr = 0) (hbig : kr ≤ 1099511627776)
    (hK : ∀ v' w', Mine w' B v' (x :: ds) → Below B w w' → wpList Tryd.prog ops Q rest (a.put o.dst v') w') :
    wpList Tryd.prog ops Q (o :: rest) a w := by
  obtain ⟨i0, hi, hz0, hz1, hz2⟩ := info_parts info_u64
  cases ar with
  | none =>
    obtain ⟨h1, h2⟩ := hnil rfl
    have e0 : ds = [] := List.eq_nil_of_length_eq_zero (by omega)
    subst e0
    subst h1
    subst h2
    exact wpList_append_own_none hg d s 22 hop B 33 i0 1 under_u64r hi v 1 _ hd hown hs (hK v w hown (Below.refl _ _))
  | some ad =>
    have hsrc : ∀ j u, (ds.map (Value.int .u64))[j]? = some u → w.cell? (ad.add j) = some u := by
      intro j u hu
      rw [List.getElem?_map] at hu
      have hj : j < ds.length := by
        rcases Nat.lt_or_ge j ds.length with hj | hj
        · exact hj
        · rw [List.getElem?_eq_none hj] at hu; simp at hu
      rw [List.getElem?_eq_getElem hj] at hu
      simp at hu
      subst hu
      have hx : ad = ⟨b, f, none⟩ := by
        rcases hat.loc with e | e
        · subst e; simp at hj
        · simpa using e
      subst hx
      have := hat.cell j hj
      rw [nth_eq hj] at this
      rw [← this]
      by_cases hj0 : j = 0
      · subst hj0; exact congrArg w.cell? (by simp [Addr.add])
      · exact congrArg w.cell? (by simp [Addr.add, hj0])
    refine wpList_append_own _ hg d s 22 hop B 33 i0 (.int .u64 0) 1 8 under_u64r hi hz0 hz1 hz2 rfl (by decide) v 1 _ hd hown ad kr dr (ds.map (Value.int .u64)) hs (by simp [hl]) hsrc (ints_oneCell _ _) (by unfold maxLen; omega) (by omega) hB ?_
    intro v' w' hown' hgrow _
    refine hK v' w' ?_ ((Below.refl _ _).grown hgrow hB (own_ge hown))
    unfold Mine
    rw [List.length_cons, hl, Nat.add_comm]
    simpa using hown'
theorem zrep_drop (n m : Nat) : v32 ((List.replicate n 0).drop m) = 0 := v32_zeros fun i => by
  rw [nth_drop]; simp [nth, List.getElem?_replicate]; split <;> rfl
theorem norm_cons_val (x : Int) (ds : List Int) : v32 (norm (x :: ds)) = x + 4294967296 * v32 ds := by rw [v32_norm]; rfl

set_option maxHeartbeats 1000000 in
set_option maxRecDepth 100000 in
theorem rDivZero {w : World} {ao ao' : Option Addr} {n c n' c' : Nat} {x y : Int} (h : NatA w ao n c x) (h' : NatA w ao' n' c' y) (hn : n ≤ 137438953472) (hn' : n' ≤ 137438953472) (hz : y = 0) :
    Calls Tryd.prog 34 #[.slice ao n c, .slice ao' n' c'] w fun e w' => e = .returned (.tuple #[.slice none 0 0, .slice none 0 0, .int .i64 11]) ∧ Below w.heap.size w w' := by
  go_enter Tryd.func34, Tryd.ntmps34
  go_wp2_with fail
  refine (rDigits h (by omega)).mono ?_
  rintro e w1 ⟨a1, k1, d1, rfl, O1, hk1, hB⟩
  have HB := hB
  replace h' := h'.keep hB
  clear hB
  go_wp2_with fail
  refine (rDigits h' (by omega)).mono ?_
  rintro e w2 ⟨a2, k2, d2, rfl, O2, hk2, hB⟩
  replace HB := joinB HB hB
  clear hB h h'
  have hk0 : k2 ≤ 0 := O2.len (by rw [hz]; decide)
  obtain rfl : k2 = 0 := by omega
  clear hz O1 O2
  go_wp2
  go_ret3
  exact ⟨rfl, HB⟩
end Go.Proofs.YtplmeahabddklaaDoor
