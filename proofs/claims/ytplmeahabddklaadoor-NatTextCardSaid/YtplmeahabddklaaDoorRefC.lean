/- gleanref1.cmp and Cmp: which is greater. -/
import Derived.Test.YtplmeahabddklaaDoorRefD
import Derived.Test.YtplmeahabddklaaDoorNm
namespace Go.Proofs.YtplmeahabddklaaDoor
open Go.RowKit Lim

theorem v32_cons (l : List Int) : v32 l = nth l 0 + 4294967296 * v32 l.tail := by
  cases l with
  | nil => simp [v32, nth]
  | cons x l => simp [v32, nth_zero]
theorem dig_tl {l : List Int} (h : Dig32 l) : Dig32 l.tail := fun x hx => h x (List.mem_of_mem_tail hx)
theorem v32_ext : ∀ {a b : List Int}, (∀ i, nth a i = nth b i) → v32 a = v32 b
  | [], b, h => by rw [v32_zeros (l := b) fun i => by rw [← h i, nth_nil]]; rfl
  | x :: a, b, h => by
    have h0 := h 0
    rw [v32_cons (x :: a), v32_cons b, h0, v32_ext (a := (x :: a).tail) (b := b.tail) fun i => by rw [nth_tail, nth_tail]; exact h (i + 1)]
theorem v32_lt_at : ∀ (h : Nat) {a b : List Int}, Dig32 a → Dig32 b → (∀ i, h < i → nth a i = nth b i) → nth a h < nth b h → v32 a < v32 b
  | 0, a, b, ha, hb, he, hl => by
    rw [v32_cons a, v32_cons b, v32_ext (a := a.tail) (b := b.tail) fun i => by rw [nth_tail, nth_tail]; exact he (i + 1) (by omega)]
    omega
  | h + 1, a, b, ha, hb, he, hl => by
    have ih := v32_lt_at h (dig_tl ha) (dig_tl hb) (fun i hi => by rw [nth_tail, nth_tail]; exact he (i + 1) (by omega)) (by rw [nth_tail, nth_tail]; exact hl)
    have h1 := (ha.nth 0)
    have h2 := (hb.nth 0)
    rw [v32_cons a, v32_cons b]
    omega
theorem v32_len {a b : List Int} (ha : Dig32 a) (hb : Dig32 b) (nb : nlen b = b.length) (h : a.length < b.length) : v32 a < v32 b := by
  refine v32_lt_at (b.length - 1) ha hb (fun i hi => by rw [nth_ge (by omega), nth_ge (by omega)]) ?_
  rw [nth_ge (l := a) (by omega)]
  have h1 := nlen_last (l := b) (by omega)
  rw [nb] at h1
  have := (hb.nth (b.length - 1)).1
  omega

set_option maxHeartbeats 1000000 in
set_option maxRecDepth 100000 in
theorem refcmp_any (ao : Option Addr) (n c b o : Nat) (ao' : Option Addr) (n' c' b' o' : Nat) (l l' : List Int) (w : World) (hl : l.length = n) (hl' : l'.length = n') (hbig : n ≤ 1099511627776) (hbig' : n' ≤ 1099511627776)
    (dl : Dig32 l) (dl' : Dig32 l') (nl : nlen l = l.length) (nl' : nlen l' = l'.length) (ha : At w ao b o l) (ha' : At w ao' b' o' l') :
    Calls Tryd.prog 48 #[.slice ao n c, .slice ao' n' c'] w fun e w' => e = .returned (.int .i64 (sgn (v32 l) (v32 l'))) ∧ Below w.heap.size w w' := by
  rcases Nat.lt_trichotomy n n' with hlt | heq | hgt
  · rw [sgn_lt (v32_len dl dl' nl' (by omega))]
    have h1 : (n : Int) < n' := by omega
    go_enter Tryd.func48, Tryd.ntmps48
    go_wp2
    go_ret
    exact ⟨rfl, Below.refl _ _⟩
  · subst heq
    go_enter Tryd.func48, Tryd.ntmps48
    go_wp2_with fail
    go_loopw [5] (fun ti wr => ∃ k : Nat, k ≤ n ∧ ti = .int .i64 ((k : Int) - 1) ∧ Hid (∀ i, k ≤ i → nth l i = nth l' i) ∧ Below w.heap.size w wr) (fun ti _ => (intOf ti + 1).toNat)
    case atStart => exact ⟨n, Nat.le_refl _, by first | rfl | go_num, fun i hi => by rw [nth_ge (by omega), nth_ge (by omega)], Below.refl _ _⟩
    case round =>
      obtain ⟨k, hk, rfl, hz, hbe⟩ := hrel
      cases k with
      | zero =>
        have HE : Hid (sgn (v32 l) (v32 l') = 0) := sgn_eq (v32_ext fun i => hz.out i (Nat.zero_le _))
        go_wp2
        go_ret
        exact ⟨ret1 HE.out.symm, hbe⟩
      | succ m =>
        have hat := ha.keep hbe
        have hat' := ha'.keep hbe
        rcases ha.loc with e | rfl
        · subst e; simp at hl; omega
        rcases ha'.loc with e | rfl
        · subst e; simp at hl'; omega
        have q1 := hat.cell m (by omega)
        have q2 := hat'.cell m (by omega)
        have hm0 : (m : Int) < n := by omega
        have hz' : ∀ i, m < i → nth l i = nth l' i := fun i hi => hz.out i hi
        rw [show ((m + 1 : Nat) : Int) - 1 = (m : Int) by omega]
        rcases Int.lt_trichotomy (nth l m) (nth l' m) with hd | hd | hd
        · have HE : Hid (sgn (v32 l) (v32 l') = -1) := sgn_lt (v32_lt_at m dl dl' hz' hd)
          generalize nth l m = x at *
          generalize nth l' m = y at *
          clear ha ha' hat hat' hz' hz
          go_wp2_with fail
          go_quiet (fail)
          go_wp2
          go_ret
          exact ⟨ret1 HE.out.symm, below_drewN hbe _⟩
        · have HE : Hid (∀ i, m ≤ i → nth l i = nth l' i) := fun i hi => by
            by_cases e : i = m
            · subst e; exact hd
            · exact hz' i (by omega)
          rw [hd] at q1
          generalize nth l' m = y at q1 q2
          clear ha ha' hat hat' hz' hz hd
          go_wp2_with fail
          go_quiet (fail)
          go_wp2_with fail
          go_quiet (fail)
          go_wp2
          go_roundw
          case rel => exact ⟨m, by omega, by first | rfl | go_num, HE, below_drewN hbe _⟩
          case measure => simp [intOf]
        · have HE : Hid (sgn (v32 l) (v32 l') = 1) := sgn_gt (v32_lt_at m dl' dl (fun i hi => (hz' i hi).symm) hd)
          generalize nth l m = x at *
          generalize nth l' m = y at *
          clear ha ha' hat hat' hz' hz
          go_wp2_with fail
          go_quiet (fail)
          go_wp2_with fail
          go_quiet (fail)
          go_wp2
          go_ret
          exact ⟨ret1 HE.out.symm, below_drewN (below_drewN hbe _) _⟩
  · rw [sgn_gt (v32_len dl' dl nl (by omega))]
    have h1 : (n' : Int) < n := by omega
    go_enter Tryd.func48, Tryd.ntmps48
    go_wp2
    go_ret
    exact ⟨rfl, Below.refl _ _⟩

/-- digits in memory, worth x -/
structure DigO (w : World) (ao : Option Addr) (n c : Nat) (x : Int) : Prop where
  ex : ∃ b o d, d.length = n ∧ n ≤ c ∧ Dig32 d ∧ nlen d = d.length ∧ At w ao b o d ∧ v32 d = x
theorem DigO.keep {w w' : World} {ao : Option Addr} {n c : Nat} {x : Int} (h : DigO w ao n c x) (hb : Below w.heap.size w w') : DigO w' ao n c x := by
  obtain ⟨b, o, d, h1, h2, h3, h4, h5, h6⟩ := h.ex
  exact ⟨b, o, d, h1, h2, h3, h4, h5.keep hb, h6⟩
theorem rDigits {w : World} {ao : Option Addr} {n c : Nat} {x : Int} (h : NatA w ao n c x) (hn : n ≤ 274877906944) :
    Calls Tryd.prog 47 #[.slice ao n c] w fun e w' => ∃ a k d, e = .returned (.slice a k d) ∧ DigO w' a k d x ∧ k ≤ 2 * n ∧ Below w.heap.size w w' := by
  obtain ⟨b, o, l, h1, h2, h3, h4, rfl⟩ := h.ex
  refine (digits_any ao n c b o l w h1 hn h3 h4).mono ?_
  rintro e w' ⟨v, d, rfl, hnw, hD, hN, hv, hlen, hB⟩
  obtain ⟨ao', b', o', c', e', h5, _, h7, _⟩ := hnw.is
  exact ⟨ao', _, c', by rw [e'], ⟨b', o', d, rfl, h5, hD, hN, h7, hv⟩, hlen, hB⟩
theorem rcmp {w : World} {ao ao' : Option Addr} {n c n' c' : Nat} {x y : Int} (h : DigO w ao n c x) (h' : DigO w ao' n' c' y) (hn : n ≤ 1099511627776) (hn' : n' ≤ 1099511627776) :
    Calls Tryd.prog 48 #[.slice ao n c, .slice ao' n' c'] w fun e w' => e = .returned (.int .i64 (sgn x y)) ∧ Below w.heap.size w w' := by
  obtain ⟨b, o, d, h1, h2, h3, h4, h5, rfl⟩ := h.ex
  obtain ⟨b', o', d', h1', h2', h3', h4', h5', rfl⟩ := h'.ex
  exact refcmp_any ao n c b o ao' n' c' b' o' d d' w h1 h1' hn hn' h3 h3' h4 h4' h5 h5'
set_option maxHeartbeats 1000000 in
set_option maxRecDepth 100000 in
theorem rCmp {w : World} {ao ao' : Option Addr} {n c n' c' : Nat} {x y : Int} (h : NatA w ao n c x) (h' : NatA w ao' n' c' y) (hn : n ≤ 274877906944) (hn' : n' ≤ 274877906944) :
    Calls Tryd.prog 24 #[.slice ao n c, .slice ao' n' c'] w fun e w' => e = .returned (.int .i64 (sgn x y)) ∧ Below w.heap.size w w' := by
  go_enter Tryd.func24, Tryd.ntmps24
  go_wp2_with fail
  refine (rDigits h hn).mono ?_
  rintro e w1 ⟨a1, k1, d1, rfl, O1, hk1, hB⟩
  have HB := hB
  have h' := h'.keep hB
  clear hB
  go_wp2_with fail
  refine (rDigits h' hn').mono ?_
  rintro e w2 ⟨a2, k2, d2, rfl, O2, hk2, hB⟩
  have HB := joinB HB hB
  have O1 := O1.keep hB
  clear hB
  go_wp2_with fail
  refine (rcmp O1 O2 (by omega) (by omega)).mono ?_
  rintro e w3 ⟨rfl, hB⟩
  go_wp2
  go_ret
  exact ⟨rfl, joinB HB hB⟩
end Go.Proofs.YtplmeahabddklaaDoor
