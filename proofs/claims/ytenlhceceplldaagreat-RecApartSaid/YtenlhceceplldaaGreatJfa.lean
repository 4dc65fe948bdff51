/- Several texts, joined: Spoil, SmallN, RefC, RefS, RefM, RefA, RefT, Fresh, RcP, RcQ, RcR, RcS. -/
import Derived.Test.YtenlhceceplldaaGreatJba
import Derived.Test.YtenlhceceplldaaGreatJef
import Derived.Test.YtenlhceceplldaaGreatJca
import Derived.ChangeArms
import Derived.SizedLaws
namespace Go.Proofs.YtenlhceceplldaaGreat
open Go.RowKit Lim

theorem xor_word (x y : Int) : 0 ≤ bits .xor .u64 x y ∧ bits .xor .u64 x y < 18446744073709551616 := by
  unfold bits
  rw [IntKind.wrap_u64]
  omega
end Go.Proofs.YtenlhceceplldaaGreat

namespace Go.Proofs.YtenlhceceplldaaGreat
open Go.RowKit Lim

theorem fits_iff {l : List Int} (wl : Words l) : val l < 18446744073709551616 ↔ nlen l ≤ 1 := by
  constructor
  · intro h
    rcases Nat.lt_or_ge 1 (nlen l) with e | e
    · have h5 := val_ge_of_nlen wl (by omega)
      have h6 := pow_mono (show 1 ≤ nlen l - 1 by omega)
      have h7 : (18446744073709551616 : Int) ^ 1 = 18446744073709551616 := by decide
      omega
    · exact e
  · intro h
    have h1 := val_lt_nlen wl
    have h2 := pow_mono h
    have h7 : (18446744073709551616 : Int) ^ 1 = 18446744073709551616 := by decide
    omega

end Go.Proofs.YtenlhceceplldaaGreat

namespace Go.Proofs.YtenlhceceplldaaGreat
open Go.RowKit Lim

theorem v32_cons (l : List Int) : v32 l = nth l 0 + 4294967296 * v32 l.tail := by
  cases l with
  | nil => simp [v32, nth]
  | cons x l => simp [v32, nth_zero]
theorem dig_tl {l : List Int} (h : Dig32 l) : Dig32 l.tail := fun x hx => h x (List.mem_of_mem_tail hx)
theorem v32_ext : ∀ {a b : List Int}, (∀ i, nth a i = nth b i) → v32 a = v32 b
  | [], b, h => by rw [v32_zeros (l := b) fun i => by rw [← h i, nth_nil]]; rfl
  | x :: a, b, h => by
    have h0 := h 0
    rw [v32_cons (x :: a), v32_cons b, h0, v32_ext (a := (x :: a).tail) (b := b.tail) fun i => by rw [nth_tail, nth_tail]; exact h (i + 1)]
theorem v32_lt_at : ∀ (h : Nat) {a b : List Int}, Dig32 a → Dig32 b → (∀ i, h < i → nth a i = nth b i) → nth a h < nth b h → v32 a < v32 b
  | 0, a, b, ha, hb, he, hl => by
    rw [v32_cons a, v32_cons b, v32_ext (a := a.tail) (b := b.tail) fun i => by rw [nth_tail, nth_tail]; exact he (i + 1) (by omega)]
    omega
  | h + 1, a, b, ha, hb, he, hl => by
    have ih := v32_lt_at h (dig_tl ha) (dig_tl hb) (fun i hi => by rw [nth_tail, nth_tail]; exact he (i + 1) (by omega)) (by rw [nth_tail, nth_tail]; exact hl)
    have h1 := (ha.nth 0)
    have h2 := (hb.nth 0)
    rw [v32_cons a, v32_cons b]
    omega
theorem v32_len {a b : List Int} (ha : Dig32 a) (hb : Dig32 b) (nb : nlen b = b.length) (h : a.length < b.length) : v32 a < v32 b := by
  refine v32_lt_at (b.length - 1) ha hb (fun i hi => by rw [nth_ge (by omega), nth_ge (by omega)]) ?_
  rw [nth_ge (l := a) (by omega)]
  have h1 := nlen_last (l := b) (by omega)
  rw [nb] at h1
  have := (hb.nth (b.length - 1)).1
  omega

/-- digits in memory, worth x -/
structure DigO (w : World) (ao : Option Addr) (n c : Nat) (x : Int) : Prop where
  ex : ∃ b o d, d.length = n ∧ n ≤ c ∧ Dig32 d ∧ nlen d = d.length ∧ At w ao b o d ∧ v32 d = x
theorem DigO.keep {w w' : World} {ao : Option Addr} {n c : Nat} {x : Int} (h : DigO w ao n c x) (hb : Below w.heap.size w w') : DigO w' ao n c x := by
  obtain ⟨b, o, d, h1, h2, h3, h4, h5, h6⟩ := h.ex
  exact ⟨b, o, d, h1, h2, h3, h4, h5.keep hb, h6⟩
theorem rDigits {w : World} {ao : Option Addr} {n c : Nat} {x : Int} (h : NatA w ao n c x) (hn : n ≤ 274877906944) :
    Calls Tryz.prog 177 #[.slice ao n c] w fun e w' => ∃ a k d, e = .returned (.slice a k d) ∧ DigO w' a k d x ∧ k ≤ 2 * n ∧ Below w.heap.size w w' := by
  obtain ⟨b, o, l, h1, h2, h3, h4, rfl⟩ := h.ex
  refine (digits_any ao n c b o l w h1 hn h3 h4).mono ?_
  rintro e w' ⟨v, d, rfl, hnw, hD, hN, hv, hlen, hB⟩
  obtain ⟨ao', b', o', c', e', h5, _, h7, _⟩ := hnw.is
  exact ⟨ao', _, c', by rw [e'], ⟨b', o', d, rfl, h5, hD, hN, h7, hv⟩, hlen, hB⟩
end Go.Proofs.YtenlhceceplldaaGreat

namespace Go.Proofs.YtenlhceceplldaaGreat
open Go.RowKit Lim

theorem rNumber {w : World} {ao : Option Addr} {n c : Nat} {x : Int} (h : DigO w ao n c x) (hn : n ≤ 1099511627776) :
    Calls Tryz.prog 222 #[.slice ao n c] w fun e w' => ∃ a k d, e = .returned (.slice a k d) ∧ NatO w' a k d x ∧ k ≤ n ∧ Below w.heap.size w w' := by
  obtain ⟨b, o, d, h1, h2, h3, h4, h5, rfl⟩ := h.ex
  refine (number_any ao n c b o d w h1 h2 hn h3 h5).mono ?_
  rintro e w' ⟨v, r, rfl, hnw, hI, hlen, hB⟩
  obtain ⟨a, d', rfl, hO⟩ := hnw.o hI
  exact ⟨a, _, d', rfl, hO, hlen, hB⟩
set_option maxHeartbeats 1000000 in
set_option maxRecDepth 100000 in
theorem rNorm {w : World} {ao : Option Addr} {n c : Nat} {x : Int} (h : NatA w ao n c x) (hn : n ≤ 274877906944) :
    Calls Tryz.prog 219 #[.slice ao n c] w fun e w' => ∃ a k d, e = .returned (.slice a k d) ∧ NatO w' a k d x ∧ k ≤ 2 * n ∧ Below w.heap.size w w' := by
  go_enter Tryz.func219, Tryz.ntmps219
  go_wp2_with fail
  refine (rDigits h hn).mono ?_
  rintro e w1 ⟨a1, k1, d1, rfl, O1, hk1, hB⟩
  have HB := hB
  clear hB
  go_wp2_with fail
  refine (rNumber O1 (by omega)).mono ?_
  rintro e w2 ⟨a2, k2, d2, rfl, O2, hk2, hB⟩
  go_wp2
  go_ret
  exact ⟨a2, k2, d2, rfl, O2, by omega, joinB HB hB⟩
end Go.Proofs.YtenlhceceplldaaGreat

namespace Go.Proofs.YtenlhceceplldaaGreat
open Go.RowKit Lim

theorem p32_pos (k : Nat) : (0 : Int) < 4294967296 ^ k := Int.pow_pos (by decide)
theorem v32_take_succ (l : List Int) (k : Nat) : v32 (l.take (k + 1)) = v32 (l.take k) + 4294967296 ^ k * nth l k := by
  by_cases h : k < l.length
  · rw [take_succ_nth h, v32_append, List.length_take, Nat.min_eq_left (by omega)]; simp [v32]
  · rw [List.take_of_length_le (by omega), List.take_of_length_le (by omega), nth_ge (by omega)]; simp
theorem v32_set {l : List Int} {i : Nat} (h : i < l.length) (x : Int) : v32 (l.set i x) = v32 l + 4294967296 ^ i * (x - nth l i) := by
  induction l generalizing i with
  | nil => simp at h
  | cons y l ih =>
    cases i with
    | zero => simp only [List.set_cons_zero, v32, nth_zero, Int.pow_zero]; omega
    | succ i =>
      rw [List.set_cons_succ, v32, v32, nth_succ, ih (by simpa using h), Int.pow_succ]
      grind
theorem v32_take_set {l : List Int} {k : Nat} (h : k < l.length) (x : Int) : v32 ((l.set k x).take (k + 1)) = v32 (l.take k) + 4294967296 ^ k * x := by
  rw [v32_take_succ, nth_set h, if_pos rfl, List.take_set_of_le (by omega)]
theorem Dig32.set {l : List Int} (h : Dig32 l) (k : Nat) {x : Int} (h0 : 0 ≤ x) (h1 : x < 4294967296) : Dig32 (l.set k x) := by
  intro y hy
  rcases List.mem_or_eq_of_mem_set hy with e | e
  · exact h y e
  · subst e; exact ⟨h0, h1⟩
theorem dig_zero (n : Nat) : Dig32 (List.replicate n 0) := fun x hx => by
  have := (List.mem_replicate.1 hx).2
  subst this; decide
theorem v32_zero (n : Nat) : v32 (List.replicate n 0) = 0 := v32_zeros fun i => by simp [nth, List.getElem?_replicate]; split <;> rfl

/-- k digits of a sum are laid -/
structure SumInv (x y lz : List Int) (n k : Nat) (c : Int) : Prop where
  len : lz.length = n
  dig : Dig32 lz
  c0 : 0 ≤ c
  c1 : c ≤ 1
  val : v32 (lz.take k) + 4294967296 ^ k * c = v32 (x.take k) + v32 (y.take k)
theorem SumInv.step {x y lz : List Int} {n k : Nat} {c s : Int} (h : SumInv x y lz n k c) (hk : k < n) (hx : Dig32 x) (hy : Dig32 y) (hs : s = c + nth x k + nth y k) :
    SumInv x y (lz.set k (s % 4294967296)) n (k + 1) (s / 4294967296) := by
  have h1 := hx.nth k
  have h2 := hy.nth k
  have h3 := h.c0
  have h4 := h.c1
  have h5 := h.val
  have hl := h.len
  refine ⟨by simp [hl], h.dig.set _ (by omega) (by omega), by omega, by omega, ?_⟩
  rw [v32_take_set (by omega), v32_take_succ, v32_take_succ, Int.pow_succ]
  have e : s = 4294967296 * (s / 4294967296) + s % 4294967296 := (Int.mul_ediv_add_emod s 4294967296).symm
  generalize s / 4294967296 = q at *
  generalize s % 4294967296 = r at *
  have : (4294967296 : Int) ^ k * (4294967296 * q + r) = 4294967296 ^ k * (c + nth x k + nth y k) := by rw [← e, hs]
  grind
theorem SumInv.fin {x y lz : List Int} {n : Nat} {c : Int} (h : SumInv x y lz n n c) (hx : Dig32 x) (hy : Dig32 y) (h1 : x.length < n) (h2 : y.length < n) : v32 lz = v32 x + v32 y := by
  have hv := h.val
  have hl := h.len
  have bx := v32_bound hx
  have by' := v32_bound hy
  have bz := v32_bound h.dig
  rw [List.take_of_length_le (by omega), List.take_of_length_le (by omega), List.take_of_length_le (by omega)] at hv
  have m1 := pow32_mono (show x.length ≤ n - 1 by omega)
  have m2 := pow32_mono (show y.length ≤ n - 1 by omega)
  have hp : (4294967296 : Int) ^ n = 4294967296 ^ (n - 1) * 4294967296 := by rw [← Int.pow_succ]; congr 1; omega
  have hq := p32_pos (n - 1)
  have h3 := h.c0
  have h4 := h.c1
  have hc : c = 0 := by
    by_cases e : c = 1
    · subst e; rw [hp] at hv; omega
    · omega
  subst hc
  omega

/-- k digits of a difference are laid -/
structure DifInv (x y lz : List Int) (n k : Nat) (c : Int) : Prop where
  len : lz.length = n
  dig : Dig32 lz
  c0 : 0 ≤ c
  c1 : c ≤ 1
  val : v32 (lz.take k) = v32 (x.take k) - v32 (y.take k) + 4294967296 ^ k * c
theorem DifInv.step {x y lz : List Int} {n k : Nat} {c s r c' : Int} (h : DifInv x y lz n k c) (hk : k < n) (hs : s = c + nth y k) (hc : c' = 0 ∨ c' = 1) (hr : r = nth x k - s + 4294967296 * c') (hr0 : 0 ≤ r) (hr1 : r < 4294967296) :
    DifInv x y (lz.set k r) n (k + 1) c' := by
  have h5 := h.val
  have hl := h.len
  refine ⟨by simp [hl], h.dig.set _ hr0 hr1, by omega, by omega, ?_⟩
  rw [v32_take_set (by omega), v32_take_succ, v32_take_succ, Int.pow_succ, h5, hr, hs]
  grind
theorem DifInv.fin {x y lz : List Int} {n : Nat} {c : Int} (h : DifInv x y lz n n c) (hx : Dig32 x) (hy : Dig32 y) (h1 : x.length = n) (h2 : y.length ≤ n) (hle : v32 y ≤ v32 x) : v32 lz = v32 x - v32 y := by
  have hv := h.val
  have hl := h.len
  have bz := v32_bound h.dig
  have bx := v32_bound hx
  have by' := v32_bound hy
  rw [List.take_of_length_le (by omega), List.take_of_length_le (by omega), List.take_of_length_le (by omega)] at hv
  have h3 := h.c0
  have h4 := h.c1
  rw [hl] at bz
  have hc : c = 0 := by
    by_cases e : c = 1
    · subst e; omega
    · omega
  subst hc
  omega

/-- a row of a product: j digits of it are added at place i -/
structure RowInv (y lz0 lz : List Int) (xi : Int) (n i j : Nat) (c : Int) : Prop where
  len : lz.length = n
  dig : Dig32 lz
  c0 : 0 ≤ c
  c1 : c < 4294967296
  old : ∀ m, i + j ≤ m → nth lz m = nth lz0 m
  val : v32 lz + 4294967296 ^ (i + j) * c = v32 lz0 + 4294967296 ^ i * (xi * v32 (y.take j))
theorem row_room {a x y c : Int} (ha : 0 ≤ a ∧ a < 4294967296) (hx : 0 ≤ x ∧ x < 4294967296) (hy : 0 ≤ y ∧ y < 4294967296) (hc : 0 ≤ c ∧ c < 4294967296) :
    0 ≤ x * y ∧ x * y ≤ 18446744065119617025 ∧ 0 ≤ a + x * y + c ∧ a + x * y + c < 18446744073709551616 := by
  have h1 : 0 ≤ x * y := Int.mul_nonneg hx.1 hy.1
  have h2 : x * y ≤ 4294967295 * 4294967295 := Int.mul_le_mul (by omega) (by omega) hy.1 (by decide)
  omega
theorem RowInv.step {y lz0 lz : List Int} {xi c s : Int} {n i j : Nat} (h : RowInv y lz0 lz xi n i j c) (hn : i + j < n) (hx : 0 ≤ xi ∧ xi < 4294967296) (hy : Dig32 y) (hs : s = nth lz (i + j) + xi * nth y j + c) :
    RowInv y lz0 (lz.set (i + j) (s % 4294967296)) xi n i (j + 1) (s / 4294967296) := by
  have hl := h.len
  have hr := row_room (h.dig.nth (i + j)) hx (hy.nth j) ⟨h.c0, h.c1⟩
  rw [← hs] at hr
  refine ⟨by simp [hl], h.dig.set _ (by omega) (by omega), by omega, by omega, fun m hm => ?_, ?_⟩
  · rw [nth_set (by omega), if_neg (by omega)]; exact h.old m (by omega)
  · have h5 := h.val
    have e : s = 4294967296 * (s / 4294967296) + s % 4294967296 := (Int.mul_ediv_add_emod s 4294967296).symm
    rw [v32_set (by omega), v32_take_succ, show i + (j + 1) = i + j + 1 from by omega, Int.pow_succ]
    generalize s / 4294967296 = q at *
    generalize s % 4294967296 = r at *
    have e2 : (4294967296 : Int) ^ (i + j) * (4294967296 * q + r) = 4294967296 ^ (i + j) * (nth lz (i + j) + xi * nth y j + c) := by rw [← e, hs]
    have e3 : (4294967296 : Int) ^ (i + j) = 4294967296 ^ i * 4294967296 ^ j := Int.pow_add _ _ _
    rw [e3] at *
    grind
/-- k rows of a product are laid -/
structure ProInv (x y lz : List Int) (n k : Nat) : Prop where
  len : lz.length = n
  dig : Dig32 lz
  zero : ∀ m, k + y.length ≤ m → nth lz m = 0
  val : v32 lz = v32 (x.take k) * v32 y
theorem ProInv.row {x y lz0 lz : List Int} {n k : Nat} {c : Int} (h : ProInv x y lz0 n k) (r : RowInv y lz0 lz (nth x k) n k y.length c) (hn : k + y.length < n) : ProInv x y (lz.set (k + y.length) c) n (k + 1) := by
  have hl := r.len
  refine ⟨by simp [hl], r.dig.set _ r.c0 r.c1, fun m hm => ?_, ?_⟩
  · rw [nth_set (by omega), if_neg (by omega), r.old m (by omega)]; exact h.zero m (by omega)
  · have h1 := r.val
    have h2 := h.val
    rw [List.take_of_length_le (Nat.le_refl _)] at h1
    rw [v32_set (by omega), r.old _ (Nat.le_refl _), h.zero _ (Nat.le_refl _), v32_take_succ]
    grind

/-- digits in memory from block B on -/
structure DigN (w : World) (B : Nat) (ao : Option Addr) (n c : Nat) (x : Int) : Prop where
  ex : ∃ b o d, d.length = n ∧ n ≤ c ∧ Dig32 d ∧ nlen d = d.length ∧ At w ao b o d ∧ v32 d = x ∧ (d = [] ∨ B ≤ b)
theorem DigN.o {w : World} {B : Nat} {ao : Option Addr} {n c : Nat} {x : Int} (h : DigN w B ao n c x) : DigO w ao n c x := by
  obtain ⟨b, o, d, h1, h2, h3, h4, h5, h6, _⟩ := h.ex
  exact ⟨b, o, d, h1, h2, h3, h4, h5, h6⟩
theorem DigN.keep {w w' : World} {B : Nat} {ao : Option Addr} {n c : Nat} {x : Int} (h : DigN w B ao n c x) (hb : Below w.heap.size w w') : DigN w' B ao n c x := by
  obtain ⟨b, o, d, h1, h2, h3, h4, h5, h6, h7⟩ := h.ex
  exact ⟨b, o, d, h1, h2, h3, h4, h5.keep hb, h6, h7⟩
theorem DigN.store {w : World} {B g i : Nat} {ao : Option Addr} {n c : Nat} {x : Int} (h : DigN w B ao n c x) (hg : g < B) (u : Value) : DigN (w.setCell ⟨g, i, none⟩ u) B ao n c x := by
  obtain ⟨b, o, d, h1, h2, h3, h4, h5, h6, h7⟩ := h.ex
  refine ⟨b, o, d, h1, h2, h3, h4, h5.wr ((Wr.refl g i 1 w).setCell (by omega) (by omega) u) ?_, h6, h7⟩
  rcases h7 with e | e
  · exact .inl e
  · exact .inr (by omega)
theorem DigN.mono {w : World} {B B' : Nat} {ao : Option Addr} {n c : Nat} {x : Int} (h : DigN w B ao n c x) (hB : B' ≤ B) : DigN w B' ao n c x := by
  obtain ⟨b, o, d, h1, h2, h3, h4, h5, h6, h7⟩ := h.ex
  refine ⟨b, o, d, h1, h2, h3, h4, h5, h6, ?_⟩
  rcases h7 with e | e
  · exact .inl e
  · exact .inr (by omega)
end Go.Proofs.YtenlhceceplldaaGreat

namespace Go.Proofs.YtenlhceceplldaaGreat
open Go.RowKit Lim

theorem At.set0 {w : World} {ao : Option Addr} {b : Nat} {l : List Int} (k : At w ao b 0 l) {i : Nat} (hi : i < l.length) (x : Int) : At (w.setCell ⟨b, i, none⟩ (.int .u64 x)) ao b 0 (l.set i x) := by
  have := k.setCell hi x
  rwa [Nat.zero_add] at this

end Go.Proofs.YtenlhceceplldaaGreat

namespace Go.Proofs.YtenlhceceplldaaGreat
open Go.RowKit Lim

end Go.Proofs.YtenlhceceplldaaGreat

namespace Go.Proofs.YtenlhceceplldaaGreat
open Go.RowKit Lim

/-- the limbs l lie at ao -/
structure LimA (w : World) (ao : Option Addr) (n c : Nat) (l : List Int) : Prop where
  ex : ∃ b o, l.length = n ∧ n ≤ c ∧ Words l ∧ At w ao b o l
theorem LimA.a {w : World} {ao : Option Addr} {n c : Nat} {l : List Int} (h : LimA w ao n c l) : NatA w ao n c (val l) := by
  obtain ⟨b, o, h1, h2, h3, h4⟩ := h.ex
  exact ⟨b, o, l, h1, h2, h3, h4, rfl⟩
theorem LimA.keep {w w' : World} {ao : Option Addr} {n c : Nat} {l : List Int} (h : LimA w ao n c l) (hb : Below w.heap.size w w') : LimA w' ao n c l := by
  obtain ⟨b, o, h1, h2, h3, h4⟩ := h.ex
  exact ⟨b, o, h1, h2, h3, h4.keep hb⟩
theorem lSame {w : World} {ao ao' : Option Addr} {n c n' c' : Nat} {l : List Int} (h : LimA w ao n c l) (h' : LimA w ao' n' c' l) (hn : n ≤ 4398046511104) (hn' : n' ≤ 4398046511104) :
    Calls Tryz.prog 90 #[.slice ao n c, .slice ao' n' c'] w fun e w' => e = .returned (.bool true) ∧ Below w.heap.size w w' := by
  obtain ⟨b, o, h1, h2, h3, h4⟩ := h.ex
  obtain ⟨b', o', h1', h2', h3', h4'⟩ := h'.ex
  have t := helpNat ao n c b o ao' n' c' b' o' l l w h1 h1' hn hn' h4 h4'
  rw [eqB_true rfl] at t
  exact t
/-- the normal list of x lies at ao, in one of the blocks from B up to T, and may be written over -/
structure NatN (w : World) (B T : Nat) (ao : Option Addr) (n c : Nat) (x : Int) : Prop where
  ex : ∃ b o l, l.length = n ∧ n ≤ c ∧ IsN l x ∧ At w ao b o l ∧ Free w b o n ∧ (l = [] ∨ (B ≤ b ∧ b < T))
theorem NatN.o {w : World} {B T : Nat} {ao : Option Addr} {n c : Nat} {x : Int} (h : NatN w B T ao n c x) : NatO w ao n c x := by
  obtain ⟨b, o, l, h1, h2, h3, h4, _⟩ := h.ex
  exact ⟨b, o, l, h1, h2, h3, h4⟩
theorem NatN.eqv {w : World} {B T : Nat} {ao : Option Addr} {n c : Nat} {x y : Int} (h : NatN w B T ao n c x) (e : x = y) : NatN w B T ao n c y := e ▸ h
theorem NatN.keep {w w' : World} {B T : Nat} {ao : Option Addr} {n c : Nat} {x : Int} (h : NatN w B T ao n c x) (hb : Below w.heap.size w w') : NatN w' B T ao n c x := by
  obtain ⟨b, o, l, h1, h2, h3, h4, h5, h6⟩ := h.ex
  refine ⟨b, o, l, h1, h2, h3, h4.keep hb, ?_, h6⟩
  rcases h4.lt with e | e
  · subst e; subst h1; exact fun i hi => by simp at hi
  · exact Free.below hb h5 e
theorem natN_nil (w : World) (B T : Nat) : NatN w B T none 0 0 0 := ⟨0, 0, [], rfl, Nat.le_refl _, isN_nil, ⟨.inl rfl, fun i hi => by simp at hi⟩, fun i hi => by omega, .inl rfl⟩
theorem NewV.n {w w' : World} {v : Value} {r : List Int} {x : Int} (h : NewV w w' v r) (hI : IsN r x) : ∃ a c, v = .slice a r.length c ∧ NatN w' w.heap.size w'.heap.size a r.length c x := by
  obtain ⟨ao, b, o, c, e, h1, h2, h3, h4⟩ := h.is
  refine ⟨ao, c, e, b, o, r, rfl, h1, hI, h3, h4, ?_⟩
  rcases h3.lt with e | e
  · exact .inl e
  · exact .inr ⟨h2, e⟩

/-- nothing but blocks from B up to T is turned -/
structure Turn (B T : Nat) (w w' : World) : Prop where
  os : w'.os = w.os
  tape : w'.tape = w.tape
  output : w'.output = w.output
  size : w'.heap.size = w.heap.size
  block : ∀ k, (k < B ∨ T ≤ k) → w'.heap[k]? = w.heap[k]?
theorem Turn.below {B T B0 : Nat} {w w' : World} (h : Turn B T w w') (hB : B0 ≤ B) : Below B0 w w' :=
  ⟨h.os, h.tape, h.output, by rw [h.size]; exact Nat.le_refl _, fun k hk => h.block k (.inl (by omega))⟩
theorem At.turn {B T : Nat} {w w' : World} (h : Turn B T w w') {ao : Option Addr} {b o : Nat} {l : List Int} (k : At w ao b o l) (hb : l = [] ∨ b < B ∨ T ≤ b) : At w' ao b o l :=
  ⟨k.loc, fun i hi => by
    rcases hb with e | e
    · subst e; simp at hi
    · rw [World.cell?_of_block (w := w) (h.block b e)]; exact k.cell i hi⟩
theorem NatN.turn {w w' : World} {B T B' T' : Nat} {ao : Option Addr} {n c : Nat} {x : Int} (h : NatN w B' T' ao n c x) (t : Turn B T w w') (hd : T ≤ B' ∨ T' ≤ B) : NatN w' B' T' ao n c x := by
  obtain ⟨b, o, l, h1, h2, h3, h4, h5, h6⟩ := h.ex
  have hb : l = [] ∨ b < B ∨ T ≤ b := by
    rcases h6 with e | e
    · exact .inl e
    · right; omega
  refine ⟨b, o, l, h1, h2, h3, h4.turn t hb, ?_, h6⟩
  rcases hb with e | e
  · subst e; subst h1; exact fun i hi => by simp at hi
  · intro i hi
    rw [World.frozen?_of_block (w := w) (t.block b e)]; exact h5 i hi
/-- a difference, or nothing -/
def subV (x y : Int) : Int := if y ≤ x then x - y else 0
def subE (x y : Int) : Int := if y ≤ x then 0 else 10
def smV (x : Int) : Int := if x < 18446744073709551616 then x else 0
def smB (x : Int) : Bool := decide (x < 18446744073709551616)
theorem fNorm {w : World} {ao : Option Addr} {n c : Nat} {x : Int} (h : NatA w ao n c x) (hn : n ≤ 1099511627776) :
    Calls Tryz.prog 92 #[.slice ao n c] w fun e w' => ∃ a k d, e = .returned (.slice a k d) ∧ NatN w' w.heap.size w'.heap.size a k d x ∧ k ≤ n ∧ Below w.heap.size w w' := by
  obtain ⟨b, o, l, h1, h2, h3, h4, rfl⟩ := h.ex
  refine (norm_any ao n c b o l w h1 h2 hn h4).mono ?_
  rintro e w' ⟨rfl, hrow, hB⟩
  exact ⟨_, _, _, rfl, ⟨_, _, norm l, norm_length l, Nat.le_refl _, isN_norm h3, hrow.at, hrow.free _ _, .inr ⟨Nat.le_refl _, hrow.lt⟩⟩, by have := nlen_le l; omega, hB⟩
end Go.Proofs.YtenlhceceplldaaGreat

namespace Go.Proofs.YtenlhceceplldaaGreat
namespace Rc
open Go.RowKit Go.Lib Pg Lim
attribute [local go_sem] Oper.semAt_some
/-- a number of no limb, or in a block from B on -/
structure NatV (w : World) (B : Nat) (ao : Option Addr) (n c : Nat) (x : Int) : Prop where
  ex : ∃ b o l, l.length = n ∧ n ≤ c ∧ IsN l x ∧ At w ao b o l ∧ (l = [] ∨ B ≤ b)
theorem NatV.o {w : World} {B n c : Nat} {ao : Option Addr} {x : Int} (h : NatV w B ao n c x) : NatO w ao n c x := by
  obtain ⟨b, o, l, h1, h2, h3, h4, _⟩ := h.ex
  exact ⟨b, o, l, h1, h2, h3, h4⟩
theorem natV_nil (w : World) (B : Nat) : NatV w B none 0 0 0 := ⟨B, 0, [], rfl, Nat.le_refl _, isN_nil, ⟨.inl rfl, fun i hi => by simp at hi⟩, .inl rfl⟩
theorem NatV.low {w : World} {B B' n c : Nat} {ao : Option Addr} {x : Int} (h : NatV w B ao n c x) (hB : B' ≤ B) : NatV w B' ao n c x := by
  obtain ⟨b, o, l, h1, h2, h3, h4, h5⟩ := h.ex
  exact ⟨b, o, l, h1, h2, h3, h4, h5.imp id (Nat.le_trans hB)⟩
theorem NatV.off {w w' : World} {B n c : Nat} {ao : Option Addr} {x : Int} (h : NatV w B ao n c x) (hw : ∀ b, B ≤ b → b < w.heap.size → w'.heap[b]? = w.heap[b]?) : NatV w' B ao n c x := by
  obtain ⟨b, o, l, h1, h2, h3, h4, h5⟩ := h.ex
  refine ⟨b, o, l, h1, h2, h3, ⟨h4.loc, fun i hi => ?_⟩, h5⟩
  have hc := h4.cell i hi
  rcases h5 with rfl | h5
  · simp at hi
  · rw [World.cell?_of_block (w := w) (hw b h5 (cell_lt hc))]
    exact hc
theorem NatV.keep {w w' : World} {B n c : Nat} {ao : Option Addr} {x : Int} (h : NatV w B ao n c x) (hb : Below w.heap.size w w') : NatV w' B ao n c x := h.off fun b _ hlt => hb.block b hlt
theorem NatV.put {w : World} {B n c g o : Nat} {ao : Option Addr} {x : Int} (h : NatV w B ao n c x) (hg : g < B) (u : Value) : NatV (w.setCell ⟨g, o, none⟩ u) B ao n c x := h.off fun b hb _ => Below.heap_setCell _ _ _ b (show b ≠ g by omega)
theorem NatV.drew {w : World} {B n c : Nat} {ao : Option Addr} {x : Int} (h : NatV w B ao n c x) : NatV w.drew B ao n c x := h.off fun _ _ _ => rfl
theorem _root_.Go.Proofs.YtenlhceceplldaaGreat.NatN.v {w : World} {B T n c : Nat} {ao : Option Addr} {x : Int} (h : NatN w B T ao n c x) : NatV w B ao n c x := by
  obtain ⟨b, o, l, h1, h2, h3, h4, _, h5⟩ := h.ex
  exact ⟨b, o, l, h1, h2, h3, h4, h5.imp id And.left⟩
theorem _root_.Go.Proofs.YtenlhceceplldaaGreat.Rc.NatW.v {w : World} {B n c : Nat} {ao : Option Addr} {x : Int} (h : NatW w B ao n c x) : NatV w B ao n c x := by
  obtain ⟨b, o, l, h1, h2, h3, h4, h5⟩ := h.ex
  exact ⟨b, o, l, h1, h2, h3, h4, .inr h5⟩
set_option maxHeartbeats 2000000 in
set_option maxRecDepth 100000 in
theorem norm_any {w : World} {ao : Option Addr} {n c : Nat} {V : Int} (h : NatA w ao n c V) (hn : n ≤ 1000000) :
    Calls Tryz.prog 37 #[.agg #[.slice ao n c]] w fun e w' => ∃ a1 n1 c1, e = .returned (.agg #[.slice a1 n1 c1]) ∧ NatV w' w.heap.size a1 n1 c1 (fit V) ∧ n1 ≤ 1000000 ∧ Below w.heap.size w w' := by
  have hV := h.nonneg
  have b1 := below_alloc w (.cells #[.slice ao n c] 30)
  have b2 := below_alloc (w.alloc (.cells #[.slice ao n c] 30)) (.cells #[.slice none 0 0] 30)
  have s1 := size_al w (.cells #[.slice ao n c] 30)
  have s2 := size_al (w.alloc (.cells #[.slice ao n c] 30)) (.cells #[.slice none 0 0] 30)
  have x1 := (blk_new w [.slice ao n c] 30).keep b2
  have x2 := blk_new (w.alloc (.cells #[.slice ao n c] 30)) [.slice none 0 0] 30
  rw [s1] at x2
  obtain ⟨W3, hW3⟩ : ∃ W3, Hid (((w.alloc (.cells #[.slice ao n c] 30)).alloc (.cells #[.slice none 0 0] 30)) = W3) := ⟨_, rfl⟩
  have BZ := joinB b1 b2
  rw [hW3.out] at BZ x1 x2
  have hsz : W3.heap.size = w.heap.size + 1 + 1 := by rw [← hW3.out, s2, s1]
  have HS := hid3 hsz
  have hN := h.keep BZ
  obtain ⟨b, o, l, e1, e2, e3, e4, rfl⟩ := hN.ex
  have t := bytes_any ao n c b o l W3 e1 e2 (by omega) e3 e4
  have HB3 := hid3 BZ
  have HX1 := hid3 x1
  have HX2 := hid3 x2
  have HN := hid3 hN
  have HV := hid3 hV
  clear b1 b2 s1 s2 x1 x2 h BZ hN e1 e2 e3 e4 hsz hV
  generalize val l = V at *
  clear l
  go_enter Tryz.func37, Tryz.ntmps37
  go_wp2_with fail
  rw [hW3.out]
  refine t.mono ?_
  rintro e' w4 ⟨v, r, rfl, ⟨ao4, b4, o4, c4, rfl, -⟩, hI, -, hr, B4⟩
  have HR := hid3 (natB_unique HV.out hI)
  have k1 := HX1.out.keep B4
  have k2 := HX2.out.keep B4
  have BB := hid3 (joinB HB3.out B4)
  have SZ := hid3 B4.size
  have N4 := hid3 (HN.out.keep B4)
  have d1 := k1.cell (i := 0) rfl
  have d2 := k2.cell (i := 0) rfl
  have f2 := k2.free 0
  clear t hI
  by_cases hf : r.length < 256
  · have HF := hid3 (show fit V = V by unfold fit; rw [HR.out, if_pos hf])
    have hq : ((r.length : Int) > 255) = False := eq_false (by omega)
    have hq2 : ((255 : Int) < (r.length : Int)) = False := eq_false (by omega)
    clear hf hr
    generalize r.length = m at *
    have K1 := hid3 k1
    have K2 := hid3 k2
    have t2 := fNorm N4.out (by omega)
    clear k1 k2 B4
    go_wp2_with fail
    refine t2.mono ?_
    rintro e' w5 ⟨a5, n5, c5, rfl, N5, h5, B5⟩
    have d3 := (K1.out.keep B5).cell (i := 0) rfl
    have d4 := (K2.out.keep B5).cell (i := 0) rfl
    have f4 := (K2.out.keep B5).free 0
    have K5 := hid3 (K2.out.keep B5)
    replace BB := hid3 (joinB BB.out B5)
    have S9 := hid3 (show Slot _ _ _ _ from ⟨((K2.out.keep B5).setCell (i := 0) (.slice a5 n5 c5)).blk⟩)
    have O5 := hid3 ((N5.v.put (g := w.heap.size + 1) (o := 0) (by have := HS.out; have := SZ.out; omega) (.slice a5 n5 c5)).low (show w.heap.size ≤ w4.heap.size by have := HS.out; have := SZ.out; omega))
    clear t2 B5 N5
    go_wp2
    refine bodyPost_ret (ret_dec rfl rfl S9.out) rfl ?_
    refine ⟨a5, n5, c5, rfl, ?_, by omega, BB.out.setCell (Nat.le_succ _) _⟩
    rw [HF.out]
    exact O5.out
  · have HF := hid3 (show fit V = 0 by unfold fit; rw [HR.out, if_neg hf])
    have hq : ((r.length : Int) > 255) = True := eq_true (by omega)
    have hq2 : ((255 : Int) < (r.length : Int)) = True := eq_true (by omega)
    clear hf hr
    generalize r.length = m at *
    have S9 := hid3 (show Slot _ _ _ _ from ⟨(k2.setCell (i := 0) (.slice none 0 0)).blk⟩)
    clear k1 k2 B4
    go_wp2
    refine bodyPost_ret (ret_dec rfl rfl S9.out) rfl ?_
    refine ⟨none, 0, 0, rfl, ?_, by decide, BB.out.setCell (Nat.le_succ _) _⟩
    rw [HF.out]
    exact natV_nil _ _
-- SMALL
def smallR (vs : List (Option Addr × Nat × Nat)) : Bool := vs.all fun v => decide (v.2.1 ≤ 60)

set_option maxHeartbeats 1000000 in
set_option maxRecDepth 100000 in
theorem smallR_any (vs : List (Option Addr × Nat × Nat)) (g n c : Nat) (w : World) (hn : vs.length = n) (hbig : n ≤ 1000) (hlen : ∀ i, (theNth vs i).2.1 ≤ 9223372036854775807)
    (hcell : ∀ i, i < n → w.cell? ⟨g, i, none⟩ = some (.slice (theNth vs i).1 (theNth vs i).2.1 (theNth vs i).2.2)) :
    Calls Tryz.prog 45 #[.slice (some ⟨g, 0, none⟩) n c] w fun e w' => e = .returned (.bool (smallR vs)) ∧ w' = w := by
  have HF : Hid (∀ i, i < n → 60 < (theNth vs i).2.1 → smallR vs = false) := by
    intro i hi h40
    unfold smallR
    rw [Bool.eq_false_iff]
    intro hall
    rw [List.all_eq_true] at hall
    have e : theNth vs i = vs[i]'(by omega) := by simp [theNth, List.getElem?_eq_getElem (show i < vs.length by omega)]
    have := hall (theNth vs i) (by rw [e]; exact List.getElem_mem _)
    simp at this; omega
  have HT : Hid ((∀ i, i < n → (theNth vs i).2.1 ≤ 60) → smallR vs = true) := by
    intro h
    unfold smallR
    rw [List.all_eq_true]
    intro v hv
    obtain ⟨i, hi, rfl⟩ := List.getElem_of_mem hv
    have := h i (by omega)
    have e : theNth vs i = vs[i] := by simp [theNth, List.getElem?_eq_getElem hi]
    rw [e] at this
    simpa using this
  go_enter Tryz.func45, Tryz.ntmps45
  go_wp2
  go_loop [3] (fun ti => ∃ k : Nat, k ≤ n ∧ ti = .int .i64 k ∧ Hid (∀ i, i < k → (theNth vs i).2.1 ≤ 60)) (fun ti => n - (intOf ti).toNat)
  case atStart => exact ⟨0, Nat.zero_le _, rfl, fun i hi => by omega⟩
  case round =>
    obtain ⟨k, hk, rfl, hz⟩ := hrel
    by_cases hlt : k < n
    · have q1 := hcell k hlt
      have hl1 := hlen k
      have hk0 : (k : Int) < n := by omega
      have HF1 : Hid (60 < (theNth vs k).2.1 → smallR vs = false) := HF.out k hlt
      have HZ1 : Hid ((theNth vs k).2.1 ≤ 60 → ∀ i, i < k + 1 → (theNth vs i).2.1 ≤ 60) := by
        intro h i hi
        by_cases e : i = k
        · subst e; exact h
        · exact hz.out i (by omega)
      clear hcell hlen
      generalize (theNth vs k).1 = a at *
      generalize (theNth vs k).2.2 = c' at *
      generalize (theNth vs k).2.1 = m at *
      by_cases h40 : 60 < m
      · go_wp2
        go_ret
        exact ⟨retB (HF1.out h40).symm, rfl⟩
      · have h41 := HZ1.out (by omega)
        have H41 := (show Hid _ from h41)
        clear h41
        go_wp2
        go_round
        case rel => exact ⟨k + 1, by omega, by go_num, H41⟩
        case measure => simp [intOf]; omega
    · go_wp2
      go_ret
      exact ⟨retB (HT.out fun i hi => hz.out i (by omega)).symm, rfl⟩

/-- a Records value, by its cells -/
structure RecA (w : World) (cs : List Value) (xs : Nat → Int) (aa : Nat → Option Addr) (ns cc : Nat → Nat) (ts : Nat → Bool) : Prop where
  len : cs.length = 46
  u : ∀ i ∈ [0, 1, 2, 3, 4, 5, 6, 7, 8, 9, 10, 11, 13, 14, 15, 16, 19, 21, 26, 29, 30, 31, 32, 33, 34, 35, 36, 37, 38, 39, 40, 41, 42, 43, 45], cs[i]? = some (.int .u64 (xs i)) ∧ 0 ≤ xs i ∧ xs i < 18446744073709551616
  b : ∀ i ∈ [18, 20], cs[i]? = some (.bool (ts i))
  d : ∀ i ∈ [12, 17, 22, 23, 24, 25, 27, 28, 44], cs[i]? = some (.slice (aa i) (ns i) (cc i)) ∧ NatA w (aa i) (ns i) (cc i) (xs i) ∧ ns i ≤ 17592186044416
theorem RecA.keep {w w' : World} {cs : List Value} {xs : Nat → Int} {aa : Nat → Option Addr} {ns cc : Nat → Nat} {ts : Nat → Bool} (h : RecA w cs xs aa ns cc ts) (hb : Below w.heap.size w w') : RecA w' cs xs aa ns cc ts := ⟨h.len, h.u, h.b, fun i hi => ⟨(h.d i hi).1, (h.d i hi).2.1.keep hb, (h.d i hi).2.2⟩⟩
set_option maxHeartbeats 4000000 in
set_option maxRecDepth 100000 in
theorem light_any {w : World} {cs : List Value} {xs : Nat → Int} {aa : Nat → Option Addr} {ns cc : Nat → Nat} {ts : Nat → Bool} (R : RecA w cs xs aa ns cc ts) :
    Calls Tryz.prog 7 #[.agg cs.toArray] w fun e w' => ∃ b, e = .returned (.bool b) ∧ (b = true → ∀ i ∈ [12, 17, 22, 23, 24, 25, 27, 28, 44], ns i ≤ 60) ∧ Below w.heap.size w w' := by
  obtain ⟨q12, h12, m12⟩ := R.d 12 (by decide)
  clear h12
  obtain ⟨q17, h17, m17⟩ := R.d 17 (by decide)
  clear h17
  obtain ⟨q22, h22, m22⟩ := R.d 22 (by decide)
  clear h22
  obtain ⟨q23, h23, m23⟩ := R.d 23 (by decide)
  clear h23
  obtain ⟨q24, h24, m24⟩ := R.d 24 (by decide)
  clear h24
  obtain ⟨q25, h25, m25⟩ := R.d 25 (by decide)
  clear h25
  obtain ⟨q27, h27, m27⟩ := R.d 27 (by decide)
  clear h27
  obtain ⟨q28, h28, m28⟩ := R.d 28 (by decide)
  clear h28
  obtain ⟨q44, h44, m44⟩ := R.d 44 (by decide)
  clear h44
  clear R
  have b1 := below_alloc w (.cells cs.toArray 46)
  have x1 := blk_new w cs 46
  have b2 := below_alloc (w.alloc (.cells cs.toArray 46)) (.cells #[.slice (aa 12) (ns 12) (cc 12), .slice (aa 17) (ns 17) (cc 17), .slice (aa 22) (ns 22) (cc 22), .slice (aa 23) (ns 23) (cc 23), .slice (aa 24) (ns 24) (cc 24), .slice (aa 25) (ns 25) (cc 25), .slice (aa 27) (ns 27) (cc 27), .slice (aa 28) (ns 28) (cc 28), .slice (aa 44) (ns 44) (cc 44)] 30)
  have tS := smallR_any [(aa 12, ns 12, cc 12), (aa 17, ns 17, cc 17), (aa 22, ns 22, cc 22), (aa 23, ns 23, cc 23), (aa 24, ns 24, cc 24), (aa 25, ns 25, cc 25), (aa 27, ns 27, cc 27), (aa 28, ns 28, cc 28), (aa 44, ns 44, cc 44)] (w.heap.size + 1) 9 9 ((w.alloc (.cells cs.toArray 46)).alloc (.cells #[.slice (aa 12) (ns 12) (cc 12), .slice (aa 17) (ns 17) (cc 17), .slice (aa 22) (ns 22) (cc 22), .slice (aa 23) (ns 23) (cc 23), .slice (aa 24) (ns 24) (cc 24), .slice (aa 25) (ns 25) (cc 25), .slice (aa 27) (ns 27) (cc 27), .slice (aa 28) (ns 28) (cc 28), .slice (aa 44) (ns 44) (cc 44)] 30)) rfl (by decide)
    (fun i => by
      match i with
      | 0 => exact Nat.le_trans m12 (by decide)
      | 1 => exact Nat.le_trans m17 (by decide)
      | 2 => exact Nat.le_trans m22 (by decide)
      | 3 => exact Nat.le_trans m23 (by decide)
      | 4 => exact Nat.le_trans m24 (by decide)
      | 5 => exact Nat.le_trans m25 (by decide)
      | 6 => exact Nat.le_trans m27 (by decide)
      | 7 => exact Nat.le_trans m28 (by decide)
      | 8 => exact Nat.le_trans m44 (by decide)
      | _ + 9 => exact Nat.zero_le _)
    (fun i hi => by
      rw [← size_al w (.cells cs.toArray 46), cell_new]
      match i, hi with
      | 0, _ => rfl
      | 1, _ => rfl
      | 2, _ => rfl
      | 3, _ => rfl
      | 4, _ => rfl
      | 5, _ => rfl
      | 6, _ => rfl
      | 7, _ => rfl
      | 8, _ => rfl)
  have HB := hid3 (joinB b1 b2)
  have TS := hid3 tS
  have c12_ := x1.cell (i := 12) q12
  have c17_ := x1.cell (i := 17) q17
  have c22_ := x1.cell (i := 22) q22
  have c23_ := x1.cell (i := 23) q23
  have c24_ := x1.cell (i := 24) q24
  have c25_ := x1.cell (i := 25) q25
  have c27_ := x1.cell (i := 27) q27
  have c28_ := x1.cell (i := 28) q28
  have c44_ := x1.cell (i := 44) q44
  clear b1 x1 b2 tS q12 m12 q17 m17 q22 m22 q23 m23 q24 m24 q25 m25 q27 m27 q28 m28 q44 m44
  go_enter Tryz.func7, Tryz.ntmps7
  go_wp2_with fail
  refine TS.out.mono ?_
  rintro e' w2 ⟨rfl, rfl⟩
  go_wp2
  go_ret
  refine ⟨_, rfl, ?_, HB.out⟩
  intro h
  simp only [smallR, List.all_cons, List.all_nil, Bool.and_true, Bool.and_eq_true, decide_eq_true_eq] at h
  obtain ⟨h12, h17, h22, h23, h24, h25, h27, h28, h44⟩ := h
  intro i hi
  simp only [List.mem_cons, List.not_mem_nil, or_false] at hi
  rcases hi with rfl | rfl | rfl | rfl | rfl | rfl | rfl | rfl | rfl <;> assumption
end Rc
end Go.Proofs.YtenlhceceplldaaGreat

namespace Go.Proofs.YtenlhceceplldaaGreat
namespace Rc
open Go.RowKit Go.Lib Pg Lim
attribute [local go_sem] Oper.semAt_some
theorem run_ld {a : Act} {w : World} {o : Oper} {T : TypeId} (k : Nat) {g off : Nat} {v : Value} (ho : o.op = .load T (.tmp k)) (hp : a.eval (.tmp k) = .pointer (some ⟨g, off, none⟩)) (hl : (loadVar T ⟨g, off, none⟩).run Tryz.prog w = .ok v w) : (execOp a.eval o).run Tryz.prog w = .ok (.value v) w := run_lp k ho hp hl
set_option maxRecDepth 100000 in
theorem ldr_Params {w : World} {g o : Nat} {v0 : Value} {v1 : Value} {v2 : Value} {v3 : Value} {v4 : Value} {v5 : Value} {v6 : Value} {v7 : Value} {v8 : Value} {v9 : Value} (c0 : w.cell? ⟨g, o, none⟩ = some v0) (c1 : w.cell? ⟨g, o + 1, none⟩ = some v1) (c2 : w.cell? ⟨g, o + 2, none⟩ = some v2) (c3 : w.cell? ⟨g, o + 3, none⟩ = some v3) (c4 : w.cell? ⟨g, o + 4, none⟩ = some v4) (c5 : w.cell? ⟨g, o + 5, none⟩ = some v5) (c6 : w.cell? ⟨g, o + 6, none⟩ = some v6) (c7 : w.cell? ⟨g, o + 7, none⟩ = some v7) (c8 : w.cell? ⟨g, o + 8, none⟩ = some v8) (c9 : w.cell? ⟨g, o + 9, none⟩ = some v9) : (loadVar 24 ⟨g, o, none⟩).run Tryz.prog w = .ok (.agg #[v0, v1, v2, v3, v4, v5, v6, v7, v8, v9]) w := by go_simp
set_option maxRecDepth 100000 in
theorem neq_Params {a : Act} {w : World} {o : Oper} {x y : Nat} {x0 x1 x2 x3 x4 x5 x6 x7 x8 x9 : Int} (ho : o.op = .binOp .neq 24 (.tmp x) (.tmp y) 24) (hx : a.eval (.tmp x) = .agg #[.int .u64 x0, .int .u64 x1, .int .u64 x2, .int .u64 x3, .int .u64 x4, .int .u64 x5, .int .u64 x6, .int .u64 x7, .int .u64 x8, .int .u64 x9]) (hy : a.eval (.tmp y) = .agg #[.int .u64 x0, .int .u64 x1, .int .u64 x2, .int .u64 x3, .int .u64 x4, .int .u64 x5, .int .u64 x6, .int .u64 x7, .int .u64 x8, .int .u64 x9]) : (execOp a.eval o).run Tryz.prog w = .ok (.value (.bool false)) w := by
  simp only [execOp, ho, hx, hy]
  go_simp
set_option maxRecDepth 100000 in
theorem ldr_Chain {w : World} {g o : Nat} {v0 : Value} {v1 : Value} (c0 : w.cell? ⟨g, o, none⟩ = some v0) (c1 : w.cell? ⟨g, o + 1, none⟩ = some v1) : (loadVar 26 ⟨g, o, none⟩).run Tryz.prog w = .ok (.agg #[v0, v1]) w := by go_simp
set_option maxRecDepth 100000 in
theorem neq_Chain {a : Act} {w : World} {o : Oper} {x y : Nat} {x0 x1 : Int} (ho : o.op = .binOp .neq 26 (.tmp x) (.tmp y) 26) (hx : a.eval (.tmp x) = .agg #[.int .u64 x0, .int .u64 x1]) (hy : a.eval (.tmp y) = .agg #[.int .u64 x0, .int .u64 x1]) : (execOp a.eval o).run Tryz.prog w = .ok (.value (.bool false)) w := by
  simp only [execOp, ho, hx, hy]
  go_simp
set_option maxRecDepth 100000 in
theorem ldr_Pool {w : World} {g o : Nat} {v0 : Value} (c0 : w.cell? ⟨g, o, none⟩ = some v0) : (loadVar 30 ⟨g, o, none⟩).run Tryz.prog w = .ok (.agg #[v0]) w := by go_simp
set_option maxRecDepth 100000 in
theorem ldr_Account {w : World} {g o : Nat} {v0 : Value} {v1 : Value} (c0 : w.cell? ⟨g, o, none⟩ = some v0) (c1 : w.cell? ⟨g, o + 1, none⟩ = some v1) : (loadVar 32 ⟨g, o, none⟩).run Tryz.prog w = .ok (.agg #[v0, v1]) w := by go_simp
set_option maxRecDepth 100000 in
theorem neq_Account {a : Act} {w : World} {o : Oper} {x y : Nat} {x0 x1 : Int} (ho : o.op = .binOp .neq 32 (.tmp x) (.tmp y) 32) (hx : a.eval (.tmp x) = .agg #[.int .u64 x0, .int .u64 x1]) (hy : a.eval (.tmp y) = .agg #[.int .u64 x0, .int .u64 x1]) : (execOp a.eval o).run Tryz.prog w = .ok (.value (.bool false)) w := by
  simp only [execOp, ho, hx, hy]
  go_simp
set_option maxRecDepth 100000 in
theorem ldr_Val {w : World} {g o : Nat} {v0 : Value} {v1 : Value} {v2 : Value} {v3 : Value} {v4 : Value} {v5 : Value} {v6 : Value} {v7 : Value} {v8 : Value} {v9 : Value} (c0 : w.cell? ⟨g, o, none⟩ = some v0) (c1 : w.cell? ⟨g, o + 1, none⟩ = some v1) (c2 : w.cell? ⟨g, o + 2, none⟩ = some v2) (c3 : w.cell? ⟨g, o + 3, none⟩ = some v3) (c4 : w.cell? ⟨g, o + 4, none⟩ = some v4) (c5 : w.cell? ⟨g, o + 5, none⟩ = some v5) (c6 : w.cell? ⟨g, o + 6, none⟩ = some v6) (c7 : w.cell? ⟨g, o + 7, none⟩ = some v7) (c8 : w.cell? ⟨g, o + 8, none⟩ = some v8) (c9 : w.cell? ⟨g, o + 9, none⟩ = some v9) : (loadVar 34 ⟨g, o, none⟩).run Tryz.prog w = .ok (.agg #[v0, v1, v2, v3, v4, v5, v6, v7, v8, v9]) w := by go_simp
set_option maxRecDepth 100000 in
theorem ldr_Delegation {w : World} {g o : Nat} {v0 : Value} {v1 : Value} {v2 : Value} (c0 : w.cell? ⟨g, o, none⟩ = some v0) (c1 : w.cell? ⟨g, o + 1, none⟩ = some v1) (c2 : w.cell? ⟨g, o + 2, none⟩ = some v2) : (loadVar 36 ⟨g, o, none⟩).run Tryz.prog w = .ok (.agg #[v0, v1, v2]) w := by go_simp
set_option maxRecDepth 100000 in
theorem ldr_History {w : World} {g o : Nat} {v0 : Value} {v1 : Value} (c0 : w.cell? ⟨g, o, none⟩ = some v0) (c1 : w.cell? ⟨g, o + 1, none⟩ = some v1) : (loadVar 38 ⟨g, o, none⟩).run Tryz.prog w = .ok (.agg #[v0, v1]) w := by go_simp
set_option maxRecDepth 100000 in
theorem ldr_Cut {w : World} {g o : Nat} {v0 : Value} {v1 : Value} (c0 : w.cell? ⟨g, o, none⟩ = some v0) (c1 : w.cell? ⟨g, o + 1, none⟩ = some v1) : (loadVar 40 ⟨g, o, none⟩).run Tryz.prog w = .ok (.agg #[v0, v1]) w := by go_simp
set_option maxRecDepth 100000 in
theorem neq_Cut {a : Act} {w : World} {o : Oper} {x y : Nat} {x0 x1 : Int} (ho : o.op = .binOp .neq 40 (.tmp x) (.tmp y) 40) (hx : a.eval (.tmp x) = .agg #[.int .u64 x0, .int .u64 x1]) (hy : a.eval (.tmp y) = .agg #[.int .u64 x0, .int .u64 x1]) : (execOp a.eval o).run Tryz.prog w = .ok (.value (.bool false)) w := by
  simp only [execOp, ho, hx, hy]
  go_simp
set_option maxRecDepth 100000 in
theorem ldr_Unbonding {w : World} {g o : Nat} {v0 : Value} {v1 : Value} {v2 : Value} {v3 : Value} {v4 : Value} {v5 : Value} (c0 : w.cell? ⟨g, o, none⟩ = some v0) (c1 : w.cell? ⟨g, o + 1, none⟩ = some v1) (c2 : w.cell? ⟨g, o + 2, none⟩ = some v2) (c3 : w.cell? ⟨g, o + 3, none⟩ = some v3) (c4 : w.cell? ⟨g, o + 4, none⟩ = some v4) (c5 : w.cell? ⟨g, o + 5, none⟩ = some v5) : (loadVar 42 ⟨g, o, none⟩).run Tryz.prog w = .ok (.agg #[v0, v1, v2, v3, v4, v5]) w := by go_simp
set_option maxRecDepth 100000 in
theorem neq_Unbonding {a : Act} {w : World} {o : Oper} {x y : Nat} {x0 x1 x2 x3 x4 x5 : Int} (ho : o.op = .binOp .neq 42 (.tmp x) (.tmp y) 42) (hx : a.eval (.tmp x) = .agg #[.int .u64 x0, .int .u64 x1, .int .u64 x2, .int .u64 x3, .int .u64 x4, .int .u64 x5]) (hy : a.eval (.tmp y) = .agg #[.int .u64 x0, .int .u64 x1, .int .u64 x2, .int .u64 x3, .int .u64 x4, .int .u64 x5]) : (execOp a.eval o).run Tryz.prog w = .ok (.value (.bool false)) w := by
  simp only [execOp, ho, hx, hy]
  go_simp
set_option maxRecDepth 100000 in
theorem ldr_Move {w : World} {g o : Nat} {v0 : Value} {v1 : Value} {v2 : Value} {v3 : Value} {v4 : Value} {v5 : Value} {v6 : Value} (c0 : w.cell? ⟨g, o, none⟩ = some v0) (c1 : w.cell? ⟨g, o + 1, none⟩ = some v1) (c2 : w.cell? ⟨g, o + 2, none⟩ = some v2) (c3 : w.cell? ⟨g, o + 3, none⟩ = some v3) (c4 : w.cell? ⟨g, o + 4, none⟩ = some v4) (c5 : w.cell? ⟨g, o + 5, none⟩ = some v5) (c6 : w.cell? ⟨g, o + 6, none⟩ = some v6) : (loadVar 44 ⟨g, o, none⟩).run Tryz.prog w = .ok (.agg #[v0, v1, v2, v3, v4, v5, v6]) w := by go_simp
theorem ldr_Number {w : World} {g o : Nat} {v : Value} (c0 : w.cell? ⟨g, o, none⟩ = some v) : (loadVar 22 ⟨g, o, none⟩).run Tryz.prog w = .ok v w := by go_simp
theorem neq_Number {a : Act} {w : World} {o : Oper} {x y : Nat} {x0 : Int} (ho : o.op = .binOp .neq 22 (.tmp x) (.tmp y) 22) (hx : a.eval (.tmp x) = .int .u64 x0) (hy : a.eval (.tmp y) = .int .u64 x0) : (execOp a.eval o).run Tryz.prog w = .ok (.value (.bool false)) w := by
  simp only [execOp, ho, hx, hy]
  go_simp
end Rc
end Go.Proofs.YtenlhceceplldaaGreat

namespace Go.Proofs.YtenlhceceplldaaGreat
namespace Rc
open Go.RowKit Go.Lib Pg Lim Go.ChangeShapes Go.WideShapes
variable {H : Type} {enc : TypeId × Value → H} {W : World} {base fuel : Nat} {spare : Nat → Bool} {held : Bool} {cs : List Value} {x : DataW H × List MemPlace}
/-- a field of a struct that was trodden -/
theorem open_field {t T : TypeId} {fs : Array Field} {f : Field} (i o n : Nat) (ht : Tryz.prog.underlying t = some (.struct fs)) (hf : fs[i]? = some f) (hT : f.type = T) (ho : f.offset = o) (hn : Tryz.prog.cellsOf T = n) (h : DataW.trod enc Tryz.prog W base spare held fuel t cs = some x) (hw : ∀ k ∈ x.1.weights Tryz.prog t, k ≤ reachBytes) :
    ∃ y m, DataW.trod enc Tryz.prog W base spare held m T ((cs.drop o).take n) = some y ∧ ∀ k ∈ y.1.weights Tryz.prog T, k ≤ reachBytes := by
  obtain ⟨xs, m, _, rfl, _, hxl, hx⟩ := DataW.trod_struct ht h
  have h1 := hx i f hf
  have hlt : i < xs.length := by
    have := (Array.getElem?_eq_some_iff.1 hf).1
    omega
  have h2 : xs[i]? = some xs[i] := List.getElem?_eq_getElem hlt
  rw [h2, hT, ho, hn] at h1
  refine ⟨xs[i], m, h1, fun k hk => hw k ?_⟩
  simp only [DataW.weights, ht]
  refine DataW.weights_mem_each (j := i) (t := T) (d := xs[i].1) ?_ ?_ k hk
  · rw [List.getElem?_map, Array.getElem?_toList, hf, ← hT]; rfl
  · rw [List.getElem?_map, h2]; rfl
theorem u64b {v : Int} (b : (Lit.int .u64 v).wf = true) : 0 ≤ v ∧ v < 18446744073709551616 := by
  have := bounds_u64 b
  omega
theorem get1 {o : Nat} {v : Value} (h : (cs.drop o).take 1 = [v]) : cs[o]? = some v := by
  have := congrArg (·[0]?) h
  simpa [List.getElem?_take, List.getElem?_drop] using this
theorem get2 {o m p : Nat} {v : Value} (h : (((cs.drop o).take m).drop p).take 1 = [v]) : cs[o + p]? = some v := by
  have h1 := get1 h
  rw [List.getElem?_take] at h1
  split at h1
  · rwa [List.getElem?_drop] at h1
  · cases h1
theorem get3 {o m p : Nat} {v : Value} (h : (((((cs.drop o).take m).drop p).take 1).drop 0).take 1 = [v]) : cs[o + p]? = some v := by
  rw [List.drop_zero, List.take_take] at h
  exact get2 h
set_option maxRecDepth 100000 in
set_option maxHeartbeats 4000000 in
theorem rec_in (hs : ∀ b, spare b = true) (hlen : cs.length = 46) (h : DataW.trod enc Tryz.prog W base spare held fuel 46 cs = some x) (hw : ∀ k ∈ x.1.weights Tryz.prog 46, k ≤ reachBytes) : ∃ xs aa ns cc ts, RecA W cs xs aa ns cc ts := by
  have cU : Tryz.prog.cellsOf 22 = 1 := by kernel_rfl
  have cN : Tryz.prog.cellsOf 28 = 1 := by kernel_rfl
  have cD : Tryz.prog.cellsOf 30 = 1 := by kernel_rfl
  have cB : Tryz.prog.cellsOf 4 = 1 := by kernel_rfl
  obtain ⟨y, m, g, gw⟩ := open_field 0 0 10 Tryz.underlying46 rfl rfl rfl (by kernel_rfl) h hw
  obtain ⟨y1, m1, g1, -⟩ := open_field 0 0 1 Tryz.underlying24 rfl rfl rfl cU g gw
  obtain ⟨v0, e, _, b⟩ := DataW.trod_int Tryz.underlying22 g1
  have q0 := get2 e
  have r0 := u64b b
  clear g1 e b
  obtain ⟨y1, m1, g1, -⟩ := open_field 1 1 1 Tryz.underlying24 rfl rfl rfl cU g gw
  obtain ⟨v1, e, _, b⟩ := DataW.trod_int Tryz.underlying22 g1
  have q1 := get2 e
  have r1 := u64b b
  clear g1 e b
  obtain ⟨y1, m1, g1, -⟩ := open_field 2 2 1 Tryz.underlying24 rfl rfl rfl cU g gw
  obtain ⟨v2, e, _, b⟩ := DataW.trod_int Tryz.underlying22 g1
  have q2 := get2 e
  have r2 := u64b b
  clear g1 e b
  obtain ⟨y1, m1, g1, -⟩ := open_field 3 3 1 Tryz.underlying24 rfl rfl rfl cU g gw
  obtain ⟨v3, e, _, b⟩ := DataW.trod_int Tryz.underlying22 g1
  have q3 := get2 e
  have r3 := u64b b
  clear g1 e b
  obtain ⟨y1, m1, g1, -⟩ := open_field 4 4 1 Tryz.underlying24 rfl rfl rfl cU g gw
  obtain ⟨v4, e, _, b⟩ := DataW.trod_int Tryz.underlying22 g1
  have q4 := get2 e
  have r4 := u64b b
  clear g1 e b
  obtain ⟨y1, m1, g1, -⟩ := open_field 5 5 1 Tryz.underlying24 rfl rfl rfl cU g gw
  obtain ⟨v5, e, _, b⟩ := DataW.trod_int Tryz.underlying22 g1
  have q5 := get2 e
  have r5 := u64b b
  clear g1 e b
  obtain ⟨y1, m1, g1, -⟩ := open_field 6 6 1 Tryz.underlying24 rfl rfl rfl cU g gw
  obtain ⟨v6, e, _, b⟩ := DataW.trod_int Tryz.underlying22 g1
  have q6 := get2 e
  have r6 := u64b b
  clear g1 e b
  obtain ⟨y1, m1, g1, -⟩ := open_field 7 7 1 Tryz.underlying24 rfl rfl rfl cU g gw
  obtain ⟨v7, e, _, b⟩ := DataW.trod_int Tryz.underlying22 g1
  have q7 := get2 e
  have r7 := u64b b
  clear g1 e b
  obtain ⟨y1, m1, g1, -⟩ := open_field 8 8 1 Tryz.underlying24 rfl rfl rfl cU g gw
  obtain ⟨v8, e, _, b⟩ := DataW.trod_int Tryz.underlying22 g1
  have q8 := get2 e
  have r8 := u64b b
  clear g1 e b
  obtain ⟨y1, m1, g1, -⟩ := open_field 9 9 1 Tryz.underlying24 rfl rfl rfl cU g gw
  obtain ⟨v9, e, _, b⟩ := DataW.trod_int Tryz.underlying22 g1
  have q9 := get2 e
  have r9 := u64b b
  clear g1 e b
  clear g gw
  obtain ⟨y, m, g, gw⟩ := open_field 1 10 2 Tryz.underlying46 rfl rfl rfl (by kernel_rfl) h hw
  obtain ⟨y1, m1, g1, -⟩ := open_field 0 0 1 Tryz.underlying26 rfl rfl rfl cU g gw
  obtain ⟨v10, e, _, b⟩ := DataW.trod_int Tryz.underlying22 g1
  have q10 := get2 e
  have r10 := u64b b
  clear g1 e b
  obtain ⟨y1, m1, g1, -⟩ := open_field 1 1 1 Tryz.underlying26 rfl rfl rfl cU g gw
  obtain ⟨v11, e, _, b⟩ := DataW.trod_int Tryz.underlying22 g1
  have q11 := get2 e
  have r11 := u64b b
  clear g1 e b
  clear g gw
  obtain ⟨y, m, g, gw⟩ := open_field 2 12 1 Tryz.underlying46 rfl rfl rfl (by kernel_rfl) h hw
  obtain ⟨y1, m1, g1, gw1⟩ := open_field 0 0 1 Tryz.underlying30 rfl rfl rfl cN g gw
  have e1 : ((((cs.drop 12).take 1).drop 0).take 1).length = 1 := by simp [hlen]
  obtain ⟨cell, ec⟩ : ∃ c, (((cs.drop 12).take 1).drop 0).take 1 = [c] := List.length_eq_one_iff.1 e1
  rw [ec] at g1
  obtain ⟨a12, n12, c12, v12, rfl, N12, l12⟩ := row_nat g1 hs gw1
  have q12 := get2 (p := 0) ec
  clear g1 gw1 e1 ec
  clear g gw
  obtain ⟨y, m, g, gw⟩ := open_field 3 13 2 Tryz.underlying46 rfl rfl rfl (by kernel_rfl) h hw
  obtain ⟨y1, m1, g1, -⟩ := open_field 0 0 1 Tryz.underlying32 rfl rfl rfl cU g gw
  obtain ⟨v13, e, _, b⟩ := DataW.trod_int Tryz.underlying22 g1
  have q13 := get2 e
  have r13 := u64b b
  clear g1 e b
  obtain ⟨y1, m1, g1, -⟩ := open_field 1 1 1 Tryz.underlying32 rfl rfl rfl cU g gw
  obtain ⟨v14, e, _, b⟩ := DataW.trod_int Tryz.underlying22 g1
  have q14 := get2 e
  have r14 := u64b b
  clear g1 e b
  clear g gw
  obtain ⟨y, m, g, gw⟩ := open_field 4 15 10 Tryz.underlying46 rfl rfl rfl (by kernel_rfl) h hw
  obtain ⟨y1, m1, g1, -⟩ := open_field 0 0 1 Tryz.underlying34 rfl rfl rfl cU g gw
  obtain ⟨v15, e, _, b⟩ := DataW.trod_int Tryz.underlying22 g1
  have q15 := get2 e
  have r15 := u64b b
  clear g1 e b
  obtain ⟨y1, m1, g1, -⟩ := open_field 1 1 1 Tryz.underlying34 rfl rfl rfl cU g gw
  obtain ⟨v16, e, _, b⟩ := DataW.trod_int Tryz.underlying22 g1
  have q16 := get2 e
  have r16 := u64b b
  clear g1 e b
  obtain ⟨y1, m1, g1, gw1⟩ := open_field 2 2 1 Tryz.underlying34 rfl rfl rfl cD g gw
  obtain ⟨y2, m2, g2, gw2⟩ := open_field 0 0 1 Tryz.underlying30 rfl rfl rfl cN g1 gw1
  have e1 : ((((((cs.drop 15).take 10).drop 2).take 1).drop 0).take 1).length = 1 := by simp [hlen]
  obtain ⟨cell, ec⟩ : ∃ c, (((((cs.drop 15).take 10).drop 2).take 1).drop 0).take 1 = [c] := List.length_eq_one_iff.1 e1
  rw [ec] at g2
  obtain ⟨a17, n17, c17, v17, rfl, N17, l17⟩ := row_nat g2 hs gw2
  have q17 := get3 ec
  clear g1 gw1 g2 gw2 e1 ec
  obtain ⟨y1, m1, g1, -⟩ := open_field 3 3 1 Tryz.underlying34 rfl rfl rfl cB g gw
  obtain ⟨t18, e, _⟩ := DataW.trod_bool Tryz.underlying4 g1
  have q18 := get2 e
  clear g1 e
  obtain ⟨y1, m1, g1, -⟩ := open_field 4 4 1 Tryz.underlying34 rfl rfl rfl cU g gw
  obtain ⟨v19, e, _, b⟩ := DataW.trod_int Tryz.underlying22 g1
  have q19 := get2 e
  have r19 := u64b b
  clear g1 e b
  obtain ⟨y1, m1, g1, -⟩ := open_field 5 5 1 Tryz.underlying34 rfl rfl rfl cB g gw
  obtain ⟨t20, e, _⟩ := DataW.trod_bool Tryz.underlying4 g1
  have q20 := get2 e
  clear g1 e
  obtain ⟨y1, m1, g1, -⟩ := open_field 6 6 1 Tryz.underlying34 rfl rfl rfl cU g gw
  obtain ⟨v21, e, _, b⟩ := DataW.trod_int Tryz.underlying22 g1
  have q21 := get2 e
  have r21 := u64b b
  clear g1 e b
  obtain ⟨y1, m1, g1, gw1⟩ := open_field 7 7 1 Tryz.underlying34 rfl rfl rfl cD g gw
  obtain ⟨y2, m2, g2, gw2⟩ := open_field 0 0 1 Tryz.underlying30 rfl rfl rfl cN g1 gw1
  have e1 : ((((((cs.drop 15).take 10).drop 7).take 1).drop 0).take 1).length = 1 := by simp [hlen]
  obtain ⟨cell, ec⟩ : ∃ c, (((((cs.drop 15).take 10).drop 7).take 1).drop 0).take 1 = [c] := List.length_eq_one_iff.1 e1
  rw [ec] at g2
  obtain ⟨a22, n22, c22, v22, rfl, N22, l22⟩ := row_nat g2 hs gw2
  have q22 := get3 ec
  clear g1 gw1 g2 gw2 e1 ec
  obtain ⟨y1, m1, g1, gw1⟩ := open_field 8 8 1 Tryz.underlying34 rfl rfl rfl cD g gw
  obtain ⟨y2, m2, g2, gw2⟩ := open_field 0 0 1 Tryz.underlying30 rfl rfl rfl cN g1 gw1
  have e1 : ((((((cs.drop 15).take 10).drop 8).take 1).drop 0).take 1).length = 1 := by simp [hlen]
  obtain ⟨cell, ec⟩ : ∃ c, (((((cs.drop 15).take 10).drop 8).take 1).drop 0).take 1 = [c] := List.length_eq_one_iff.1 e1
  rw [ec] at g2
  obtain ⟨a23, n23, c23, v23, rfl, N23, l23⟩ := row_nat g2 hs gw2
  have q23 := get3 ec
  clear g1 gw1 g2 gw2 e1 ec
  obtain ⟨y1, m1, g1, gw1⟩ := open_field 9 9 1 Tryz.underlying34 rfl rfl rfl cD g gw
  obtain ⟨y2, m2, g2, gw2⟩ := open_field 0 0 1 Tryz.underlying30 rfl rfl rfl cN g1 gw1
  have e1 : ((((((cs.drop 15).take 10).drop 9).take 1).drop 0).take 1).length = 1 := by simp [hlen]
  obtain ⟨cell, ec⟩ : ∃ c, (((((cs.drop 15).take 10).drop 9).take 1).drop 0).take 1 = [c] := List.length_eq_one_iff.1 e1
  rw [ec] at g2
  obtain ⟨a24, n24, c24, v24, rfl, N24, l24⟩ := row_nat g2 hs gw2
  have q24 := get3 ec
  clear g1 gw1 g2 gw2 e1 ec
  clear g gw
  obtain ⟨y, m, g, gw⟩ := open_field 5 25 3 Tryz.underlying46 rfl rfl rfl (by kernel_rfl) h hw
  obtain ⟨y1, m1, g1, gw1⟩ := open_field 0 0 1 Tryz.underlying36 rfl rfl rfl cD g gw
  obtain ⟨y2, m2, g2, gw2⟩ := open_field 0 0 1 Tryz.underlying30 rfl rfl rfl cN g1 gw1
  have e1 : ((((((cs.drop 25).take 3).drop 0).take 1).drop 0).take 1).length = 1 := by simp [hlen]
  obtain ⟨cell, ec⟩ : ∃ c, (((((cs.drop 25).take 3).drop 0).take 1).drop 0).take 1 = [c] := List.length_eq_one_iff.1 e1
  rw [ec] at g2
  obtain ⟨a25, n25, c25, v25, rfl, N25, l25⟩ := row_nat g2 hs gw2
  have q25 := get3 ec
  clear g1 gw1 g2 gw2 e1 ec
  obtain ⟨y1, m1, g1, -⟩ := open_field 1 1 1 Tryz.underlying36 rfl rfl rfl cU g gw
  obtain ⟨v26, e, _, b⟩ := DataW.trod_int Tryz.underlying22 g1
  have q26 := get2 e
  have r26 := u64b b
  clear g1 e b
  obtain ⟨y1, m1, g1, gw1⟩ := open_field 2 2 1 Tryz.underlying36 rfl rfl rfl cD g gw
  obtain ⟨y2, m2, g2, gw2⟩ := open_field 0 0 1 Tryz.underlying30 rfl rfl rfl cN g1 gw1
  have e1 : ((((((cs.drop 25).take 3).drop 2).take 1).drop 0).take 1).length = 1 := by simp [hlen]
  obtain ⟨cell, ec⟩ : ∃ c, (((((cs.drop 25).take 3).drop 2).take 1).drop 0).take 1 = [c] := List.length_eq_one_iff.1 e1
  rw [ec] at g2
  obtain ⟨a27, n27, c27, v27, rfl, N27, l27⟩ := row_nat g2 hs gw2
  have q27 := get3 ec
  clear g1 gw1 g2 gw2 e1 ec
  clear g gw
  obtain ⟨y, m, g, gw⟩ := open_field 6 28 2 Tryz.underlying46 rfl rfl rfl (by kernel_rfl) h hw
  obtain ⟨y1, m1, g1, gw1⟩ := open_field 0 0 1 Tryz.underlying38 rfl rfl rfl cD g gw
  obtain ⟨y2, m2, g2, gw2⟩ := open_field 0 0 1 Tryz.underlying30 rfl rfl rfl cN g1 gw1
  have e1 : ((((((cs.drop 28).take 2).drop 0).take 1).drop 0).take 1).length = 1 := by simp [hlen]
  obtain ⟨cell, ec⟩ : ∃ c, (((((cs.drop 28).take 2).drop 0).take 1).drop 0).take 1 = [c] := List.length_eq_one_iff.1 e1
  rw [ec] at g2
  obtain ⟨a28, n28, c28, v28, rfl, N28, l28⟩ := row_nat g2 hs gw2
  have q28 := get3 ec
  clear g1 gw1 g2 gw2 e1 ec
  obtain ⟨y1, m1, g1, -⟩ := open_field 1 1 1 Tryz.underlying38 rfl rfl rfl cU g gw
  obtain ⟨v29, e, _, b⟩ := DataW.trod_int Tryz.underlying22 g1
  have q29 := get2 e
  have r29 := u64b b
  clear g1 e b
  clear g gw
  obtain ⟨y, m, g, gw⟩ := open_field 7 30 2 Tryz.underlying46 rfl rfl rfl (by kernel_rfl) h hw
  obtain ⟨y1, m1, g1, -⟩ := open_field 0 0 1 Tryz.underlying40 rfl rfl rfl cU g gw
  obtain ⟨v30, e, _, b⟩ := DataW.trod_int Tryz.underlying22 g1
  have q30 := get2 e
  have r30 := u64b b
  clear g1 e b
  obtain ⟨y1, m1, g1, -⟩ := open_field 1 1 1 Tryz.underlying40 rfl rfl rfl cU g gw
  obtain ⟨v31, e, _, b⟩ := DataW.trod_int Tryz.underlying22 g1
  have q31 := get2 e
  have r31 := u64b b
  clear g1 e b
  clear g gw
  obtain ⟨y, m, g, gw⟩ := open_field 8 32 6 Tryz.underlying46 rfl rfl rfl (by kernel_rfl) h hw
  obtain ⟨y1, m1, g1, -⟩ := open_field 0 0 1 Tryz.underlying42 rfl rfl rfl cU g gw
  obtain ⟨v32, e, _, b⟩ := DataW.trod_int Tryz.underlying22 g1
  have q32 := get2 e
  have r32 := u64b b
  clear g1 e b
  obtain ⟨y1, m1, g1, -⟩ := open_field 1 1 1 Tryz.underlying42 rfl rfl rfl cU g gw
  obtain ⟨v33, e, _, b⟩ := DataW.trod_int Tryz.underlying22 g1
  have q33 := get2 e
  have r33 := u64b b
  clear g1 e b
  obtain ⟨y1, m1, g1, -⟩ := open_field 2 2 1 Tryz.underlying42 rfl rfl rfl cU g gw
  obtain ⟨v34, e, _, b⟩ := DataW.trod_int Tryz.underlying22 g1
  have q34 := get2 e
  have r34 := u64b b
  clear g1 e b
  obtain ⟨y1, m1, g1, -⟩ := open_field 3 3 1 Tryz.underlying42 rfl rfl rfl cU g gw
  obtain ⟨v35, e, _, b⟩ := DataW.trod_int Tryz.underlying22 g1
  have q35 := get2 e
  have r35 := u64b b
  clear g1 e b
  obtain ⟨y1, m1, g1, -⟩ := open_field 4 4 1 Tryz.underlying42 rfl rfl rfl cU g gw
  obtain ⟨v36, e, _, b⟩ := DataW.trod_int Tryz.underlying22 g1
  have q36 := get2 e
  have r36 := u64b b
  clear g1 e b
  obtain ⟨y1, m1, g1, -⟩ := open_field 5 5 1 Tryz.underlying42 rfl rfl rfl cU g gw
  obtain ⟨v37, e, _, b⟩ := DataW.trod_int Tryz.underlying22 g1
  have q37 := get2 e
  have r37 := u64b b
  clear g1 e b
  clear g gw
  obtain ⟨y, m, g, gw⟩ := open_field 9 38 7 Tryz.underlying46 rfl rfl rfl (by kernel_rfl) h hw
  obtain ⟨y1, m1, g1, -⟩ := open_field 0 0 1 Tryz.underlying44 rfl rfl rfl cU g gw
  obtain ⟨v38, e, _, b⟩ := DataW.trod_int Tryz.underlying22 g1
  have q38 := get2 e
  have r38 := u64b b
  clear g1 e b
  obtain ⟨y1, m1, g1, -⟩ := open_field 1 1 1 Tryz.underlying44 rfl rfl rfl cU g gw
  obtain ⟨v39, e, _, b⟩ := DataW.trod_int Tryz.underlying22 g1
  have q39 := get2 e
  have r39 := u64b b
  clear g1 e b
  obtain ⟨y1, m1, g1, -⟩ := open_field 2 2 1 Tryz.underlying44 rfl rfl rfl cU g gw
  obtain ⟨v40, e, _, b⟩ := DataW.trod_int Tryz.underlying22 g1
  have q40 := get2 e
  have r40 := u64b b
  clear g1 e b
  obtain ⟨y1, m1, g1, -⟩ := open_field 3 3 1 Tryz.underlying44 rfl rfl rfl cU g gw
  obtain ⟨v41, e, _, b⟩ := DataW.trod_int Tryz.underlying22 g1
  have q41 := get2 e
  have r41 := u64b b
  clear g1 e b
  obtain ⟨y1, m1, g1, -⟩ := open_field 4 4 1 Tryz.underlying44 rfl rfl rfl cU g gw
  obtain ⟨v42, e, _, b⟩ := DataW.trod_int Tryz.underlying22 g1
  have q42 := get2 e
  have r42 := u64b b
  clear g1 e b
  obtain ⟨y1, m1, g1, -⟩ := open_field 5 5 1 Tryz.underlying44 rfl rfl rfl cU g gw
  obtain ⟨v43, e, _, b⟩ := DataW.trod_int Tryz.underlying22 g1
  have q43 := get2 e
  have r43 := u64b b
  clear g1 e b
  obtain ⟨y1, m1, g1, gw1⟩ := open_field 6 6 1 Tryz.underlying44 rfl rfl rfl cD g gw
  obtain ⟨y2, m2, g2, gw2⟩ := open_field 0 0 1 Tryz.underlying30 rfl rfl rfl cN g1 gw1
  have e1 : ((((((cs.drop 38).take 7).drop 6).take 1).drop 0).take 1).length = 1 := by simp [hlen]
  obtain ⟨cell, ec⟩ : ∃ c, (((((cs.drop 38).take 7).drop 6).take 1).drop 0).take 1 = [c] := List.length_eq_one_iff.1 e1
  rw [ec] at g2
  obtain ⟨a44, n44, c44, v44, rfl, N44, l44⟩ := row_nat g2 hs gw2
  have q44 := get3 ec
  clear g1 gw1 g2 gw2 e1 ec
  clear g gw
  obtain ⟨y, m, g, -⟩ := open_field 10 45 1 Tryz.underlying46 rfl rfl rfl cU h hw
  obtain ⟨v45, e, _, b⟩ := DataW.trod_int Tryz.underlying22 g
  have q45 := get1 e
  have r45 := u64b b
  clear g e b
  refine ⟨fun i => ([v0, v1, v2, v3, v4, v5, v6, v7, v8, v9, v10, v11, v12, v13, v14, v15, v16, v17, 0, v19, 0, v21, v22, v23, v24, v25, v26, v27, v28, v29, v30, v31, v32, v33, v34, v35, v36, v37, v38, v39, v40, v41, v42, v43, v44, v45] : List Int).getD i 0, fun i => ([none, none, none, none, none, none, none, none, none, none, none, none, a12, none, none, none, none, a17, none, none, none, none, a22, a23, a24, a25, none, a27, a28, none, none, none, none, none, none, none, none, none, none, none, none, none, none, none, a44, none] : List (Option Addr)).getD i none, fun i => ([0, 0, 0, 0, 0, 0, 0, 0, 0, 0, 0, 0, n12, 0, 0, 0, 0, n17, 0, 0, 0, 0, n22, n23, n24, n25, 0, n27, n28, 0, 0, 0, 0, 0, 0, 0, 0, 0, 0, 0, 0, 0, 0, 0, n44, 0] : List Nat).getD i 0, fun i => ([0, 0, 0, 0, 0, 0, 0, 0, 0, 0, 0, 0, c12, 0, 0, 0, 0, c17, 0, 0, 0, 0, c22, c23, c24, c25, 0, c27, c28, 0, 0, 0, 0, 0, 0, 0, 0, 0, 0, 0, 0, 0, 0, 0, c44, 0] : List Nat).getD i 0, fun i => ([false, false, false, false, false, false, false, false, false, false, false, false, false, false, false, false, false, false, t18, false, t20, false, false, false, false, false, false, false, false, false, false, false, false, false, false, false, false, false, false, false, false, false, false, false, false, false] : List Bool).getD i false, hlen, ?_, ?_, ?_⟩
  · exact List.forall_mem_cons.2 ⟨⟨q0, r0⟩, List.forall_mem_cons.2 ⟨⟨q1, r1⟩, List.forall_mem_cons.2 ⟨⟨q2, r2⟩, List.forall_mem_cons.2 ⟨⟨q3, r3⟩, List.forall_mem_cons.2 ⟨⟨q4, r4⟩, List.forall_mem_cons.2 ⟨⟨q5, r5⟩, List.forall_mem_cons.2 ⟨⟨q6, r6⟩, List.forall_mem_cons.2 ⟨⟨q7, r7⟩, List.forall_mem_cons.2 ⟨⟨q8, r8⟩, List.forall_mem_cons.2 ⟨⟨q9, r9⟩, List.forall_mem_cons.2 ⟨⟨q10, r10⟩, List.forall_mem_cons.2 ⟨⟨q11, r11⟩, List.forall_mem_cons.2 ⟨⟨q13, r13⟩, List.forall_mem_cons.2 ⟨⟨q14, r14⟩, List.forall_mem_cons.2 ⟨⟨q15, r15⟩, List.forall_mem_cons.2 ⟨⟨q16, r16⟩, List.forall_mem_cons.2 ⟨⟨q19, r19⟩, List.forall_mem_cons.2 ⟨⟨q21, r21⟩, List.forall_mem_cons.2 ⟨⟨q26, r26⟩, List.forall_mem_cons.2 ⟨⟨q29, r29⟩, List.forall_mem_cons.2 ⟨⟨q30, r30⟩, List.forall_mem_cons.2 ⟨⟨q31, r31⟩, List.forall_mem_cons.2 ⟨⟨q32, r32⟩, List.forall_mem_cons.2 ⟨⟨q33, r33⟩, List.forall_mem_cons.2 ⟨⟨q34, r34⟩, List.forall_mem_cons.2 ⟨⟨q35, r35⟩, List.forall_mem_cons.2 ⟨⟨q36, r36⟩, List.forall_mem_cons.2 ⟨⟨q37, r37⟩, List.forall_mem_cons.2 ⟨⟨q38, r38⟩, List.forall_mem_cons.2 ⟨⟨q39, r39⟩, List.forall_mem_cons.2 ⟨⟨q40, r40⟩, List.forall_mem_cons.2 ⟨⟨q41, r41⟩, List.forall_mem_cons.2 ⟨⟨q42, r42⟩, List.forall_mem_cons.2 ⟨⟨q43, r43⟩, List.forall_mem_cons.2 ⟨⟨q45, r45⟩, fun _ h => by cases h⟩⟩⟩⟩⟩⟩⟩⟩⟩⟩⟩⟩⟩⟩⟩⟩⟩⟩⟩⟩⟩⟩⟩⟩⟩⟩⟩⟩⟩⟩⟩⟩⟩⟩⟩
  · exact List.forall_mem_cons.2 ⟨q18, List.forall_mem_cons.2 ⟨q20, fun _ h => by cases h⟩⟩
  · exact List.forall_mem_cons.2 ⟨⟨q12, N12, l12⟩, List.forall_mem_cons.2 ⟨⟨q17, N17, l17⟩, List.forall_mem_cons.2 ⟨⟨q22, N22, l22⟩, List.forall_mem_cons.2 ⟨⟨q23, N23, l23⟩, List.forall_mem_cons.2 ⟨⟨q24, N24, l24⟩, List.forall_mem_cons.2 ⟨⟨q25, N25, l25⟩, List.forall_mem_cons.2 ⟨⟨q27, N27, l27⟩, List.forall_mem_cons.2 ⟨⟨q28, N28, l28⟩, List.forall_mem_cons.2 ⟨⟨q44, N44, l44⟩, fun _ h => by cases h⟩⟩⟩⟩⟩⟩⟩⟩⟩
end Rc
end Go.Proofs.YtenlhceceplldaaGreat

namespace Go.Proofs.YtenlhceceplldaaGreat
namespace Rc
open Go.RowKit Go.Lib Pg Lim
theorem enc1_fit {k : Nat} {x y : Int} (h : fitk k x = fitk k y) : enc1 k x = enc1 k y := by
  match k, h with
  | 0, h => have e : x = y := h; rw [e]
  | 1, h => have e : x = y := h; rw [e]
  | k + 2, h =>
    have e : fit x = fit y := h
    show cntd 1 (natB (fit x)) = cntd 1 (natB (fit y))
    rw [e]
/-- two records' bytes are the same just if what they hold is -/
theorem thr_inj (xs ys : Nat → Int) (ks : List (Nat × Nat)) (hnd : (ks.map Prod.snd).Nodup) (hx : ∀ p ∈ ks, rng p.1 (xs p.2)) (hy : ∀ p ∈ ks, rng p.1 (ys p.2)) :
    thr (pnx xs) ks [] = thr (pnx ys) ks [] ↔ ∀ p ∈ ks, fitk p.1 (xs p.2) = fitk p.1 (ys p.2) := by
  constructor
  · intro h p hp
    obtain ⟨u, e1, e2, -⟩ := thr_back xs ks [] (fun _ => 0) hnd hx
    obtain ⟨v, f1, f2, -⟩ := thr_back ys ks [] (fun _ => 0) hnd hy
    rw [h] at e1
    have e := e1.symm.trans f1
    have e' : u = v := congrArg (fun s : Int × List Int × (Nat → Int) => s.2.2) e
    rw [← e2 p hp, ← f2 p hp, e']
  · intro h
    have key : ∀ (ks : List (Nat × Nat)) (L : List Int), (∀ p ∈ ks, fitk p.1 (xs p.2) = fitk p.1 (ys p.2)) → thr (pnx xs) ks L = thr (pnx ys) ks L := by
      intro ks
      induction ks with
      | nil => intro L _; rfl
      | cons p ks ih =>
        intro L h
        rw [thr_cons, thr_cons]
        have e : pnx xs p.1 p.2 L = pnx ys p.1 p.2 L := by
          unfold pnx
          rw [enc1_fit (h p List.mem_cons_self)]
        rw [e]
        exact ih _ fun q hq => h q (List.mem_cons_of_mem _ hq)
    exact key ks [] h
/-- decimals held against one another -/
theorem decAny {w : World} {a0 a1 : Option Addr} {n0 c0 n1 c1 : Nat} {x y : Int} (h0 : NatO w a0 n0 c0 x) (h1 : NatO w a1 n1 c1 y) (hn0 : n0 ≤ 1000000) (hn1 : n1 ≤ 1000000) (r : Bool) (hr : decide (x = y) = r) :
    Calls Tryz.prog 36 #[.agg #[.slice a0 n0 c0], .agg #[.slice a1 n1 c1]] w fun e w' => e = .returned (.bool r) ∧ Below w.heap.size w w' := by
  have b1 := below_alloc w (.cells #[.slice a0 n0 c0] 30)
  have b2 := below_alloc (w.alloc (.cells #[.slice a0 n0 c0] 30)) (.cells #[.slice a1 n1 c1] 30)
  have BB := joinB b1 b2
  have t := nSame (h0.keep BB) (h1.keep BB) (by omega) (by omega)
  rw [hr] at t
  have HB := hid3 BB
  clear h0 h1 b1 b2 BB
  go_enter Tryz.func36, Tryz.ntmps36
  go_wp2_with fail
  refine t.mono ?_
  rintro e w1 ⟨rfl, B1⟩
  have HB1 := hid3 (joinB HB.out B1)
  clear t B1
  go_wp2
  go_ret
  exact ⟨rfl, HB1.out⟩
end Rc
end Go.Proofs.YtenlhceceplldaaGreat
