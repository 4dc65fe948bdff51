/- Digits of 32 bits: sums, differences and products, digit by digit (mathematics alone). -/
import Derived.Test.YtplmeahabddklaaDoorRefS
namespace Go.Proofs.YtplmeahabddklaaDoor
open Go.RowKit Lim

theorem p32_pos (k : Nat) : (0 : Int) < 4294967296 ^ k := Int.pow_pos (by decide)
theorem v32_take_succ (l : List Int) (k : Nat) : v32 (l.take (k + 1)) = v32 (l.take k) + 4294967296 ^ k * nth l k := by
  by_cases h : k < l.length
  · rw [take_succ_nth h, v32_append, List.length_take, Nat.min_eq_left (by omega)]; simp [v32]
  · rw [List.take_of_length_le (by omega), List.take_of_length_le (by omega), nth_ge (by omega)]; simp
theorem v32_set {l : List Int} {i : Nat} (h : i < l.length) (x : Int) : v32 (l.set i x) = v32 l + 4294967296 ^ i * (x - nth l i) := by
  induction l generalizing i with
  | nil => simp at h
  | cons y l ih =>
    cases i with
    | zero => simp only [List.set_cons_zero, v32, nth_zero, Int.pow_zero]; omega
    | succ i =>
      rw [List.set_cons_succ, v32, v32, nth_succ, ih (by simpa using h), Int.pow_succ]
      grind
theorem v32_take_set {l : List Int} {k : Nat} (h : k < l.length) (x : Int) : v32 ((l.set k x).take (k + 1)) = v32 (l.take k) + 4294967296 ^ k * x := by
  rw [v32_take_succ, nth_set h, if_pos rfl, List.take_set_of_le (by omega)]
theorem Dig32.set {l : List Int} (h : Dig32 l) (k : Nat) {x : Int} (h0 : 0 ≤ x) (h1 : x < 4294967296) : Dig32 (l.set k x) := by
  intro y hy
  rcases List.mem_or_eq_of_mem_set hy with e | e
  · exact h y e
  · subst e; exact ⟨h0, h1⟩
theorem dig_zero (n : Nat) : Dig32 (List.replicate n 0) := fun x hx => by
  have := (List.mem_replicate.1 hx).2
  subst this; decide
theorem v32_zero (n : Nat) : v32 (List.replicate n 0) = 0 := v32_zeros fun i => by simp [nth, List.getElem?_replicate]; split <;> rfl

/-- k digits of a sum are laid -/
structure SumInv (x y lz : List Int) (n k : Nat) (c : Int) : Prop where
  len : lz.length = n
  dig : Dig32 lz
  c0 : 0 ≤ c
  c1 : c ≤ 1
  val : v32 (lz.take k) + 4294967296 ^ k * c = v32 (x.take k) + v32 (y.take k)
theorem SumInv.step {x y lz : List Int} {n k : Nat} {c s : Int} (h : SumInv x y lz n k c) (hk : k < n) (hx : Dig32 x) (hy : Dig32 y) (hs : s = c + nth x k + nth y k) :
    SumInv x y (lz.set k (s % 4294967296)) n (k + 1) (s / 4294967296) := by
  have h1 := hx.nth k
  have h2 := hy.nth k
  have h3 := h.c0
  have h4 := h.c1
  have h5 := h.val
  have hl := h.len
  refine ⟨by simp [hl], h.dig.set _ (by omega) (by omega), by omega, by omega, ?_⟩
  rw [v32_take_set (by omega), v32_take_succ, v32_take_succ, Int.pow_succ]
  have e : s = 4294967296 * (s / 4294967296) + s % 4294967296 := (Int.mul_ediv_add_emod s 4294967296).symm
  generalize s / 4294967296 = q at *
  generalize s % 4294967296 = r at *
  have : (4294967296 : Int) ^ k * (4294967296 * q + r) = 4294967296 ^ k * (c + nth x k + nth y k) := by rw [← e, hs]
  grind
theorem SumInv.fin {x y lz : List Int} {n : Nat} {c : Int} (h : SumInv x y lz n n c) (hx : Dig32 x) (hy : Dig32 y) (h1 : x.length < n) (h2 : y.length < n) : v32 lz = v32 x + v32 y := by
  have hv := h.val
  have hl := h.len
  have bx := v32_bound hx
  have by' := v32_bound hy
  have bz := v32_bound h.dig
  rw [List.take_of_length_le (by omega), List.take_of_length_le (by omega), List.take_of_length_le (by omega)] at hv
  have m1 := pow32_mono (show x.length ≤ n - 1 by omega)
  have m2 := pow32_mono (show y.length ≤ n - 1 by omega)
  have hp : (4294967296 : Int) ^ n = 4294967296 ^ (n - 1) * 4294967296 := by rw [← Int.pow_succ]; congr 1; omega
  have hq := p32_pos (n - 1)
  have h3 := h.c0
  have h4 := h.c1
  have hc : c = 0 := by
    by_cases e : c = 1
    · subst e; rw [hp] at hv; omega
    · omega
  subst hc
  omega

/-- k digits of a difference are laid -/
structure DifInv (x y lz : List Int) (n k : Nat) (c : Int) : Prop where
  len : lz.length = n
  dig : Dig32 lz
  c0 : 0 ≤ c
  c1 : c ≤ 1
  val : v32 (lz.take k) = v32 (x.take k) - v32 (y.take k) + 4294967296 ^ k * c
theorem DifInv.step {x y lz : List Int} {n k : Nat} {c s r c' : Int} (h : DifInv x y lz n k c) (hk : k < n) (hs : s = c + nth y k) (hc : c' = 0 ∨ c' = 1) (hr : r = nth x k - s + 4294967296 * c') (hr0 : 0 ≤ r) (hr1 : r < 4294967296) :
    DifInv x y (lz.set k r) n (k + 1) c' := by
  have h5 := h.val
  have hl := h.len
  refine ⟨by simp [hl], h.dig.set _ hr0 hr1, by omega, by omega, ?_⟩
  rw [v32_take_set (by omega), v32_take_succ, v32_take_succ, Int.pow_succ, h5, hr, hs]
  grind
theorem DifInv.fin {x y lz : List Int} {n : Nat} {c : Int} (h : DifInv x y lz n n c) (hx : Dig32 x) (hy : Dig32 y) (h1 : x.length = n) (h2 : y.length ≤ n) (hle : v32 y ≤ v32 x) : v32 lz = v32 x - v32 y := by
  have hv := h.val
  have hl := h.len
  have bz := v32_bound h.dig
  have bx := v32_bound hx
  have by' := v32_bound hy
  rw [List.take_of_length_le (by omega), List.take_of_length_le (by omega), List.take_of_length_le (by omega)] at hv
  have h3 := h.c0
  have h4 := h.c1
  rw [hl] at bz
  have hc : c = 0 := by
    by_cases e : c = 1
    · subst e; omega
    · omega
  subst hc
  omega

/-- a row of a product: j digits of it are added at place i -/
structure RowInv (y lz0 lz : List Int) (xi : Int) (n i j : Nat) (c : Int) : Prop where
  len : lz.length = n
  dig : Dig32 lz
  c0 : 0 ≤ c
  c1 : c < 4294967296
  old : ∀ m, i + j ≤ m → nth lz m = nth lz0 m
  val : v32 lz + 4294967296 ^ (i + j) * c = v32 lz0 + 4294967296 ^ i * (xi * v32 (y.take j))
theorem row_room {a x y c : Int} (ha : 0 ≤ a ∧ a < 4294967296) (hx : 0 ≤ x ∧ x < 4294967296) (hy : 0 ≤ y ∧ y < 4294967296) (hc : 0 ≤ c ∧ c < 4294967296) :
    0 ≤ x * y ∧ x * y ≤ 18446744065119617025 ∧ 0 ≤ a + x * y + c ∧ a + x * y + c < 18446744073709551616 := by
  have h1 : 0 ≤ x * y := Int.mul_nonneg hx.1 hy.1
  have h2 : x * y ≤ 4294967295 * 4294967295 := Int.mul_le_mul (by omega) (by omega) hy.1 (by decide)
  omega
theorem RowInv.step {y lz0 lz : List Int} {xi c s : Int} {n i j : Nat} (h : RowInv y lz0 lz xi n i j c) (hn : i + j < n) (hx : 0 ≤ xi ∧ xi < 4294967296) (hy : Dig32 y) (hs : s = nth lz (i + j) + xi * nth y j + c) :
    RowInv y lz0 (lz.set (i + j) (s % 4294967296)) xi n i (j + 1) (s / 4294967296) := by
  have hl := h.len
  have hr := row_room (h.dig.nth (i + j)) hx (hy.nth j) ⟨h.c0, h.c1⟩
  rw [← hs] at hr
  refine ⟨by simp [hl], h.dig.set _ (by omega) (by omega), by omega, by omega, fun m hm => ?_, ?_⟩
  · rw [nth_set (by omega), if_neg (by omega)]; exact h.old m (by omega)
  · have h5 := h.val
    have e : s = 4294967296 * (s / 4294967296) + s % 4294967296 := (Int.mul_ediv_add_emod s 4294967296).symm
    rw [v32_set (by omega), v32_take_succ, show i + (j + 1) = i + j + 1 from by omega, Int.pow_succ]
    generalize s / 4294967296 = q at *
    generalize s % 4294967296 = r at *
    have e2 : (4294967296 : Int) ^ (i + j) * (4294967296 * q + r) = 4294967296 ^ (i + j) * (nth lz (i + j) + xi * nth y j + c) := by rw [← e, hs]
    have e3 : (4294967296 : Int) ^ (i + j) = 4294967296 ^ i * 4294967296 ^ j := Int.pow_add _ _ _
    rw [e3] at *
    grind
/-- k rows of a product are laid -/
structure ProInv (x y lz : List Int) (n k : Nat) : Prop where
  len : lz.length = n
  dig : Dig32 lz
  zero : ∀ m, k + y.length ≤ m → nth lz m = 0
  val : v32 lz = v32 (x.take k) * v32 y
theorem ProInv.row {x y lz0 lz : List Int} {n k : Nat} {c : Int} (h : ProInv x y lz0 n k) (r : RowInv y lz0 lz (nth x k) n k y.length c) (hn : k + y.length < n) : ProInv x y (lz.set (k + y.length) c) n (k + 1) := by
  have hl := r.len
  refine ⟨by simp [hl], r.dig.set _ r.c0 r.c1, fun m hm => ?_, ?_⟩
  · rw [nth_set (by omega), if_neg (by omega), r.old m (by omega)]; exact h.zero m (by omega)
  · have h1 := r.val
    have h2 := h.val
    rw [List.take_of_length_le (Nat.le_refl _)] at h1
    rw [v32_set (by omega), r.old _ (Nat.le_refl _), h.zero _ (Nat.le_refl _), v32_take_succ]
    grind

/-- digits in memory from block B on -/
structure DigN (w : World) (B : Nat) (ao : Option Addr) (n c : Nat) (x : Int) : Prop where
  ex : ∃ b o d, d.length = n ∧ n ≤ c ∧ Dig32 d ∧ nlen d = d.length ∧ At w ao b o d ∧ v32 d = x ∧ (d = [] ∨ B ≤ b)
theorem DigN.o {w : World} {B : Nat} {ao : Option Addr} {n c : Nat} {x : Int} (h : DigN w B ao n c x) : DigO w ao n c x := by
  obtain ⟨b, o, d, h1, h2, h3, h4, h5, h6, _⟩ := h.ex
  exact ⟨b, o, d, h1, h2, h3, h4, h5, h6⟩
theorem DigN.keep {w w' : World} {B : Nat} {ao : Option Addr} {n c : Nat} {x : Int} (h : DigN w B ao n c x) (hb : Below w.heap.size w w') : DigN w' B ao n c x := by
  obtain ⟨b, o, d, h1, h2, h3, h4, h5, h6, h7⟩ := h.ex
  exact ⟨b, o, d, h1, h2, h3, h4, h5.keep hb, h6, h7⟩
theorem DigN.store {w : World} {B g i : Nat} {ao : Option Addr} {n c : Nat} {x : Int} (h : DigN w B ao n c x) (hg : g < B) (u : Value) : DigN (w.setCell ⟨g, i, none⟩ u) B ao n c x := by
  obtain ⟨b, o, d, h1, h2, h3, h4, h5, h6, h7⟩ := h.ex
  refine ⟨b, o, d, h1, h2, h3, h4, h5.wr ((Wr.refl g i 1 w).setCell (by omega) (by omega) u) ?_, h6, h7⟩
  rcases h7 with e | e
  · exact .inl e
  · exact .inr (by omega)
theorem DigN.mono {w : World} {B B' : Nat} {ao : Option Addr} {n c : Nat} {x : Int} (h : DigN w B ao n c x) (hB : B' ≤ B) : DigN w B' ao n c x := by
  obtain ⟨b, o, d, h1, h2, h3, h4, h5, h6, h7⟩ := h.ex
  refine ⟨b, o, d, h1, h2, h3, h4, h5, h6, ?_⟩
  rcases h7 with e | e
  · exact .inl e
  · exact .inr (by omega)
end Go.Proofs.YtplmeahabddklaaDoor
