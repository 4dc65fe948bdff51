/- Several texts, joined: Num, Trim, Mem, Own, Help, Norm, Bits, AddT, Add, ByteMem, Cmp, Len, Div64, FromB, DivS, TakeT, Sub, DivOne, GcdOne, Scale, Small, ToB, Groups, CopyN, RefD, RefB. -/
import Derived.Test.YtgfglfpckjkcdaaChecked
import Derived.WalkKit
import Derived.WalkSpells
import Derived.WalkLawsBesides
import Derived.Laws.CopyOwn
import Derived.Deep.QuietTactic
import Derived.BigQuiet
import Derived.WalkSmall
import Derived.Laws.Externs
import Derived.Laws.MathBits
import Derived.Deep.RegionWith
import Derived.OpenShut
import Derived.Laws.AppendOwnNone
import Derived.Deep.RegionLaw
/- Lists of 64-bit limbs as numbers: their values, normal lists, and that a normal list is told by its value. -/
namespace Go.Proofs.Ytgfglfpckjkcdaa
namespace Lim

def nth (l : List Int) (i : Nat) : Int := l.getD i 0

def val : List Int → Int
  | [] => 0
  | x :: l => x + 18446744073709551616 * val l

def Words (l : List Int) : Prop := ∀ x ∈ l, 0 ≤ x ∧ x < 18446744073709551616

/-- how many limbs are left, noughts at the end cut off -/
def nlen : List Int → Nat
  | [] => 0
  | x :: l => if nlen l = 0 then (if x = 0 then 0 else 1) else nlen l + 1

def norm (l : List Int) : List Int := l.take (nlen l)

/-- the normal list of a value -/
def IsN (l : List Int) (n : Int) : Prop := Words l ∧ nlen l = l.length ∧ val l = n

theorem nth_nil (i : Nat) : nth [] i = 0 := by simp [nth]
theorem nth_zero (x : Int) (l : List Int) : nth (x :: l) 0 = x := by simp [nth]
theorem nth_succ (x : Int) (l : List Int) (i : Nat) : nth (x :: l) (i + 1) = nth l i := by simp [nth]
theorem nth_ge {l : List Int} {i : Nat} (h : l.length ≤ i) : nth l i = 0 := by
  simp [nth, List.getElem?_eq_none h]
theorem nth_eq {l : List Int} {i : Nat} (h : i < l.length) : nth l i = l[i] := by
  simp [nth, List.getElem?_eq_getElem h]
theorem nth_mem {l : List Int} {i : Nat} (h : i < l.length) : nth l i ∈ l := by
  rw [nth_eq h]; exact List.getElem_mem h
theorem Words.nth {l : List Int} (h : Words l) (i : Nat) : 0 ≤ nth l i ∧ nth l i < 18446744073709551616 := by
  by_cases hi : i < l.length
  · exact h _ (nth_mem hi)
  · rw [nth_ge (by omega)]; decide
theorem Words.nil : Words [] := fun _ h => by simp at h
theorem Words.cons {x : Int} {l : List Int} (h0 : 0 ≤ x) (h1 : x < 18446744073709551616) (h : Words l) : Words (x :: l) := by
  intro y hy
  rcases List.mem_cons.1 hy with e | e
  · subst e; exact ⟨h0, h1⟩
  · exact h y e
theorem Words.tail {x : Int} {l : List Int} (h : Words (x :: l)) : Words l := fun y hy => h y (List.mem_cons_of_mem _ hy)
theorem Words.head {x : Int} {l : List Int} (h : Words (x :: l)) : 0 ≤ x ∧ x < 18446744073709551616 := h x (List.mem_cons_self)
theorem Words.take {l : List Int} (h : Words l) (k : Nat) : Words (l.take k) := fun x hx => h x (List.mem_of_mem_take hx)
theorem Words.drop {l : List Int} (h : Words l) (k : Nat) : Words (l.drop k) := fun x hx => h x (List.mem_of_mem_drop hx)
theorem Words.append {a b : List Int} (ha : Words a) (hb : Words b) : Words (a ++ b) := by
  intro x hx
  rcases List.mem_append.1 hx with e | e
  · exact ha x e
  · exact hb x e
theorem nth_take {l : List Int} {k i : Nat} (h : i < k) : nth (l.take k) i = nth l i := by
  simp [nth, h]
theorem nth_drop (l : List Int) (k i : Nat) : nth (l.drop k) i = nth l (k + i) := by
  simp [nth, List.getElem?_drop]
theorem nth_append_left {a b : List Int} {i : Nat} (h : i < a.length) : nth (a ++ b) i = nth a i := by
  simp [nth, List.getElem?_append_left h]
theorem nth_append_right {a b : List Int} {i : Nat} (h : a.length ≤ i) : nth (a ++ b) i = nth b (i - a.length) := by
  simp [nth, List.getElem?_append_right h]
theorem nth_ext {a b : List Int} (hl : a.length = b.length) (h : ∀ i, i < a.length → nth a i = nth b i) : a = b := by
  apply List.ext_getElem hl
  intro i h1 h2
  have := h i h1
  rwa [nth_eq h1, nth_eq h2] at this
theorem nth_set {l : List Int} {k i : Nat} {x : Int} (hk : k < l.length) : nth (l.set k x) i = if i = k then x else nth l i := by
  simp only [nth, List.getD_eq_getElem?_getD, List.getElem?_set]
  by_cases h : k = i
  · subst h; simp [hk]
  · simp [h, show ¬ i = k from fun e => h e.symm]
theorem Words.set {l : List Int} (h : Words l) (k : Nat) {x : Int} (h0 : 0 ≤ x) (h1 : x < 18446744073709551616) : Words (l.set k x) := by
  intro y hy
  rcases List.mem_or_eq_of_mem_set hy with e | e
  · exact h y e
  · subst e; exact ⟨h0, h1⟩
theorem take_succ_nth {l : List Int} {k : Nat} (h : k < l.length) : l.take (k + 1) = l.take k ++ [nth l k] := by
  rw [nth_eq h, List.take_succ_eq_append_getElem h]

theorem val_nonneg {l : List Int} (h : Words l) : 0 ≤ val l := by
  induction l with
  | nil => simp [val]
  | cons x l ih => have := h.head; have := ih h.tail; simp only [val]; omega
theorem val_append (a b : List Int) : val (a ++ b) = val a + 18446744073709551616 ^ a.length * val b := by
  induction a with
  | nil => simp [val]
  | cons x a ih => simp only [List.cons_append, val, ih, List.length_cons, Int.pow_succ]; grind
theorem val_lt {l : List Int} (h : Words l) : val l < 18446744073709551616 ^ l.length := by
  induction l with
  | nil => simp [val]
  | cons x l ih =>
    have := h.head; have := ih h.tail
    simp only [val, List.length_cons, Int.pow_succ]; omega
theorem val_single (x : Int) : val [x] = x := by simp [val]
theorem val_take_succ {l : List Int} {k : Nat} (h : k < l.length) : val (l.take (k + 1)) = val (l.take k) + 18446744073709551616 ^ k * nth l k := by
  rw [take_succ_nth h, val_append, val_single, List.length_take, Nat.min_eq_left (by omega)]
theorem val_split (l : List Int) (k : Nat) (h : k ≤ l.length) : val l = val (l.take k) + 18446744073709551616 ^ k * val (l.drop k) := by
  conv => lhs; rw [← List.take_append_drop k l]
  rw [val_append, List.length_take, Nat.min_eq_left h]

theorem nlen_le (l : List Int) : nlen l ≤ l.length := by
  induction l with
  | nil => simp [nlen]
  | cons x l ih => simp only [nlen, List.length_cons]; split <;> (try split) <;> omega
theorem nlen_zero_iff {l : List Int} : nlen l = 0 ↔ ∀ i, nth l i = 0 := by
  induction l with
  | nil => simp [nlen, nth]
  | cons x l ih =>
    simp only [nlen]
    constructor
    · intro h i
      by_cases e : nlen l = 0
      · by_cases x0 : x = 0
        · cases i with
          | zero => rw [nth_zero, x0]
          | succ i => rw [nth_succ]; exact ih.1 e i
        · simp [e, x0] at h
      · simp [e] at h
    · intro h
      have h0 : x = 0 := by have := h 0; rwa [nth_zero] at this
      have hl : nlen l = 0 := ih.2 fun i => by have := h (i + 1); rwa [nth_succ] at this
      simp [hl, h0]
/-- from where on all are noughts, with a limb that isn't one right below -/
theorem nlen_of {l : List Int} {k : Nat} (hk : k ≤ l.length) (h0 : ∀ i, k ≤ i → nth l i = 0) (h1 : k ≠ 0 → nth l (k - 1) ≠ 0) : nlen l = k := by
  induction l generalizing k with
  | nil => simp [nlen] at *; omega
  | cons x l ih =>
    cases k with
    | zero =>
      have : nlen (x :: l) = 0 := nlen_zero_iff.2 fun i => h0 i (Nat.zero_le _)
      exact this
    | succ k =>
      have e : nlen l = k := ih (by simpa using hk) (fun i hi => by have := h0 (i + 1) (by omega); rwa [nth_succ] at this) (fun hk0 => by
        have := h1 (by omega); rw [show k + 1 - 1 = (k - 1) + 1 from by omega, nth_succ] at this; exact this)
      simp only [nlen, e]
      by_cases hk0 : k = 0
      · subst hk0
        have := h1 (by omega); rw [show (0 + 1 - 1) = 0 from rfl, nth_zero] at this
        simp [this]
      · simp [hk0]
theorem nlen_above {l : List Int} {i : Nat} (h : nlen l ≤ i) : nth l i = 0 := by
  induction l generalizing i with
  | nil => simp [nth]
  | cons x l ih =>
    simp only [nlen] at h
    by_cases e : nlen l = 0
    · simp only [e, if_true] at h
      cases i with
      | zero => by_cases x0 : x = 0
                · rw [nth_zero, x0]
                · simp [x0] at h
      | succ i => rw [nth_succ]; exact nlen_zero_iff.1 e i
    · simp only [e, if_false] at h
      cases i with
      | zero => omega
      | succ i => rw [nth_succ]; exact ih (by omega)
theorem nlen_last {l : List Int} (h : nlen l ≠ 0) : nth l (nlen l - 1) ≠ 0 := by
  induction l with
  | nil => simp [nlen] at h
  | cons x l ih =>
    simp only [nlen] at h ⊢
    by_cases e : nlen l = 0
    · simp only [e, if_true] at h ⊢
      by_cases x0 : x = 0
      · simp [x0] at h
      · simp [x0, nth_zero]
    · simp only [e, if_false] at h ⊢
      have := ih e
      rw [show nlen l + 1 - 1 = (nlen l - 1) + 1 from by omega, nth_succ]; exact this
theorem norm_length (l : List Int) : (norm l).length = nlen l := by
  rw [norm, List.length_take, Nat.min_eq_left (nlen_le l)]
theorem norm_nth (l : List Int) (i : Nat) : nth (norm l) i = nth l i := by
  by_cases h : i < nlen l
  · exact nth_take h
  · rw [nth_ge (by rw [norm_length]; omega), nlen_above (by omega)]
theorem Words.norm {l : List Int} (h : Words l) : Words (norm l) := h.take _
theorem nlen_norm (l : List Int) : nlen (norm l) = (norm l).length := by
  rw [norm_length]
  apply nlen_of (by rw [norm_length]; omega)
  · intro i hi; rw [norm_nth]; exact nlen_above hi
  · intro h; rw [norm_nth]; exact nlen_last h
theorem val_zeros {l : List Int} (h : ∀ i, nth l i = 0) : val l = 0 := by
  induction l with
  | nil => rfl
  | cons x l ih =>
    have h0 := h 0; rw [nth_zero] at h0
    rw [val, h0, ih fun i => by have := h (i + 1); rwa [nth_succ] at this]; rfl
theorem val_norm (l : List Int) : val (norm l) = val l := by
  rw [val_split l (nlen l) (nlen_le l), val_zeros (l := l.drop (nlen l)) fun i => by rw [nth_drop]; exact nlen_above (by omega)]
  simp [norm]
theorem isN_norm {l : List Int} (h : Words l) : IsN (norm l) (val l) := ⟨h.norm, nlen_norm l, val_norm l⟩
theorem norm_of_isN {l : List Int} {n : Int} (h : IsN l n) : norm l = l := by
  rw [norm, h.2.1]; exact List.take_of_length_le (Nat.le_refl _)

theorem val_pos {l : List Int} (h : Words l) (hn : nlen l ≠ 0) : 0 < val l := by
  induction l with
  | nil => simp [nlen] at hn
  | cons x l ih =>
    have hx := h.head; have hv := val_nonneg h.tail
    simp only [val]
    by_cases e : nlen l = 0
    · simp only [nlen, e, if_true] at hn
      have : x ≠ 0 := by intro x0; simp [x0] at hn
      omega
    · have := ih h.tail e; omega
theorem nlen_eq_zero_iff_val {l : List Int} (h : Words l) : nlen l = 0 ↔ val l = 0 := by
  constructor
  · intro e; exact val_zeros (nlen_zero_iff.1 e)
  · intro e
    by_cases n : nlen l = 0
    · exact n
    · have := val_pos h n; omega
/-- values by lengths -/
theorem val_ge_of_nlen {l : List Int} (h : Words l) (hn : nlen l ≠ 0) : 18446744073709551616 ^ (nlen l - 1) ≤ val l := by
  have e := val_norm l
  have hl := norm_length l
  have hw := h.norm
  have hs := val_split (norm l) (nlen l - 1) (by omega)
  have hd : (norm l).drop (nlen l - 1) = [nth l (nlen l - 1)] := by
    apply nth_ext
    · simp [hl]; omega
    · intro i hi
      simp [hl] at hi
      have : i = 0 := by omega
      subst this
      rw [nth_drop, norm_nth, nth_zero]; rfl
  have h0 := val_nonneg (hw.take (nlen l - 1))
  have hx := h.nth (nlen l - 1)
  have hne := nlen_last hn
  have hp : (0 : Int) < 18446744073709551616 ^ (nlen l - 1) := Int.pow_pos (by decide)
  rw [hd, val_single] at hs
  have : 18446744073709551616 ^ (nlen l - 1) * 1 ≤ 18446744073709551616 ^ (nlen l - 1) * nth l (nlen l - 1) := Int.mul_le_mul_of_nonneg_left (by omega) (Int.le_of_lt hp)
  omega
theorem val_lt_nlen {l : List Int} (h : Words l) : val l < 18446744073709551616 ^ nlen l := by
  have := val_lt h.norm
  rwa [val_norm, norm_length] at this

theorem val_inj : ∀ {a b : List Int}, Words a → Words b → a.length = b.length → val a = val b → a = b
  | [], [], _, _, _, _ => rfl
  | x :: a, y :: b, ha, hb, hl, hv => by
    have h1 := ha.head; have h2 := hb.head
    simp only [val] at hv
    have e : x = y := by omega
    have e2 : val a = val b := by omega
    rw [e, val_inj ha.tail hb.tail (by simpa using hl) e2]
theorem pow_mono {a b : Nat} (h : a ≤ b) : (18446744073709551616 : Int) ^ a ≤ 18446744073709551616 ^ b := by
  obtain ⟨d, rfl⟩ := Nat.exists_eq_add_of_le h
  rw [Int.pow_add]
  have hp : (0 : Int) < 18446744073709551616 ^ a := Int.pow_pos (by decide)
  have hq : (0 : Int) < 18446744073709551616 ^ d := Int.pow_pos (by decide)
  have : (18446744073709551616 : Int) ^ a * 1 ≤ 18446744073709551616 ^ a * 18446744073709551616 ^ d := Int.mul_le_mul_of_nonneg_left (by omega) (Int.le_of_lt hp)
  omega
theorem val_lt_of_nlen_lt {a b : List Int} (ha : Words a) (hb : Words b) (h : nlen a < nlen b) : val a < val b := by
  have h1 := val_lt_nlen ha
  have h2 := val_ge_of_nlen hb (by omega)
  have := pow_mono (show nlen a ≤ nlen b - 1 by omega)
  omega
theorem nlen_eq_of_val {a b : List Int} (ha : Words a) (hb : Words b) (h : val a = val b) : nlen a = nlen b := by
  rcases Nat.lt_trichotomy (nlen a) (nlen b) with h1 | h1 | h1
  · have := val_lt_of_nlen_lt ha hb h1; omega
  · exact h1
  · have := val_lt_of_nlen_lt hb ha h1; omega
theorem isN_unique {a b : List Int} {n : Int} (ha : IsN a n) (hb : IsN b n) : a = b := by
  apply val_inj ha.1 hb.1
  · rw [← ha.2.1, ← hb.2.1]; exact nlen_eq_of_val ha.1 hb.1 (ha.2.2.trans hb.2.2.symm)
  · exact ha.2.2.trans hb.2.2.symm
theorem norm_eq_iff {a b : List Int} (ha : Words a) (hb : Words b) : norm a = norm b ↔ val a = val b := by
  constructor
  · intro h; rw [← val_norm a, ← val_norm b, h]
  · intro h; exact isN_unique (n := val b) (h ▸ isN_norm ha) (isN_norm hb)
end Lim
end Go.Proofs.Ytgfglfpckjkcdaa

namespace Go.Proofs.Ytgfglfpckjkcdaa
open Go.RowKit Lim

/-- the limbs of l lie at ao -/
def Cells (w : World) (ao : Option Addr) (l : List Int) : Prop :=
  l = [] ∨ ∃ b o, ao = some ⟨b, o, none⟩ ∧ ∀ i, i < l.length → w.cell? ⟨b, o + i, none⟩ = some (.int .u64 (nth l i))

end Go.Proofs.Ytgfglfpckjkcdaa

namespace Go.Proofs.Ytgfglfpckjkcdaa
open Go.RowKit Lim

/-- the limbs of l lie from place o of block b on (an empty list lies anywhere) -/
structure At (w : World) (ao : Option Addr) (b o : Nat) (l : List Int) : Prop where
  loc : l = [] ∨ ao = some ⟨b, o, none⟩
  cell : ∀ i, i < l.length → w.cell? ⟨b, o + i, none⟩ = some (.int .u64 (nth l i))

theorem At.cells {w : World} {ao : Option Addr} {b o : Nat} {l : List Int} (h : At w ao b o l) : Cells w ao l := by
  rcases h.loc with e | e
  · exact .inl e
  · exact .inr ⟨b, o, e, h.cell⟩

theorem Cells.at {w : World} {ao : Option Addr} {l : List Int} (h : Cells w ao l) : ∃ b o, At w ao b o l := by
  rcases h with e | ⟨b, o, e, h⟩
  · exact ⟨0, 0, .inl e, fun i hi => by subst e; simp at hi⟩
  · exact ⟨b, o, .inr e, h⟩

/-- the n cells from o on may be written -/
def Free (w : World) (b o n : Nat) : Prop := ∀ i, i < n → w.frozen? ⟨b, o + i, none⟩ = false

/-- only the n cells from o on of block b are written -/
structure Wr (b o n : Nat) (w w' : World) : Prop where
  os : w'.os = w.os
  tape : w'.tape = w.tape
  output : w'.output = w.output
  size : w'.heap.size = w.heap.size
  block : ∀ k, k ≠ b → w'.heap[k]? = w.heap[k]?
  cell : ∀ i, (i < o ∨ o + n ≤ i) → w'.cell? ⟨b, i, none⟩ = w.cell? ⟨b, i, none⟩
  frozen : ∀ i, w'.frozen? ⟨b, i, none⟩ = w.frozen? ⟨b, i, none⟩

theorem Wr.refl (b o n : Nat) (w : World) : Wr b o n w w := ⟨rfl, rfl, rfl, rfl, fun _ _ => rfl, fun _ _ => rfl, fun _ => rfl⟩
theorem Wr.trans {b o n : Nat} {w w1 w2 : World} (h : Wr b o n w w1) (k : Wr b o n w1 w2) : Wr b o n w w2 :=
  ⟨k.os.trans h.os, k.tape.trans h.tape, k.output.trans h.output, k.size.trans h.size, fun i hi => (k.block i hi).trans (h.block i hi), fun i hi => (k.cell i hi).trans (h.cell i hi), fun i => (k.frozen i).trans (h.frozen i)⟩
theorem Wr.mono {b o n o' n' : Nat} {w w' : World} (h : Wr b o n w w') (h1 : o' ≤ o) (h2 : o + n ≤ o' + n') : Wr b o' n' w w' :=
  ⟨h.os, h.tape, h.output, h.size, h.block, fun i hi => h.cell i (by omega), h.frozen⟩
theorem Wr.setCell {b o n : Nat} {w w1 : World} (h : Wr b o n w w1) {i : Nat} (h1 : o ≤ i) (h2 : i < o + n) (v : Value) : Wr b o n w (w1.setCell ⟨b, i, none⟩ v) :=
  h.trans ⟨rfl, rfl, rfl, by simp [World.setCell], fun k hk => Below.heap_setCell _ _ _ _ hk, fun j hj => by
      simp only [World.cell?, World.setCell, Array.getElem?_modify, if_true]
      cases hh : w1.heap[b]? with
      | none => simp
      | some ob =>
        cases ob <;> simp
        rw [Array.getElem?_setIfInBounds, if_neg (by omega)], fun j => by
      simp only [World.frozen?, World.setCell, Array.getElem?_modify, if_true]
      cases hh : w1.heap[b]? with
      | none => simp
      | some ob => cases ob <;> simp⟩
theorem Wr.other {b o n : Nat} {w w' : World} (h : Wr b o n w w') {k i : Nat} (hk : k ≠ b) : w'.cell? ⟨k, i, none⟩ = w.cell? ⟨k, i, none⟩ := World.cell?_of_block (w := w) (h.block k hk)
theorem Wr.below {b o n B : Nat} {w w' : World} (h : Wr b o n w w') (hB : B ≤ b) : Below B w w' :=
  ⟨h.os, h.tape, h.output, by rw [h.size]; exact Nat.le_refl _, fun k hk => h.block k (by omega)⟩
theorem Wr.free {b o n : Nat} {w w' : World} (h : Wr b o n w w') {b' o' n' : Nat} (k : Free w b' o' n') : Free w' b' o' n' := by
  intro i hi
  by_cases e : b' = b
  · subst e; rw [h.frozen]; exact k i hi
  · rw [World.frozen?_of_block (w := w) (h.block b' e)]; exact k i hi
theorem At.wr {b o n : Nat} {w w' : World} (h : Wr b o n w w') {ao : Option Addr} {b' o' : Nat} {l : List Int} (k : At w ao b' o' l) (hb : l = [] ∨ b' ≠ b) : At w' ao b' o' l :=
  ⟨k.loc, fun i hi => by
    rcases hb with e | e
    · subst e; simp at hi
    · rw [h.other e]; exact k.cell i hi⟩
/-- a list in the block, outside what is written -/
theorem At.wr_out {b o n : Nat} {w w' : World} (h : Wr b o n w w') {ao : Option Addr} {b' o' : Nat} {l : List Int} (k : At w ao b' o' l) (hb : o' + l.length ≤ o ∨ o + n ≤ o') : At w' ao b' o' l :=
  ⟨k.loc, fun i hi => by
    by_cases e : b' = b
    · subst e; rw [h.cell _ (by omega)]; exact k.cell i hi
    · rw [h.other e]; exact k.cell i hi⟩
theorem At.below {B : Nat} {w w' : World} (h : Below B w w') {ao : Option Addr} {b o : Nat} {l : List Int} (k : At w ao b o l) (hb : l = [] ∨ b < B) : At w' ao b o l :=
  ⟨k.loc, fun i hi => by
    rcases hb with e | e
    · subst e; simp at hi
    · rw [h.cell (p := ⟨b, o + i, none⟩) e]; exact k.cell i hi⟩
theorem cell_lt {w : World} {b o : Nat} {v : Value} (h : w.cell? ⟨b, o, none⟩ = some v) : b < w.heap.size := by
  simp only [World.cell?] at h
  by_cases hb : b < w.heap.size
  · exact hb
  · rw [Array.getElem?_eq_none (by omega)] at h; simp at h
theorem At.lt {w : World} {ao : Option Addr} {b o : Nat} {l : List Int} (k : At w ao b o l) : l = [] ∨ b < w.heap.size := by
  cases l with
  | nil => exact .inl rfl
  | cons x l => exact .inr (cell_lt (k.cell 0 (by simp)))
theorem At.keep {w w' : World} (h : Below w.heap.size w w') {ao : Option Addr} {b o : Nat} {l : List Int} (k : At w ao b o l) : At w' ao b o l := k.below h k.lt
/-- one limb is stored -/
theorem At.setCell {w : World} {ao : Option Addr} {b o : Nat} {l : List Int} (k : At w ao b o l) {i : Nat} (hi : i < l.length) (x : Int) : At (w.setCell ⟨b, o + i, none⟩ (.int .u64 x)) ao b o (l.set i x) :=
  ⟨by rcases k.loc with e | e
      · subst e; simp at hi
      · exact .inr e, fun j hj => by
    rw [List.length_set] at hj
    have hc := k.cell j hj
    rw [nth_set hi]
    have hci := k.cell i hi
    simp only [World.cell?, World.setCell, Array.getElem?_modify, if_true] at hc hci ⊢
    cases hh : w.heap[b]? with
    | none => rw [hh] at hc; simp at hc
    | some ob =>
      rw [hh] at hc hci
      cases ob with
      | cells c e f =>
        simp at hc hci ⊢
        rw [Array.getElem?_setIfInBounds]
        by_cases e : j = i
        · subst e
          obtain ⟨hlt, _⟩ := Array.getElem?_eq_some_iff.1 hci
          simp [hlt]
        · rw [if_neg (by omega), if_neg e]; exact hc
      | _ => simp at hc⟩
theorem At.drew {w : World} {ao : Option Addr} {b o : Nat} {l : List Int} (h : At w ao b o l) : At w.drew ao b o l := ⟨h.loc, h.cell⟩
theorem Free.drew {w : World} {b o n : Nat} (h : Free w b o n) : Free w.drew b o n := h
theorem Wr.drew {b o n : Nat} {w w' : World} (h : Wr b o n w w') : Wr b o n w w'.drew := ⟨h.os, h.tape, h.output, h.size, h.block, h.cell, h.frozen⟩
theorem At.drewN {w : World} {ao : Option Addr} {b o : Nat} {l : List Int} (h : At w ao b o l) (n : Nat) : At (w.drewN n) ao b o l := ⟨h.loc, h.cell⟩
theorem Free.drewN {w : World} {b o n : Nat} (h : Free w b o n) (k : Nat) : Free (w.drewN k) b o n := h
theorem Wr.drewN {b o n : Nat} {w w' : World} (h : Wr b o n w w') (k : Nat) : Wr b o n w (w'.drewN k) := ⟨h.os, h.tape, h.output, h.size, h.block, h.cell, h.frozen⟩
/-- a stretch of l, written anew -/
def patch (l : List Int) (k : Nat) (m : List Int) : List Int := l.take k ++ (m ++ l.drop (k + m.length))
theorem patch_length {l m : List Int} {k : Nat} (h : k + m.length ≤ l.length) : (patch l k m).length = l.length := by simp [patch]; omega
theorem patch_words {l m : List Int} {k : Nat} (hl : Words l) (hm : Words m) : Words (patch l k m) := (hl.take k).append (hm.append (hl.drop _))
theorem patch_nth_in {l m : List Int} {k i : Nat} (h : k + m.length ≤ l.length) (hi : i < m.length) : nth (patch l k m) (k + i) = nth m i := by
  have e : (l.take k).length = k := by simp; omega
  rw [patch, nth_append_right (by omega), e, Nat.add_sub_cancel_left, nth_append_left hi]
theorem patch_nth_out {l m : List Int} {k i : Nat} (h : k + m.length ≤ l.length) (hi : i < k ∨ k + m.length ≤ i) : nth (patch l k m) i = nth l i := by
  have e : (l.take k).length = k := by simp; omega
  rcases hi with hi | hi
  · rw [patch, nth_append_left (by omega), nth_take hi]
  · rw [patch, nth_append_right (by omega), e, nth_append_right (by omega), nth_drop]; congr 1; omega
theorem patch_val {l m : List Int} {k : Nat} (h : k + m.length ≤ l.length) : val (patch l k m) = val l + 18446744073709551616 ^ k * (val m - val ((l.drop k).take m.length)) := by
  have e : (l.take k).length = k := by simp; omega
  have h1 := val_split l k (by omega)
  have h2 := val_split (l.drop k) m.length (by simp; omega)
  rw [List.drop_drop] at h2
  rw [patch, val_append, val_append, e, h1, h2]
  grind
theorem At.patch {w w' : World} {ao ao' : Option Addr} {b o k n : Nat} {l m : List Int} (h : At w ao b o l) (hw : Wr b (o + k) n w w') (hm : At w' ao' b (o + k) m) (hn : m.length = n) (hk : k + n ≤ l.length) : At w' ao b o (patch l k m) :=
  ⟨by rcases h.loc with e | e
      · left; subst e; simp at hk; simp [Go.Proofs.Ytgfglfpckjkcdaa.patch, List.eq_nil_of_length_eq_zero (show m.length = 0 by omega)]
      · exact .inr e, fun i hi => by
    rw [patch_length (by omega)] at hi
    by_cases hin : k ≤ i ∧ i < k + n
    · obtain ⟨j, rfl⟩ := Nat.exists_eq_add_of_le hin.1
      rw [patch_nth_in (by omega) (by omega), ← hm.cell j (by omega), Nat.add_assoc]
    · rw [patch_nth_out (by omega) (by omega), hw.cell _ (by omega)]; exact h.cell i hi⟩
theorem At.window {w : World} {ao : Option Addr} {b o : Nat} {l : List Int} (h : At w ao b o l) (k n : Nat) : At w (some ⟨b, o + k, none⟩) b (o + k) ((l.drop k).take n) :=
  ⟨.inr rfl, fun i hi => by
    simp only [List.length_take, List.length_drop] at hi
    rw [nth_take (by omega), nth_drop, Nat.add_assoc]; exact h.cell _ (by omega)⟩
theorem Free.window {w : World} {b o n : Nat} (h : Free w b o n) {k m : Nat} (hk : k + m ≤ n) : Free w b (o + k) m := fun i hi => by
  rw [Nat.add_assoc]; exact h _ (by omega)
theorem At.sub {w : World} {ao : Option Addr} {b o : Nat} {l : List Int} (k : At w ao b o l) (n : Nat) : At w ao b o (l.take n) :=
  ⟨by rcases k.loc with e | e
      · subst e; exact .inl (by simp)
      · exact .inr e, fun i hi => by
    rw [List.length_take] at hi
    rw [nth_take (by omega)]; exact k.cell i (by omega)⟩
end Go.Proofs.Ytgfglfpckjkcdaa

namespace Go.Proofs.Ytgfglfpckjkcdaa
open Go.RowKit Lim

theorem info_u64 : (Try.prog.info? 22).map (fun i => (i.zero, i.size, i.bytes)) = some (some (.int .u64 0), 1, 8) := by kernel_rfl
/-- block g holds just the limbs l -/
def Row (w : World) (g : Nat) (l : List Int) : Prop := w.heap[g]? = some (.cells (l.map (Value.int .u64)).toArray 22 (0, 0))

theorem Row.at {w : World} {g : Nat} {l : List Int} (h : Row w g l) : At w (some ⟨g, 0, none⟩) g 0 l :=
  ⟨.inr rfl, fun i hi => by
    unfold Row at h
    simp only [World.cell?, h]
    simp [nth_eq hi, hi]⟩
theorem Row.free {w : World} {g : Nat} {l : List Int} (h : Row w g l) (o n : Nat) : Free w g o n := by
  intro i _
  unfold Row at h
  simp [World.frozen?, h]
theorem Row.lt {w : World} {g : Nat} {l : List Int} (h : Row w g l) : g < w.heap.size := (Array.getElem?_eq_some_iff.1 h).1

/-- a list of limbs in memory that was not there before -/
structure NewV (w w' : World) (v : Value) (l : List Int) : Prop where
  is : ∃ ao b o c, v = .slice ao l.length c ∧ l.length ≤ c ∧ w.heap.size ≤ b ∧ At w' ao b o l ∧ Free w' b o l.length

theorem made_u64 (n : Nat) : madeCells (Value.int .u64 0).cells n = ((List.replicate n 0).map (Value.int .u64)).toArray := by
  apply Array.ext
  · simp [size_madeCells]
  · intro j h1 h2
    simp [madeCells, Value.cells, Nat.mod_one]

end Go.Proofs.Ytgfglfpckjkcdaa

namespace Go.Proofs.Ytgfglfpckjkcdaa
open Go.RowKit Lim

def eqB (l l' : List Int) : Bool := decide (l = l')
theorem eqB_true {l l' : List Int} (h : l = l') : eqB l l' = true := by simp [eqB, h]
theorem eqB_false {l l' : List Int} (h : l ≠ l') : eqB l l' = false := by simp [eqB, h]
theorem retB {a b : Bool} (h : a = b) : Ending.returned (.bool a) = .returned (.bool b) := by rw [h]

end Go.Proofs.Ytgfglfpckjkcdaa

namespace Go.Proofs.Ytgfglfpckjkcdaa
open Go.RowKit Lim

theorem NewV.of {w w' : World} {l : List Int} {ao : Option Addr} {n c b o : Nat} (hn : n = l.length) (h1 : n ≤ c) (h2 : w.heap.size ≤ b) (h3 : At w' ao b o l) (h4 : Free w' b o n) : NewV w w' (.slice ao n c) l := by
  subst hn; exact ⟨ao, b, o, c, rfl, h1, h2, h3, h4⟩

end Go.Proofs.Ytgfglfpckjkcdaa

namespace Go.Proofs.Ytgfglfpckjkcdaa
open Go.RowKit Lim

def bor (x y : Int) : Int := if x < y then 1 else 0

theorem ret2 {k k' : IntKind} {a b c d : Int} (h : a = b) (h' : c = d) : Ending.returned (.tuple #[.int k a, .int k' c]) = .returned (.tuple #[.int k b, .int k' d]) := by rw [h, h']
theorem and32 (z : Int) (h0 : 0 ≤ z) (h1 : z < 18446744073709551616) : bits .and .u64 z 4294967295 = z % 4294967296 := and_low32 z h0 h1

end Go.Proofs.Ytgfglfpckjkcdaa

namespace Go.Proofs.Ytgfglfpckjkcdaa
open Go.RowKit Lim

theorem add_step (z x m c hi lo : Int) (hz : 0 ≤ z ∧ z < 18446744073709551616) (hc : 0 ≤ c ∧ c < 18446744073709551616) (h1 : 0 ≤ hi) (h2 : hi ≤ 18446744073709551614) (h3 : 0 ≤ lo) (h4 : lo < 18446744073709551616) (h5 : hi * 18446744073709551616 + lo = x * m)
    (hb : x * m ≤ 340282366920938463426481119284349108225) :
    0 ≤ hi + (lo + c) / 18446744073709551616 ∧ hi + (lo + c) / 18446744073709551616 ≤ 18446744073709551615 ∧
    0 ≤ hi + (lo + c) / 18446744073709551616 + (z + (lo + c) % 18446744073709551616) / 18446744073709551616 ∧
    hi + (lo + c) / 18446744073709551616 + (z + (lo + c) % 18446744073709551616) / 18446744073709551616 ≤ 18446744073709551615 ∧
    (z + (lo + c) % 18446744073709551616) % 18446744073709551616 + 18446744073709551616 * (hi + (lo + c) / 18446744073709551616 + (z + (lo + c) % 18446744073709551616) / 18446744073709551616) = z + x * m + c := by
  omega

/-- what the first k limbs have become: loop's invariant -/
def AddInv (lz lb : List Int) (m : Int) (k : Nat) (lz1 : List Int) (c : Int) : Prop :=
  lz1.length = lz.length ∧ Words lz1 ∧ (∀ i, k ≤ i → nth lz1 i = nth lz i) ∧ val (lz1.take k) + 18446744073709551616 ^ k * c = val (lz.take k) + val (lb.take k) * m

theorem AddInv.step {lz lb lz1 : List Int} {m c z' c' : Int} {k : Nat} (h : AddInv lz lb m k lz1 c) (hk : k < lz.length) (hz0 : 0 ≤ z') (hz1 : z' < 18446744073709551616)
    (e : z' + 18446744073709551616 * c' = nth lz k + nth lb k * m + c) : AddInv lz lb m (k + 1) (lz1.set k z') c' := by
  obtain ⟨h1, h2, h3, h4⟩ := h
  refine ⟨by simp [h1], h2.set k hz0 hz1, fun i hi => ?_, ?_⟩
  · rw [nth_set (by omega), if_neg (by omega)]; exact h3 i (by omega)
  · have hb : val (lb.take (k + 1)) = val (lb.take k) + 18446744073709551616 ^ k * nth lb k := by
      by_cases hl : k < lb.length
      · exact val_take_succ hl
      · rw [List.take_of_length_le (by omega), List.take_of_length_le (by omega), nth_ge (by omega)]; simp
    rw [val_take_succ (by simp [h1]; omega), val_take_succ hk, hb, List.take_set_of_le (Nat.le_refl _), nth_set (by omega), if_pos rfl, Int.pow_succ]
    have : 18446744073709551616 ^ k * (z' + 18446744073709551616 * c') = 18446744073709551616 ^ k * (nth lz k + nth lb k * m + c) := by rw [e]
    grind

theorem AddInv.done {lz lb lz1 : List Int} {m c : Int} {k n : Nat} (hn : lz.length = n) (h : AddInv lz lb m k lz1 c) (hc : c = 0 ∨ lz.length = k) (hk : lb.length ≤ k) (hkn : k ≤ n) :
    val lz1 = (val lz + val lb * m) % 18446744073709551616 ^ n := by
  obtain ⟨h1, h2, h3, h4⟩ := h
  rw [List.take_of_length_le (l := lb) (by omega)] at h4
  have hlt := val_lt h2
  have h0 := val_nonneg h2
  rw [h1, hn] at hlt
  rcases hc with e | e
  · subst e
    have hd : lz1.drop k = lz.drop k := nth_ext (by simp [h1]) fun i hi => by rw [nth_drop, nth_drop]; exact h3 _ (by omega)
    have e1 := val_split lz1 k (by omega)
    have e2 := val_split lz k (by omega)
    rw [hd] at e1
    have : val lz + val lb * m = val lz1 := by rw [e1, e2]; simp only [Int.mul_zero, Int.add_zero] at h4; omega
    rw [this]
    exact (Int.emod_eq_of_lt h0 hlt).symm
  · have ek : k = n := by omega
    subst ek
    rw [List.take_of_length_le (l := lz1) (by omega), List.take_of_length_le (l := lz) (by omega)] at h4
    rw [← h4, Int.add_mul_emod_self_left]
    exact (Int.emod_eq_of_lt h0 hlt).symm

end Go.Proofs.Ytgfglfpckjkcdaa

namespace Go.Proofs.Ytgfglfpckjkcdaa
open Go.RowKit Lim

theorem isN_lt {l : List Int} {n : Int} (h : IsN l n) : 0 ≤ n ∧ n < 18446744073709551616 ^ l.length := by
  rw [← h.2.2]; exact ⟨val_nonneg h.1, val_lt h.1⟩
theorem pow_pos (k : Nat) : (0 : Int) < 18446744073709551616 ^ k := Int.pow_pos (by decide)
theorem add_fin {L L' lz : List Int} {x y : Int} (hL : IsN L x) (hL' : IsN L' y) (hle : L'.length ≤ L.length) (hw : Words lz) 
    (hv : val lz = (val (L ++ [0]) + val L' * 1) % 18446744073709551616 ^ (L.length + 1)) : IsN (norm lz) (x + y) := by
  have h1 := isN_lt hL
  have h2 := isN_lt hL'
  have h3 := pow_mono hle
  have hp := pow_pos L.length
  have e : val (L ++ [0]) + val L' * 1 = x + y := by rw [val_append, hL.2.2, hL'.2.2]; simp [val]
  rw [e, Int.emod_eq_of_lt (by omega) (by rw [Int.pow_succ]; omega)] at hv
  rw [← hv]
  exact isN_norm hw
theorem words_zero (n : Nat) : Words (List.replicate n 0) := fun x hx => by rw [List.eq_of_mem_replicate hx]; decide

end Go.Proofs.Ytgfglfpckjkcdaa

namespace Go.Proofs.Ytgfglfpckjkcdaa
open Go.RowKit Lim

structure AtB (w : World) (ao : Option Addr) (b o : Nat) (l : List Int) : Prop where
  loc : l = [] ∨ ao = some ⟨b, o, none⟩
  cell : ∀ i, i < l.length → w.cell? ⟨b, o + i, none⟩ = some (.int .u8 (nth l i))
theorem AtB.lt {w : World} {ao : Option Addr} {b o : Nat} {l : List Int} (k : AtB w ao b o l) : l = [] ∨ b < w.heap.size := by
  cases l with
  | nil => exact .inl rfl
  | cons x l => exact .inr (cell_lt (k.cell 0 (by simp)))
theorem AtB.keep {w w' : World} (h : Below w.heap.size w w') {ao : Option Addr} {b o : Nat} {l : List Int} (k : AtB w ao b o l) : AtB w' ao b o l :=
  ⟨k.loc, fun i hi => by
    rcases k.lt with e | e
    · subst e; simp at hi
    · rw [h.cell (p := ⟨b, o + i, none⟩) e]; exact k.cell i hi⟩
theorem AtB.wr {b o n : Nat} {w w' : World} (h : Wr b o n w w') {ao : Option Addr} {b' o' : Nat} {l : List Int} (k : AtB w ao b' o' l) (hb : l = [] ∨ b' ≠ b) : AtB w' ao b' o' l :=
  ⟨k.loc, fun i hi => by
    rcases hb with e | e
    · subst e; simp at hi
    · rw [h.other e]; exact k.cell i hi⟩
theorem AtB.setCell {w : World} {ao : Option Addr} {b o : Nat} {l : List Int} (k : AtB w ao b o l) {i : Nat} (hi : i < l.length) (x : Int) : AtB (w.setCell ⟨b, o + i, none⟩ (.int .u8 x)) ao b o (l.set i x) :=
  ⟨by rcases k.loc with e | e
      · subst e; simp at hi
      · exact .inr e, fun j hj => by
    rw [List.length_set] at hj
    have hc := k.cell j hj
    rw [nth_set hi]
    have hci := k.cell i hi
    simp only [World.cell?, World.setCell, Array.getElem?_modify, if_true] at hc hci ⊢
    cases hh : w.heap[b]? with
    | none => rw [hh] at hc; simp at hc
    | some ob =>
      rw [hh] at hc hci
      cases ob with
      | cells c e f =>
        simp at hc hci ⊢
        rw [Array.getElem?_setIfInBounds]
        by_cases e : j = i
        · subst e
          obtain ⟨hlt, _⟩ := Array.getElem?_eq_some_iff.1 hci
          simp [hlt]
        · rw [if_neg (by omega), if_neg e]; exact hc
      | _ => simp at hc⟩
/-- a list of bytes in memory that was not there before -/
structure NewB (w w' : World) (v : Value) (l : List Int) : Prop where
  is : ∃ ao b o c, v = .slice ao l.length c ∧ l.length ≤ c ∧ w.heap.size ≤ b ∧ AtB w' ao b o l ∧ Free w' b o l.length

def Octets (l : List Int) : Prop := ∀ x ∈ l, 0 ≤ x ∧ x < 256
theorem Octets.nth {l : List Int} (h : Octets l) (i : Nat) : 0 ≤ nth l i ∧ nth l i < 256 := by
  by_cases hi : i < l.length
  · exact h _ (nth_mem hi)
  · rw [nth_ge (by omega)]; decide
/-- bytes' worth, the highest first -/
def bval : List Int → Int
  | [] => 0
  | x :: l => x * 256 ^ l.length + bval l
theorem bval_bound {l : List Int} (h : Octets l) : 0 ≤ bval l ∧ bval l < 256 ^ l.length := by
  induction l with
  | nil => simp [bval]
  | cons x l ih =>
    have h1 := ih (fun y hy => h y (List.mem_cons_of_mem _ hy))
    have h2 := h x List.mem_cons_self
    have hp : (0 : Int) < 256 ^ l.length := Int.pow_pos (by decide)
    have h3 : 0 ≤ x * 256 ^ l.length := Int.mul_nonneg h2.1 (Int.le_of_lt hp)
    have h4 : x * 256 ^ l.length ≤ 255 * 256 ^ l.length := Int.mul_le_mul_of_nonneg_right (by omega) (Int.le_of_lt hp)
    rw [bval, List.length_cons, Int.pow_succ]; omega
/-- the bytes of a value -/
def IsB (l : List Int) (n : Int) : Prop := Octets l ∧ (l ≠ [] → nth l 0 ≠ 0) ∧ bval l = n
theorem bval_inj : ∀ {a b : List Int}, Octets a → Octets b → a.length = b.length → bval a = bval b → a = b
  | [], [], _, _, _, _ => rfl
  | x :: a, y :: b, ha, hb, hl, hv => by
    have ha' : Octets a := fun z hz => ha z (List.mem_cons_of_mem _ hz)
    have hb' : Octets b := fun z hz => hb z (List.mem_cons_of_mem _ hz)
    have hl' : a.length = b.length := by simpa using hl
    have h1 := bval_bound ha'
    have h2 := bval_bound hb'
    rw [bval, bval, hl'] at hv
    rw [hl'] at h1
    have hp : (0 : Int) < 256 ^ b.length := Int.pow_pos (by decide)
    have e : x = y := by
      rcases Int.lt_trichotomy x y with c | c | c
      · have : (x + 1) * 256 ^ b.length ≤ y * 256 ^ b.length := Int.mul_le_mul_of_nonneg_right (by omega) (Int.le_of_lt hp)
        rw [Int.add_mul] at this; omega
      · exact c
      · have : (y + 1) * 256 ^ b.length ≤ x * 256 ^ b.length := Int.mul_le_mul_of_nonneg_right (by omega) (Int.le_of_lt hp)
        rw [Int.add_mul] at this; omega
    subst e
    rw [bval_inj ha' hb' hl' (by omega)]
theorem bval_ge {l : List Int} (h : Octets l) (h0 : l ≠ []) (h1 : nth l 0 ≠ 0) : 256 ^ (l.length - 1) ≤ bval l := by
  cases l with
  | nil => exact absurd rfl h0
  | cons x l =>
    rw [nth_zero] at h1
    have h2 := h x List.mem_cons_self
    have h3 := bval_bound (l := l) (fun z hz => h z (List.mem_cons_of_mem _ hz))
    have hp : (0 : Int) < 256 ^ l.length := Int.pow_pos (by decide)
    have : 1 * 256 ^ l.length ≤ x * 256 ^ l.length := Int.mul_le_mul_of_nonneg_right (by omega) (Int.le_of_lt hp)
    rw [bval, List.length_cons, Nat.add_sub_cancel]; omega
theorem pow256_mono {a b : Nat} (h : a ≤ b) : (256 : Int) ^ a ≤ 256 ^ b := by
  have : (256 : Nat) ^ a ≤ 256 ^ b := Nat.pow_le_pow_right (by decide) h
  have e1 : ((256 ^ a : Nat) : Int) = (256 : Int) ^ a := by rw [Int.natCast_pow]; rfl
  have e2 : ((256 ^ b : Nat) : Int) = (256 : Int) ^ b := by rw [Int.natCast_pow]; rfl
  omega
theorem isB_unique {a b : List Int} {n : Int} (ha : IsB a n) (hb : IsB b n) : a = b := by
  apply bval_inj ha.1 hb.1
  · have key : ∀ {a b : List Int}, IsB a n → IsB b n → ¬ a.length < b.length := by
      intro a b ha hb hlt
      have h1 := (bval_bound ha.1).2
      have h2 := bval_ge hb.1 (fun e => by subst e; simp at hlt) (hb.2.1 (fun e => by subst e; simp at hlt))
      rw [ha.2.2] at h1
      rw [hb.2.2] at h2
      have := pow256_mono (show a.length ≤ b.length - 1 by omega)
      omega
    have h1 := key ha hb
    have h2 := key hb ha
    omega
  · rw [ha.2.2, hb.2.2]

set_option maxHeartbeats 1000000 in
set_option maxRecDepth 100000 in
theorem helpBytes (ao : Option Addr) (n c b o : Nat) (ao' : Option Addr) (n' c' b' o' : Nat) (l l' : List Int) (w : World) (hl : l.length = n) (hl' : l'.length = n') (hbig : n ≤ 4398046511104) (hbig' : n' ≤ 4398046511104)
    (ha : AtB w ao b o l) (ha' : AtB w ao' b' o' l') :
    Calls Try.prog 11 #[.slice ao n c, .slice ao' n' c'] w fun e w' => e = .returned (.bool (eqB l l')) ∧ Below w.heap.size w w' := by
  by_cases hne : n = n'
  · subst hne
    go_enter Try.func11, Try.ntmps11
    go_wp2_with fail
    go_loopw [5] (fun ti wr => ∃ k : Nat, k ≤ n ∧ ti = .int .i64 k ∧ Hid (∀ i, i < k → nth l i = nth l' i) ∧ Below w.heap.size w wr) (fun ti _ => n - (intOf ti).toNat)
    case atStart => exact ⟨0, Nat.zero_le _, rfl, fun i hi => by omega, Below.refl _ _⟩
    case round =>
      obtain ⟨k, hk, rfl, hz, hbe⟩ := hrel
      by_cases hlt : k < n
      · have hat := ha.keep hbe
        have hat' := ha'.keep hbe
        rcases ha.loc with e | rfl
        · subst e; simp at hl; omega
        rcases ha'.loc with e | rfl
        · subst e; simp at hl'; omega
        have q1 := hat.cell k (by omega)
        have q2 := hat'.cell k (by omega)
        have hk0 : (k : Int) < n := by omega
        by_cases hd : nth l k = nth l' k
        · have HY : Hid (nth l k = nth l' k) := hd
          rw [hd] at q1
          generalize nth l' k = x at q1 q2
          clear hd ha ha' hat hat'
          go_wp2_with fail
          go_quiet (fail)
          go_wp2
          go_roundw
          case rel => exact ⟨k + 1, by omega, by go_num, fun i hi => by
            by_cases e : i = k
            · subst e; exact HY.out
            · exact hz.out i (by omega), below_drewN hbe _⟩
          case measure => simp [intOf]; omega
        · have HF : eqB l l' = false := eqB_false fun e => hd (by rw [e])
          have hd' : (nth l k != nth l' k) = true := by rw [bne_iff_ne]; exact hd
          generalize nth l k = x at *
          generalize nth l' k = y at *
          clear ha ha' hat hat'
          go_wp2_with fail
          go_quiet (fail)
          go_wp2
          go_ret
          exact ⟨retB HF.symm, below_drewN hbe _⟩
      · go_wp2
        go_ret
        exact ⟨retB (eqB_true (nth_ext (by omega) fun i hi => hz.out i (by omega))).symm, hbe⟩
  · have hb1 : ((n : Int) != (n' : Int)) = true := by rw [bne_iff_ne]; omega
    have HF : eqB l l' = false := eqB_false fun e => hne (by rw [← hl, ← hl', e])
    go_enter Try.func11, Try.ntmps11
    go_wp2
    go_ret
    exact ⟨retB HF.symm, Below.refl _ _⟩
end Go.Proofs.Ytgfglfpckjkcdaa

namespace Go.Proofs.Ytgfglfpckjkcdaa
open Go.RowKit Lim

def sgn (x y : Int) : Int := if x < y then -1 else if y < x then 1 else 0
theorem sgn_lt {x y : Int} (h : x < y) : sgn x y = -1 := by simp [sgn, h]
theorem sgn_gt {x y : Int} (h : y < x) : sgn x y = 1 := by simp only [sgn]; rw [if_neg (by omega), if_pos h]
theorem sgn_eq {x y : Int} (h : x = y) : sgn x y = 0 := by simp [sgn, h]

theorem val_cons (l : List Int) : val l = nth l 0 + 18446744073709551616 * val l.tail := by
  cases l with
  | nil => simp [val, nth]
  | cons x l => simp [val, nth]
theorem nth_tail (l : List Int) (i : Nat) : nth l.tail i = nth l (i + 1) := by
  cases l with
  | nil => simp [nth]
  | cons x l => simp [nth]
theorem Lim.Words.tl {l : List Int} (h : Words l) : Words l.tail := fun x hx => h x (List.mem_of_mem_tail hx)
theorem val_ext : ∀ {a b : List Int}, (∀ i, nth a i = nth b i) → val a = val b
  | [], b, h => by rw [val_zeros (l := b) fun i => by rw [← h i, nth_nil]]; rfl
  | x :: a, b, h => by
    rw [val_cons (x :: a), val_cons b, h 0, List.tail_cons, val_ext (a := a) (b := b.tail) fun i => by rw [nth_tail, ← h (i + 1), nth_succ]]
theorem val_lt_at : ∀ (h : Nat) {a b : List Int}, Words a → Words b → (∀ i, h < i → nth a i = nth b i) → nth a h < nth b h → val a < val b
  | 0, a, b, _, _, he, hl => by
    rw [val_cons a, val_cons b, val_ext (a := a.tail) (b := b.tail) fun i => by rw [nth_tail, nth_tail]; exact he _ (by omega)]
    omega
  | h + 1, a, b, ha, hb, he, hl => by
    have := val_lt_at h ha.tl hb.tl (fun i hi => by rw [nth_tail, nth_tail]; exact he _ (by omega)) (by rw [nth_tail, nth_tail]; exact hl)
    have h1 := ha.nth 0; have h2 := hb.nth 0
    rw [val_cons a, val_cons b]
    omega
theorem sgn_at {a b : List Int} (ha : Words a) (hb : Words b) (h : Nat) (he : ∀ i, h < i → nth a i = nth b i) (hne : nth a h ≠ nth b h) : sgn (nth a h) (nth b h) = sgn (val a) (val b) := by
  rcases Int.lt_or_gt_of_ne hne with hl | hl
  · rw [sgn_lt hl, sgn_lt (val_lt_at h ha hb he hl)]
  · rw [sgn_gt hl, sgn_gt (val_lt_at h hb ha (fun i hi => (he i hi).symm) hl)]
theorem sgn_nlen {a b : List Int} (ha : Words a) (hb : Words b) (hne : nlen a ≠ nlen b) : sgn (nlen a) (nlen b) = sgn (val a) (val b) := by
  rcases Nat.lt_or_gt_of_ne hne with hl | hl
  · rw [sgn_lt (by omega), sgn_lt (val_lt_of_nlen_lt ha hb hl)]
  · rw [sgn_gt (by omega), sgn_gt (val_lt_of_nlen_lt hb ha hl)]

theorem ret1 {k : IntKind} {a b : Int} (h : a = b) : Ending.returned (.int k a) = .returned (.int k b) := by rw [h]

end Go.Proofs.Ytgfglfpckjkcdaa

namespace Go.Proofs.Ytgfglfpckjkcdaa
open Go.RowKit Lim

theorem w64 (z : Int) (h0 : 0 ≤ z) (h1 : z ≤ 1000) : wrap64 z = z := by
  unfold wrap64; omega
theorem len_arm (k : Int) (i : Nat) (h0 : 0 ≤ k) (hk : k ≤ 56) (h : i < 256) : wrap64 (k + wrap64 (bitLen i : Int)) = k + bitLen i := by
  have := bitLen_le8 i h
  rw [w64 (bitLen i) (by omega) (by omega), w64 _ (by omega) (by omega)]
theorem len_up (x : Int) (b i : Nat) (h : x.toNat / 2 ^ b = i) (hi : i ≠ 0) : ((bitLen x.toNat : Nat) : Int) = b + bitLen i := by
  rw [bitLen_shift x.toNat b (by rw [h]; exact hi), h]; omega

/-- how far a limb's highest bit is from the top -/
theorem bitLen_pos {n : Nat} (h : n ≠ 0) : 1 ≤ bitLen n := by unfold bitLen; rw [if_neg h]; omega
theorem bitLen_le64 {n : Nat} (h : n < 18446744073709551616) : bitLen n ≤ 64 := by
  unfold bitLen
  split
  · omega
  · have := (Nat.log2_lt (k := 64) ‹_›).2 (by omega); omega
end Go.Proofs.Ytgfglfpckjkcdaa

namespace Go.Proofs.Ytgfglfpckjkcdaa
open Go.RowKit Lim

/-- a digit that is not too small, and what it leaves -/
structure DInv (y y1 u a q r : Int) : Prop where
  eq : q * y1 + r = u
  r0 : 0 ≤ r
  up : u * 4294967296 + a < (q + 1) * y
  q0 : 0 ≤ q
  qb : q ≤ 4294967297

theorem DInv.start {y y1 y0 u a : Int} (e : y = y1 * 4294967296 + y0) (h0 : 0 ≤ y0) (h1 : y0 < 4294967296) (h2 : 2147483648 ≤ y1) (u0 : 0 ≤ u) (u1 : u < y) (a0 : 0 ≤ a) (a1 : a < 4294967296) :
    DInv y y1 u a (u / y1) (u % y1) := by
  have hq := Int.mul_ediv_add_emod u y1
  have hr := Int.emod_nonneg u (show y1 ≠ 0 by omega)
  have hr1 := Int.emod_lt_of_pos u (show 0 < y1 by omega)
  have hq0 : 0 ≤ u / y1 := Int.ediv_nonneg u0 (by omega)
  generalize u / y1 = q at *
  generalize u % y1 = r at *
  refine ⟨by rw [Int.mul_comm]; exact hq, hr, ?_, hq0, ?_⟩
  · have k1 : (q + 1) * y = (y1 * q + y1) * 4294967296 + (q + 1) * y0 := by rw [e]; grind
    have k2 : 0 ≤ (q + 1) * y0 := Int.mul_nonneg (by omega) h0
    rw [k1]; omega
  · by_cases hc : q ≤ 4294967297
    · exact hc
    · have k : y1 * 4294967298 ≤ y1 * q := Int.mul_le_mul_of_nonneg_left (by omega) (by omega)
      omega
theorem DInv.big {y y1 u a q r : Int} (h : DInv y y1 u a q r) (a1 : a < 4294967296) (y0 : 0 < y) (u1 : u < y) (hq : 4294967296 ≤ q) (h2 : 0 ≤ y1) : DInv y y1 u a (q - 1) (r + y1) := by
  have k : y * 4294967296 ≤ y * q := Int.mul_le_mul_of_nonneg_left hq (by omega)
  have := h.eq; have := h.r0; have := h.qb
  refine ⟨by rw [Int.sub_mul]; omega, by omega, ?_, by omega, by omega⟩
  rw [Int.sub_add_cancel, Int.mul_comm q y]; omega
theorem DInv.more {y y1 y0 u a q r : Int} (h : DInv y y1 u a q r) (e : y = y1 * 4294967296 + y0) (u0 : 0 ≤ u) (a0 : 0 ≤ a) (h2 : 0 ≤ y1) (hc : 4294967296 * r + a < q * y0) : DInv y y1 u a (q - 1) (r + y1) := by
  have he := h.eq; have := h.r0; have := h.qb; have := h.q0
  have k : q * y = q * y1 * 4294967296 + q * y0 := by rw [e]; grind
  have hup : u * 4294967296 + a < q * y := by rw [k]; omega
  have hq1 : 1 ≤ q := by
    by_cases c : 1 ≤ q
    · exact c
    · have : q = 0 := by omega
      subst this
      simp at hup; omega
  refine ⟨by rw [Int.sub_mul]; omega, by omega, ?_, by omega, by omega⟩
  rw [Int.sub_add_cancel]; exact hup
/-- the digit -/
structure Dig (y u a q : Int) : Prop where
  lo : q * y ≤ u * 4294967296 + a
  hi : u * 4294967296 + a < (q + 1) * y
  q0 : 0 ≤ q
  q1 : q < 4294967296
theorem DInv.dig {y y1 y0 u a q r : Int} (h : DInv y y1 u a q r) (e : y = y1 * 4294967296 + y0) (yp : 0 < y) (u1 : u < y) (a1 : a < 4294967296) (hc : q * y0 ≤ 4294967296 * r + a) : Dig y u a q := by
  have he := h.eq
  have k : q * y = q * y1 * 4294967296 + q * y0 := by rw [e]; grind
  have lo : q * y ≤ u * 4294967296 + a := by rw [k]; omega
  refine ⟨lo, h.up, h.q0, ?_⟩
  by_cases c : q < 4294967296
  · exact c
  · have : 4294967296 * y ≤ q * y := Int.mul_le_mul_of_nonneg_right (by omega) (by omega)
    omega
theorem DInv.broke {y y1 y0 u a q r : Int} (h : DInv y y1 u a q r) (e : y = y1 * 4294967296 + y0) (yp : 0 < y) (u1 : u < y) (a0 : 0 ≤ a) (a1 : a < 4294967296) (h0 : 0 ≤ y0) (h1 : y0 < 4294967296) (hq : q ≤ 4294967296) (hr : 4294967296 ≤ r) : Dig y u a q :=
  h.dig e yp u1 a1 (by
    have : q * y0 ≤ 4294967296 * y0 := Int.mul_le_mul_of_nonneg_right hq h0
    omega)
theorem Dig.rest {y u a q : Int} (h : Dig y u a q) : 0 ≤ u * 4294967296 + a - q * y ∧ u * 4294967296 + a - q * y < y := by
  have := h.lo; have h2 := h.hi
  rw [Int.add_mul] at h2
  omega

theorem ediv64 (x S T : Int) (hS : 0 < S) (h : S * T = 18446744073709551616) : x * S / 18446744073709551616 = x / T := by
  rw [← h, Int.mul_comm S T, Int.mul_ediv_mul_of_pos_left _ _ hS]
theorem or_add (a b : Int) (s : Nat) (k : Int) (ha : a = k * 2 ^ s) (hk : 0 ≤ k) (ha1 : a < 18446744073709551616) (hb0 : 0 ≤ b) (hb1 : b < 2 ^ s) (hb2 : b < 18446744073709551616) : bits .or .u64 a b = a + b := by
  have h2 : (0 : Int) < 2 ^ s := Int.pow_pos (by decide)
  have ha0 : 0 ≤ a := by rw [ha]; exact Int.mul_nonneg hk (Int.le_of_lt h2)
  rw [u64_or a b ha0 ha1 hb0 hb2]
  obtain ⟨k, rfl⟩ := Int.eq_ofNat_of_zero_le hk
  obtain ⟨b, rfl⟩ := Int.eq_ofNat_of_zero_le hb0
  have e : a.toNat = 2 ^ s * k := by
    have : a = ((2 ^ s * k : Nat) : Int) := by rw [ha, Int.natCast_mul, Int.natCast_pow, Int.mul_comm]; rfl
    rw [this, Int.toNat_natCast]
  have hb' : b < 2 ^ s := by
    have : ((2 ^ s : Nat) : Int) = 2 ^ s := by rw [Int.natCast_pow]; rfl
    omega
  rw [e, Int.toNat_natCast, ← Nat.two_pow_add_eq_or_of_lt hb', ← e]
  omega
/-- the shifted numbers' halves -/
theorem div_prep (hi lo y : Int) (s : Nat) (h0 : 0 ≤ hi) (h1 : hi < y) (l0 : 0 ≤ lo) (l1 : lo < 18446744073709551616) (hs : s ≤ 63) (HS : 9223372036854775808 ≤ y * 2 ^ s ∧ y * 2 ^ s < 18446744073709551616) :
    ∃ Y Yh Yl U A A1 A0 : Int, IntKind.u64.wrap (y * 2 ^ s) = Y ∧ Y / 4294967296 = Yh ∧ bits .and .u64 Y 4294967295 = Yl ∧ bits .or .u64 (IntKind.u64.wrap (hi * 2 ^ s)) (lo / 2 ^ (64 - s)) = U ∧
      IntKind.u64.wrap (lo * 2 ^ s) = A ∧ A / 4294967296 = A1 ∧ bits .and .u64 A 4294967295 = A0 ∧ 0 ≤ Yl ∧ Yl < 4294967296 ∧ 2147483648 ≤ Yh ∧ Yh < 4294967296 ∧ 0 ≤ U ∧ U < Y ∧ Y < 18446744073709551616 ∧ 0 ≤ A1 ∧ A1 < 4294967296 ∧ 0 ≤ A0 ∧ A0 < 4294967296 ∧
      Hid (Y = Yh * 4294967296 + Yl) ∧ Hid ((U * 4294967296 + A1) * 4294967296 + A0 = (hi * 18446744073709551616 + lo) * 2 ^ s ∧ Y = y * 2 ^ s) := by
  have hS : (0 : Int) < 2 ^ s := Int.pow_pos (by decide)
  have hT : (0 : Int) < 2 ^ (64 - s) := Int.pow_pos (by decide)
  have hST : (2 : Int) ^ s * 2 ^ (64 - s) = 18446744073709551616 := by rw [← Int.pow_add, show s + (64 - s) = 64 from by omega]; rfl
  have hSle : (2 : Int) ^ s * 1 ≤ 2 ^ s * 2 ^ (64 - s) := Int.mul_le_mul_of_nonneg_left (by omega) (Int.le_of_lt hS)
  have hhi : 0 ≤ hi * 2 ^ s := Int.mul_nonneg h0 (Int.le_of_lt hS)
  have hhi2 : (hi + 1) * 2 ^ s ≤ y * 2 ^ s := Int.mul_le_mul_of_nonneg_right (by omega) (Int.le_of_lt hS)
  rw [Int.add_mul, Int.one_mul] at hhi2
  have hlo : 0 ≤ lo * 2 ^ s := Int.mul_nonneg l0 (Int.le_of_lt hS)
  have hlT0 : 0 ≤ lo / 2 ^ (64 - s) := Int.ediv_nonneg l0 (Int.le_of_lt hT)
  have hlT1 : lo / 2 ^ (64 - s) < 2 ^ s := by
    rw [Int.ediv_lt_iff_lt_mul hT, hST]; exact l1
  have hq := ediv64 lo (2 ^ s) (2 ^ (64 - s)) hS hST
  have hU : bits .or .u64 (IntKind.u64.wrap (hi * 2 ^ s)) (lo / 2 ^ (64 - s)) = hi * 2 ^ s + lo / 2 ^ (64 - s) := by
    rw [IntKind.wrap_u64, Int.emod_eq_of_lt hhi (by omega)]
    exact or_add _ _ s hi rfl h0 (by omega) hlT0 hlT1 (by omega)
  have hY : IntKind.u64.wrap (y * 2 ^ s) = y * 2 ^ s := by rw [IntKind.wrap_u64]; omega
  have hA : IntKind.u64.wrap (lo * 2 ^ s) = lo * 2 ^ s % 18446744073709551616 := IntKind.wrap_u64 _
  have e3 : (hi * 18446744073709551616 + lo) * 2 ^ s = hi * 2 ^ s * 18446744073709551616 + lo * 2 ^ s := by grind
  rw [hU, hY, hA]
  rw [← hq] at hlT0 hlT1 ⊢
  rw [e3]
  generalize hi * 2 ^ s = H at *
  generalize lo * 2 ^ s = Lo at *
  generalize y * 2 ^ s = Y at *
  refine ⟨Y, _, _, _, _, _, _, rfl, rfl, and32 _ (by omega) (by omega), rfl, rfl, rfl, and32 _ (by omega) (by omega), by omega, by omega, by omega, by omega, by omega, by omega, by omega, by omega, by omega, by omega, by omega, ?_, ?_, rfl⟩
  · show _ = _; omega
  · omega
theorem rest_wrap (U A p V : Int) (h : V = U * 4294967296 + A - p) (h0 : 0 ≤ V) (h1 : V < 18446744073709551616) : IntKind.u64.wrap (IntKind.u64.wrap (IntKind.u64.wrap (U * 4294967296) + A) - IntKind.u64.wrap p) = V := by
  simp only [IntKind.wrap_u64]; omega
theorem hat_wrap (u y : Int) (hu : 0 ≤ u) (hu1 : u < 18446744073709551616) (hy : 0 < y) : IntKind.u64.wrap (u - IntKind.u64.wrap (u / y * y)) = u % y := by
  have h1 := Int.mul_ediv_add_emod u y
  have h2 := Int.emod_nonneg u (show y ≠ 0 by omega)
  have h3 := Int.mul_nonneg (Int.ediv_nonneg hu (Int.le_of_lt hy)) (Int.le_of_lt hy)
  rw [Int.mul_comm] at h1
  generalize u / y * y = p at *
  generalize u % y = r at *
  simp only [IntKind.wrap_u64]; omega
/-- one digit's start: quotient and rest under names -/
theorem dig_start (Y Yh Yl u a : Int) (hy : Y = Yh * 4294967296 + Yl) (h0 : 0 ≤ Yl) (h1 : Yl < 4294967296) (h2 : 2147483648 ≤ Yh) (h3 : Yh < 4294967296) (u0 : 0 ≤ u) (u1 : u < Y) (u2 : Y < 18446744073709551616) (a0 : 0 ≤ a) (a1 : a < 4294967296) :
    IntKind.u64.wrap (u - IntKind.u64.wrap (u / Yh * Yh)) = u % Yh ∧ DInv Y Yh u a (u / Yh) (u % Yh) ∧ u % Yh < 4294967296 :=
  ⟨hat_wrap u Yh u0 (by omega) (by omega), DInv.start hy h0 h1 h2 u0 u1 a0 a1, by have := Int.emod_lt_of_pos u (show 0 < Yh by omega); omega⟩
theorem dig_rest {Y u a q : Int} (h : Dig Y u a q) (hY : Y < 18446744073709551616) : ∃ V : Int, IntKind.u64.wrap (IntKind.u64.wrap (IntKind.u64.wrap (u * 4294967296) + a) - IntKind.u64.wrap (q * Y)) = V ∧ 0 ≤ V ∧ V < Y ∧ Hid (V = u * 4294967296 + a - q * Y) := by
  have := h.rest
  exact ⟨u * 4294967296 + a - q * Y, rest_wrap u a (q * Y) _ rfl this.1 (by omega), this.1, this.2, rfl⟩
theorem div_fin (hi lo y Y U A1 A0 Q V Q2 : Int) (s : Nat) (hy : 0 < y) (e : (U * 4294967296 + A1) * 4294967296 + A0 = (hi * 18446744073709551616 + lo) * 2 ^ s) (eY : Y = y * 2 ^ s) (hV : V = U * 4294967296 + A1 - Q * Y) (hd : Dig Y V A0 Q2) :
    Q * 4294967296 + Q2 = (hi * 18446744073709551616 + lo) / y ∧ (V * 4294967296 + A0 - Q2 * Y) / 2 ^ s = (hi * 18446744073709551616 + lo) % y := by
  have hS : (0 : Int) < 2 ^ s := Int.pow_pos (by decide)
  have hr := hd.rest
  have h1 := hd.q0
  have h2 := hd.q1
  generalize hN : hi * 18446744073709551616 + lo = N at *
  have key : N * 2 ^ s = (Q * 4294967296 + Q2) * y * 2 ^ s + (V * 4294967296 + A0 - Q2 * Y) := by rw [← e, hV, eY]; grind
  generalize hR : V * 4294967296 + A0 - Q2 * Y = R at *
  have hdiv : R = (N - (Q * 4294967296 + Q2) * y) * 2 ^ s := by rw [Int.sub_mul]; omega
  generalize hK : Q * 4294967296 + Q2 = K at *
  generalize hD : N - K * y = D at *
  rw [hdiv] at hr
  rw [eY] at hr
  have d0 : 0 ≤ D := by
    by_cases c : 0 ≤ D
    · exact c
    · have : D * 2 ^ s ≤ -1 * 2 ^ s := Int.mul_le_mul_of_nonneg_right (by omega) (Int.le_of_lt hS)
      omega
  have d1 : D < y := Int.lt_of_mul_lt_mul_right hr.2 (Int.le_of_lt hS)
  have hND : N = y * K + D := by rw [← hD, Int.mul_comm y K]; omega
  constructor
  · have : N / y = K := by rw [hND, Int.add_comm, Int.add_mul_ediv_left _ _ (by omega), Int.ediv_eq_zero_of_lt d0 d1, Int.zero_add]
    omega
  · rw [hdiv, Int.mul_ediv_cancel _ (by omega), hND, Int.add_comm, Int.add_mul_emod_self_left, Int.emod_eq_of_lt d0 d1]

end Go.Proofs.Ytgfglfpckjkcdaa

namespace Go.Proofs.Ytgfglfpckjkcdaa
open Go.RowKit Lim

theorem bpow (k : Nat) : (18446744073709551616 : Int) ^ k = ((2 ^ (64 * k) : Nat) : Int) := by
  rw [Nat.pow_mul, Int.natCast_pow]; rfl
theorem bits_top {l : List Int} (wl : Words l) (hn : nlen l ≠ 0) : bitLen (val l).toNat = 64 * (nlen l - 1) + bitLen (nth l (nlen l - 1)).toNat := by
  have h0 := val_nonneg wl
  have hs := val_split (norm l) (nlen l - 1) (by rw [norm_length]; omega)
  have hd : (norm l).drop (nlen l - 1) = [nth l (nlen l - 1)] := by
    apply nth_ext
    · simp [norm_length]; omega
    · intro i hi
      simp [norm_length] at hi
      have : i = 0 := by omega
      subst this
      rw [nth_drop, norm_nth, nth_zero]; rfl
  rw [hd, val_single, val_norm] at hs
  have h1 := val_lt (wl.norm.take (nlen l - 1))
  have h2 := val_nonneg (wl.norm.take (nlen l - 1))
  rw [List.length_take, norm_length, Nat.min_eq_left (by omega)] at h1
  have h3 := wl.nth (nlen l - 1)
  have h4 := nlen_last hn
  generalize nth l (nlen l - 1) = x at *
  generalize val ((norm l).take (nlen l - 1)) = y at *
  generalize nlen l - 1 = k at *
  rw [bpow] at hs h1
  obtain ⟨x, rfl⟩ := Int.eq_ofNat_of_zero_le h3.1
  obtain ⟨y, rfl⟩ := Int.eq_ofNat_of_zero_le h2
  obtain ⟨v, hv⟩ := Int.eq_ofNat_of_zero_le h0
  rw [hv] at hs ⊢
  have hq : v / 2 ^ (64 * k) = x := by
    have hv2 : v = y + 2 ^ (64 * k) * x := by
      have : (v : Int) = ((y + 2 ^ (64 * k) * x : Nat) : Int) := by rw [hs, Int.natCast_add, Int.natCast_mul]
      exact Int.ofNat.inj this
    rw [hv2, Nat.add_mul_div_left _ _ (Nat.two_pow_pos _), Nat.div_eq_of_lt (by omega), Nat.zero_add]
  rw [Int.toNat_natCast, Int.toNat_natCast, bitLen_shift v (64 * k) (by rw [hq]; omega), hq]

theorem isN_nil' : IsN [] 0 := ⟨Words.nil, rfl, rfl⟩
/-- the last k bytes are laid -/
structure FbInv (lb : List Int) (m k : Nat) (lz : List Int) : Prop where
  len : lz.length = m
  words : Words lz
  val : Lim.val lz = bval (lb.drop (lb.length - k))
theorem bval_drop {l : List Int} {i : Nat} (h : i < l.length) : bval (l.drop i) = nth l i * 256 ^ (l.length - 1 - i) + bval (l.drop (i + 1)) := by
  rw [List.drop_eq_getElem_cons h, bval, nth_eq h, List.length_drop, show l.length - (i + 1) = l.length - 1 - i from by omega]
theorem Octets.drop {l : List Int} (h : Octets l) (k : Nat) : Octets (l.drop k) := fun x hx => h x (List.mem_of_mem_drop hx)
theorem val_set {l : List Int} {i : Nat} (h : i < l.length) (x : Int) : val (l.set i x) = val l + 18446744073709551616 ^ i * (x - nth l i) := by
  have e1 := val_split (l.set i x) i (by simp; omega)
  have e2 := val_split l i (by omega)
  rw [List.take_set_of_le (Nat.le_refl _), List.drop_set, if_neg (by omega), Nat.sub_self] at e1
  rw [List.drop_eq_getElem_cons h, List.set_cons_zero, val] at e1
  rw [List.drop_eq_getElem_cons h, val] at e2
  rw [e1, e2, nth_eq h]; grind
theorem limb_lt {l : List Int} (wl : Words l) {i : Nat} (h : i < l.length) {P : Int} (hP : val l < 18446744073709551616 ^ i * P) : nth l i < P := by
  have e2 := val_split l i (by omega)
  rw [List.drop_eq_getElem_cons h, val] at e2
  have h1 := val_nonneg (wl.take i)
  have h2 := val_nonneg (wl.drop (i + 1))
  have hp := pow_pos i
  have h3 : 0 ≤ 18446744073709551616 ^ i * (18446744073709551616 * val (l.drop (i + 1))) := Int.mul_nonneg (Int.le_of_lt hp) (by omega)
  rw [Int.mul_add] at e2
  have h4 : 18446744073709551616 ^ i * nth l i < 18446744073709551616 ^ i * P := by rw [nth_eq h]; omega
  exact Int.lt_of_mul_lt_mul_left h4 (Int.le_of_lt hp)
theorem pow_parts (k : Nat) : (256 : Int) ^ k = 18446744073709551616 ^ (k / 8) * 2 ^ (8 * (k % 8)) := by
  have e : (18446744073709551616 : Int) = 256 ^ 8 := by decide
  have e2 : (2 : Int) ^ (8 * (k % 8)) = 256 ^ (k % 8) := by rw [Int.pow_mul]; rfl
  rw [e, e2, ← Int.pow_mul, ← Int.pow_add]; congr 1; omega
theorem fb_step {lb lz : List Int} {m k : Nat} (hb : Octets lb) (hm : (lb.length + 7) / 8 = m) (h : FbInv lb m k lz) (hk : k < lb.length) :
    bits .or .u64 (nth lz (k / 8)) (IntKind.u64.wrap (nth lb (lb.length - 1 - k) * 2 ^ (8 * (k % 8)))) = nth lz (k / 8) + nth lb (lb.length - 1 - k) * 2 ^ (8 * (k % 8)) ∧
    FbInv lb m (k + 1) (lz.set (k / 8) (nth lz (k / 8) + nth lb (lb.length - 1 - k) * 2 ^ (8 * (k % 8)))) := by
  have hl := h.len
  have hx := hb.nth (lb.length - 1 - k)
  have hbd := bval_bound (hb.drop (lb.length - k))
  rw [List.length_drop, show lb.length - (lb.length - k) = k from by omega] at hbd
  have hv := h.val
  have hz := h.words.nth (k / 8)
  have hlt := limb_lt h.words (i := k / 8) (by omega) (P := 2 ^ (8 * (k % 8))) (by rw [← pow_parts, hv]; exact hbd.2)
  have hS : (0 : Int) < 2 ^ (8 * (k % 8)) := Int.pow_pos (by decide)
  have hT : (2 : Int) ^ (8 * (k % 8)) * 256 ≤ 18446744073709551616 := by
    have : (2 : Nat) ^ (8 * (k % 8)) ≤ 2 ^ 56 := Nat.pow_le_pow_right (by decide) (by omega)
    have e : ((2 ^ (8 * (k % 8)) : Nat) : Int) = (2 : Int) ^ (8 * (k % 8)) := by rw [Int.natCast_pow]; rfl
    have e2 : (2 : Nat) ^ 56 = 72057594037927936 := by decide
    omega
  have hx1 : 0 ≤ nth lb (lb.length - 1 - k) * 2 ^ (8 * (k % 8)) := Int.mul_nonneg hx.1 (Int.le_of_lt hS)
  have hx2 : nth lb (lb.length - 1 - k) * 2 ^ (8 * (k % 8)) ≤ 255 * 2 ^ (8 * (k % 8)) := Int.mul_le_mul_of_nonneg_right (by omega) (Int.le_of_lt hS)
  constructor
  · rw [IntKind.wrap_u64, Int.emod_eq_of_lt hx1 (by omega)]
    rw [u64_or _ _ hz.1 hz.2 hx1 (by omega), Nat.or_comm, ← u64_or _ _ hx1 (by omega) hz.1 hz.2]
    rw [or_add _ _ (8 * (k % 8)) _ rfl hx.1 (by omega) hz.1 hlt hz.2, Int.add_comm]
  · refine ⟨by simp [hl], h.words.set _ (by omega) (by omega), ?_⟩
    rw [val_set (by omega), hv, show lb.length - (k + 1) = lb.length - 1 - k from by omega, bval_drop (l := lb) (i := lb.length - 1 - k) (by omega), show lb.length - 1 - k + 1 = lb.length - k from by omega, show lb.length - 1 - (lb.length - 1 - k) = k from by omega, pow_parts k]
    grind

end Go.Proofs.Ytgfglfpckjkcdaa

namespace Go.Proofs.Ytgfglfpckjkcdaa
open Go.RowKit Lim

theorem val_drop {l : List Int} {h : Nat} (hl : h < l.length) : val (l.drop h) = nth l h + 18446744073709551616 * val (l.drop (h + 1)) := by
  rw [List.drop_eq_getElem_cons hl, val, nth_eq hl]

structure DivSInv (lz : List Int) (d : Int) (h : Nat) (lz1 : List Int) (left : Int) : Prop where
  len : lz1.length = lz.length
  words : Words lz1
  low : ∀ i, i < h → nth lz1 i = nth lz i
  val : Lim.val (lz1.drop h) * d + left = Lim.val (lz.drop h)

theorem DivSInv.step {lz lz1 : List Int} {d left q r : Int} {h : Nat} (hv : DivSInv lz d (h + 1) lz1 left) (hh : h < lz.length) (q0 : 0 ≤ q) (q1 : q < 18446744073709551616) (e : q * d + r = left * 18446744073709551616 + nth lz h) : DivSInv lz d h (lz1.set h q) r := by
  have hl := hv.len
  refine ⟨by simp [hl], hv.words.set h q0 q1, fun i hi => by rw [nth_set (by omega), if_neg (by omega)]; exact hv.low i (by omega), ?_⟩
  rw [val_drop (by simp; omega), nth_set (by omega), if_pos rfl, List.drop_set, if_pos (by omega), val_drop hh, ← hv.val]
  grind

end Go.Proofs.Ytgfglfpckjkcdaa

namespace Go.Proofs.Ytgfglfpckjkcdaa
open Go.RowKit Lim

theorem bor_01 (x y : Int) : 0 ≤ bor x y ∧ bor x y ≤ 1 := by unfold bor; split <;> decide
theorem sub_mod (x y : Int) (hx : 0 ≤ x ∧ x < 18446744073709551616) (hy : 0 ≤ y ∧ y < 18446744073709551616) : (x - y) % 18446744073709551616 = x - y + 18446744073709551616 * bor x y := by
  unfold bor; split <;> omega
theorem take_step (z x m c hi lo : Int) (hz : 0 ≤ z ∧ z < 18446744073709551616) (hc : 0 ≤ c ∧ c < 18446744073709551616) (h1 : 0 ≤ hi) (h2 : hi ≤ 18446744073709551614) (h3 : 0 ≤ lo) (h4 : lo < 18446744073709551616) (h5 : hi * 18446744073709551616 + lo = x * m)
    (hb : x * m ≤ 340282366920938463426481119284349108225) :
    0 ≤ hi + (lo + c) / 18446744073709551616 ∧ hi + (lo + c) / 18446744073709551616 ≤ 18446744073709551615 ∧
    0 ≤ hi + (lo + c) / 18446744073709551616 + bor z ((lo + c) % 18446744073709551616) ∧
    hi + (lo + c) / 18446744073709551616 + bor z ((lo + c) % 18446744073709551616) ≤ 18446744073709551615 ∧
    (z - (lo + c) % 18446744073709551616) % 18446744073709551616 + 18446744073709551616 * (-(hi + (lo + c) / 18446744073709551616 + bor z ((lo + c) % 18446744073709551616))) = z + x * -m + -c := by
  rw [sub_mod z _ hz ⟨by omega, by omega⟩, show x * -m = -(x * m) from Int.mul_neg x m]
  have := bor_01 z ((lo + c) % 18446744073709551616)
  unfold bor at *
  split <;> omega

theorem AddInv.owed {lz lb lz1 : List Int} {m c : Int} {k n : Nat} (hn : lz.length = n) (h : AddInv lz lb m k lz1 c) (hc : c = 0 ∨ lz.length = k) (hk : lb.length ≤ k) (hkn : k ≤ n) :
    val lz1 + 18446744073709551616 ^ n * c = val lz + val lb * m := by
  obtain ⟨h1, h2, h3, h4⟩ := h
  rw [List.take_of_length_le (l := lb) (by omega)] at h4
  rcases hc with e | e
  · subst e
    have hd : lz1.drop k = lz.drop k := nth_ext (by simp [h1]) fun i hi => by rw [nth_drop, nth_drop]; exact h3 _ (by omega)
    have e1 := val_split lz1 k (by omega)
    have e2 := val_split lz k (by omega)
    rw [hd] at e1
    simp only [Int.mul_zero, Int.add_zero] at h4 ⊢
    rw [e1, e2]; omega
  · have ek : k = n := by omega
    subst ek
    rw [List.take_of_length_le (l := lz1) (by omega), List.take_of_length_le (l := lz) (by omega)] at h4
    exact h4

end Go.Proofs.Ytgfglfpckjkcdaa

namespace Go.Proofs.Ytgfglfpckjkcdaa
open Go.RowKit Lim

theorem sub_fin {L L' lz : List Int} {x y owed : Int} (hL : IsN L x) (hL' : IsN L' y) (hle : y ≤ x) (hw : Words lz) (hl : lz.length = L.length) (h0 : 0 ≤ owed)
    (hv : val lz = val L - val L' * 1 + 18446744073709551616 ^ L.length * owed) : IsN (norm lz) (x - y) := by
  have h1 := isN_lt hL
  have h2 := isN_lt hL'
  have h3 := val_lt hw
  have h4 := val_nonneg hw
  have hp := pow_pos L.length
  rw [hL.2.2, hL'.2.2] at hv
  rw [hl] at h3
  have ho : owed = 0 := by
    by_cases h : 0 < owed
    · have : 18446744073709551616 ^ L.length * 1 ≤ 18446744073709551616 ^ L.length * owed := Int.mul_le_mul_of_nonneg_left (by omega) (Int.le_of_lt hp)
      omega
    · omega
  subst ho
  have : x - y = val lz := by rw [hv]; simp
  rw [this]
  exact isN_norm hw

end Go.Proofs.Ytgfglfpckjkcdaa

namespace Go.Proofs.Ytgfglfpckjkcdaa
open Go.RowKit Lim

theorem Row.built (w : World) (l : List Int) : Row (w.alloc (.cells (l.map (Value.int .u64)).toArray 22)) w.heap.size l := by
  show (w.heap.push _)[w.heap.size]? = _
  rw [Array.getElem?_push_size]
theorem Row.built1 (w : World) (x : Int) : Row (w.alloc (.cells #[.int .u64 x] 22)) w.heap.size [x] := Row.built w [x]
theorem Row.built2 (w : World) (x y : Int) : Row (w.alloc (.cells #[.int .u64 x, .int .u64 y] 22)) w.heap.size [x, y] := Row.built w [x, y]
theorem below_alloc (w : World) (o : Obj) : Below w.heap.size w (w.alloc o) := (Below.refl _ _).alloc (Nat.le_refl _) _

/-- what DivMod answers -/
def DivPost (w w' : World) (e : Ending) (x y : Int) (n n' : Nat) : Prop :=
  ∃ v u r s, e = .returned (.tuple #[v, u, .int .i64 0]) ∧ NewV w w' v r ∧ NewV w w' u s ∧ IsN r (x / y) ∧ IsN s (x % y) ∧ r.length ≤ n ∧ s.length ≤ n + n' ∧ Below w.heap.size w w'

theorem NewV.nil (w w' : World) : NewV w w' (.slice none 0 0) [] := ⟨none, w.heap.size, 0, 0, rfl, Nat.le_refl _, Nat.le_refl _, ⟨.inl rfl, fun i hi => by simp at hi⟩, fun i hi => by simp at hi⟩
theorem isN_nil : IsN [] 0 := ⟨Words.nil, rfl, rfl⟩
theorem NewV.later {w w1 w2 : World} {v : Value} {l : List Int} (h : NewV w w1 v l) (hb : Below w1.heap.size w1 w2) : NewV w w2 v l := by
  obtain ⟨ao, b, o, c, e, h1, h2, h3, h4⟩ := h
  refine ⟨ao, b, o, c, e, h1, h2, h3.keep hb, fun i hi => ?_⟩
  have hlt := cell_lt (h3.cell i hi)
  rw [hb.frozen (p := ⟨b, o + i, none⟩) hlt]; exact h4 i hi
theorem NewV.mono {w0 w w1 : World} {v : Value} {l : List Int} (h : NewV w w1 v l) (hb : w0.heap.size ≤ w.heap.size) : NewV w0 w1 v l := by
  obtain ⟨ao, b, o, c, e, h1, h2, h3, h4⟩ := h
  exact ⟨ao, b, o, c, e, h1, by omega, h3, h4⟩

end Go.Proofs.Ytgfglfpckjkcdaa

namespace Go.Proofs.Ytgfglfpckjkcdaa
open Go.RowKit Lim

theorem gcd_step (a b : Int) (ha : 0 ≤ a) (hb : 0 ≤ b) : Int.gcd b (a % b) = Int.gcd a b := by
  obtain ⟨a, rfl⟩ := Int.eq_ofNat_of_zero_le ha
  obtain ⟨b, rfl⟩ := Int.eq_ofNat_of_zero_le hb
  show Nat.gcd b ((a : Int) % (b : Int)).natAbs = Nat.gcd a b
  rw [show ((a : Int) % (b : Int)).natAbs = a % b from rfl, Nat.gcd_comm b, Nat.gcd_comm a b]
  exact (Nat.gcd_rec b a).symm

theorem Row.keep {w w' : World} {g : Nat} {l : List Int} (h : Row w g l) (hb : Below w.heap.size w w') : Row w' g l := by
  unfold Row at *
  rw [hb.block g (Array.getElem?_eq_some_iff.1 h).1]; exact h
theorem gcd_one {x y d left : Int} (hx : 0 ≤ x) (hd : 0 < d) (hy : y = d) (hl : left = x % d) : (Int.gcd d left : Int) = Int.gcd x y := by
  subst hy hl; rw [gcd_step x y hx (by omega)]
theorem gcd_bound (d left : Int) (hd : 0 < d) (h1 : d < 18446744073709551616) : ((Int.gcd d left : Nat) : Int) < 18446744073709551616 := by
  have : Int.gcd d left ≤ d.natAbs := Nat.gcd_le_left _ (by omega)
  omega

end Go.Proofs.Ytgfglfpckjkcdaa

namespace Go.Proofs.Ytgfglfpckjkcdaa
open Go.RowKit Lim

/-- the slice v holds the limbs l, in memory of its own from block B on -/
def Mine (w : World) (B : Nat) (v : Value) (l : List Int) : Prop := w.ownsRow B 22 1 v l.length (l.map (Value.int .u64))

theorem Mine.open {w : World} {B : Nat} {v : Value} {l : List Int} (h : Mine w B v l) : ∃ ao c, v = .slice ao l.length c ∧ l.length ≤ c ∧ c ≤ maxLen ∧ ∃ g, (l = [] ∨ ao = some ⟨g, 0, none⟩) ∧ B ≤ g ∧ At w ao g 0 l ∧ Free w g 0 l.length := by
  obtain ⟨_, h2⟩ := h
  rcases h2 with ⟨rfl, h0⟩ | ⟨g, cap, cur, rfl, hB, hh, hle, hmx, hsz, htk⟩
  · have e : l = [] := List.eq_nil_of_length_eq_zero h0
    subst e
    exact ⟨none, 0, rfl, Nat.le_refl _, by decide, B, .inl rfl, Nat.le_refl _, ⟨.inl rfl, fun i hi => by simp at hi⟩, fun i hi => by simp at hi⟩
  · refine ⟨some ⟨g, 0, none⟩, cap, rfl, hle, hmx, g, .inr rfl, hB, ⟨.inr rfl, fun i hi => ?_⟩, fun i hi => ?_⟩
    · have e : cur.toList[i]? = some (.int .u64 (nth l i)) := by
        have h1 : (cur.toList.take (l.length * 1))[i]? = some (.int .u64 (nth l i)) := by
          rw [htk, List.getElem?_map, List.getElem?_eq_getElem hi, nth_eq hi]; rfl
        rwa [Nat.mul_one, List.getElem?_take_of_lt hi] at h1
      simp only [World.cell?, hh]
      simpa using e
    · simp [World.frozen?, hh]
theorem Mine.setCell {w : World} {B : Nat} {v : Value} {l : List Int} (h : Mine w B v l) {c g : Nat} (hv : v = .slice (some ⟨g, 0, none⟩) l.length c) {i : Nat} (hi : i < l.length) (x : Int) : Mine (w.setCell ⟨g, 0 + i, none⟩ (.int .u64 x)) B v (l.set i x) := by
  obtain ⟨_, h2⟩ := h
  refine ⟨by simp, ?_⟩
  rcases h2 with ⟨rfl, h0⟩ | ⟨g', cap, cur, rfl, hB, hh, hle, hmx, hsz, htk⟩
  · omega
  · simp only [Value.slice.injEq, Option.some.injEq, Addr.mk.injEq, and_true, true_and] at hv
    obtain ⟨rfl, rfl⟩ := hv
    right
    refine ⟨g', cap, cur.setIfInBounds i (.int .u64 x), by simp, hB, ?_, by simpa using hle, hmx, by simpa using hsz, ?_⟩
    · simp only [World.setCell, Array.getElem?_modify, if_true, hh, Nat.zero_add]
      simp
    · rw [List.length_set, Nat.mul_one] at *
      rw [Array.toList_setIfInBounds, List.map_set, ← htk, List.take_set]
theorem Mine.below {w w' : World} {B B' : Nat} {v : Value} {l : List Int} (h : Mine w B v l) (hb : Below B' w w') (hB : ∀ g, v.ownBlock = some g → g < B') : Mine w' B v l := by
  obtain ⟨h1, h2⟩ := h
  refine ⟨h1, ?_⟩
  rcases h2 with h2 | ⟨g, cap, cur, rfl, hB1, hh, hr⟩
  · exact .inl h2
  · exact .inr ⟨g, cap, cur, rfl, hB1, by rw [hb.block g (hB g rfl)]; exact hh, hr⟩
theorem Mine.new {w w' : World} {v : Value} {l : List Int} (h : Mine w' w.heap.size v l) : NewV w w' v l := by
  obtain ⟨ao, c, rfl, hc, _, g, _, hg, hat, hf⟩ := h.open
  exact ⟨ao, g, 0, c, rfl, hc, hg, hat, hf⟩

/-- scale's limbs: z m + c from place k on -/
structure ScInv (l : List Int) (m c0 : Int) (k : Nat) (l1 : List Int) (c : Int) : Prop where
  len : l1.length = l.length
  words : Words l1
  high : ∀ i, k ≤ i → nth l1 i = nth l i
  val : Lim.val (l1.take k) + 18446744073709551616 ^ k * c = Lim.val (l.take k) * m + c0
theorem ScInv.step {l l1 : List Int} {m c0 c z' c' : Int} {k : Nat} (h : ScInv l m c0 k l1 c) (hk : k < l.length) (hz0 : 0 ≤ z') (hz1 : z' < 18446744073709551616)
    (e : z' + 18446744073709551616 * c' = nth l k * m + c) : ScInv l m c0 (k + 1) (l1.set k z') c' := by
  have h1 := h.len
  refine ⟨by simp [h1], h.words.set k hz0 hz1, fun i hi => by rw [nth_set (by omega), if_neg (by omega)]; exact h.high i (by omega), ?_⟩
  have h4 := h.val
  rw [val_take_succ (by simp [h1]; omega), val_take_succ hk, List.take_set_of_le (Nat.le_refl _), nth_set (by omega), if_pos rfl, Int.pow_succ]
  have : 18446744073709551616 ^ k * (z' + 18446744073709551616 * c') = 18446744073709551616 ^ k * (nth l k * m + c) := by rw [e]
  grind

theorem nlen_snoc {l : List Int} {c : Int} (hc : c ≠ 0) : nlen (l ++ [c]) = (l ++ [c]).length := by
  apply nlen_of (Nat.le_refl _)
  · intro i hi; exact nth_ge hi
  · intro _; rw [List.length_append, List.length_singleton, Nat.add_sub_cancel, nth_append_right (Nat.le_refl _), Nat.sub_self, nth_zero]; exact hc
theorem scale_norm {l r : List Int} {m c : Int} (wl : Words l) (wr : Words r) (hlen : r.length = l.length) (hv : val r = val l * m + c) (hm : 0 < m) (hc : 0 ≤ c) (hn : nlen l = l.length) : nlen r = r.length := by
  have h1 := nlen_le r
  by_cases h0 : l.length = 0
  · omega
  have h2 := val_ge_of_nlen wl (by omega)
  have h3 := val_lt_nlen wr
  have h4 := val_nonneg wl
  have h5 : val l * 1 ≤ val l * m := Int.mul_le_mul_of_nonneg_left (by omega) h4
  by_cases hlt : nlen r < r.length
  · have := pow_mono (show nlen r ≤ nlen l - 1 by omega)
    omega
  · omega
theorem ScInv.fin {l l1 : List Int} {m c0 c : Int} (h : ScInv l m c0 l.length l1 c) : Lim.val (l1 ++ [c]) = Lim.val l * m + c0 := by
  have h4 := h.val
  rw [List.take_of_length_le (by rw [h.len]; exact Nat.le_refl _), List.take_of_length_le (Nat.le_refl _)] at h4
  rw [val_append, val_single, h.len]; exact h4

end Go.Proofs.Ytgfglfpckjkcdaa

namespace Go.Proofs.Ytgfglfpckjkcdaa
open Go.RowKit Lim

/-- the list's values are slices of these lengths -/
def smallB (vs : List (Option Addr × Nat × Nat)) : Bool := vs.all fun v => decide (v.2.1 ≤ 60)
def theNth (vs : List (Option Addr × Nat × Nat)) (i : Nat) : Option Addr × Nat × Nat := vs.getD i (none, 0, 0)

theorem cell_new (w : World) (cs : Array Value) (t : TypeId) (i : Nat) : (w.alloc (.cells cs t)).cell? ⟨w.heap.size, i, none⟩ = cs[i]? := by
  have h : (w.alloc (.cells cs t)).heap[w.heap.size]? = some (.cells cs t (0, 0)) := by
    show (w.heap.push _)[w.heap.size]? = _
    rw [Array.getElem?_push_size]
  simp only [World.cell?, h]
  simp
/-- what the row says of a slice of limbs that came in -/
def IsRow (w : World) (a : Option Addr) (len cap : Nat) (zs : List Int) : Prop :=
  (a = none ∧ len = 0 ∧ cap = 0 ∧ zs = []) ∨
  ∃ x, a = some x ∧ len ≤ cap ∧ cap ≤ maxLen ∧ zs.length = cap ∧ (∀ i, i < zs.length → w.cell? (x.add i) = some (.int .u64 (zs.getD i 0))) ∧ ∀ n ∈ zs, (Lit.int .u64 n).wf = true
theorem IsRow.open {w : World} {a : Option Addr} {len cap : Nat} {zs : List Int} (h : IsRow w a len cap zs) : ∃ b o l, l.length = len ∧ len ≤ cap ∧ len ≤ 9223372036854775807 ∧ Words l ∧ At w a b o l := by
  rcases h with ⟨rfl, rfl, rfl, rfl⟩ | ⟨x, rfl, h1, h2, h3, h4, h5⟩
  · exact ⟨0, 0, [], rfl, Nat.le_refl _, by decide, Words.nil, .inl rfl, fun i hi => by simp at hi⟩
  · have hw : Words (zs.take len) := fun y hy => by
      have := h5 y (List.mem_of_mem_take hy)
      have := bounds_u64 this
      omega
    have hl : (zs.take len).length = len := by simp; omega
    have hmx : len ≤ 9223372036854775807 := by unfold maxLen at h2; omega
    by_cases h0 : len = 0
    · refine ⟨0, 0, zs.take len, hl, h1, hmx, hw, .inl (List.eq_nil_of_length_eq_zero (by omega)), fun i hi => by omega⟩
    · have hx := h4 0 (by omega)
      have hsp : x.spot = none := by
        rw [show x.add 0 = x from rfl] at hx
        simp only [World.cell?] at hx
        cases hh : w.heap[x.block]? with
        | none => rw [hh] at hx; simp at hx
        | some ob =>
          rw [hh] at hx
          cases ob with
          | cells c e f =>
            simp at hx
            cases hs : x.spot with
            | none => rfl
            | some s => rw [hs] at hx; simp at hx
          | _ => simp at hx
      obtain ⟨b, o, sp⟩ := x
      simp at hsp
      subst hsp
      refine ⟨b, o, zs.take len, hl, h1, hmx, hw, .inr rfl, fun i hi => ?_⟩
      have h6 := h4 i (by omega)
      rw [nth_take (by omega)]
      have e : (⟨b, o, none⟩ : Addr).add i = ⟨b, o + i, none⟩ := by
        by_cases hi0 : i = 0
        · subst hi0; rfl
        · simp [Addr.add, hi0]
      rw [e] at h6
      exact h6
end Go.Proofs.Ytgfglfpckjkcdaa

namespace Go.Proofs.Ytgfglfpckjkcdaa
open Go.RowKit Lim

theorem info_u8 : (Try.prog.info? 5).map (fun i => (i.zero, i.size, i.bytes)) = some (some (.int .u8 0), 1, 1) := by kernel_rfl
theorem under_bytes : Try.prog.underlying 32 = some (.slice 5) := by kernel_rfl
/-- block g holds just the bytes l -/
def RowB (w : World) (g : Nat) (l : List Int) : Prop := w.heap[g]? = some (.cells (l.map (Value.int .u8)).toArray 5 (0, 0))
theorem RowB.at {w : World} {g : Nat} {l : List Int} (h : RowB w g l) : AtB w (some ⟨g, 0, none⟩) g 0 l :=
  ⟨.inr rfl, fun i hi => by
    unfold RowB at h
    simp only [World.cell?, h]
    simp [nth_eq hi, hi]⟩
theorem RowB.free {w : World} {g : Nat} {l : List Int} (h : RowB w g l) (o n : Nat) : Free w g o n := by
  intro i _
  unfold RowB at h
  simp [World.frozen?, h]
theorem made_u8 (n : Nat) : madeCells (Value.int .u8 0).cells n = ((List.replicate n 0).map (Value.int .u8)).toArray := by
  apply Array.ext
  · simp [size_madeCells]
  · intro j h1 h2
    simp [madeCells, Value.cells, Nat.mod_one]
theorem wpList_makeB {w : World} {ops : Array Oper} {rest : List Oper} {o : Oper} {a : Act} {Q : Exit → Act → World → Prop}
    (hg : o.guard = none) (l c : Operand) (hop : o.op = Op.makeSlice 32 l c) (n : Nat) (L C : Int) (hl : a.eval l = .int .i64 L) (hc : a.eval c = .int .i64 C) (hL : L = (n : Int)) (hC : C = (n : Int)) (hn : n ≤ 17592186044416)
    (hK : ∀ w', RowB w' w.heap.size (List.replicate n 0) → Below w.heap.size w w' → w'.heap.size = w.heap.size + 1 → wpList Try.prog ops Q rest (a.put o.dst (.slice (some ⟨w.heap.size, 0, none⟩) n n)) w') :
    wpList Try.prog ops Q (o :: rest) a w := by
  obtain ⟨i, hi, hz, hs, hb⟩ := info_parts info_u8
  refine wpList_plain hg fun K hK' => ?_
  have hrun := run_make (P := Try.prog) w 32 5 i (.int .u8 0) under_bytes hi hz .i64 .i64 (n : Int) (n : Int) (by omega) (by omega) (by rw [hb]; omega) (by omega)
  subst hL
  subst hC
  unfold Oper.wp
  simp only [execOp, hop, hl, hc]
  simp [hrun, Result.andThen]
  refine hK' _ _ (hK _ ?_ ?_ ?_)
  · show (w.heap.push _)[w.heap.size]? = _
    rw [Array.getElem?_push_size, hs, Nat.mul_one, made_u8]
  · exact (Below.refl _ _).alloc (Nat.le_refl _) _
  · simp

theorem emod_parts (V : Int) (hV : 0 ≤ V) (k : Nat) : V % 256 ^ (k + 1) = (V / 256 ^ k % 256) * 256 ^ k + V % 256 ^ k := by
  obtain ⟨v, rfl⟩ := Int.eq_ofNat_of_zero_le hV
  have e : ∀ j : Nat, (256 : Int) ^ j = ((256 ^ j : Nat) : Int) := fun j => by rw [Int.natCast_pow]; rfl
  rw [e, e]
  have := Nat.mod_mul (x := v) (a := 256 ^ k) (b := 256)
  rw [← Nat.pow_succ] at this
  have h2 : ((v % 256 ^ (k + 1) : Nat) : Int) = ((v % 256 ^ k + 256 ^ k * (v / 256 ^ k % 256) : Nat) : Int) := by rw [this]
  rw [Int.natCast_add, Int.natCast_mul] at h2
  simp only [Int.natCast_emod, Int.natCast_ediv] at h2
  rw [h2, Int.add_comm, Int.mul_comm]; rfl
theorem bval_digits {r : List Int} {V : Int} (hV : 0 ≤ V) (h : ∀ i, i < r.length → nth r (r.length - 1 - i) = V / 256 ^ i % 256) : ∀ k, k ≤ r.length → bval (r.drop (r.length - k)) = V % 256 ^ k
  | 0, _ => by rw [Nat.sub_zero, List.drop_length]; simp [bval]
  | k + 1, hk => by
    have ih := bval_digits hV h k (by omega)
    rw [show r.length - (k + 1) = r.length - 1 - k from by omega, bval_drop (by omega), show r.length - 1 - k + 1 = r.length - k from by omega, ih, h k (by omega), show r.length - 1 - (r.length - 1 - k) = k from by omega, emod_parts V hV k]
theorem byte_at {l : List Int} (wl : Words l) (i : Nat) (hi : i / 8 < l.length) : nth l (i / 8) / 2 ^ (8 * (i % 8)) % 256 = val l / 256 ^ i % 256 := by
  have e2 := val_split l (i / 8) (by omega)
  rw [List.drop_eq_getElem_cons hi, val, ← nth_eq hi] at e2
  have h1 := val_nonneg (wl.take (i / 8))
  have h2 := val_lt (wl.take (i / 8))
  rw [List.length_take, Nat.min_eq_left (by omega)] at h2
  have hp := pow_pos (i / 8)
  have hS : (0 : Int) < 2 ^ (8 * (i % 8)) := Int.pow_pos (by decide)
  have hB : (18446744073709551616 : Int) = 2 ^ (8 * (i % 8)) * (256 * 2 ^ (56 - 8 * (i % 8))) := by
    rw [show (256 : Int) = 2 ^ 8 from rfl, ← Int.pow_add, ← Int.pow_add, show 8 * (i % 8) + (8 + (56 - 8 * (i % 8))) = 64 from by omega]; rfl
  rw [pow_parts, ← Int.ediv_ediv_of_nonneg (Int.le_of_lt hp), e2, Int.add_mul_ediv_left _ _ (by omega), Int.ediv_eq_zero_of_lt h1 h2, Int.zero_add]
  generalize nth l (i / 8) = x at *
  generalize val (l.drop (i / 8 + 1)) = y at *
  conv => rhs; rw [hB]
  rw [Int.mul_assoc, Int.add_mul_ediv_left _ _ (by omega), Int.mul_assoc, Int.add_mul_emod_self_left]

/-- the lowest k bytes are laid -/
structure TbInv (V : Int) (m k : Nat) (r : List Int) : Prop where
  len : r.length = m
  oct : Octets r
  dig : ∀ i, i < k → nth r (m - 1 - i) = V / 256 ^ i % 256
theorem TbInv.step {V : Int} {m k : Nat} {r : List Int} {x : Int} (h : TbInv V m k r) (hk : k < m) (hx : x = V / 256 ^ k % 256) : TbInv V m (k + 1) (r.set (m - 1 - k) x) := by
  have hl := h.len
  refine ⟨by simp [hl], fun y hy => ?_, fun i hi => ?_⟩
  · rcases List.mem_or_eq_of_mem_set hy with e | e
    · exact h.oct y e
    · subst e; rw [hx]; exact ⟨Int.emod_nonneg _ (by decide), Int.emod_lt_of_pos _ (by decide)⟩
  · rw [nth_set (by omega)]
    by_cases e : i = k
    · subst e; rw [if_pos rfl]; exact hx
    · rw [if_neg (by omega)]; exact h.dig i (by omega)
theorem TbInv.done {V : Int} {m : Nat} {r : List Int} (h : TbInv V m m r) (hV : 0 ≤ V) (h1 : V < 256 ^ m) (h2 : m ≠ 0 → 256 ^ (m - 1) ≤ V) : IsB r V := by
  have hl := h.len
  have hv := bval_digits hV (r := r) (fun i hi => by rw [hl]; exact h.dig i (by omega)) m (by omega)
  rw [hl, Nat.sub_self, List.drop_zero, Int.emod_eq_of_lt hV h1] at hv
  refine ⟨h.oct, fun hne => ?_, hv⟩
  have hm : m ≠ 0 := fun e => hne (List.eq_nil_of_length_eq_zero (by omega))
  have hd := h.dig (m - 1) (by omega)
  rw [show m - 1 - (m - 1) = 0 from by omega] at hd
  rw [hd]
  have hp : (0 : Int) < 256 ^ (m - 1) := Int.pow_pos (by decide)
  have q1 : 1 ≤ V / 256 ^ (m - 1) := by rw [Int.le_ediv_iff_mul_le hp]; have := h2 hm; omega
  have q2 : V / 256 ^ (m - 1) < 256 := by
    rw [Int.ediv_lt_iff_lt_mul hp, Int.mul_comm, ← Int.pow_succ, show (m - 1).succ = m from by omega]; exact h1
  rw [Int.emod_eq_of_lt (by omega) q2]; omega
/-- how many bytes -/
theorem bytes_len {V : Int} (hV : 0 ≤ V) : V < 256 ^ ((bitLen V.toNat + 7) / 8) ∧ ((bitLen V.toNat + 7) / 8 ≠ 0 → 256 ^ ((bitLen V.toNat + 7) / 8 - 1) ≤ V) := by
  obtain ⟨v, rfl⟩ := Int.eq_ofNat_of_zero_le hV
  rw [Int.toNat_natCast]
  have hs := bitLen_spec v
  have e : ∀ j : Nat, (256 : Int) ^ j = ((2 ^ (8 * j) : Nat) : Int) := fun j => by rw [Nat.pow_mul, Int.natCast_pow]; rfl
  rw [e, e]
  constructor
  · have := Nat.pow_le_pow_right (n := 2) (by decide) (show bitLen v ≤ 8 * ((bitLen v + 7) / 8) by omega)
    have h1 := hs.1
    omega
  · intro hm
    have hv0 : v ≠ 0 := by intro e; subst e; simp [bitLen] at hm
    have := Nat.pow_le_pow_right (n := 2) (by decide) (show 8 * ((bitLen v + 7) / 8 - 1) ≤ bitLen v - 1 by omega)
    have h1 := hs.2 hv0
    omega
theorem NewB.of {w w' : World} {l : List Int} {ao : Option Addr} {n c b o : Nat} (hn : n = l.length) (h1 : n ≤ c) (h2 : w.heap.size ≤ b) (h3 : AtB w' ao b o l) (h4 : Free w' b o n) : NewB w w' (.slice ao n c) l := by
  subst hn; exact ⟨ao, b, o, c, rfl, h1, h2, h3, h4⟩
theorem AtB.drew {w : World} {ao : Option Addr} {b o : Nat} {l : List Int} (h : AtB w ao b o l) : AtB w.drew ao b o l := ⟨h.loc, h.cell⟩

end Go.Proofs.Ytgfglfpckjkcdaa

namespace Go.Proofs.Ytgfglfpckjkcdaa
open Go.RowKit Lim

/-- the slice v holds the bytes l, in memory of its own from block B on -/
def MineB (w : World) (B : Nat) (v : Value) (l : List Int) : Prop := w.ownsRow B 5 1 v l.length (l.map (Value.int .u8))

/-- what decimal digits (as bytes) are worth -/
def dvI (l : List Int) : Int := l.foldl (fun x c => 10 * x + (c - 48)) 0
def DigI (l : List Int) : Prop := ∀ c ∈ l, 48 ≤ c ∧ c ≤ 57
theorem dvI_snoc (l : List Int) (c : Int) : dvI (l ++ [c]) = 10 * dvI l + (c - 48) := by simp [dvI, List.foldl_append]
theorem DigI.snoc {l : List Int} {c : Int} (h : DigI l) (h1 : 48 ≤ c) (h2 : c ≤ 57) : DigI (l ++ [c]) := by
  intro x hx
  rcases List.mem_append.1 hx with e | e
  · exact h x e
  · simp at e; subst e; exact ⟨h1, h2⟩
theorem dvI_append (a b : List Int) : dvI (a ++ b) = dvI a * 10 ^ b.length + dvI b := by
  have key : ∀ (b : List Int) (x : Int), b.foldl (fun x c => 10 * x + (c - 48)) x = x * 10 ^ b.length + dvI b := by
    intro b
    induction b with
    | nil => intro x; simp [dvI]
    | cons c b ih =>
      intro x
      have e : dvI (c :: b) = (c - 48) * 10 ^ b.length + dvI b := by rw [dvI, List.foldl_cons, ih]; simp
      rw [List.foldl_cons, ih, e, List.length_cons, Int.pow_succ]; grind
  rw [dvI, List.foldl_append, key]; rfl

theorem own_ge {w : World} {B : Nat} {e : TypeId} {v : Value} {n : Nat} {xs : List Value} (h : w.ownsRow B e 1 v n xs) : ∀ g, v.ownBlock = some g → B ≤ g := by
  intro g hg
  rcases h.2 with ⟨rfl, _⟩ | ⟨g', cap, cur, rfl, hB, _⟩
  · simp [Value.ownBlock] at hg
  · simp [Value.ownBlock] at hg; omega
theorem div_step (x p : Int) (hp : 0 < p) : 10 * (x / (p * 10)) + x / p % 10 = x / p := by
  rw [← Int.ediv_ediv_of_nonneg (Int.le_of_lt hp)]; omega

end Go.Proofs.Ytgfglfpckjkcdaa

namespace Go.Proofs.Ytgfglfpckjkcdaa
open Go.RowKit Lim

theorem isRow_nil {w : World} {a : Option Addr} {len cap : Nat} {zs : List Int} (h : IsRow w a len cap zs) (e : a = none) : cap = 0 := by
  rcases h with ⟨_, _, h, _⟩ | ⟨x, h, _⟩
  · exact h
  · rw [e] at h; simp at h

theorem two_new (w : World) (u1 u2 : Value) : ∀ j u, [u1, u2][j]? = some u → (w.alloc (.cells #[u1, u2] 22)).cell? ((⟨w.heap.size, 0, none⟩ : Addr).add j) = some u := by
  intro j u hj
  match j, hj with
  | 0, hj =>
    rw [show ((⟨w.heap.size, 0, none⟩ : Addr).add 0) = ⟨w.heap.size, 0, none⟩ from rfl, cell_new]
    simpa using hj
  | 1, hj =>
    rw [show ((⟨w.heap.size, 0, none⟩ : Addr).add 1) = ⟨w.heap.size, 1, none⟩ from by simp [Addr.add], cell_new]
    simpa using hj
theorem mine_row {w : World} {B n : Nat} {v : Value} {l : List Int} (h : Mine w B v l) (hl : l.length = n) : w.ownsRow B 22 1 v n (l.map (Value.int .u64)) := by
  unfold Mine at h; rwa [hl] at h
theorem mine_back {w : World} {B n : Nat} {v : Value} {l : List Int} (hl : l.length = n) (h : w.ownsRow B 22 1 v (n + 2) (l.map (Value.int .u64) ++ [.int .u64 0, .int .u64 0])) : Mine w B v (l ++ [0, 0]) := by
  unfold Mine
  rw [List.length_append, hl, List.map_append]; exact h
theorem val_zz (l : List Int) : val (l ++ [0, 0]) = val l := by rw [val_append]; simp [val]
theorem bitLen_mono {a b : Nat} (h : a ≤ b) : bitLen a ≤ bitLen b := by
  unfold bitLen
  by_cases ha : a = 0
  · simp [ha]
  · have hb : b ≠ 0 := by omega
    rw [if_neg ha, if_neg hb]
    have h1 : a.log2 ≤ b.log2 := (Nat.le_log2 hb).2 (Nat.le_trans (Nat.log2_self_le ha) h)
    omega
end Go.Proofs.Ytgfglfpckjkcdaa

namespace Go.Proofs.Ytgfglfpckjkcdaa
open Go.RowKit Lim

/-- what digits of 32 bits are worth -/
def v32 : List Int → Int
  | [] => 0
  | x :: l => x + 4294967296 * v32 l
def Dig32 (l : List Int) : Prop := ∀ x ∈ l, 0 ≤ x ∧ x < 4294967296
theorem Dig32.words {l : List Int} (h : Dig32 l) : Words l := fun x hx => by have := h x hx; omega
theorem Dig32.nth {l : List Int} (h : Dig32 l) (i : Nat) : 0 ≤ nth l i ∧ nth l i < 4294967296 := by
  by_cases hi : i < l.length
  · exact h _ (nth_mem hi)
  · rw [nth_ge (by omega)]; decide
theorem Dig32.take {l : List Int} (h : Dig32 l) (k : Nat) : Dig32 (l.take k) := fun x hx => h x (List.mem_of_mem_take hx)
theorem v32_append (a b : List Int) : v32 (a ++ b) = v32 a + 4294967296 ^ a.length * v32 b := by
  induction a with
  | nil => simp [v32]
  | cons x a ih => simp only [List.cons_append, v32, ih, List.length_cons, Int.pow_succ]; grind
theorem v32_zeros {l : List Int} (h : ∀ i, nth l i = 0) : v32 l = 0 := by
  induction l with
  | nil => rfl
  | cons x l ih =>
    have h0 := h 0; rw [nth_zero] at h0
    rw [v32, h0, ih fun i => by have := h (i + 1); rwa [nth_succ] at this]; rfl
theorem v32_norm (l : List Int) : v32 (norm l) = v32 l := by
  conv => rhs; rw [← List.take_append_drop (nlen l) l]
  rw [v32_append, v32_zeros (l := l.drop (nlen l)) fun i => by rw [nth_drop]; exact nlen_above (by omega)]
  simp [norm]
theorem v32_bound {l : List Int} (h : Dig32 l) : 0 ≤ v32 l ∧ v32 l < 4294967296 ^ l.length := by
  induction l with
  | nil => simp [v32]
  | cons x l ih =>
    have h1 := h x List.mem_cons_self
    have h2 := ih fun y hy => h y (List.mem_cons_of_mem _ hy)
    simp only [v32, List.length_cons, Int.pow_succ]; omega
/-- the halves of limbs -/
def halves : List Int → List Int
  | [] => []
  | x :: l => x % 4294967296 :: x / 4294967296 :: halves l
theorem halves_length (l : List Int) : (halves l).length = 2 * l.length := by
  induction l with
  | nil => rfl
  | cons x l ih => simp [halves, ih]; omega
theorem halves_append (a b : List Int) : halves (a ++ b) = halves a ++ halves b := by
  induction a with
  | nil => rfl
  | cons x a ih => simp [halves, ih]
theorem halves_dig {l : List Int} (h : Words l) : Dig32 (halves l) := by
  induction l with
  | nil => intro x hx; simp [halves] at hx
  | cons y l ih =>
    intro x hx
    have hy := h.head
    simp only [halves, List.mem_cons] at hx
    rcases hx with e | e | e
    · subst e; omega
    · subst e; omega
    · exact ih h.tail x e
theorem halves_val {l : List Int} : v32 (halves l) = val l := by
  induction l with
  | nil => rfl
  | cons x l ih => simp only [halves, v32, ih, val]; omega

theorem Row.cell {w : World} {g : Nat} {l : List Int} (h : Row w g l) {i : Nat} (hi : i < l.length) : w.cell? ⟨g, i, none⟩ = some (.int .u64 (nth l i)) := by
  have := h.at.cell i hi; rwa [Nat.zero_add] at this
theorem Row.set {w : World} {g : Nat} {l : List Int} (h : Row w g l) (i : Nat) (x : Int) : Row (w.setCell ⟨g, i, none⟩ (.int .u64 x)) g (l.set i x) := by
  unfold Row at *
  simp only [World.setCell, Array.getElem?_modify, if_true, h]
  simp
theorem Row.set2 {w : World} {g : Nat} {l : List Int} (h : Row w g l) (i : Nat) (x y : Int) : Row (w.setCells g i [.int .u64 x, .int .u64 y]) g ((l.set i x).set (i + 1) y) := by
  show Row ((w.setCell ⟨g, i, none⟩ (.int .u64 x)).setCell ⟨g, i + 1, none⟩ (.int .u64 y)) g _
  exact (h.set i x).set (i + 1) y
theorem set2_app (a : List Int) (x y u v : Int) (b : List Int) : ((a ++ u :: v :: b).set a.length x).set (a.length + 1) y = a ++ x :: y :: b := by
  rw [List.set_append_right _ _ (Nat.le_refl _), Nat.sub_self, List.set_cons_zero, List.set_append_right _ _ (by omega), Nat.add_sub_cancel_left, List.set_cons_succ, List.set_cons_zero]

/-- the limbs of k digits -/
structure NumInv (d : List Int) (m k : Nat) (lz : List Int) : Prop where
  len : lz.length = m
  words : Words lz
  val : Lim.val lz = v32 (d.take k)
theorem pow32_parts (k : Nat) : (4294967296 : Int) ^ k = 18446744073709551616 ^ (k / 2) * 2 ^ (32 * (k % 2)) := by
  have e : (18446744073709551616 : Int) = 4294967296 ^ 2 := by decide
  have e2 : (2 : Int) ^ (32 * (k % 2)) = 4294967296 ^ (k % 2) := by rw [Int.pow_mul]; rfl
  rw [e, e2, ← Int.pow_mul, ← Int.pow_add]; congr 1; omega
theorem num_step {d lz : List Int} {m k : Nat} (hd : Dig32 d) (hm : (d.length + 1) / 2 = m) (h : NumInv d m k lz) (hk : k < d.length) :
    bits .or .u64 (nth lz (k / 2)) (IntKind.u64.wrap (nth d k * 2 ^ (32 * (k % 2)))) = nth lz (k / 2) + nth d k * 2 ^ (32 * (k % 2)) ∧
    NumInv d m (k + 1) (lz.set (k / 2) (nth lz (k / 2) + nth d k * 2 ^ (32 * (k % 2)))) := by
  have hl := h.len
  have hx := hd.nth k
  have hbd := v32_bound (hd.take k)
  rw [List.length_take, Nat.min_eq_left (by omega)] at hbd
  have hv := h.val
  have hz := h.words.nth (k / 2)
  have hlt := limb_lt h.words (i := k / 2) (by omega) (P := 2 ^ (32 * (k % 2))) (by rw [← pow32_parts, hv]; exact hbd.2)
  have hS : (0 : Int) < 2 ^ (32 * (k % 2)) := Int.pow_pos (by decide)
  have hT : (2 : Int) ^ (32 * (k % 2)) * 4294967296 ≤ 18446744073709551616 := by
    rcases (show k % 2 = 0 ∨ k % 2 = 1 by omega) with e | e <;> rw [e] <;> decide
  have hx1 : 0 ≤ nth d k * 2 ^ (32 * (k % 2)) := Int.mul_nonneg hx.1 (Int.le_of_lt hS)
  have hx2 : nth d k * 2 ^ (32 * (k % 2)) ≤ 4294967295 * 2 ^ (32 * (k % 2)) := Int.mul_le_mul_of_nonneg_right (by omega) (Int.le_of_lt hS)
  constructor
  · rw [IntKind.wrap_u64, Int.emod_eq_of_lt hx1 (by omega)]
    rw [u64_or _ _ hz.1 hz.2 hx1 (by omega), Nat.or_comm, ← u64_or _ _ hx1 (by omega) hz.1 hz.2]
    rw [or_add _ _ (32 * (k % 2)) _ rfl hx.1 (by omega) hz.1 hlt hz.2, Int.add_comm]
  · refine ⟨by simp [hl], h.words.set _ (by omega) (by omega), ?_⟩
    rw [val_set (by omega), hv, take_succ_nth hk, v32_append, List.length_take, Nat.min_eq_left (by omega), pow32_parts k]
    simp only [v32]
    grind

theorem pow32_mono {a b : Nat} (h : a ≤ b) : (4294967296 : Int) ^ a ≤ 4294967296 ^ b := by
  have : (4294967296 : Nat) ^ a ≤ 4294967296 ^ b := Nat.pow_le_pow_right (by decide) h
  have e1 : ((4294967296 ^ a : Nat) : Int) = (4294967296 : Int) ^ a := by rw [Int.natCast_pow]; rfl
  have e2 : ((4294967296 ^ b : Nat) : Int) = (4294967296 : Int) ^ b := by rw [Int.natCast_pow]; rfl
  omega
theorem v32_ge {l : List Int} (h : Dig32 l) (h0 : 0 < l.length) (h1 : nth l (l.length - 1) ≠ 0) : 4294967296 ^ (l.length - 1) ≤ v32 l := by
  have hsp : l = l.take (l.length - 1) ++ [nth l (l.length - 1)] := by
    rw [← take_succ_nth (by omega), show l.length - 1 + 1 = l.length from by omega, List.take_of_length_le (Nat.le_refl _)]
  have hx := h.nth (l.length - 1)
  have hb := v32_bound (h.take (l.length - 1))
  have hv : v32 l = v32 (l.take (l.length - 1)) + 4294967296 ^ (l.length - 1) * nth l (l.length - 1) := by
    conv => lhs; rw [hsp]
    rw [v32_append, List.length_take, Nat.min_eq_left (by omega)]; simp [v32]
  have hp : (0 : Int) < 4294967296 ^ (l.length - 1) := Int.pow_pos (by decide)
  have : (4294967296 : Int) ^ (l.length - 1) * 1 ≤ 4294967296 ^ (l.length - 1) * nth l (l.length - 1) := Int.mul_le_mul_of_nonneg_left (by omega) (Int.le_of_lt hp)
  omega

end Go.Proofs.Ytgfglfpckjkcdaa

namespace Go.Proofs.Ytgfglfpckjkcdaa
open Go.RowKit Lim

set_option maxHeartbeats 2000000 in
set_option maxRecDepth 100000 in
theorem copyBytes_any (ao : Option Addr) (n c b o : Nat) (l : List Int) (w : World) (hl : l.length = n) (hbig : n ≤ 1099511627776) (hnil : ao = none → c = 0) (ha : AtB w ao b o l) :
    Calls Try.prog 12 #[.slice ao n c] w fun e w' => ∃ v, e = .returned v ∧ MineB w' w.heap.size v l ∧ Below w.heap.size w w' := by
  obtain ⟨i0, hi, hz0, hz1, hz2⟩ := info_parts info_u8
  have hown : w.ownsRow w.heap.size 5 1 (.slice none 0 0) 0 [] := World.ownsRow_nil _ _ _ _
  have hge := own_ge hown
  cases ao with
  | none =>
    have e0 : l = [] := by rcases ha.loc with e | e
                           · exact e
                           · simp at e
    subst e0
    have hn0 : n = 0 := hl.symm
    subst hn0
    have hc0 := hnil rfl
    subst hc0
    go_enter Try.func12, Try.ntmps12
    go_wp2_with (at_builtin; refine wpList_append_own_none rfl _ _ 32 rfl w.heap.size 5 i0 1 under_bytes hi _ _ _ rfl hown rfl ?_)
    go_ret
    exact ⟨_, rfl, hown, Below.refl _ _⟩
  | some x =>
    have hsrc : ∀ j u, (l.map (Value.int .u8))[j]? = some u → w.cell? (x.add j) = some u := by
      intro j u hu
      rw [List.getElem?_map] at hu
      have hj : j < l.length := by
        rcases Nat.lt_or_ge j l.length with hj | hj
        · exact hj
        · rw [List.getElem?_eq_none hj] at hu; simp at hu
      rw [List.getElem?_eq_getElem hj] at hu
      simp at hu
      subst hu
      have hx : x = ⟨b, o, none⟩ := by
        rcases ha.loc with e | e
        · subst e; simp at hj
        · simpa using e
      subst hx
      have := ha.cell j hj
      rw [nth_eq hj] at this
      rw [← this]
      by_cases hj0 : j = 0
      · subst hj0; exact congrArg w.cell? (by simp [Addr.add])
      · exact congrArg w.cell? (by simp [Addr.add, hj0])
    go_enter Try.func12, Try.ntmps12
    go_wp2_with (at_builtin; refine wpList_append_own _ rfl _ _ 32 rfl w.heap.size 5 i0 (.int .u8 0) 1 1 under_bytes hi hz0 hz1 hz2 rfl (by decide) _ _ _ rfl hown x n c (l.map (Value.int .u8)) rfl (by simp [hl]) ?c1 ?c2 ?c3 ?c4 ?c5 ?_)
    case c1 => exact hsrc
    case c2 => exact ints_oneCell _ _
    case c3 => unfold maxLen; omega
    case c4 => omega
    case c5 => exact Nat.le_refl _
    intro v' w1 hown' hgrow _
    go_wp2
    go_ret
    refine ⟨v', rfl, ?_, (Below.refl _ _).grown hgrow (Nat.le_refl _) hge⟩
    unfold MineB
    rw [hl]
    simpa using hown'
end Go.Proofs.Ytgfglfpckjkcdaa
