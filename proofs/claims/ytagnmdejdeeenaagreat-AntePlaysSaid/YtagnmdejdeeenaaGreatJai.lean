/- Several texts, joined: Num, Trim, Bits, Mem, Own, Cmp, Len, Div64, DivS, Norm, AddT, Add, TakeT, Sub, DivOne, DivL, Guess, Mul, DivLong, DivM, Scale, Pow, Help, ByteMem, FromB, Digits, Parse, Nm, Reg, RegA, ToB. -/
import Derived.Test.YtagnmdejdeeenaaGreatChecked
import Derived.WalkKit
import Derived.WalkSpells
import Derived.WalkLawsBesides
import Derived.Laws.Externs
import Derived.Laws.MathBits
import Derived.Laws.CopyOwn
import Derived.Deep.QuietTactic
import Derived.BigQuiet
import Derived.Deep.RegionWith
import Derived.ScopeJumps
import Derived.WalkSmall
import Derived.OneCell
import Derived.Deep.RegionHeld3
import Derived.Laws.Tables
/- Lists of 64-bit limbs as numbers: their values, normal lists, and that a normal list is told by its value. -/
namespace Go.Proofs.YtagnmdejdeeenaaGreat
namespace Lim

def nth (l : List Int) (i : Nat) : Int := l.getD i 0

def val : List Int → Int
  | [] => 0
  | x :: l => x + 18446744073709551616 * val l

def Words (l : List Int) : Prop := ∀ x ∈ l, 0 ≤ x ∧ x < 18446744073709551616

/-- how many limbs are left, noughts at the end cut off -/
def nlen : List Int → Nat
  | [] => 0
  | x :: l => if nlen l = 0 then (if x = 0 then 0 else 1) else nlen l + 1

def norm (l : List Int) : List Int := l.take (nlen l)

/-- the normal list of a value -/
def IsN (l : List Int) (n : Int) : Prop := Words l ∧ nlen l = l.length ∧ val l = n

theorem nth_zero (x : Int) (l : List Int) : nth (x :: l) 0 = x := by simp [nth]
theorem nth_succ (x : Int) (l : List Int) (i : Nat) : nth (x :: l) (i + 1) = nth l i := by simp [nth]
theorem nth_ge {l : List Int} {i : Nat} (h : l.length ≤ i) : nth l i = 0 := by
  simp [nth, List.getElem?_eq_none h]
theorem nth_eq {l : List Int} {i : Nat} (h : i < l.length) : nth l i = l[i] := by
  simp [nth, List.getElem?_eq_getElem h]
theorem nth_mem {l : List Int} {i : Nat} (h : i < l.length) : nth l i ∈ l := by
  rw [nth_eq h]; exact List.getElem_mem h
theorem Words.nth {l : List Int} (h : Words l) (i : Nat) : 0 ≤ nth l i ∧ nth l i < 18446744073709551616 := by
  by_cases hi : i < l.length
  · exact h _ (nth_mem hi)
  · rw [nth_ge (by omega)]; decide
theorem Words.nil : Words [] := fun _ h => by simp at h
theorem Words.tail {x : Int} {l : List Int} (h : Words (x :: l)) : Words l := fun y hy => h y (List.mem_cons_of_mem _ hy)
theorem Words.head {x : Int} {l : List Int} (h : Words (x :: l)) : 0 ≤ x ∧ x < 18446744073709551616 := h x (List.mem_cons_self)
theorem Words.take {l : List Int} (h : Words l) (k : Nat) : Words (l.take k) := fun x hx => h x (List.mem_of_mem_take hx)
theorem Words.drop {l : List Int} (h : Words l) (k : Nat) : Words (l.drop k) := fun x hx => h x (List.mem_of_mem_drop hx)
theorem nth_take {l : List Int} {k i : Nat} (h : i < k) : nth (l.take k) i = nth l i := by
  simp [nth, h]
theorem nth_drop (l : List Int) (k i : Nat) : nth (l.drop k) i = nth l (k + i) := by
  simp [nth, List.getElem?_drop]
theorem nth_ext {a b : List Int} (hl : a.length = b.length) (h : ∀ i, i < a.length → nth a i = nth b i) : a = b := by
  apply List.ext_getElem hl
  intro i h1 h2
  have := h i h1
  rwa [nth_eq h1, nth_eq h2] at this
theorem nth_set {l : List Int} {k i : Nat} {x : Int} (hk : k < l.length) : nth (l.set k x) i = if i = k then x else nth l i := by
  simp only [nth, List.getD_eq_getElem?_getD, List.getElem?_set]
  by_cases h : k = i
  · subst h; simp [hk]
  · simp [h, show ¬ i = k from fun e => h e.symm]
theorem Words.set {l : List Int} (h : Words l) (k : Nat) {x : Int} (h0 : 0 ≤ x) (h1 : x < 18446744073709551616) : Words (l.set k x) := by
  intro y hy
  rcases List.mem_or_eq_of_mem_set hy with e | e
  · exact h y e
  · subst e; exact ⟨h0, h1⟩
theorem take_succ_nth {l : List Int} {k : Nat} (h : k < l.length) : l.take (k + 1) = l.take k ++ [nth l k] := by
  rw [nth_eq h, List.take_succ_eq_append_getElem h]

theorem val_nonneg {l : List Int} (h : Words l) : 0 ≤ val l := by
  induction l with
  | nil => simp [val]
  | cons x l ih => have := h.head; have := ih h.tail; simp only [val]; omega
theorem val_append (a b : List Int) : val (a ++ b) = val a + 18446744073709551616 ^ a.length * val b := by
  induction a with
  | nil => simp [val]
  | cons x a ih => simp only [List.cons_append, val, ih, List.length_cons, Int.pow_succ]; grind
theorem val_lt {l : List Int} (h : Words l) : val l < 18446744073709551616 ^ l.length := by
  induction l with
  | nil => simp [val]
  | cons x l ih =>
    have := h.head; have := ih h.tail
    simp only [val, List.length_cons, Int.pow_succ]; omega
theorem val_single (x : Int) : val [x] = x := by simp [val]
theorem val_split (l : List Int) (k : Nat) (h : k ≤ l.length) : val l = val (l.take k) + 18446744073709551616 ^ k * val (l.drop k) := by
  conv => lhs; rw [← List.take_append_drop k l]
  rw [val_append, List.length_take, Nat.min_eq_left h]

theorem nlen_le (l : List Int) : nlen l ≤ l.length := by
  induction l with
  | nil => simp [nlen]
  | cons x l ih => simp only [nlen, List.length_cons]; split <;> (try split) <;> omega
theorem nlen_zero_iff {l : List Int} : nlen l = 0 ↔ ∀ i, nth l i = 0 := by
  induction l with
  | nil => simp [nlen, nth]
  | cons x l ih =>
    simp only [nlen]
    constructor
    · intro h i
      by_cases e : nlen l = 0
      · by_cases x0 : x = 0
        · cases i with
          | zero => rw [nth_zero, x0]
          | succ i => rw [nth_succ]; exact ih.1 e i
        · simp [e, x0] at h
      · simp [e] at h
    · intro h
      have h0 : x = 0 := by have := h 0; rwa [nth_zero] at this
      have hl : nlen l = 0 := ih.2 fun i => by have := h (i + 1); rwa [nth_succ] at this
      simp [hl, h0]
/-- from where on all are noughts, with a limb that isn't one right below -/
theorem nlen_of {l : List Int} {k : Nat} (hk : k ≤ l.length) (h0 : ∀ i, k ≤ i → nth l i = 0) (h1 : k ≠ 0 → nth l (k - 1) ≠ 0) : nlen l = k := by
  induction l generalizing k with
  | nil => simp [nlen] at *; omega
  | cons x l ih =>
    cases k with
    | zero =>
      have : nlen (x :: l) = 0 := nlen_zero_iff.2 fun i => h0 i (Nat.zero_le _)
      exact this
    | succ k =>
      have e : nlen l = k := ih (by simpa using hk) (fun i hi => by have := h0 (i + 1) (by omega); rwa [nth_succ] at this) (fun hk0 => by
        have := h1 (by omega); rw [show k + 1 - 1 = (k - 1) + 1 from by omega, nth_succ] at this; exact this)
      simp only [nlen, e]
      by_cases hk0 : k = 0
      · subst hk0
        have := h1 (by omega); rw [show (0 + 1 - 1) = 0 from rfl, nth_zero] at this
        simp [this]
      · simp [hk0]
theorem nlen_above {l : List Int} {i : Nat} (h : nlen l ≤ i) : nth l i = 0 := by
  induction l generalizing i with
  | nil => simp [nth]
  | cons x l ih =>
    simp only [nlen] at h
    by_cases e : nlen l = 0
    · simp only [e, if_true] at h
      cases i with
      | zero => by_cases x0 : x = 0
                · rw [nth_zero, x0]
                · simp [x0] at h
      | succ i => rw [nth_succ]; exact nlen_zero_iff.1 e i
    · simp only [e, if_false] at h
      cases i with
      | zero => omega
      | succ i => rw [nth_succ]; exact ih (by omega)
theorem nlen_last {l : List Int} (h : nlen l ≠ 0) : nth l (nlen l - 1) ≠ 0 := by
  induction l with
  | nil => simp [nlen] at h
  | cons x l ih =>
    simp only [nlen] at h ⊢
    by_cases e : nlen l = 0
    · simp only [e, if_true] at h ⊢
      by_cases x0 : x = 0
      · simp [x0] at h
      · simp [x0, nth_zero]
    · simp only [e, if_false] at h ⊢
      have := ih e
      rw [show nlen l + 1 - 1 = (nlen l - 1) + 1 from by omega, nth_succ]; exact this
theorem norm_length (l : List Int) : (norm l).length = nlen l := by
  rw [norm, List.length_take, Nat.min_eq_left (nlen_le l)]
theorem norm_nth (l : List Int) (i : Nat) : nth (norm l) i = nth l i := by
  by_cases h : i < nlen l
  · exact nth_take h
  · rw [nth_ge (by rw [norm_length]; omega), nlen_above (by omega)]
theorem Words.norm {l : List Int} (h : Words l) : Words (norm l) := h.take _
theorem val_zeros {l : List Int} (h : ∀ i, nth l i = 0) : val l = 0 := by
  induction l with
  | nil => rfl
  | cons x l ih =>
    have h0 := h 0; rw [nth_zero] at h0
    rw [val, h0, ih fun i => by have := h (i + 1); rwa [nth_succ] at this]; rfl
theorem val_norm (l : List Int) : val (norm l) = val l := by
  rw [val_split l (nlen l) (nlen_le l), val_zeros (l := l.drop (nlen l)) fun i => by rw [nth_drop]; exact nlen_above (by omega)]
  simp [norm]
theorem val_pos {l : List Int} (h : Words l) (hn : nlen l ≠ 0) : 0 < val l := by
  induction l with
  | nil => simp [nlen] at hn
  | cons x l ih =>
    have hx := h.head; have hv := val_nonneg h.tail
    simp only [val]
    by_cases e : nlen l = 0
    · simp only [nlen, e, if_true] at hn
      have : x ≠ 0 := by intro x0; simp [x0] at hn
      omega
    · have := ih h.tail e; omega
theorem nlen_eq_zero_iff_val {l : List Int} (h : Words l) : nlen l = 0 ↔ val l = 0 := by
  constructor
  · intro e; exact val_zeros (nlen_zero_iff.1 e)
  · intro e
    by_cases n : nlen l = 0
    · exact n
    · have := val_pos h n; omega
theorem val_lt_nlen {l : List Int} (h : Words l) : val l < 18446744073709551616 ^ nlen l := by
  have := val_lt h.norm
  rwa [val_norm, norm_length] at this

theorem pow_mono {a b : Nat} (h : a ≤ b) : (18446744073709551616 : Int) ^ a ≤ 18446744073709551616 ^ b := by
  obtain ⟨d, rfl⟩ := Nat.exists_eq_add_of_le h
  rw [Int.pow_add]
  have hp : (0 : Int) < 18446744073709551616 ^ a := Int.pow_pos (by decide)
  have hq : (0 : Int) < 18446744073709551616 ^ d := Int.pow_pos (by decide)
  have : (18446744073709551616 : Int) ^ a * 1 ≤ 18446744073709551616 ^ a * 18446744073709551616 ^ d := Int.mul_le_mul_of_nonneg_left (by omega) (Int.le_of_lt hp)
  omega
end Lim
end Go.Proofs.YtagnmdejdeeenaaGreat

namespace Go.Proofs.YtagnmdejdeeenaaGreat
open Go.RowKit Lim

/-- the limbs of l lie at ao -/
def Cells (w : World) (ao : Option Addr) (l : List Int) : Prop :=
  l = [] ∨ ∃ b o, ao = some ⟨b, o, none⟩ ∧ ∀ i, i < l.length → w.cell? ⟨b, o + i, none⟩ = some (.int .u64 (nth l i))

set_option maxHeartbeats 400000 in
theorem trim_any (ao : Option Addr) (n c : Nat) (l : List Int) (w : World) (hl : l.length = n) (hc : n ≤ c) (hb : n ≤ 4398046511104) (hcell : Cells w ao l) :
    Calls Tryz.prog 174 #[.slice ao n c] w fun e w' => e = .returned (.slice ao (nlen l) (nlen l)) ∧ w' = w := by
  go_enter Tryz.func174, Tryz.ntmps174
  go_wp2
  go_loop [3] (fun t => ∃ k : Nat, k ≤ n ∧ t = .int .i64 k ∧ Hid (∀ i, k ≤ i → nth l i = 0)) (fun t => (intOf t).toNat)
  case atStart => exact ⟨n, Nat.le_refl _, rfl, fun i hi => nth_ge (by omega)⟩
  case round =>
    obtain ⟨k, hk, rfl, hz⟩ := hrel
    by_cases hk0 : 0 < k
    · rcases hcell with e | ⟨b, o, rfl, hcell⟩
      · subst e; simp at hl; omega
      · have hcx := hcell (k - 1) (by omega)
        have hcy : w.cell? ⟨b, o + k - 1, none⟩ = some (.int .u64 (nth l (k - 1))) := by rw [← hcx]; congr 2; omega
        clear hcell
        go_wp2
        · go_round
          case rel => exact ⟨k - 1, by omega, by go_num, fun i hi => by
            by_cases e : i = k - 1
            · subst e; exact beq_iff_eq.1 (by assumption)
            · exact hz.out i (by omega)⟩
          case measure => simp [intOf]; omega
        · go_ret
          rw [nlen_of (k := k) (by omega) hz.out (fun _ => beq_eq_false_iff_ne.1 (by assumption))]
          exact ⟨rfl, rfl⟩
    · go_wp2
      go_ret
      rw [nlen_of (k := k) (by omega) hz.out (fun _ => by omega)]
      exact ⟨rfl, rfl⟩
end Go.Proofs.YtagnmdejdeeenaaGreat

namespace Go.Proofs.YtagnmdejdeeenaaGreat
open Go.RowKit Lim

end Go.Proofs.YtagnmdejdeeenaaGreat

namespace Go.Proofs.YtagnmdejdeeenaaGreat
open Go.RowKit Lim

/-- the limbs of l lie from place o of block b on (an empty list lies anywhere) -/
structure At (w : World) (ao : Option Addr) (b o : Nat) (l : List Int) : Prop where
  loc : l = [] ∨ ao = some ⟨b, o, none⟩
  cell : ∀ i, i < l.length → w.cell? ⟨b, o + i, none⟩ = some (.int .u64 (nth l i))

theorem At.cells {w : World} {ao : Option Addr} {b o : Nat} {l : List Int} (h : At w ao b o l) : Cells w ao l := by
  rcases h.loc with e | e
  · exact .inl e
  · exact .inr ⟨b, o, e, h.cell⟩

/-- the n cells from o on may be written -/
def Free (w : World) (b o n : Nat) : Prop := ∀ i, i < n → w.frozen? ⟨b, o + i, none⟩ = false

/-- only the n cells from o on of block b are written -/
structure Wr (b o n : Nat) (w w' : World) : Prop where
  os : w'.os = w.os
  tape : w'.tape = w.tape
  output : w'.output = w.output
  size : w'.heap.size = w.heap.size
  block : ∀ k, k ≠ b → w'.heap[k]? = w.heap[k]?
  cell : ∀ i, (i < o ∨ o + n ≤ i) → w'.cell? ⟨b, i, none⟩ = w.cell? ⟨b, i, none⟩
  frozen : ∀ i, w'.frozen? ⟨b, i, none⟩ = w.frozen? ⟨b, i, none⟩

theorem Wr.refl (b o n : Nat) (w : World) : Wr b o n w w := ⟨rfl, rfl, rfl, rfl, fun _ _ => rfl, fun _ _ => rfl, fun _ => rfl⟩
theorem Wr.trans {b o n : Nat} {w w1 w2 : World} (h : Wr b o n w w1) (k : Wr b o n w1 w2) : Wr b o n w w2 :=
  ⟨k.os.trans h.os, k.tape.trans h.tape, k.output.trans h.output, k.size.trans h.size, fun i hi => (k.block i hi).trans (h.block i hi), fun i hi => (k.cell i hi).trans (h.cell i hi), fun i => (k.frozen i).trans (h.frozen i)⟩
theorem Wr.setCell {b o n : Nat} {w w1 : World} (h : Wr b o n w w1) {i : Nat} (h1 : o ≤ i) (h2 : i < o + n) (v : Value) : Wr b o n w (w1.setCell ⟨b, i, none⟩ v) :=
  h.trans ⟨rfl, rfl, rfl, by simp [World.setCell], fun k hk => Below.heap_setCell _ _ _ _ hk, fun j hj => by
      simp only [World.cell?, World.setCell, Array.getElem?_modify, if_true]
      cases hh : w1.heap[b]? with
      | none => simp
      | some ob =>
        cases ob <;> simp
        rw [Array.getElem?_setIfInBounds, if_neg (by omega)], fun j => by
      simp only [World.frozen?, World.setCell, Array.getElem?_modify, if_true]
      cases hh : w1.heap[b]? with
      | none => simp
      | some ob => cases ob <;> simp⟩
theorem Wr.other {b o n : Nat} {w w' : World} (h : Wr b o n w w') {k i : Nat} (hk : k ≠ b) : w'.cell? ⟨k, i, none⟩ = w.cell? ⟨k, i, none⟩ := World.cell?_of_block (w := w) (h.block k hk)
theorem Wr.below {b o n B : Nat} {w w' : World} (h : Wr b o n w w') (hB : B ≤ b) : Below B w w' :=
  ⟨h.os, h.tape, h.output, by rw [h.size]; exact Nat.le_refl _, fun k hk => h.block k (by omega)⟩
theorem Wr.free {b o n : Nat} {w w' : World} (h : Wr b o n w w') {b' o' n' : Nat} (k : Free w b' o' n') : Free w' b' o' n' := by
  intro i hi
  by_cases e : b' = b
  · subst e; rw [h.frozen]; exact k i hi
  · rw [World.frozen?_of_block (w := w) (h.block b' e)]; exact k i hi
theorem At.wr {b o n : Nat} {w w' : World} (h : Wr b o n w w') {ao : Option Addr} {b' o' : Nat} {l : List Int} (k : At w ao b' o' l) (hb : l = [] ∨ b' ≠ b) : At w' ao b' o' l :=
  ⟨k.loc, fun i hi => by
    rcases hb with e | e
    · subst e; simp at hi
    · rw [h.other e]; exact k.cell i hi⟩
theorem At.below {B : Nat} {w w' : World} (h : Below B w w') {ao : Option Addr} {b o : Nat} {l : List Int} (k : At w ao b o l) (hb : l = [] ∨ b < B) : At w' ao b o l :=
  ⟨k.loc, fun i hi => by
    rcases hb with e | e
    · subst e; simp at hi
    · rw [h.cell (p := ⟨b, o + i, none⟩) e]; exact k.cell i hi⟩
theorem cell_lt {w : World} {b o : Nat} {v : Value} (h : w.cell? ⟨b, o, none⟩ = some v) : b < w.heap.size := by
  simp only [World.cell?] at h
  by_cases hb : b < w.heap.size
  · exact hb
  · rw [Array.getElem?_eq_none (by omega)] at h; simp at h
theorem At.lt {w : World} {ao : Option Addr} {b o : Nat} {l : List Int} (k : At w ao b o l) : l = [] ∨ b < w.heap.size := by
  cases l with
  | nil => exact .inl rfl
  | cons x l => exact .inr (cell_lt (k.cell 0 (by simp)))
theorem At.keep {w w' : World} (h : Below w.heap.size w w') {ao : Option Addr} {b o : Nat} {l : List Int} (k : At w ao b o l) : At w' ao b o l := k.below h k.lt
/-- one limb is stored -/
theorem At.setCell {w : World} {ao : Option Addr} {b o : Nat} {l : List Int} (k : At w ao b o l) {i : Nat} (hi : i < l.length) (x : Int) : At (w.setCell ⟨b, o + i, none⟩ (.int .u64 x)) ao b o (l.set i x) :=
  ⟨by rcases k.loc with e | e
      · subst e; simp at hi
      · exact .inr e, fun j hj => by
    rw [List.length_set] at hj
    have hc := k.cell j hj
    rw [nth_set hi]
    have hci := k.cell i hi
    simp only [World.cell?, World.setCell, Array.getElem?_modify, if_true] at hc hci ⊢
    cases hh : w.heap[b]? with
    | none => rw [hh] at hc; simp at hc
    | some ob =>
      rw [hh] at hc hci
      cases ob with
      | cells c e f =>
        simp at hc hci ⊢
        rw [Array.getElem?_setIfInBounds]
        by_cases e : j = i
        · subst e
          obtain ⟨hlt, _⟩ := Array.getElem?_eq_some_iff.1 hci
          simp [hlt]
        · rw [if_neg (by omega), if_neg e]; exact hc
      | _ => simp at hc⟩
theorem At.drew {w : World} {ao : Option Addr} {b o : Nat} {l : List Int} (h : At w ao b o l) : At w.drew ao b o l := ⟨h.loc, h.cell⟩
theorem Wr.drew {b o n : Nat} {w w' : World} (h : Wr b o n w w') : Wr b o n w w'.drew := ⟨h.os, h.tape, h.output, h.size, h.block, h.cell, h.frozen⟩
end Go.Proofs.YtagnmdejdeeenaaGreat

namespace Go.Proofs.YtagnmdejdeeenaaGreat
open Go.RowKit Lim

theorem info_u64 : (Tryz.prog.info? 22).map (fun i => (i.zero, i.size, i.bytes)) = some (some (.int .u64 0), 1, 8) := by kernel_rfl
theorem under_nat : Tryz.prog.underlying 159 = some (.slice 22) := by kernel_rfl

/-- block g holds just the limbs l -/
def Row (w : World) (g : Nat) (l : List Int) : Prop := w.heap[g]? = some (.cells (l.map (Value.int .u64)).toArray 22 (0, 0))

theorem Row.at {w : World} {g : Nat} {l : List Int} (h : Row w g l) : At w (some ⟨g, 0, none⟩) g 0 l :=
  ⟨.inr rfl, fun i hi => by
    unfold Row at h
    simp only [World.cell?, h]
    simp [nth_eq hi, hi]⟩
theorem Row.free {w : World} {g : Nat} {l : List Int} (h : Row w g l) (o n : Nat) : Free w g o n := by
  intro i _
  unfold Row at h
  simp [World.frozen?, h]
/-- a list of limbs in memory that was not there before -/
structure NewV (w w' : World) (v : Value) (l : List Int) : Prop where
  is : ∃ ao b o c, v = .slice ao l.length c ∧ l.length ≤ c ∧ w.heap.size ≤ b ∧ At w' ao b o l ∧ Free w' b o l.length

theorem made_u64 (n : Nat) : madeCells (Value.int .u64 0).cells n = ((List.replicate n 0).map (Value.int .u64)).toArray := by
  apply Array.ext
  · simp [size_madeCells]
  · intro j h1 h2
    simp [madeCells, Value.cells, Nat.mod_one]

theorem wpList_makeN {w : World} {ops : Array Oper} {rest : List Oper} {o : Oper} {a : Act} {Q : Exit → Act → World → Prop}
    (hg : o.guard = none) (l c : Operand) (hop : o.op = Op.makeSlice 159 l c) (n : Nat) (L C : Int) (hl : a.eval l = .int .i64 L) (hc : a.eval c = .int .i64 C) (hL : L = (n : Int)) (hC : C = (n : Int)) (hn : n ≤ 17592186044416)
    (hK : ∀ w', Row w' w.heap.size (List.replicate n 0) → Below w.heap.size w w' → w'.heap.size = w.heap.size + 1 → wpList Tryz.prog ops Q rest (a.put o.dst (.slice (some ⟨w.heap.size, 0, none⟩) n n)) w') :
    wpList Tryz.prog ops Q (o :: rest) a w := by
  obtain ⟨i, hi, hz, hs, hb⟩ := info_parts info_u64
  refine wpList_plain hg fun K hK' => ?_
  have hrun := run_make (P := Tryz.prog) w 159 22 i (.int .u64 0) under_nat hi hz .i64 .i64 (n : Int) (n : Int) (by omega) (by omega) (by rw [hb]; omega) (by omega)
  subst hL
  subst hC
  unfold Oper.wp
  simp only [execOp, hop, hl, hc]
  simp [hrun, Result.andThen]
  refine hK' _ _ (hK _ ?_ ?_ ?_)
  · show (w.heap.push _)[w.heap.size]? = _
    rw [Array.getElem?_push_size, hs, Nat.mul_one, made_u64]
  · exact (Below.refl _ _).alloc (Nat.le_refl _) _
  · simp

end Go.Proofs.YtagnmdejdeeenaaGreat

namespace Go.Proofs.YtagnmdejdeeenaaGreat
open Go.RowKit Lim

theorem ret1 {k : IntKind} {a b : Int} (h : a = b) : Ending.returned (.int k a) = .returned (.int k b) := by rw [h]

end Go.Proofs.YtagnmdejdeeenaaGreat

namespace Go.Proofs.YtagnmdejdeeenaaGreat
open Go.RowKit Lim

theorem w64 (z : Int) (h0 : 0 ≤ z) (h1 : z ≤ 1000) : wrap64 z = z := by
  unfold wrap64; omega
theorem len_arm (k : Int) (i : Nat) (h0 : 0 ≤ k) (hk : k ≤ 56) (h : i < 256) : wrap64 (k + wrap64 (bitLen i : Int)) = k + bitLen i := by
  have := bitLen_le8 i h
  rw [w64 (bitLen i) (by omega) (by omega), w64 _ (by omega) (by omega)]
theorem len_up (x : Int) (b i : Nat) (h : x.toNat / 2 ^ b = i) (hi : i ≠ 0) : ((bitLen x.toNat : Nat) : Int) = b + bitLen i := by
  rw [bitLen_shift x.toNat b (by rw [h]; exact hi), h]; omega

set_option maxHeartbeats 2000000 in
set_option maxRecDepth 100000 in
theorem len64 (x : Int) (w : World) (h0 : 0 ≤ x) (h1 : x < 18446744073709551616) :
    Calls Tryz.prog 178 #[.int .u64 x] w fun e w' => e = .returned (.int .i64 (bitLen x.toNat)) ∧ w' = w := by
  by_cases c0 : 4294967296 ≤ x
  · by_cases c1 : 65536 ≤ x / 4294967296
    · by_cases c2 : 256 ≤ x / 4294967296 / 65536
      · go_enter Tryz.func178, Tryz.ntmps178
        go_wp2
        go_ret
        refine ⟨ret1 ?_, rfl⟩
        rw [len8tab_get, len_arm 56 (x / 4294967296 / 65536 / 256).toNat (by decide) (by decide) (by omega), len_up x 56 (x / 4294967296 / 65536 / 256).toNat (by rw [show (2 : Nat) ^ 56 = 72057594037927936 from rfl]; omega) (by omega)]
        rfl
      · go_enter Tryz.func178, Tryz.ntmps178
        go_wp2
        go_ret
        refine ⟨ret1 ?_, rfl⟩
        rw [len8tab_get, len_arm 48 (x / 4294967296 / 65536).toNat (by decide) (by decide) (by omega), len_up x 48 (x / 4294967296 / 65536).toNat (by rw [show (2 : Nat) ^ 48 = 281474976710656 from rfl]; omega) (by omega)]
        rfl
    · by_cases c2 : 256 ≤ x / 4294967296
      · go_enter Tryz.func178, Tryz.ntmps178
        go_wp2
        go_ret
        refine ⟨ret1 ?_, rfl⟩
        rw [len8tab_get, len_arm 40 (x / 4294967296 / 256).toNat (by decide) (by decide) (by omega), len_up x 40 (x / 4294967296 / 256).toNat (by rw [show (2 : Nat) ^ 40 = 1099511627776 from rfl]; omega) (by omega)]
        rfl
      · go_enter Tryz.func178, Tryz.ntmps178
        go_wp2
        go_ret
        refine ⟨ret1 ?_, rfl⟩
        rw [len8tab_get, len_arm 32 (x / 4294967296).toNat (by decide) (by decide) (by omega), len_up x 32 (x / 4294967296).toNat (by rw [show (2 : Nat) ^ 32 = 4294967296 from rfl]; omega) (by omega)]
        rfl
  · by_cases c1 : 65536 ≤ x
    · by_cases c2 : 256 ≤ x / 65536
      · go_enter Tryz.func178, Tryz.ntmps178
        go_wp2
        go_ret
        refine ⟨ret1 ?_, rfl⟩
        rw [len8tab_get, len_arm 24 (x / 65536 / 256).toNat (by decide) (by decide) (by omega), len_up x 24 (x / 65536 / 256).toNat (by rw [show (2 : Nat) ^ 24 = 16777216 from rfl]; omega) (by omega)]
        rfl
      · go_enter Tryz.func178, Tryz.ntmps178
        go_wp2
        go_ret
        refine ⟨ret1 ?_, rfl⟩
        rw [len8tab_get, len_arm 16 (x / 65536).toNat (by decide) (by decide) (by omega), len_up x 16 (x / 65536).toNat (by rw [show (2 : Nat) ^ 16 = 65536 from rfl]; omega) (by omega)]
        rfl
    · by_cases c2 : 256 ≤ x
      · go_enter Tryz.func178, Tryz.ntmps178
        go_wp2
        go_ret
        refine ⟨ret1 ?_, rfl⟩
        rw [len8tab_get, len_arm 8 (x / 256).toNat (by decide) (by decide) (by omega), len_up x 8 (x / 256).toNat (by rw [show (2 : Nat) ^ 8 = 256 from rfl]; omega) (by omega)]
        rfl
      · go_enter Tryz.func178, Tryz.ntmps178
        go_wp2
        go_ret
        refine ⟨ret1 ?_, rfl⟩
        rw [len8tab_get]
        have := bitLen_le8 x.toNat (by omega)
        rw [w64 (bitLen x.toNat : Int) (by omega) (by omega), w64 _ (by omega) (by omega)]

theorem bitLen_le64 {n : Nat} (h : n < 18446744073709551616) : bitLen n ≤ 64 := by
  unfold bitLen
  split
  · omega
  · have := (Nat.log2_lt (k := 64) ‹_›).2 (by omega); omega
theorem clz64 (x : Int) (w : World) (h0 : 0 ≤ x) (h1 : x < 18446744073709551616) :
    Calls Tryz.prog 175 #[.int .u64 x] w fun e w' => e = .returned (.int .i64 (64 - bitLen x.toNat)) ∧ w' = w := by
  have hl := bitLen_le64 (n := x.toNat) (by omega)
  have t1 := len64 x w h0 h1
  generalize bitLen x.toNat = L at *
  go_enter Tryz.func175, Tryz.ntmps175
  go_wp2_with fail
  refine t1.mono ?_
  rintro e w1 ⟨rfl, rfl⟩
  go_wp2
  go_ret
  exact ⟨rfl, rfl⟩
end Go.Proofs.YtagnmdejdeeenaaGreat

namespace Go.Proofs.YtagnmdejdeeenaaGreat
open Go.RowKit Lim

theorem or_add (a b : Int) (s : Nat) (k : Int) (ha : a = k * 2 ^ s) (hk : 0 ≤ k) (ha1 : a < 18446744073709551616) (hb0 : 0 ≤ b) (hb1 : b < 2 ^ s) (hb2 : b < 18446744073709551616) : bits .or .u64 a b = a + b := by
  have h2 : (0 : Int) < 2 ^ s := Int.pow_pos (by decide)
  have ha0 : 0 ≤ a := by rw [ha]; exact Int.mul_nonneg hk (Int.le_of_lt h2)
  rw [u64_or a b ha0 ha1 hb0 hb2]
  obtain ⟨k, rfl⟩ := Int.eq_ofNat_of_zero_le hk
  obtain ⟨b, rfl⟩ := Int.eq_ofNat_of_zero_le hb0
  have e : a.toNat = 2 ^ s * k := by
    have : a = ((2 ^ s * k : Nat) : Int) := by rw [ha, Int.natCast_mul, Int.natCast_pow, Int.mul_comm]; rfl
    rw [this, Int.toNat_natCast]
  have hb' : b < 2 ^ s := by
    have : ((2 ^ s : Nat) : Int) = 2 ^ s := by rw [Int.natCast_pow]; rfl
    omega
  rw [e, Int.toNat_natCast, ← Nat.two_pow_add_eq_or_of_lt hb', ← e]
  omega
end Go.Proofs.YtagnmdejdeeenaaGreat

namespace Go.Proofs.YtagnmdejdeeenaaGreat
open Go.RowKit Lim

end Go.Proofs.YtagnmdejdeeenaaGreat

namespace Go.Proofs.YtagnmdejdeeenaaGreat
open Go.RowKit Lim

theorem NewV.of {w w' : World} {l : List Int} {ao : Option Addr} {n c b o : Nat} (hn : n = l.length) (h1 : n ≤ c) (h2 : w.heap.size ≤ b) (h3 : At w' ao b o l) (h4 : Free w' b o n) : NewV w w' (.slice ao n c) l := by
  subst hn; exact ⟨ao, b, o, c, rfl, h1, h2, h3, h4⟩

end Go.Proofs.YtagnmdejdeeenaaGreat

namespace Go.Proofs.YtagnmdejdeeenaaGreat
open Go.RowKit Lim

end Go.Proofs.YtagnmdejdeeenaaGreat

namespace Go.Proofs.YtagnmdejdeeenaaGreat
open Go.RowKit Lim

theorem pow_pos (k : Nat) : (0 : Int) < 18446744073709551616 ^ k := Int.pow_pos (by decide)
theorem words_zero (n : Nat) : Words (List.replicate n 0) := fun x hx => by rw [List.eq_of_mem_replicate hx]; decide

end Go.Proofs.YtagnmdejdeeenaaGreat

namespace Go.Proofs.YtagnmdejdeeenaaGreat
open Go.RowKit Lim

end Go.Proofs.YtagnmdejdeeenaaGreat

namespace Go.Proofs.YtagnmdejdeeenaaGreat
open Go.RowKit Lim

end Go.Proofs.YtagnmdejdeeenaaGreat

namespace Go.Proofs.YtagnmdejdeeenaaGreat
open Go.RowKit Lim

theorem below_alloc (w : World) (o : Obj) : Below w.heap.size w (w.alloc o) := (Below.refl _ _).alloc (Nat.le_refl _) _

theorem isN_nil : IsN [] 0 := ⟨Words.nil, rfl, rfl⟩
end Go.Proofs.YtagnmdejdeeenaaGreat

namespace Go.Proofs.YtagnmdejdeeenaaGreat
open Go.RowKit Lim

end Go.Proofs.YtagnmdejdeeenaaGreat

namespace Go.Proofs.YtagnmdejdeeenaaGreat
open Go.RowKit Lim

end Go.Proofs.YtagnmdejdeeenaaGreat

namespace Go.Proofs.YtagnmdejdeeenaaGreat
open Go.RowKit Lim

end Go.Proofs.YtagnmdejdeeenaaGreat

namespace Go.Proofs.YtagnmdejdeeenaaGreat
open Go.RowKit Lim

end Go.Proofs.YtagnmdejdeeenaaGreat

namespace Go.Proofs.YtagnmdejdeeenaaGreat
open Go.RowKit Lim

end Go.Proofs.YtagnmdejdeeenaaGreat

namespace Go.Proofs.YtagnmdejdeeenaaGreat
open Go.RowKit Lim

end Go.Proofs.YtagnmdejdeeenaaGreat

namespace Go.Proofs.YtagnmdejdeeenaaGreat
open Go.RowKit Lim

end Go.Proofs.YtagnmdejdeeenaaGreat

namespace Go.Proofs.YtagnmdejdeeenaaGreat
open Go.RowKit Lim

end Go.Proofs.YtagnmdejdeeenaaGreat

namespace Go.Proofs.YtagnmdejdeeenaaGreat
open Go.RowKit Lim

structure AtB (w : World) (ao : Option Addr) (b o : Nat) (l : List Int) : Prop where
  loc : l = [] ∨ ao = some ⟨b, o, none⟩
  cell : ∀ i, i < l.length → w.cell? ⟨b, o + i, none⟩ = some (.int .u8 (nth l i))
theorem AtB.lt {w : World} {ao : Option Addr} {b o : Nat} {l : List Int} (k : AtB w ao b o l) : l = [] ∨ b < w.heap.size := by
  cases l with
  | nil => exact .inl rfl
  | cons x l => exact .inr (cell_lt (k.cell 0 (by simp)))
theorem AtB.keep {w w' : World} (h : Below w.heap.size w w') {ao : Option Addr} {b o : Nat} {l : List Int} (k : AtB w ao b o l) : AtB w' ao b o l :=
  ⟨k.loc, fun i hi => by
    rcases k.lt with e | e
    · subst e; simp at hi
    · rw [h.cell (p := ⟨b, o + i, none⟩) e]; exact k.cell i hi⟩
theorem AtB.wr {b o n : Nat} {w w' : World} (h : Wr b o n w w') {ao : Option Addr} {b' o' : Nat} {l : List Int} (k : AtB w ao b' o' l) (hb : l = [] ∨ b' ≠ b) : AtB w' ao b' o' l :=
  ⟨k.loc, fun i hi => by
    rcases hb with e | e
    · subst e; simp at hi
    · rw [h.other e]; exact k.cell i hi⟩
theorem AtB.setCell {w : World} {ao : Option Addr} {b o : Nat} {l : List Int} (k : AtB w ao b o l) {i : Nat} (hi : i < l.length) (x : Int) : AtB (w.setCell ⟨b, o + i, none⟩ (.int .u8 x)) ao b o (l.set i x) :=
  ⟨by rcases k.loc with e | e
      · subst e; simp at hi
      · exact .inr e, fun j hj => by
    rw [List.length_set] at hj
    have hc := k.cell j hj
    rw [nth_set hi]
    have hci := k.cell i hi
    simp only [World.cell?, World.setCell, Array.getElem?_modify, if_true] at hc hci ⊢
    cases hh : w.heap[b]? with
    | none => rw [hh] at hc; simp at hc
    | some ob =>
      rw [hh] at hc hci
      cases ob with
      | cells c e f =>
        simp at hc hci ⊢
        rw [Array.getElem?_setIfInBounds]
        by_cases e : j = i
        · subst e
          obtain ⟨hlt, _⟩ := Array.getElem?_eq_some_iff.1 hci
          simp [hlt]
        · rw [if_neg (by omega), if_neg e]; exact hc
      | _ => simp at hc⟩
/-- a list of bytes in memory that was not there before -/
structure NewB (w w' : World) (v : Value) (l : List Int) : Prop where
  is : ∃ ao b o c, v = .slice ao l.length c ∧ l.length ≤ c ∧ w.heap.size ≤ b ∧ AtB w' ao b o l ∧ Free w' b o l.length

def Octets (l : List Int) : Prop := ∀ x ∈ l, 0 ≤ x ∧ x < 256
theorem Octets.nth {l : List Int} (h : Octets l) (i : Nat) : 0 ≤ nth l i ∧ nth l i < 256 := by
  by_cases hi : i < l.length
  · exact h _ (nth_mem hi)
  · rw [nth_ge (by omega)]; decide
/-- bytes' worth, the highest first -/
def bval : List Int → Int
  | [] => 0
  | x :: l => x * 256 ^ l.length + bval l
theorem bval_bound {l : List Int} (h : Octets l) : 0 ≤ bval l ∧ bval l < 256 ^ l.length := by
  induction l with
  | nil => simp [bval]
  | cons x l ih =>
    have h1 := ih (fun y hy => h y (List.mem_cons_of_mem _ hy))
    have h2 := h x List.mem_cons_self
    have hp : (0 : Int) < 256 ^ l.length := Int.pow_pos (by decide)
    have h3 : 0 ≤ x * 256 ^ l.length := Int.mul_nonneg h2.1 (Int.le_of_lt hp)
    have h4 : x * 256 ^ l.length ≤ 255 * 256 ^ l.length := Int.mul_le_mul_of_nonneg_right (by omega) (Int.le_of_lt hp)
    rw [bval, List.length_cons, Int.pow_succ]; omega
/-- the bytes of a value -/
def IsB (l : List Int) (n : Int) : Prop := Octets l ∧ (l ≠ [] → nth l 0 ≠ 0) ∧ bval l = n
theorem bval_inj : ∀ {a b : List Int}, Octets a → Octets b → a.length = b.length → bval a = bval b → a = b
  | [], [], _, _, _, _ => rfl
  | x :: a, y :: b, ha, hb, hl, hv => by
    have ha' : Octets a := fun z hz => ha z (List.mem_cons_of_mem _ hz)
    have hb' : Octets b := fun z hz => hb z (List.mem_cons_of_mem _ hz)
    have hl' : a.length = b.length := by simpa using hl
    have h1 := bval_bound ha'
    have h2 := bval_bound hb'
    rw [bval, bval, hl'] at hv
    rw [hl'] at h1
    have hp : (0 : Int) < 256 ^ b.length := Int.pow_pos (by decide)
    have e : x = y := by
      rcases Int.lt_trichotomy x y with c | c | c
      · have : (x + 1) * 256 ^ b.length ≤ y * 256 ^ b.length := Int.mul_le_mul_of_nonneg_right (by omega) (Int.le_of_lt hp)
        rw [Int.add_mul] at this; omega
      · exact c
      · have : (y + 1) * 256 ^ b.length ≤ x * 256 ^ b.length := Int.mul_le_mul_of_nonneg_right (by omega) (Int.le_of_lt hp)
        rw [Int.add_mul] at this; omega
    subst e
    rw [bval_inj ha' hb' hl' (by omega)]
theorem bval_ge {l : List Int} (h : Octets l) (h0 : l ≠ []) (h1 : nth l 0 ≠ 0) : 256 ^ (l.length - 1) ≤ bval l := by
  cases l with
  | nil => exact absurd rfl h0
  | cons x l =>
    rw [nth_zero] at h1
    have h2 := h x List.mem_cons_self
    have h3 := bval_bound (l := l) (fun z hz => h z (List.mem_cons_of_mem _ hz))
    have hp : (0 : Int) < 256 ^ l.length := Int.pow_pos (by decide)
    have : 1 * 256 ^ l.length ≤ x * 256 ^ l.length := Int.mul_le_mul_of_nonneg_right (by omega) (Int.le_of_lt hp)
    rw [bval, List.length_cons, Nat.add_sub_cancel]; omega
theorem pow256_mono {a b : Nat} (h : a ≤ b) : (256 : Int) ^ a ≤ 256 ^ b := by
  have : (256 : Nat) ^ a ≤ 256 ^ b := Nat.pow_le_pow_right (by decide) h
  have e1 : ((256 ^ a : Nat) : Int) = (256 : Int) ^ a := by rw [Int.natCast_pow]; rfl
  have e2 : ((256 ^ b : Nat) : Int) = (256 : Int) ^ b := by rw [Int.natCast_pow]; rfl
  omega
theorem isB_unique {a b : List Int} {n : Int} (ha : IsB a n) (hb : IsB b n) : a = b := by
  apply bval_inj ha.1 hb.1
  · have key : ∀ {a b : List Int}, IsB a n → IsB b n → ¬ a.length < b.length := by
      intro a b ha hb hlt
      have h1 := (bval_bound ha.1).2
      have h2 := bval_ge hb.1 (fun e => by subst e; simp at hlt) (hb.2.1 (fun e => by subst e; simp at hlt))
      rw [ha.2.2] at h1
      rw [hb.2.2] at h2
      have := pow256_mono (show a.length ≤ b.length - 1 by omega)
      omega
    have h1 := key ha hb
    have h2 := key hb ha
    omega
  · rw [ha.2.2, hb.2.2]

end Go.Proofs.YtagnmdejdeeenaaGreat

namespace Go.Proofs.YtagnmdejdeeenaaGreat
open Go.RowKit Lim

theorem bpow (k : Nat) : (18446744073709551616 : Int) ^ k = ((2 ^ (64 * k) : Nat) : Int) := by
  rw [Nat.pow_mul, Int.natCast_pow]; rfl
theorem bits_top {l : List Int} (wl : Words l) (hn : nlen l ≠ 0) : bitLen (val l).toNat = 64 * (nlen l - 1) + bitLen (nth l (nlen l - 1)).toNat := by
  have h0 := val_nonneg wl
  have hs := val_split (norm l) (nlen l - 1) (by rw [norm_length]; omega)
  have hd : (norm l).drop (nlen l - 1) = [nth l (nlen l - 1)] := by
    apply nth_ext
    · simp [norm_length]; omega
    · intro i hi
      simp [norm_length] at hi
      have : i = 0 := by omega
      subst this
      rw [nth_drop, norm_nth, nth_zero]; rfl
  rw [hd, val_single, val_norm] at hs
  have h1 := val_lt (wl.norm.take (nlen l - 1))
  have h2 := val_nonneg (wl.norm.take (nlen l - 1))
  rw [List.length_take, norm_length, Nat.min_eq_left (by omega)] at h1
  have h3 := wl.nth (nlen l - 1)
  have h4 := nlen_last hn
  generalize nth l (nlen l - 1) = x at *
  generalize val ((norm l).take (nlen l - 1)) = y at *
  generalize nlen l - 1 = k at *
  rw [bpow] at hs h1
  obtain ⟨x, rfl⟩ := Int.eq_ofNat_of_zero_le h3.1
  obtain ⟨y, rfl⟩ := Int.eq_ofNat_of_zero_le h2
  obtain ⟨v, hv⟩ := Int.eq_ofNat_of_zero_le h0
  rw [hv] at hs ⊢
  have hq : v / 2 ^ (64 * k) = x := by
    have hv2 : v = y + 2 ^ (64 * k) * x := by
      have : (v : Int) = ((y + 2 ^ (64 * k) * x : Nat) : Int) := by rw [hs, Int.natCast_add, Int.natCast_mul]
      exact Int.ofNat.inj this
    rw [hv2, Nat.add_mul_div_left _ _ (Nat.two_pow_pos _), Nat.div_eq_of_lt (by omega), Nat.zero_add]
  rw [Int.toNat_natCast, Int.toNat_natCast, bitLen_shift v (64 * k) (by rw [hq]; omega), hq]

set_option maxHeartbeats 1000000 in
set_option maxRecDepth 100000 in
theorem bits_any (ao : Option Addr) (n c b o : Nat) (l : List Int) (w : World) (hl : l.length = n) (hc : n ≤ c) (hbig : n ≤ 1099511627776) (wl : Words l) (ha : At w ao b o l) :
    Calls Tryz.prog 168 #[.slice ao n c] w fun e w' => e = .returned (.int .i64 (bitLen (val l).toNat)) ∧ Below w.heap.size w w' := by
  have hn := nlen_le l
  have t1 := trim_any ao n c l w hl hc (by omega) ha.cells
  by_cases h0 : nlen l = 0
  · rw [h0] at t1
    have hv : (val l).toNat = 0 := by rw [(nlen_eq_zero_iff_val wl).1 h0]; rfl
    rw [hv, show bitLen 0 = 0 from rfl]
    go_enter Tryz.func168, Tryz.ntmps168
    go_wp2_with fail
    refine t1.mono ?_
    rintro e w1 ⟨rfl, rfl⟩
    go_wp2_with fail
    go_ret
    exact ⟨rfl, Below.refl _ _⟩
  · have ht := bits_top wl h0
    have hx := wl.nth (nlen l - 1)
    have hcell := ha.cell (nlen l - 1) (by omega)
    have hl64 := bitLen_le64 (n := (nth l (nlen l - 1)).toNat) (by omega)
    have t2 := fun wx => clz64 (nth l (nlen l - 1)) wx hx.1 hx.2
    rcases ha.loc with e | rfl
    · subst e; simp [nlen] at h0
    rw [ht]
    generalize nth l (nlen l - 1) = x at *
    generalize bitLen x.toNat = L at *
    clear ht ha
    obtain ⟨k, hk⟩ : ∃ k, nlen l = k + 1 := ⟨nlen l - 1, by omega⟩
    rw [hk] at t1 hcell hn ⊢
    rw [Nat.add_sub_cancel] at hcell ⊢
    clear hk h0
    have hk0 : (k : Int) < (k : Int) + 1 := by omega
    go_enter Tryz.func168, Tryz.ntmps168
    go_wp2_with fail
    refine t1.mono ?_
    rintro e w1 ⟨rfl, rfl⟩
    clear t1
    go_wp2_with fail
    refine (t2 _).mono ?_
    rintro e w2 ⟨rfl, rfl⟩
    go_wp2
    go_ret
    exact ⟨ret1 (by omega), Below.refl _ _⟩

theorem isN_nil' : IsN [] 0 := ⟨Words.nil, rfl, rfl⟩
/-- the last k bytes are laid -/
structure FbInv (lb : List Int) (m k : Nat) (lz : List Int) : Prop where
  len : lz.length = m
  words : Words lz
  val : Lim.val lz = bval (lb.drop (lb.length - k))
theorem bval_drop {l : List Int} {i : Nat} (h : i < l.length) : bval (l.drop i) = nth l i * 256 ^ (l.length - 1 - i) + bval (l.drop (i + 1)) := by
  rw [List.drop_eq_getElem_cons h, bval, nth_eq h, List.length_drop, show l.length - (i + 1) = l.length - 1 - i from by omega]
theorem Octets.drop {l : List Int} (h : Octets l) (k : Nat) : Octets (l.drop k) := fun x hx => h x (List.mem_of_mem_drop hx)
theorem val_set {l : List Int} {i : Nat} (h : i < l.length) (x : Int) : val (l.set i x) = val l + 18446744073709551616 ^ i * (x - nth l i) := by
  have e1 := val_split (l.set i x) i (by simp; omega)
  have e2 := val_split l i (by omega)
  rw [List.take_set_of_le (Nat.le_refl _), List.drop_set, if_neg (by omega), Nat.sub_self] at e1
  rw [List.drop_eq_getElem_cons h, List.set_cons_zero, val] at e1
  rw [List.drop_eq_getElem_cons h, val] at e2
  rw [e1, e2, nth_eq h]; grind
theorem limb_lt {l : List Int} (wl : Words l) {i : Nat} (h : i < l.length) {P : Int} (hP : val l < 18446744073709551616 ^ i * P) : nth l i < P := by
  have e2 := val_split l i (by omega)
  rw [List.drop_eq_getElem_cons h, val] at e2
  have h1 := val_nonneg (wl.take i)
  have h2 := val_nonneg (wl.drop (i + 1))
  have hp := pow_pos i
  have h3 : 0 ≤ 18446744073709551616 ^ i * (18446744073709551616 * val (l.drop (i + 1))) := Int.mul_nonneg (Int.le_of_lt hp) (by omega)
  rw [Int.mul_add] at e2
  have h4 : 18446744073709551616 ^ i * nth l i < 18446744073709551616 ^ i * P := by rw [nth_eq h]; omega
  exact Int.lt_of_mul_lt_mul_left h4 (Int.le_of_lt hp)
theorem pow_parts (k : Nat) : (256 : Int) ^ k = 18446744073709551616 ^ (k / 8) * 2 ^ (8 * (k % 8)) := by
  have e : (18446744073709551616 : Int) = 256 ^ 8 := by decide
  have e2 : (2 : Int) ^ (8 * (k % 8)) = 256 ^ (k % 8) := by rw [Int.pow_mul]; rfl
  rw [e, e2, ← Int.pow_mul, ← Int.pow_add]; congr 1; omega
theorem fb_step {lb lz : List Int} {m k : Nat} (hb : Octets lb) (hm : (lb.length + 7) / 8 = m) (h : FbInv lb m k lz) (hk : k < lb.length) :
    bits .or .u64 (nth lz (k / 8)) (IntKind.u64.wrap (nth lb (lb.length - 1 - k) * 2 ^ (8 * (k % 8)))) = nth lz (k / 8) + nth lb (lb.length - 1 - k) * 2 ^ (8 * (k % 8)) ∧
    FbInv lb m (k + 1) (lz.set (k / 8) (nth lz (k / 8) + nth lb (lb.length - 1 - k) * 2 ^ (8 * (k % 8)))) := by
  have hl := h.len
  have hx := hb.nth (lb.length - 1 - k)
  have hbd := bval_bound (hb.drop (lb.length - k))
  rw [List.length_drop, show lb.length - (lb.length - k) = k from by omega] at hbd
  have hv := h.val
  have hz := h.words.nth (k / 8)
  have hlt := limb_lt h.words (i := k / 8) (by omega) (P := 2 ^ (8 * (k % 8))) (by rw [← pow_parts, hv]; exact hbd.2)
  have hS : (0 : Int) < 2 ^ (8 * (k % 8)) := Int.pow_pos (by decide)
  have hT : (2 : Int) ^ (8 * (k % 8)) * 256 ≤ 18446744073709551616 := by
    have : (2 : Nat) ^ (8 * (k % 8)) ≤ 2 ^ 56 := Nat.pow_le_pow_right (by decide) (by omega)
    have e : ((2 ^ (8 * (k % 8)) : Nat) : Int) = (2 : Int) ^ (8 * (k % 8)) := by rw [Int.natCast_pow]; rfl
    have e2 : (2 : Nat) ^ 56 = 72057594037927936 := by decide
    omega
  have hx1 : 0 ≤ nth lb (lb.length - 1 - k) * 2 ^ (8 * (k % 8)) := Int.mul_nonneg hx.1 (Int.le_of_lt hS)
  have hx2 : nth lb (lb.length - 1 - k) * 2 ^ (8 * (k % 8)) ≤ 255 * 2 ^ (8 * (k % 8)) := Int.mul_le_mul_of_nonneg_right (by omega) (Int.le_of_lt hS)
  constructor
  · rw [IntKind.wrap_u64, Int.emod_eq_of_lt hx1 (by omega)]
    rw [u64_or _ _ hz.1 hz.2 hx1 (by omega), Nat.or_comm, ← u64_or _ _ hx1 (by omega) hz.1 hz.2]
    rw [or_add _ _ (8 * (k % 8)) _ rfl hx.1 (by omega) hz.1 hlt hz.2, Int.add_comm]
  · refine ⟨by simp [hl], h.words.set _ (by omega) (by omega), ?_⟩
    rw [val_set (by omega), hv, show lb.length - (k + 1) = lb.length - 1 - k from by omega, bval_drop (l := lb) (i := lb.length - 1 - k) (by omega), show lb.length - 1 - k + 1 = lb.length - k from by omega, show lb.length - 1 - (lb.length - 1 - k) = k from by omega, pow_parts k]
    grind

set_option maxHeartbeats 1000000 in
set_option maxRecDepth 100000 in
theorem from_no (ao : Option Addr) (n c b o : Nat) (lb : List Int) (w : World) (hl : lb.length = n) (hn : 0 < n) (ha : AtB w ao b o lb) (h0 : nth lb 0 = 0) :
    Calls Tryz.prog 171 #[.slice ao n c] w fun e w' => e = .returned (.tuple #[.slice none 0 0, .int .i64 13]) ∧ w' = w := by
  rcases ha.loc with e | rfl
  · subst e; simp at hl; omega
  have hc := ha.cell 0 (by omega)
  rw [h0, Nat.add_zero] at hc
  go_enter Tryz.func171, Tryz.ntmps171
  go_wp2
  go_ret2
  exact ⟨rfl, rfl⟩

set_option maxHeartbeats 2000000 in
set_option maxRecDepth 100000 in
theorem from_yes (ao : Option Addr) (n c b o : Nat) (lb : List Int) (w : World) (hl : lb.length = n) (hbig : n ≤ 1099511627776) (ho : Octets lb) (ha : AtB w ao b o lb) (h0 : 0 < n → nth lb 0 ≠ 0) :
    Calls Tryz.prog 171 #[.slice ao n c] w fun e w' => ∃ v r, e = .returned (.tuple #[v, .int .i64 0]) ∧ NewV w w' v r ∧ IsN r (bval lb) ∧ r.length ≤ n ∧ Below w.heap.size w w' := by
  obtain ⟨m, hm⟩ : ∃ m : Nat, ((n : Int) + 7) / 8 = m := ⟨(n + 7) / 8, by omega⟩
  have hm2 : m ≤ n := by omega
  have hne : lb = [] ∨ b ≠ w.heap.size := by
    rcases ha.lt with e | e
    · exact .inl e
    · exact .inr (by omega)
  by_cases hn : 0 < n
  · rcases ha.loc with e | rfl
    · subst e; simp at hl; omega
    have hc := ha.cell 0 (by omega)
    rw [Nat.add_zero] at hc
    have hcz : (nth lb 0 == 0) = false := beq_eq_false_iff_ne.2 (h0 hn)
    have hfin : nth lb 0 ≠ 0 := h0 hn
    have HF := (show Hid _ from hfin)
    clear hfin h0
    go_enter Tryz.func171, Tryz.ntmps171
    go_wp2_with (at_make; refine wpList_makeN rfl _ _ rfl m _ _ rfl rfl (by omega) (by omega) (by omega) ?_; intro w1 hrow hbel hsz)
    have hatb := ha.keep hbel
    clear hc hcz
    go_loopw [22] (fun ti wr => ∃ (k : Nat) (lz : List Int), k ≤ n ∧ ti = .int .i64 k ∧ FbInv lb m k lz ∧ At wr (some ⟨w.heap.size, 0, none⟩) w.heap.size 0 lz ∧ Wr w.heap.size 0 m w1 wr) (fun ti _ => n - (intOf ti).toNat)
    case atStart => exact ⟨0, _, Nat.zero_le _, rfl, ⟨by simp, words_zero _, by rw [Nat.sub_zero, List.drop_length, val_zeros fun i => by simp [nth, List.getElem?_replicate]; split <;> rfl]; rfl⟩, hrow.at, Wr.refl _ _ _ _⟩
    case round =>
      obtain ⟨k, lz, hk, rfl, hinv, hat, hwr⟩ := hrel
      have hlen := hinv.len
      by_cases hlt : k < n
      · obtain ⟨i, hi⟩ : ∃ i : Nat, (k : Int) / 8 = i := ⟨k / 8, by omega⟩
        obtain ⟨j, hj⟩ : ∃ j : Nat, (k : Int) % 8 = j := ⟨k % 8, by omega⟩
        obtain ⟨h, hh⟩ : ∃ h : Nat, (n : Int) - 1 - k = h := ⟨n - 1 - k, by omega⟩
        have hi1 : (i : Int) < m := by omega
        have hh1 : (h : Int) < n := by omega
        have hj1 : j < 8 := by omega
        have hcz := hat.cell i (by omega)
        have hcb := (hatb.wr hwr hne).cell h (by omega)
        have hfr := hwr.free (hrow.free 0 m) i (by omega)
        rw [Nat.zero_add] at hcz hfr
        have hst := fb_step ho (m := m) (by omega) hinv (by omega)
        rw [show k / 8 = i from by omega, show k % 8 = j from by omega, show lb.length - 1 - k = h from by omega] at hst
        obtain ⟨hst1, hst2⟩ := hst
        have HS := (show Hid _ from hst2)
        have HA := (show Hid _ from hat)
        have HW := (show Hid _ from hwr)
        have hxx := ho.nth h
        clear hst2 hat hwr hinv hrow hatb ho
        generalize nth lz i = z at *
        generalize nth lb h = x at *
        go_wp2_with fail
        go_region
        go_wp2
        rw [Nat.mul_comm j 8, hst1]
        refine ⟨⟨k + 1, _, by omega, by go_num, HS.out, ?_, ?_⟩, by simp [intOf]; omega⟩
        · have := (HA.out.setCell (i := i) (by omega) (z + x * 2 ^ (8 * j))).drew
          rwa [Nat.zero_add] at this
        · exact (HW.out.setCell (by omega) (by omega) _).drew
      · have hkn : k = n := by omega
        subst hkn
        have hv := hinv.val
        rw [← hl, Nat.sub_self, List.drop_zero] at hv
        have hfz := hwr.free (hrow.free 0 m)
        have HB := hbel.trans (hwr.below (Nat.le_refl _))
        have hbb := bval_bound ho
        have hge := bval_ge ho (fun e => by subst e; simp at hl; omega) HF.out
        have hnm : nlen lz = lz.length := by
          have h1 := nlen_le lz
          by_cases c : nlen lz < lz.length
          · have h2 := val_lt_nlen hinv.words
            have h3 := pow_mono (show nlen lz ≤ m - 1 by omega)
            have h4 : (18446744073709551616 : Int) ^ (m - 1) ≤ 256 ^ (lb.length - 1) := by
              rw [show (18446744073709551616 : Int) = 256 ^ 8 from by decide, ← Int.pow_mul]
              exact pow256_mono (by omega)
            rw [hv] at h2
            omega
          · omega
        have HI : IsN lz (bval lb) := ⟨hinv.words, hnm, hv⟩
        clear hinv hrow hwr hbel hatb hv hbb hge hnm
        go_wp2
        go_ret2
        exact ⟨_, lz, rfl, NewV.of hlen.symm (Nat.le_refl _) (Nat.le_refl _) hat hfz, HI, by omega, HB⟩
  · have hn0 : n = 0 := by omega
    subst hn0
    have e0 : lb = [] := List.eq_nil_of_length_eq_zero hl
    subst e0
    have hm0 : m = 0 := by omega
    subst hm0
    clear hm ha hne
    go_enter Tryz.func171, Tryz.ntmps171
    go_wp2_with (at_make; refine wpList_makeN rfl _ _ rfl 0 _ _ rfl rfl (by omega) (by omega) (by omega) ?_; intro w1 hrow hbel hsz)
    refine wp_loop_rounds 1 ?_
    rw [rounds_succ]
    go_wp2
    go_ret2
    exact ⟨_, [], rfl, NewV.of rfl (Nat.le_refl _) (Nat.le_refl _) hrow.at (hrow.free _ _), isN_nil', by simp, hbel⟩
end Go.Proofs.YtagnmdejdeeenaaGreat

namespace Go.Proofs.YtagnmdejdeeenaaGreat
open Go.RowKit Lim

end Go.Proofs.YtagnmdejdeeenaaGreat

namespace Go.Proofs.YtagnmdejdeeenaaGreat
open Go.RowKit Lim

end Go.Proofs.YtagnmdejdeeenaaGreat

namespace Go.Proofs.YtagnmdejdeeenaaGreat
open Go.RowKit Lim

/-- limbs worth x lie at ao -/
structure NatA (w : World) (ao : Option Addr) (n c : Nat) (x : Int) : Prop where
  ex : ∃ b o l, l.length = n ∧ n ≤ c ∧ Words l ∧ At w ao b o l ∧ val l = x
/-- the normal list of x lies at ao -/
structure NatO (w : World) (ao : Option Addr) (n c : Nat) (x : Int) : Prop where
  ex : ∃ b o l, l.length = n ∧ n ≤ c ∧ IsN l x ∧ At w ao b o l
theorem NatO.a {w : World} {ao : Option Addr} {n c : Nat} {x : Int} (h : NatO w ao n c x) : NatA w ao n c x := by
  obtain ⟨b, o, l, h1, h2, h3, h4⟩ := h.ex
  exact ⟨b, o, l, h1, h2, h3.1, h4, h3.2.2⟩
theorem NatA.keep {w w' : World} {ao : Option Addr} {n c : Nat} {x : Int} (h : NatA w ao n c x) (hb : Below w.heap.size w w') : NatA w' ao n c x := by
  obtain ⟨b, o, l, h1, h2, h3, h4, h5⟩ := h.ex
  exact ⟨b, o, l, h1, h2, h3, h4.keep hb, h5⟩
theorem natO_nil (w : World) : NatO w none 0 0 0 := ⟨0, 0, [], rfl, Nat.le_refl _, isN_nil, .inl rfl, fun i hi => by simp at hi⟩
theorem joinB {w wa w' : World} (b : Below w.heap.size w wa) (h : Below wa.heap.size wa w') : Below w.heap.size w w' := b.trans (h.mono b.size)

/-- block g is a variable of one cell that holds v -/
structure Slot (w : World) (g : Nat) (v : Value) (t : TypeId) : Prop where
  blk : w.heap[g]? = some (.cells #[v] t (0, 0))
theorem Slot.cell {w : World} {g : Nat} {v : Value} {t : TypeId} (h : Slot w g v t) : w.cell? ⟨g, 0, none⟩ = some v := cell_of_one h.blk
theorem Slot.free {w : World} {g : Nat} {v : Value} {t : TypeId} (h : Slot w g v t) : w.frozen? ⟨g, 0, none⟩ = false := free_of_one h.blk
theorem Slot.lt {w : World} {g : Nat} {v : Value} {t : TypeId} (h : Slot w g v t) : g < w.heap.size := lt_of_block h.blk
theorem Slot.keep {w w' : World} {g : Nat} {v : Value} {t : TypeId} (h : Slot w g v t) (hb : Below w.heap.size w w') : Slot w' g v t := ⟨by rw [hb.block g h.lt]; exact h.blk⟩
theorem Slot.put {w : World} {g : Nat} {v : Value} {t : TypeId} (h : Slot w g v t) (u : Value) : Slot (w.setCell ⟨g, 0, none⟩ u) g u t := ⟨one_setCell h.blk⟩
theorem slot_new (w : World) (v : Value) (t : TypeId) : Slot (w.alloc (.cells #[v] t)) w.heap.size v t := ⟨by
  show (w.heap.push _)[w.heap.size]? = _
  rw [Array.getElem?_push_size]⟩
theorem Slot.alloc {w : World} {g : Nat} {v : Value} {t : TypeId} (h : Slot w g v t) (o : Obj) : Slot (w.alloc o) g v t := h.keep (below_alloc w o)
theorem slot_last2 (w : World) (o : Obj) (v : Value) (t : TypeId) : Slot ((w.alloc o).alloc (.cells #[v] t)) (w.heap.size + 1) v t := by
  have := slot_new (w.alloc o) v t
  rwa [show (w.alloc o).heap.size = w.heap.size + 1 by simp] at this
theorem below2 (w : World) (o o' : Obj) : Below w.heap.size w ((w.alloc o).alloc o') := joinB (below_alloc w o) (below_alloc _ o')
theorem info_dec : (Tryz.prog.info? 161).map (·.size) = some 1 := by kernel_rfl
theorem under_dec : ∃ f, Tryz.prog.underlying 161 = some (.struct f) := by
  cases h : Tryz.prog.underlying 161 with
  | none => exact absurd h (by have : (Tryz.prog.underlying 161).isSome = true := by kernel_rfl
                               intro e; rw [e] at this; simp at this)
  | some d =>
    have : (match Tryz.prog.underlying 161 with | some (.struct _) => true | _ => false) = true := by kernel_rfl
    rw [h] at this
    cases d <;> first | exact ⟨_, rfl⟩ | simp at this
theorem load_dec {w : World} {g : Nat} {v : Value} {t : TypeId} (s : Slot w g v t) : (loadVar 161 ⟨g, 0, none⟩).run Tryz.prog w = .ok (.agg #[v]) w := by
  obtain ⟨f, hu⟩ := under_dec
  exact run_loadVar_row w g t 161 #[v] (0, 0) _ s.blk hu rfl info_dec
theorem ret_dec {fn : Func} {p : Tmp} (h : fn.results = #[.cell p 161]) {tmps : Array Value} {w : World} {g : Nat} {v : Value} {t : TypeId} (hp : tmps.getD p undef = .pointer (some ⟨g, 0, none⟩)) (s : Slot w g v t) :
    (results fn tmps).run Tryz.prog w = .ok (.agg #[v]) w := by
  have hp' : tmps[p]?.getD undef = .pointer (some ⟨g, 0, none⟩) := by simpa using hp
  simp [results, h, hp', asAddr, load_dec s]
end Go.Proofs.YtagnmdejdeeenaaGreat

namespace Go.Proofs.YtagnmdejdeeenaaGreat
open Go.RowKit Lim

section
variable {ops : Array Oper} {Q : Exit → Act → World → Prop} {S : World → Prop} {fuel : Nat} {listed : Array Bool} {a : Act} {w : World}

/-- operation i may be taken first, is wanted, and writes d -/
def rgChk (ops : Array Oper) (listed : Array Bool) (a : Act) (i : Nat) (d : Option Tmp) : Bool :=
  Region.noSelect ops && Region.free .any ops listed i && (Region.ready .any ops listed).contains i && decide (i < ops.size) && Region.wanted (ops.getD i default) (yielded ops a.tmps) && decide ((ops.getD i default).dst = d)
/-- operation i alone may come up, is wanted, and writes d -/
def rgLone (ops : Array Oper) (listed : Array Bool) (a : Act) (i : Nat) (d : Option Tmp) : Bool :=
  decide (Region.ready .any ops listed = [i]) && decide (i < ops.size) && Region.wanted (ops.getD i default) (yielded ops a.tmps) && decide ((ops.getD i default).dst = d)
theorem at_getD {i : Nat} (h : i < ops.size) : ops[i]? = some (ops.getD i default) := by
  simp [Array.getD, h]
theorem rg_take (i : Nat) (d : Option Tmp) (v : Value) (hc : rgChk ops listed a i d = true) (hy : ∀ w', S w' → (execOp a.eval (ops.getD i default)).run Tryz.prog w' = .ok (.value v) w')
    (hQ : ∀ c a w, Q (.panic c) (a.put d v) w → Q (.panic c) a w) (hS : S w)
    (h : wpAnyH Tryz.prog .any ops Q S fuel (listed.setIfInBounds i true) (a.put d v) w) : wpAnyH Tryz.prog .any ops Q S (fuel + 1) listed a w := by
  simp only [rgChk, Bool.and_eq_true, decide_eq_true_eq] at hc
  obtain ⟨⟨⟨⟨⟨h1, h2⟩, h3⟩, h4⟩, h5⟩, h6⟩ := hc
  subst h6
  exact wpAnyH_take (at_getD h4) h1 h2 h3 hQ (.inl ⟨h5, hy⟩) hS h
theorem rg_load (i : Nat) (d : Option Tmp) (v : Value) (T : TypeId) (k g o : Nat) (hc : rgChk ops listed a i d = true) (ho : (ops.getD i default).op = .load T (.tmp k)) (hp : a.eval (.tmp k) = .pointer (some ⟨g, o, none⟩))
    (hl : ∀ w', S w' → (loadVar T ⟨g, o, none⟩).run Tryz.prog w' = .ok v w')
    (hQ : ∀ c a w, Q (.panic c) (a.put d v) w → Q (.panic c) a w) (hS : S w)
    (h : wpAnyH Tryz.prog .any ops Q S fuel (listed.setIfInBounds i true) (a.put d v) w) : wpAnyH Tryz.prog .any ops Q S (fuel + 1) listed a w :=
  rg_take i d v hc (fun w' hS' => by
    have := hl w' hS'
    simp only [execOp, ho, hp]
    simp [Instr.loadAt, Instr.sureAddr, Result.andThen, this]) hQ hS h
theorem rg_call (i : Nat) (d : Option Tmp) (f : FuncId) (args : Array Value) {Qc : Ending → World → Prop} (hc : rgLone ops listed a i d = true) (hrun : (execOp a.eval (ops.getD i default)).run Tryz.prog w = .ok (.enter f args) w)
    (hcall : Calls Tryz.prog f args w Qc) (hk : ∀ e w', Qc e w' → ∃ v, e = .returned v ∧ S w' ∧ wpAnyH Tryz.prog .any ops Q S fuel (listed.setIfInBounds i true) (a.put d v) w') :
    wpAnyH Tryz.prog .any ops Q S (fuel + 1) listed a w := by
  simp only [rgLone, Bool.and_eq_true, decide_eq_true_eq] at hc
  obtain ⟨⟨⟨h3, h4⟩, h5⟩, h6⟩ := hc
  subst h6
  refine wpAnyH_all h3 (by simp) fun j hj => ?_
  obtain rfl : j = i := by simpa using hj
  refine wpOp_step (at_getD h4) fun K hK => ?_
  rw [if_pos h5]
  unfold Oper.wp
  rw [hrun]
  refine hcall.mono fun e w' he => ?_
  obtain ⟨v, rfl, hS', hw⟩ := hk e w' he
  exact hK _ _ ⟨hS', hw⟩
theorem rg_done (hr : Region.ready .any ops listed = []) (h : Q .normal a w) : wpAnyH Tryz.prog .any ops Q S fuel listed a w := wpAnyH_done hr h fuel
theorem rg_start {id : Nat} (hm : Tryz.prog.follows .mixedOrders = true) (hS : S w.drew) (h : wpAnyH Tryz.prog .any ops Q S ops.size (Array.replicate ops.size false) a w.drew) : (Code.region id ops true).wp Tryz.prog Q a w :=
  wp_region_held_drew hm hS fun _ => h
end
end Go.Proofs.YtagnmdejdeeenaaGreat

namespace Go.Proofs.YtagnmdejdeeenaaGreat
open Go.RowKit Lim

/-- block g is a variable that holds just cs -/
structure Box (w : World) (g : Nat) (cs : List Value) (t : TypeId) : Prop where
  blk : w.heap[g]? = some (.cells cs.toArray t (0, 0))
theorem Box.lt {w : World} {g : Nat} {cs : List Value} {t : TypeId} (h : Box w g cs t) : g < w.heap.size := lt_of_block h.blk
theorem Box.keep {w w' : World} {g : Nat} {cs : List Value} {t : TypeId} (h : Box w g cs t) (hb : Below w.heap.size w w') : Box w' g cs t := ⟨by rw [hb.block g h.lt]; exact h.blk⟩
theorem Box.drew {w : World} {g : Nat} {cs : List Value} {t : TypeId} (h : Box w g cs t) : Box w.drew g cs t := ⟨h.blk⟩
theorem box_new (w : World) (cs : List Value) (t : TypeId) : Box (w.alloc (.cells cs.toArray t)) w.heap.size cs t := ⟨by
  show (w.heap.push _)[w.heap.size]? = _
  rw [Array.getElem?_push_size]⟩
theorem Box.row {w : World} {g : Nat} {cs ds : List Value} {t : TypeId} (h : Box w g cs t) : Box (w.setRow g ds.toArray) g ds t := ⟨by rw [setRow_heap w g _ _ _ _ h.blk]⟩
theorem below_row {B g : Nat} {w w' : World} (h : Below B w w') (hB : B ≤ g) (ds : Array Value) : Below B w (w'.setRow g ds) :=
  h.trans ⟨rfl, rfl, rfl, by simp [World.setRow], fun k hk => setRow_other w' g k ds (by omega)⟩
theorem Box.off {w w' : World} {g g' : Nat} {cs : List Value} {t : TypeId} (h : Box w g cs t) (hne : g ≠ g') (hw : ∀ k, k ≠ g' → w'.heap[k]? = w.heap[k]?) : Box w' g cs t := ⟨by rw [hw g hne]; exact h.blk⟩
section
variable {ops : Array Oper} {Q : Exit → Act → World → Prop} {S : World → Prop} {fuel : Nat} {listed : Array Bool} {a : Act} {w : World}
def rgWant (ops : Array Oper) (a : Act) (i : Nat) (d : Option Tmp) : Bool :=
  decide (i < ops.size) && Region.wanted (ops.getD i default) (yielded ops a.tmps) && decide ((ops.getD i default).dst = d)
theorem rg_ready (rs : List Nat) (hr : Region.ready .any ops listed = rs) (hne : rs ≠ []) (h : AllReadyH Tryz.prog .any ops Q S fuel listed a w rs) : wpAnyH Tryz.prog .any ops Q S (fuel + 1) listed a w := wpAnyH_ready hr hne h
theorem ar_nil : AllReadyH Tryz.prog .any ops Q S fuel listed a w [] := AllReadyH.nil
theorem ar_val {rs : List Nat} (i : Nat) (d : Option Tmp) (v : Value) (w1 : World) (hc : rgWant ops a i d = true) (hrun : (execOp a.eval (ops.getD i default)).run Tryz.prog w = .ok (.value v) w1)
    (hS1 : S w1) (h : wpAnyH Tryz.prog .any ops Q S fuel (listed.setIfInBounds i true) (a.put d v) w1)
    (hs : AllReadyH Tryz.prog .any ops Q S fuel listed a w rs) : AllReadyH Tryz.prog .any ops Q S fuel listed a w (i :: rs) := by
  simp only [rgWant, Bool.and_eq_true, decide_eq_true_eq] at hc
  obtain ⟨⟨h4, h5⟩, h6⟩ := hc
  subst h6
  refine AllReadyH.cons (at_getD h4) (fun K hK => ?_) hs
  rw [if_pos h5]
  unfold Oper.wp
  rw [hrun]
  show K (a.put (ops.getD i default).dst v) w1
  exact hK.out _ _ hS1 fun _ => h
theorem ar_void {rs : List Nat} (i : Nat) (w1 : World) (hc : rgWant ops a i none = true) (hrun : (execOp a.eval (ops.getD i default)).run Tryz.prog w = .ok .skip w1)
    (hS1 : S w1) (h : wpAnyH Tryz.prog .any ops Q S fuel (listed.setIfInBounds i true) (a.put none undef) w1)
    (hs : AllReadyH Tryz.prog .any ops Q S fuel listed a w rs) : AllReadyH Tryz.prog .any ops Q S fuel listed a w (i :: rs) := by
  simp only [rgWant, Bool.and_eq_true, decide_eq_true_eq] at hc
  obtain ⟨⟨h4, h5⟩, h6⟩ := hc
  refine AllReadyH.cons (at_getD h4) (fun K hK => ?_) hs
  rw [if_pos h5]
  unfold Oper.wp
  rw [hrun]
  show K (a.put (ops.getD i default).dst undef) w1
  rw [h6]
  exact hK.out _ _ hS1 fun _ => h
theorem ar_alloc {rs : List Nat} (i : Nat) (d : Option Tmp) (T : TypeId) (cs : List Value) (hc : rgWant ops a i d = true) (hrun : (execOp a.eval (ops.getD i default)).run Tryz.prog w = .ok (.value (.pointer (some ⟨w.heap.size, 0, none⟩))) (w.alloc (.cells cs.toArray T)))
    (hk : ∀ V, Box V w.heap.size cs T → Below w.heap.size w V → S V ∧ wpAnyH Tryz.prog .any ops Q S fuel (listed.setIfInBounds i true) (a.put d (.pointer (some ⟨w.heap.size, 0, none⟩))) V)
    (hs : AllReadyH Tryz.prog .any ops Q S fuel listed a w rs) : AllReadyH Tryz.prog .any ops Q S fuel listed a w (i :: rs) := by
  obtain ⟨h1, h2⟩ := hk _ (box_new w cs T) (below_alloc w _)
  exact ar_val i d _ _ hc hrun h1 h2 hs
end
end Go.Proofs.YtagnmdejdeeenaaGreat

namespace Go.Proofs.YtagnmdejdeeenaaGreat
open Go.RowKit Lim

theorem info_u8 : (Tryz.prog.info? 5).map (fun i => (i.zero, i.size, i.bytes)) = some (some (.int .u8 0), 1, 1) := by kernel_rfl
theorem under_bytes : Tryz.prog.underlying 66 = some (.slice 5) := by kernel_rfl
/-- block g holds just the bytes l -/
def RowB (w : World) (g : Nat) (l : List Int) : Prop := w.heap[g]? = some (.cells (l.map (Value.int .u8)).toArray 5 (0, 0))
theorem RowB.at {w : World} {g : Nat} {l : List Int} (h : RowB w g l) : AtB w (some ⟨g, 0, none⟩) g 0 l :=
  ⟨.inr rfl, fun i hi => by
    unfold RowB at h
    simp only [World.cell?, h]
    simp [nth_eq hi, hi]⟩
theorem RowB.free {w : World} {g : Nat} {l : List Int} (h : RowB w g l) (o n : Nat) : Free w g o n := by
  intro i _
  unfold RowB at h
  simp [World.frozen?, h]
theorem made_u8 (n : Nat) : madeCells (Value.int .u8 0).cells n = ((List.replicate n 0).map (Value.int .u8)).toArray := by
  apply Array.ext
  · simp [size_madeCells]
  · intro j h1 h2
    simp [madeCells, Value.cells, Nat.mod_one]
theorem wpList_makeB {w : World} {ops : Array Oper} {rest : List Oper} {o : Oper} {a : Act} {Q : Exit → Act → World → Prop}
    (hg : o.guard = none) (l c : Operand) (hop : o.op = Op.makeSlice 66 l c) (n : Nat) (L C : Int) (hl : a.eval l = .int .i64 L) (hc : a.eval c = .int .i64 C) (hL : L = (n : Int)) (hC : C = (n : Int)) (hn : n ≤ 17592186044416)
    (hK : ∀ w', RowB w' w.heap.size (List.replicate n 0) → Below w.heap.size w w' → w'.heap.size = w.heap.size + 1 → wpList Tryz.prog ops Q rest (a.put o.dst (.slice (some ⟨w.heap.size, 0, none⟩) n n)) w') :
    wpList Tryz.prog ops Q (o :: rest) a w := by
  obtain ⟨i, hi, hz, hs, hb⟩ := info_parts info_u8
  refine wpList_plain hg fun K hK' => ?_
  have hrun := run_make (P := Tryz.prog) w 66 5 i (.int .u8 0) under_bytes hi hz .i64 .i64 (n : Int) (n : Int) (by omega) (by omega) (by rw [hb]; omega) (by omega)
  subst hL
  subst hC
  unfold Oper.wp
  simp only [execOp, hop, hl, hc]
  simp [hrun, Result.andThen]
  refine hK' _ _ (hK _ ?_ ?_ ?_)
  · show (w.heap.push _)[w.heap.size]? = _
    rw [Array.getElem?_push_size, hs, Nat.mul_one, made_u8]
  · exact (Below.refl _ _).alloc (Nat.le_refl _) _
  · simp

theorem emod_parts (V : Int) (hV : 0 ≤ V) (k : Nat) : V % 256 ^ (k + 1) = (V / 256 ^ k % 256) * 256 ^ k + V % 256 ^ k := by
  obtain ⟨v, rfl⟩ := Int.eq_ofNat_of_zero_le hV
  have e : ∀ j : Nat, (256 : Int) ^ j = ((256 ^ j : Nat) : Int) := fun j => by rw [Int.natCast_pow]; rfl
  rw [e, e]
  have := Nat.mod_mul (x := v) (a := 256 ^ k) (b := 256)
  rw [← Nat.pow_succ] at this
  have h2 : ((v % 256 ^ (k + 1) : Nat) : Int) = ((v % 256 ^ k + 256 ^ k * (v / 256 ^ k % 256) : Nat) : Int) := by rw [this]
  rw [Int.natCast_add, Int.natCast_mul] at h2
  simp only [Int.natCast_emod, Int.natCast_ediv] at h2
  rw [h2, Int.add_comm, Int.mul_comm]; rfl
theorem bval_digits {r : List Int} {V : Int} (hV : 0 ≤ V) (h : ∀ i, i < r.length → nth r (r.length - 1 - i) = V / 256 ^ i % 256) : ∀ k, k ≤ r.length → bval (r.drop (r.length - k)) = V % 256 ^ k
  | 0, _ => by rw [Nat.sub_zero, List.drop_length]; simp [bval]
  | k + 1, hk => by
    have ih := bval_digits hV h k (by omega)
    rw [show r.length - (k + 1) = r.length - 1 - k from by omega, bval_drop (by omega), show r.length - 1 - k + 1 = r.length - k from by omega, ih, h k (by omega), show r.length - 1 - (r.length - 1 - k) = k from by omega, emod_parts V hV k]
theorem byte_at {l : List Int} (wl : Words l) (i : Nat) (hi : i / 8 < l.length) : nth l (i / 8) / 2 ^ (8 * (i % 8)) % 256 = val l / 256 ^ i % 256 := by
  have e2 := val_split l (i / 8) (by omega)
  rw [List.drop_eq_getElem_cons hi, val, ← nth_eq hi] at e2
  have h1 := val_nonneg (wl.take (i / 8))
  have h2 := val_lt (wl.take (i / 8))
  rw [List.length_take, Nat.min_eq_left (by omega)] at h2
  have hp := pow_pos (i / 8)
  have hS : (0 : Int) < 2 ^ (8 * (i % 8)) := Int.pow_pos (by decide)
  have hB : (18446744073709551616 : Int) = 2 ^ (8 * (i % 8)) * (256 * 2 ^ (56 - 8 * (i % 8))) := by
    rw [show (256 : Int) = 2 ^ 8 from rfl, ← Int.pow_add, ← Int.pow_add, show 8 * (i % 8) + (8 + (56 - 8 * (i % 8))) = 64 from by omega]; rfl
  rw [pow_parts, ← Int.ediv_ediv_of_nonneg (Int.le_of_lt hp), e2, Int.add_mul_ediv_left _ _ (by omega), Int.ediv_eq_zero_of_lt h1 h2, Int.zero_add]
  generalize nth l (i / 8) = x at *
  generalize val (l.drop (i / 8 + 1)) = y at *
  conv => rhs; rw [hB]
  rw [Int.mul_assoc, Int.add_mul_ediv_left _ _ (by omega), Int.mul_assoc, Int.add_mul_emod_self_left]

/-- the lowest k bytes are laid -/
structure TbInv (V : Int) (m k : Nat) (r : List Int) : Prop where
  len : r.length = m
  oct : Octets r
  dig : ∀ i, i < k → nth r (m - 1 - i) = V / 256 ^ i % 256
theorem TbInv.step {V : Int} {m k : Nat} {r : List Int} {x : Int} (h : TbInv V m k r) (hk : k < m) (hx : x = V / 256 ^ k % 256) : TbInv V m (k + 1) (r.set (m - 1 - k) x) := by
  have hl := h.len
  refine ⟨by simp [hl], fun y hy => ?_, fun i hi => ?_⟩
  · rcases List.mem_or_eq_of_mem_set hy with e | e
    · exact h.oct y e
    · subst e; rw [hx]; exact ⟨Int.emod_nonneg _ (by decide), Int.emod_lt_of_pos _ (by decide)⟩
  · rw [nth_set (by omega)]
    by_cases e : i = k
    · subst e; rw [if_pos rfl]; exact hx
    · rw [if_neg (by omega)]; exact h.dig i (by omega)
theorem TbInv.done {V : Int} {m : Nat} {r : List Int} (h : TbInv V m m r) (hV : 0 ≤ V) (h1 : V < 256 ^ m) (h2 : m ≠ 0 → 256 ^ (m - 1) ≤ V) : IsB r V := by
  have hl := h.len
  have hv := bval_digits hV (r := r) (fun i hi => by rw [hl]; exact h.dig i (by omega)) m (by omega)
  rw [hl, Nat.sub_self, List.drop_zero, Int.emod_eq_of_lt hV h1] at hv
  refine ⟨h.oct, fun hne => ?_, hv⟩
  have hm : m ≠ 0 := fun e => hne (List.eq_nil_of_length_eq_zero (by omega))
  have hd := h.dig (m - 1) (by omega)
  rw [show m - 1 - (m - 1) = 0 from by omega] at hd
  rw [hd]
  have hp : (0 : Int) < 256 ^ (m - 1) := Int.pow_pos (by decide)
  have q1 : 1 ≤ V / 256 ^ (m - 1) := by rw [Int.le_ediv_iff_mul_le hp]; have := h2 hm; omega
  have q2 : V / 256 ^ (m - 1) < 256 := by
    rw [Int.ediv_lt_iff_lt_mul hp, Int.mul_comm, ← Int.pow_succ, show (m - 1).succ = m from by omega]; exact h1
  rw [Int.emod_eq_of_lt (by omega) q2]; omega
/-- how many bytes -/
theorem bytes_len {V : Int} (hV : 0 ≤ V) : V < 256 ^ ((bitLen V.toNat + 7) / 8) ∧ ((bitLen V.toNat + 7) / 8 ≠ 0 → 256 ^ ((bitLen V.toNat + 7) / 8 - 1) ≤ V) := by
  obtain ⟨v, rfl⟩ := Int.eq_ofNat_of_zero_le hV
  rw [Int.toNat_natCast]
  have hs := bitLen_spec v
  have e : ∀ j : Nat, (256 : Int) ^ j = ((2 ^ (8 * j) : Nat) : Int) := fun j => by rw [Nat.pow_mul, Int.natCast_pow]; rfl
  rw [e, e]
  constructor
  · have := Nat.pow_le_pow_right (n := 2) (by decide) (show bitLen v ≤ 8 * ((bitLen v + 7) / 8) by omega)
    have h1 := hs.1
    omega
  · intro hm
    have hv0 : v ≠ 0 := by intro e; subst e; simp [bitLen] at hm
    have := Nat.pow_le_pow_right (n := 2) (by decide) (show 8 * ((bitLen v + 7) / 8 - 1) ≤ bitLen v - 1 by omega)
    have h1 := hs.2 hv0
    omega
theorem NewB.of {w w' : World} {l : List Int} {ao : Option Addr} {n c b o : Nat} (hn : n = l.length) (h1 : n ≤ c) (h2 : w.heap.size ≤ b) (h3 : AtB w' ao b o l) (h4 : Free w' b o n) : NewB w w' (.slice ao n c) l := by
  subst hn; exact ⟨ao, b, o, c, rfl, h1, h2, h3, h4⟩
set_option maxHeartbeats 2000000 in
set_option maxRecDepth 100000 in
theorem bytes_any (ao : Option Addr) (n c b o : Nat) (l : List Int) (w : World) (hl : l.length = n) (hc : n ≤ c) (hbig : n ≤ 1099511627776) (wl : Words l) (ha : At w ao b o l) :
    Calls Tryz.prog 150 #[.slice ao n c] w fun e w' => ∃ v r, e = .returned v ∧ NewB w w' v r ∧ IsB r (val l) ∧ r.length = (bitLen (val l).toNat + 7) / 8 ∧ r.length ≤ 8 * n ∧ Below w.heap.size w w' := by
  have hV := val_nonneg wl
  obtain ⟨hB1, hB2⟩ := bytes_len hV
  have t1 := bits_any ao n c b o l w hl hc hbig wl ha
  have hb64 : bitLen (val l).toNat ≤ 64 * n := by
    have h1 := val_lt wl
    rw [hl, bpow] at h1
    have h2 := (bitLen_spec (val l).toNat).2
    by_cases c : bitLen (val l).toNat ≤ 64 * n
    · exact c
    · have h3 : (val l).toNat ≠ 0 := by intro e; rw [e] at c; simp [bitLen] at c
      have h4 := Nat.pow_le_pow_right (n := 2) (by decide) (show 64 * n ≤ bitLen (val l).toNat - 1 by omega)
      have := h2 h3
      omega
  obtain ⟨m, hm⟩ : ∃ m : Nat, ((bitLen (val l).toNat : Int) + 7) / 8 = m := ⟨(bitLen (val l).toNat + 7) / 8, by omega⟩
  have hm' : (bitLen (val l).toNat + 7) / 8 = m := by omega
  rw [hm'] at hB1 hB2 ⊢
  generalize bitLen (val l).toNat = L at *
  have HM := (show Hid ((L + 7) / 8 = m) from hm')
  have hm8 : m ≤ 8 * n := by omega
  clear hm'
  go_enter Tryz.func150, Tryz.ntmps150
  go_wp2_with fail
  refine t1.mono ?_
  rintro e w1 ⟨rfl, hb1⟩
  have ha1 := ha.keep hb1
  have hsz1 := hb1.size
  clear t1 ha
  go_wp2_with (at_make; refine wpList_makeB rfl _ _ rfl m _ _ rfl rfl (by omega) (by omega) (by omega) ?_; intro w2 hrow hbel hsz)
  have ha2 := ha1.keep hbel
  have hne : l = [] ∨ b ≠ w1.heap.size := by
    rcases ha1.lt with e | e
    · exact .inl e
    · exact .inr (by omega)
  clear ha1
  go_loopw [12] (fun ti wr => ∃ (k : Nat) (r : List Int), k ≤ m ∧ ti = .int .i64 k ∧ TbInv (val l) m k r ∧ AtB wr (some ⟨w1.heap.size, 0, none⟩) w1.heap.size 0 r ∧ Wr w1.heap.size 0 m w2 wr) (fun ti _ => m - (intOf ti).toNat)
  case atStart => exact ⟨0, _, Nat.zero_le _, rfl, ⟨by simp, fun x hx => by rw [List.eq_of_mem_replicate hx]; decide, fun i hi => by omega⟩, hrow.at, Wr.refl _ _ _ _⟩
  case round =>
    obtain ⟨k, r, hk, rfl, hinv, hat, hwr⟩ := hrel
    have hlen := hinv.len
    by_cases hlt : k < m
    · obtain ⟨i, hi⟩ : ∃ i : Nat, (k : Int) / 8 = i := ⟨k / 8, by omega⟩
      obtain ⟨j, hj⟩ : ∃ j : Nat, (k : Int) % 8 = j := ⟨k % 8, by omega⟩
      obtain ⟨h, hh⟩ : ∃ h : Nat, (m : Int) - 1 - k = h := ⟨m - 1 - k, by omega⟩
      have hi1 : (i : Int) < n := by omega
      have hh1 : (h : Int) < m := by omega
      have hj1 : j < 8 := by omega
      rcases ha2.loc with e | rfl
      · subst e; simp at hl; omega
      have hcz := (ha2.wr hwr hne).cell i (by omega)
      have hfr := hwr.free (hrow.free 0 m) h (by omega)
      have hco := hat.cell h (by omega)
      rw [Nat.zero_add] at hfr hco
      have hx := wl.nth i
      have hby := byte_at wl k (by omega)
      rw [show k / 8 = i from by omega, show k % 8 = j from by omega] at hby
      have HS : Hid (TbInv (val l) m (k + 1) (r.set h (nth l i / 2 ^ (8 * j) % 256))) := by
        have := hinv.step (x := nth l i / 2 ^ (8 * j) % 256) hlt hby
        rwa [show m - 1 - k = h from by omega] at this
      have HA := (show Hid _ from hat)
      have HW := (show Hid _ from hwr)
      clear hat hwr hinv hrow ha2 wl hby
      generalize nth l i = x at *
      go_wp2_with fail
      rw [Nat.mul_comm j 8]
      refine ⟨⟨k + 1, _, by omega, by go_num, HS.out, ?_, ?_⟩, by simp [intOf]; omega⟩
      · have := HA.out.setCell (i := h) (by omega) (x / 2 ^ (8 * j) % 256)
        rwa [Nat.zero_add] at this
      · exact HW.out.setCell (by omega) (by omega) _
    · have hkn : k = m := by omega
      subst hkn
      have HI := hinv.done hV hB1 hB2
      have hfz := hwr.free (hrow.free 0 k)
      have HB := (hb1.trans (hbel.mono hsz1)).trans (hwr.below hsz1)
      clear hinv hrow hwr hbel ha2 hb1
      go_wp2
      go_ret
      exact ⟨_, r, rfl, NewB.of hlen.symm (Nat.le_refl _) hsz1 hat hfz, HI, by omega, by omega, HB⟩
end Go.Proofs.YtagnmdejdeeenaaGreat
