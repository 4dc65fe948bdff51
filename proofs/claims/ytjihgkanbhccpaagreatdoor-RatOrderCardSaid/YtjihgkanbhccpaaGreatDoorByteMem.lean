/- Lists of bytes in memory; gleanhelp.Bytes; what bytes are worth. -/
import Derived.Test.YtjihgkanbhccpaaGreatDoorHelp
import Derived.Test.YtjihgkanbhccpaaGreatDoorAdd
namespace Go.Proofs.YtjihgkanbhccpaaGreatDoor
open Go.RowKit Lim

structure AtB (w : World) (ao : Option Addr) (b o : Nat) (l : List Int) : Prop where
  loc : l = [] ∨ ao = some ⟨b, o, none⟩
  cell : ∀ i, i < l.length → w.cell? ⟨b, o + i, none⟩ = some (.int .u8 (nth l i))
theorem AtB.lt {w : World} {ao : Option Addr} {b o : Nat} {l : List Int} (k : AtB w ao b o l) : l = [] ∨ b < w.heap.size := by
  cases l with
  | nil => exact .inl rfl
  | cons x l => exact .inr (cell_lt (k.cell 0 (by simp)))
theorem AtB.keep {w w' : World} (h : Below w.heap.size w w') {ao : Option Addr} {b o : Nat} {l : List Int} (k : AtB w ao b o l) : AtB w' ao b o l :=
  ⟨k.loc, fun i hi => by
    rcases k.lt with e | e
    · subst e; simp at hi
    · rw [h.cell (p := ⟨b, o + i, none⟩) e]; exact k.cell i hi⟩
theorem AtB.wr {b o n : Nat} {w w' : World} (h : Wr b o n w w') {ao : Option Addr} {b' o' : Nat} {l : List Int} (k : AtB w ao b' o' l) (hb : l = [] ∨ b' ≠ b) : AtB w' ao b' o' l :=
  ⟨k.loc, fun i hi => by
    rcases hb with e | e
    · subst e; simp at hi
    · rw [h.other e]; exact k.cell i hi⟩
theorem AtB.setCell {w : World} {ao : Option Addr} {b o : Nat} {l : List Int} (k : AtB w ao b o l) {i : Nat} (hi : i < l.length) (x : Int) : AtB (w.setCell ⟨b, o + i, none⟩ (.int .u8 x)) ao b o (l.set i x) :=
  ⟨by rcases k.loc with e | e
      · subst e; simp at hi
      · exact .inr e, fun j hj => by
    rw [List.length_set] at hj
    have hc := k.cell j hj
    rw [nth_set hi]
    have hci := k.cell i hi
    simp only [World.cell?, World.setCell, Array.getElem?_modify, if_true] at hc hci ⊢
    cases hh : w.heap[b]? with
    | none => rw [hh] at hc; simp at hc
    | some ob =>
      rw [hh] at hc hci
      cases ob with
      | cells c e f =>
        simp at hc hci ⊢
        rw [Array.getElem?_setIfInBounds]
        by_cases e : j = i
        · subst e
          obtain ⟨hlt, _⟩ := Array.getElem?_eq_some_iff.1 hci
          simp [hlt]
        · rw [if_neg (by omega), if_neg e]; exact hc
      | _ => simp at hc⟩
/-- a list of bytes in memory that was not there before -/
structure NewB (w w' : World) (v : Value) (l : List Int) : Prop where
  is : ∃ ao b o c, v = .slice ao l.length c ∧ l.length ≤ c ∧ w.heap.size ≤ b ∧ AtB w' ao b o l ∧ Free w' b o l.length

def Octets (l : List Int) : Prop := ∀ x ∈ l, 0 ≤ x ∧ x < 256
theorem Octets.nth {l : List Int} (h : Octets l) (i : Nat) : 0 ≤ nth l i ∧ nth l i < 256 := by
  by_cases hi : i < l.length
  · exact h _ (nth_mem hi)
  · rw [nth_ge (by omega)]; decide
/-- bytes' worth, the highest first -/
def bval : List Int → Int
  | [] => 0
  | x :: l => x * 256 ^ l.length + bval l
theorem bval_bound {l : List Int} (h : Octets l) : 0 ≤ bval l ∧ bval l < 256 ^ l.length := by
  induction l with
  | nil => simp [bval]
  | cons x l ih =>
    have h1 := ih (fun y hy => h y (List.mem_cons_of_mem _ hy))
    have h2 := h x List.mem_cons_self
    have hp : (0 : Int) < 256 ^ l.length := Int.pow_pos (by decide)
    have h3 : 0 ≤ x * 256 ^ l.length := Int.mul_nonneg h2.1 (Int.le_of_lt hp)
    have h4 : x * 256 ^ l.length ≤ 255 * 256 ^ l.length := Int.mul_le_mul_of_nonneg_right (by omega) (Int.le_of_lt hp)
    rw [bval, List.length_cons, Int.pow_succ]; omega
/-- the bytes of a value -/
def IsB (l : List Int) (n : Int) : Prop := Octets l ∧ (l ≠ [] → nth l 0 ≠ 0) ∧ bval l = n
theorem bval_inj : ∀ {a b : List Int}, Octets a → Octets b → a.length = b.length → bval a = bval b → a = b
  | [], [], _, _, _, _ => rfl
  | x :: a, y :: b, ha, hb, hl, hv => by
    have ha' : Octets a := fun z hz => ha z (List.mem_cons_of_mem _ hz)
    have hb' : Octets b := fun z hz => hb z (List.mem_cons_of_mem _ hz)
    have hl' : a.length = b.length := by simpa using hl
    have h1 := bval_bound ha'
    have h2 := bval_bound hb'
    rw [bval, bval, hl'] at hv
    rw [hl'] at h1
    have hp : (0 : Int) < 256 ^ b.length := Int.pow_pos (by decide)
    have e : x = y := by
      rcases Int.lt_trichotomy x y with c | c | c
      · have : (x + 1) * 256 ^ b.length ≤ y * 256 ^ b.length := Int.mul_le_mul_of_nonneg_right (by omega) (Int.le_of_lt hp)
        rw [Int.add_mul] at this; omega
      · exact c
      · have : (y + 1) * 256 ^ b.length ≤ x * 256 ^ b.length := Int.mul_le_mul_of_nonneg_right (by omega) (Int.le_of_lt hp)
        rw [Int.add_mul] at this; omega
    subst e
    rw [bval_inj ha' hb' hl' (by omega)]
theorem bval_ge {l : List Int} (h : Octets l) (h0 : l ≠ []) (h1 : nth l 0 ≠ 0) : 256 ^ (l.length - 1) ≤ bval l := by
  cases l with
  | nil => exact absurd rfl h0
  | cons x l =>
    rw [nth_zero] at h1
    have h2 := h x List.mem_cons_self
    have h3 := bval_bound (l := l) (fun z hz => h z (List.mem_cons_of_mem _ hz))
    have hp : (0 : Int) < 256 ^ l.length := Int.pow_pos (by decide)
    have : 1 * 256 ^ l.length ≤ x * 256 ^ l.length := Int.mul_le_mul_of_nonneg_right (by omega) (Int.le_of_lt hp)
    rw [bval, List.length_cons, Nat.add_sub_cancel]; omega
theorem pow256_mono {a b : Nat} (h : a ≤ b) : (256 : Int) ^ a ≤ 256 ^ b := by
  have : (256 : Nat) ^ a ≤ 256 ^ b := Nat.pow_le_pow_right (by decide) h
  have e1 : ((256 ^ a : Nat) : Int) = (256 : Int) ^ a := by rw [Int.natCast_pow]; rfl
  have e2 : ((256 ^ b : Nat) : Int) = (256 : Int) ^ b := by rw [Int.natCast_pow]; rfl
  omega
theorem isB_unique {a b : List Int} {n : Int} (ha : IsB a n) (hb : IsB b n) : a = b := by
  apply bval_inj ha.1 hb.1
  · have key : ∀ {a b : List Int}, IsB a n → IsB b n → ¬ a.length < b.length := by
      intro a b ha hb hlt
      have h1 := (bval_bound ha.1).2
      have h2 := bval_ge hb.1 (fun e => by subst e; simp at hlt) (hb.2.1 (fun e => by subst e; simp at hlt))
      rw [ha.2.2] at h1
      rw [hb.2.2] at h2
      have := pow256_mono (show a.length ≤ b.length - 1 by omega)
      omega
    have h1 := key ha hb
    have h2 := key hb ha
    omega
  · rw [ha.2.2, hb.2.2]

end Go.Proofs.YtjihgkanbhccpaaGreatDoor
