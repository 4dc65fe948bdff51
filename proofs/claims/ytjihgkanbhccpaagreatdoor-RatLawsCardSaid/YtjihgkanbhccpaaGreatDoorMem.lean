/- Lists of limbs in memory, and what a call that writes a stretch of one block leaves. -/
import Derived.Test.YtjihgkanbhccpaaGreatDoorTrim
namespace Go.Proofs.YtjihgkanbhccpaaGreatDoor
open Go.RowKit Lim

/-- the limbs of l lie from place o of block b on (an empty list lies anywhere) -/
structure At (w : World) (ao : Option Addr) (b o : Nat) (l : List Int) : Prop where
  loc : l = [] ∨ ao = some ⟨b, o, none⟩
  cell : ∀ i, i < l.length → w.cell? ⟨b, o + i, none⟩ = some (.int .u64 (nth l i))

theorem At.cells {w : World} {ao : Option Addr} {b o : Nat} {l : List Int} (h : At w ao b o l) : Cells w ao l := by
  rcases h.loc with e | e
  · exact .inl e
  · exact .inr ⟨b, o, e, h.cell⟩

theorem Cells.at {w : World} {ao : Option Addr} {l : List Int} (h : Cells w ao l) : ∃ b o, At w ao b o l := by
  rcases h with e | ⟨b, o, e, h⟩
  · exact ⟨0, 0, .inl e, fun i hi => by subst e; simp at hi⟩
  · exact ⟨b, o, .inr e, h⟩

/-- the n cells from o on may be written -/
def Free (w : World) (b o n : Nat) : Prop := ∀ i, i < n → w.frozen? ⟨b, o + i, none⟩ = false

/-- only the n cells from o on of block b are written -/
structure Wr (b o n : Nat) (w w' : World) : Prop where
  os : w'.os = w.os
  tape : w'.tape = w.tape
  output : w'.output = w.output
  size : w'.heap.size = w.heap.size
  block : ∀ k, k ≠ b → w'.heap[k]? = w.heap[k]?
  cell : ∀ i, (i < o ∨ o + n ≤ i) → w'.cell? ⟨b, i, none⟩ = w.cell? ⟨b, i, none⟩
  frozen : ∀ i, w'.frozen? ⟨b, i, none⟩ = w.frozen? ⟨b, i, none⟩

theorem Wr.refl (b o n : Nat) (w : World) : Wr b o n w w := ⟨rfl, rfl, rfl, rfl, fun _ _ => rfl, fun _ _ => rfl, fun _ => rfl⟩
theorem Wr.trans {b o n : Nat} {w w1 w2 : World} (h : Wr b o n w w1) (k : Wr b o n w1 w2) : Wr b o n w w2 :=
  ⟨k.os.trans h.os, k.tape.trans h.tape, k.output.trans h.output, k.size.trans h.size, fun i hi => (k.block i hi).trans (h.block i hi), fun i hi => (k.cell i hi).trans (h.cell i hi), fun i => (k.frozen i).trans (h.frozen i)⟩
theorem Wr.mono {b o n o' n' : Nat} {w w' : World} (h : Wr b o n w w') (h1 : o' ≤ o) (h2 : o + n ≤ o' + n') : Wr b o' n' w w' :=
  ⟨h.os, h.tape, h.output, h.size, h.block, fun i hi => h.cell i (by omega), h.frozen⟩
theorem Wr.setCell {b o n : Nat} {w w1 : World} (h : Wr b o n w w1) {i : Nat} (h1 : o ≤ i) (h2 : i < o + n) (v : Value) : Wr b o n w (w1.setCell ⟨b, i, none⟩ v) :=
  h.trans ⟨rfl, rfl, rfl, by simp [World.setCell], fun k hk => Below.heap_setCell _ _ _ _ hk, fun j hj => by
      simp only [World.cell?, World.setCell, Array.getElem?_modify, if_true]
      cases hh : w1.heap[b]? with
      | none => simp
      | some ob =>
        cases ob <;> simp
        rw [Array.getElem?_setIfInBounds, if_neg (by omega)], fun j => by
      simp only [World.frozen?, World.setCell, Array.getElem?_modify, if_true]
      cases hh : w1.heap[b]? with
      | none => simp
      | some ob => cases ob <;> simp⟩
theorem Wr.other {b o n : Nat} {w w' : World} (h : Wr b o n w w') {k i : Nat} (hk : k ≠ b) : w'.cell? ⟨k, i, none⟩ = w.cell? ⟨k, i, none⟩ := World.cell?_of_block (w := w) (h.block k hk)
theorem Wr.below {b o n B : Nat} {w w' : World} (h : Wr b o n w w') (hB : B ≤ b) : Below B w w' :=
  ⟨h.os, h.tape, h.output, by rw [h.size]; exact Nat.le_refl _, fun k hk => h.block k (by omega)⟩
theorem Wr.free {b o n : Nat} {w w' : World} (h : Wr b o n w w') {b' o' n' : Nat} (k : Free w b' o' n') : Free w' b' o' n' := by
  intro i hi
  by_cases e : b' = b
  · subst e; rw [h.frozen]; exact k i hi
  · rw [World.frozen?_of_block (w := w) (h.block b' e)]; exact k i hi
theorem At.wr {b o n : Nat} {w w' : World} (h : Wr b o n w w') {ao : Option Addr} {b' o' : Nat} {l : List Int} (k : At w ao b' o' l) (hb : l = [] ∨ b' ≠ b) : At w' ao b' o' l :=
  ⟨k.loc, fun i hi => by
    rcases hb with e | e
    · subst e; simp at hi
    · rw [h.other e]; exact k.cell i hi⟩
/-- a list in the block, outside what is written -/
theorem At.wr_out {b o n : Nat} {w w' : World} (h : Wr b o n w w') {ao : Option Addr} {b' o' : Nat} {l : List Int} (k : At w ao b' o' l) (hb : o' + l.length ≤ o ∨ o + n ≤ o') : At w' ao b' o' l :=
  ⟨k.loc, fun i hi => by
    by_cases e : b' = b
    · subst e; rw [h.cell _ (by omega)]; exact k.cell i hi
    · rw [h.other e]; exact k.cell i hi⟩
theorem At.below {B : Nat} {w w' : World} (h : Below B w w') {ao : Option Addr} {b o : Nat} {l : List Int} (k : At w ao b o l) (hb : l = [] ∨ b < B) : At w' ao b o l :=
  ⟨k.loc, fun i hi => by
    rcases hb with e | e
    · subst e; simp at hi
    · rw [h.cell (p := ⟨b, o + i, none⟩) e]; exact k.cell i hi⟩
theorem cell_lt {w : World} {b o : Nat} {v : Value} (h : w.cell? ⟨b, o, none⟩ = some v) : b < w.heap.size := by
  simp only [World.cell?] at h
  by_cases hb : b < w.heap.size
  · exact hb
  · rw [Array.getElem?_eq_none (by omega)] at h; simp at h
theorem At.lt {w : World} {ao : Option Addr} {b o : Nat} {l : List Int} (k : At w ao b o l) : l = [] ∨ b < w.heap.size := by
  cases l with
  | nil => exact .inl rfl
  | cons x l => exact .inr (cell_lt (k.cell 0 (by simp)))
theorem At.keep {w w' : World} (h : Below w.heap.size w w') {ao : Option Addr} {b o : Nat} {l : List Int} (k : At w ao b o l) : At w' ao b o l := k.below h k.lt
/-- one limb is stored -/
theorem At.setCell {w : World} {ao : Option Addr} {b o : Nat} {l : List Int} (k : At w ao b o l) {i : Nat} (hi : i < l.length) (x : Int) : At (w.setCell ⟨b, o + i, none⟩ (.int .u64 x)) ao b o (l.set i x) :=
  ⟨by rcases k.loc with e | e
      · subst e; simp at hi
      · exact .inr e, fun j hj => by
    rw [List.length_set] at hj
    have hc := k.cell j hj
    rw [nth_set hi]
    have hci := k.cell i hi
    simp only [World.cell?, World.setCell, Array.getElem?_modify, if_true] at hc hci ⊢
    cases hh : w.heap[b]? with
    | none => rw [hh] at hc; simp at hc
    | some ob =>
      rw [hh] at hc hci
      cases ob with
      | cells c e f =>
        simp at hc hci ⊢
        rw [Array.getElem?_setIfInBounds]
        by_cases e : j = i
        · subst e
          obtain ⟨hlt, _⟩ := Array.getElem?_eq_some_iff.1 hci
          simp [hlt]
        · rw [if_neg (by omega), if_neg e]; exact hc
      | _ => simp at hc⟩
theorem At.drew {w : World} {ao : Option Addr} {b o : Nat} {l : List Int} (h : At w ao b o l) : At w.drew ao b o l := ⟨h.loc, h.cell⟩
theorem Free.drew {w : World} {b o n : Nat} (h : Free w b o n) : Free w.drew b o n := h
theorem Wr.drew {b o n : Nat} {w w' : World} (h : Wr b o n w w') : Wr b o n w w'.drew := ⟨h.os, h.tape, h.output, h.size, h.block, h.cell, h.frozen⟩
theorem At.drewN {w : World} {ao : Option Addr} {b o : Nat} {l : List Int} (h : At w ao b o l) (n : Nat) : At (w.drewN n) ao b o l := ⟨h.loc, h.cell⟩
theorem Free.drewN {w : World} {b o n : Nat} (h : Free w b o n) (k : Nat) : Free (w.drewN k) b o n := h
theorem Wr.drewN {b o n : Nat} {w w' : World} (h : Wr b o n w w') (k : Nat) : Wr b o n w (w'.drewN k) := ⟨h.os, h.tape, h.output, h.size, h.block, h.cell, h.frozen⟩
/-- a stretch of l, written anew -/
def patch (l : List Int) (k : Nat) (m : List Int) : List Int := l.take k ++ (m ++ l.drop (k + m.length))
theorem patch_length {l m : List Int} {k : Nat} (h : k + m.length ≤ l.length) : (patch l k m).length = l.length := by simp [patch]; omega
theorem patch_words {l m : List Int} {k : Nat} (hl : Words l) (hm : Words m) : Words (patch l k m) := (hl.take k).append (hm.append (hl.drop _))
theorem patch_nth_in {l m : List Int} {k i : Nat} (h : k + m.length ≤ l.length) (hi : i < m.length) : nth (patch l k m) (k + i) = nth m i := by
  have e : (l.take k).length = k := by simp; omega
  rw [patch, nth_append_right (by omega), e, Nat.add_sub_cancel_left, nth_append_left hi]
theorem patch_nth_out {l m : List Int} {k i : Nat} (h : k + m.length ≤ l.length) (hi : i < k ∨ k + m.length ≤ i) : nth (patch l k m) i = nth l i := by
  have e : (l.take k).length = k := by simp; omega
  rcases hi with hi | hi
  · rw [patch, nth_append_left (by omega), nth_take hi]
  · rw [patch, nth_append_right (by omega), e, nth_append_right (by omega), nth_drop]; congr 1; omega
theorem patch_val {l m : List Int} {k : Nat} (h : k + m.length ≤ l.length) : val (patch l k m) = val l + 18446744073709551616 ^ k * (val m - val ((l.drop k).take m.length)) := by
  have e : (l.take k).length = k := by simp; omega
  have h1 := val_split l k (by omega)
  have h2 := val_split (l.drop k) m.length (by simp; omega)
  rw [List.drop_drop] at h2
  rw [patch, val_append, val_append, e, h1, h2]
  grind
theorem At.patch {w w' : World} {ao ao' : Option Addr} {b o k n : Nat} {l m : List Int} (h : At w ao b o l) (hw : Wr b (o + k) n w w') (hm : At w' ao' b (o + k) m) (hn : m.length = n) (hk : k + n ≤ l.length) : At w' ao b o (patch l k m) :=
  ⟨by rcases h.loc with e | e
      · left; subst e; simp at hk; simp [Go.Proofs.YtjihgkanbhccpaaGreatDoor.patch, List.eq_nil_of_length_eq_zero (show m.length = 0 by omega)]
      · exact .inr e, fun i hi => by
    rw [patch_length (by omega)] at hi
    by_cases hin : k ≤ i ∧ i < k + n
    · obtain ⟨j, rfl⟩ := Nat.exists_eq_add_of_le hin.1
      rw [patch_nth_in (by omega) (by omega), ← hm.cell j (by omega), Nat.add_assoc]
    · rw [patch_nth_out (by omega) (by omega), hw.cell _ (by omega)]; exact h.cell i hi⟩
theorem At.window {w : World} {ao : Option Addr} {b o : Nat} {l : List Int} (h : At w ao b o l) (k n : Nat) : At w (some ⟨b, o + k, none⟩) b (o + k) ((l.drop k).take n) :=
  ⟨.inr rfl, fun i hi => by
    simp only [List.length_take, List.length_drop] at hi
    rw [nth_take (by omega), nth_drop, Nat.add_assoc]; exact h.cell _ (by omega)⟩
theorem Free.window {w : World} {b o n : Nat} (h : Free w b o n) {k m : Nat} (hk : k + m ≤ n) : Free w b (o + k) m := fun i hi => by
  rw [Nat.add_assoc]; exact h _ (by omega)
theorem At.sub {w : World} {ao : Option Addr} {b o : Nat} {l : List Int} (k : At w ao b o l) (n : Nat) : At w ao b o (l.take n) :=
  ⟨by rcases k.loc with e | e
      · subst e; exact .inl (by simp)
      · exact .inr e, fun i hi => by
    rw [List.length_take] at hi
    rw [nth_take (by omega)]; exact k.cell i (by omega)⟩
end Go.Proofs.YtjihgkanbhccpaaGreatDoor
