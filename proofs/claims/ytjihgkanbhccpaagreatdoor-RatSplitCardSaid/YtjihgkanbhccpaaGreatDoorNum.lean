/- Lists of 64-bit limbs as numbers: their values, normal lists, and that a normal list is told by its value. -/
namespace Go.Proofs.YtjihgkanbhccpaaGreatDoor
namespace Lim

def nth (l : List Int) (i : Nat) : Int := l.getD i 0

def val : List Int → Int
  | [] => 0
  | x :: l => x + 18446744073709551616 * val l

def Words (l : List Int) : Prop := ∀ x ∈ l, 0 ≤ x ∧ x < 18446744073709551616

/-- how many limbs are left, noughts at the end cut off -/
def nlen : List Int → Nat
  | [] => 0
  | x :: l => if nlen l = 0 then (if x = 0 then 0 else 1) else nlen l + 1

def norm (l : List Int) : List Int := l.take (nlen l)

/-- the normal list of a value -/
def IsN (l : List Int) (n : Int) : Prop := Words l ∧ nlen l = l.length ∧ val l = n

theorem nth_nil (i : Nat) : nth [] i = 0 := by simp [nth]
theorem nth_zero (x : Int) (l : List Int) : nth (x :: l) 0 = x := by simp [nth]
theorem nth_succ (x : Int) (l : List Int) (i : Nat) : nth (x :: l) (i + 1) = nth l i := by simp [nth]
theorem nth_ge {l : List Int} {i : Nat} (h : l.length ≤ i) : nth l i = 0 := by
  simp [nth, List.getElem?_eq_none h]
theorem nth_eq {l : List Int} {i : Nat} (h : i < l.length) : nth l i = l[i] := by
  simp [nth, List.getElem?_eq_getElem h]
theorem nth_mem {l : List Int} {i : Nat} (h : i < l.length) : nth l i ∈ l := by
  rw [nth_eq h]; exact List.getElem_mem h
theorem Words.nth {l : List Int} (h : Words l) (i : Nat) : 0 ≤ nth l i ∧ nth l i < 18446744073709551616 := by
  by_cases hi : i < l.length
  · exact h _ (nth_mem hi)
  · rw [nth_ge (by omega)]; decide
theorem Words.nil : Words [] := fun _ h => by simp at h
theorem Words.cons {x : Int} {l : List Int} (h0 : 0 ≤ x) (h1 : x < 18446744073709551616) (h : Words l) : Words (x :: l) := by
  intro y hy
  rcases List.mem_cons.1 hy with e | e
  · subst e; exact ⟨h0, h1⟩
  · exact h y e
theorem Words.tail {x : Int} {l : List Int} (h : Words (x :: l)) : Words l := fun y hy => h y (List.mem_cons_of_mem _ hy)
theorem Words.head {x : Int} {l : List Int} (h : Words (x :: l)) : 0 ≤ x ∧ x < 18446744073709551616 := h x (List.mem_cons_self)
theorem Words.take {l : List Int} (h : Words l) (k : Nat) : Words (l.take k) := fun x hx => h x (List.mem_of_mem_take hx)
theorem Words.drop {l : List Int} (h : Words l) (k : Nat) : Words (l.drop k) := fun x hx => h x (List.mem_of_mem_drop hx)
theorem Words.append {a b : List Int} (ha : Words a) (hb : Words b) : Words (a ++ b) := by
  intro x hx
  rcases List.mem_append.1 hx with e | e
  · exact ha x e
  · exact hb x e
theorem nth_take {l : List Int} {k i : Nat} (h : i < k) : nth (l.take k) i = nth l i := by
  simp [nth, h]
theorem nth_drop (l : List Int) (k i : Nat) : nth (l.drop k) i = nth l (k + i) := by
  simp [nth, List.getElem?_drop]
theorem nth_append_left {a b : List Int} {i : Nat} (h : i < a.length) : nth (a ++ b) i = nth a i := by
  simp [nth, List.getElem?_append_left h]
theorem nth_append_right {a b : List Int} {i : Nat} (h : a.length ≤ i) : nth (a ++ b) i = nth b (i - a.length) := by
  simp [nth, List.getElem?_append_right h]
theorem nth_ext {a b : List Int} (hl : a.length = b.length) (h : ∀ i, i < a.length → nth a i = nth b i) : a = b := by
  apply List.ext_getElem hl
  intro i h1 h2
  have := h i h1
  rwa [nth_eq h1, nth_eq h2] at this
theorem nth_set {l : List Int} {k i : Nat} {x : Int} (hk : k < l.length) : nth (l.set k x) i = if i = k then x else nth l i := by
  simp only [nth, List.getD_eq_getElem?_getD, List.getElem?_set]
  by_cases h : k = i
  · subst h; simp [hk]
  · simp [h, show ¬ i = k from fun e => h e.symm]
theorem Words.set {l : List Int} (h : Words l) (k : Nat) {x : Int} (h0 : 0 ≤ x) (h1 : x < 18446744073709551616) : Words (l.set k x) := by
  intro y hy
  rcases List.mem_or_eq_of_mem_set hy with e | e
  · exact h y e
  · subst e; exact ⟨h0, h1⟩
theorem take_succ_nth {l : List Int} {k : Nat} (h : k < l.length) : l.take (k + 1) = l.take k ++ [nth l k] := by
  rw [nth_eq h, List.take_succ_eq_append_getElem h]

theorem val_nonneg {l : List Int} (h : Words l) : 0 ≤ val l := by
  induction l with
  | nil => simp [val]
  | cons x l ih => have := h.head; have := ih h.tail; simp only [val]; omega
theorem val_append (a b : List Int) : val (a ++ b) = val a + 18446744073709551616 ^ a.length * val b := by
  induction a with
  | nil => simp [val]
  | cons x a ih => simp only [List.cons_append, val, ih, List.length_cons, Int.pow_succ]; grind
theorem val_lt {l : List Int} (h : Words l) : val l < 18446744073709551616 ^ l.length := by
  induction l with
  | nil => simp [val]
  | cons x l ih =>
    have := h.head; have := ih h.tail
    simp only [val, List.length_cons, Int.pow_succ]; omega
theorem val_single (x : Int) : val [x] = x := by simp [val]
theorem val_take_succ {l : List Int} {k : Nat} (h : k < l.length) : val (l.take (k + 1)) = val (l.take k) + 18446744073709551616 ^ k * nth l k := by
  rw [take_succ_nth h, val_append, val_single, List.length_take, Nat.min_eq_left (by omega)]
theorem val_split (l : List Int) (k : Nat) (h : k ≤ l.length) : val l = val (l.take k) + 18446744073709551616 ^ k * val (l.drop k) := by
  conv => lhs; rw [← List.take_append_drop k l]
  rw [val_append, List.length_take, Nat.min_eq_left h]

theorem nlen_le (l : List Int) : nlen l ≤ l.length := by
  induction l with
  | nil => simp [nlen]
  | cons x l ih => simp only [nlen, List.length_cons]; split <;> (try split) <;> omega
theorem nlen_zero_iff {l : List Int} : nlen l = 0 ↔ ∀ i, nth l i = 0 := by
  induction l with
  | nil => simp [nlen, nth]
  | cons x l ih =>
    simp only [nlen]
    constructor
    · intro h i
      by_cases e : nlen l = 0
      · by_cases x0 : x = 0
        · cases i with
          | zero => rw [nth_zero, x0]
          | succ i => rw [nth_succ]; exact ih.1 e i
        · simp [e, x0] at h
      · simp [e] at h
    · intro h
      have h0 : x = 0 := by have := h 0; rwa [nth_zero] at this
      have hl : nlen l = 0 := ih.2 fun i => by have := h (i + 1); rwa [nth_succ] at this
      simp [hl, h0]
/-- from where on all are noughts, with a limb that isn't one right below -/
theorem nlen_of {l : List Int} {k : Nat} (hk : k ≤ l.length) (h0 : ∀ i, k ≤ i → nth l i = 0) (h1 : k ≠ 0 → nth l (k - 1) ≠ 0) : nlen l = k := by
  induction l generalizing k with
  | nil => simp [nlen] at *; omega
  | cons x l ih =>
    cases k with
    | zero =>
      have : nlen (x :: l) = 0 := nlen_zero_iff.2 fun i => h0 i (Nat.zero_le _)
      exact this
    | succ k =>
      have e : nlen l = k := ih (by simpa using hk) (fun i hi => by have := h0 (i + 1) (by omega); rwa [nth_succ] at this) (fun hk0 => by
        have := h1 (by omega); rw [show k + 1 - 1 = (k - 1) + 1 from by omega, nth_succ] at this; exact this)
      simp only [nlen, e]
      by_cases hk0 : k = 0
      · subst hk0
        have := h1 (by omega); rw [show (0 + 1 - 1) = 0 from rfl, nth_zero] at this
        simp [this]
      · simp [hk0]
theorem nlen_above {l : List Int} {i : Nat} (h : nlen l ≤ i) : nth l i = 0 := by
  induction l generalizing i with
  | nil => simp [nth]
  | cons x l ih =>
    simp only [nlen] at h
    by_cases e : nlen l = 0
    · simp only [e, if_true] at h
      cases i with
      | zero => by_cases x0 : x = 0
                · rw [nth_zero, x0]
                · simp [x0] at h
      | succ i => rw [nth_succ]; exact nlen_zero_iff.1 e i
    · simp only [e, if_false] at h
      cases i with
      | zero => omega
      | succ i => rw [nth_succ]; exact ih (by omega)
theorem nlen_last {l : List Int} (h : nlen l ≠ 0) : nth l (nlen l - 1) ≠ 0 := by
  induction l with
  | nil => simp [nlen] at h
  | cons x l ih =>
    simp only [nlen] at h ⊢
    by_cases e : nlen l = 0
    · simp only [e, if_true] at h ⊢
      by_cases x0 : x = 0
      · simp [x0] at h
      · simp [x0, nth_zero]
    · simp only [e, if_false] at h ⊢
      have := ih e
      rw [show nlen l + 1 - 1 = (nlen l - 1) + 1 from by omega, nth_succ]; exact this
theorem norm_length (l : List Int) : (norm l).length = nlen l := by
  rw [norm, List.length_take, Nat.min_eq_left (nlen_le l)]
theorem norm_nth (l : List Int) (i : Nat) : nth (norm l) i = nth l i := by
  by_cases h : i < nlen l
  · exact nth_take h
  · rw [nth_ge (by rw [norm_length]; omega), nlen_above (by omega)]
theorem Words.norm {l : List Int} (h : Words l) : Words (norm l) := h.take _
theorem nlen_norm (l : List Int) : nlen (norm l) = (norm l).length := by
  rw [norm_length]
  apply nlen_of (by rw [norm_length]; omega)
  · intro i hi; rw [norm_nth]; exact nlen_above hi
  · intro h; rw [norm_nth]; exact nlen_last h
theorem val_zeros {l : List Int} (h : ∀ i, nth l i = 0) : val l = 0 := by
  induction l with
  | nil => rfl
  | cons x l ih =>
    have h0 := h 0; rw [nth_zero] at h0
    rw [val, h0, ih fun i => by have := h (i + 1); rwa [nth_succ] at this]; rfl
theorem val_norm (l : List Int) : val (norm l) = val l := by
  rw [val_split l (nlen l) (nlen_le l), val_zeros (l := l.drop (nlen l)) fun i => by rw [nth_drop]; exact nlen_above (by omega)]
  simp [norm]
theorem isN_norm {l : List Int} (h : Words l) : IsN (norm l) (val l) := ⟨h.norm, nlen_norm l, val_norm l⟩
theorem norm_of_isN {l : List Int} {n : Int} (h : IsN l n) : norm l = l := by
  rw [norm, h.2.1]; exact List.take_of_length_le (Nat.le_refl _)

theorem val_pos {l : List Int} (h : Words l) (hn : nlen l ≠ 0) : 0 < val l := by
  induction l with
  | nil => simp [nlen] at hn
  | cons x l ih =>
    have hx := h.head; have hv := val_nonneg h.tail
    simp only [val]
    by_cases e : nlen l = 0
    · simp only [nlen, e, if_true] at hn
      have : x ≠ 0 := by intro x0; simp [x0] at hn
      omega
    · have := ih h.tail e; omega
theorem nlen_eq_zero_iff_val {l : List Int} (h : Words l) : nlen l = 0 ↔ val l = 0 := by
  constructor
  · intro e; exact val_zeros (nlen_zero_iff.1 e)
  · intro e
    by_cases n : nlen l = 0
    · exact n
    · have := val_pos h n; omega
/-- values by lengths -/
theorem val_ge_of_nlen {l : List Int} (h : Words l) (hn : nlen l ≠ 0) : 18446744073709551616 ^ (nlen l - 1) ≤ val l := by
  have e := val_norm l
  have hl := norm_length l
  have hw := h.norm
  have hs := val_split (norm l) (nlen l - 1) (by omega)
  have hd : (norm l).drop (nlen l - 1) = [nth l (nlen l - 1)] := by
    apply nth_ext
    · simp [hl]; omega
    · intro i hi
      simp [hl] at hi
      have : i = 0 := by omega
      subst this
      rw [nth_drop, norm_nth, nth_zero]; rfl
  have h0 := val_nonneg (hw.take (nlen l - 1))
  have hx := h.nth (nlen l - 1)
  have hne := nlen_last hn
  have hp : (0 : Int) < 18446744073709551616 ^ (nlen l - 1) := Int.pow_pos (by decide)
  rw [hd, val_single] at hs
  have : 18446744073709551616 ^ (nlen l - 1) * 1 ≤ 18446744073709551616 ^ (nlen l - 1) * nth l (nlen l - 1) := Int.mul_le_mul_of_nonneg_left (by omega) (Int.le_of_lt hp)
  omega
theorem val_lt_nlen {l : List Int} (h : Words l) : val l < 18446744073709551616 ^ nlen l := by
  have := val_lt h.norm
  rwa [val_norm, norm_length] at this

theorem val_inj : ∀ {a b : List Int}, Words a → Words b → a.length = b.length → val a = val b → a = b
  | [], [], _, _, _, _ => rfl
  | x :: a, y :: b, ha, hb, hl, hv => by
    have h1 := ha.head; have h2 := hb.head
    simp only [val] at hv
    have e : x = y := by omega
    have e2 : val a = val b := by omega
    rw [e, val_inj ha.tail hb.tail (by simpa using hl) e2]
theorem pow_mono {a b : Nat} (h : a ≤ b) : (18446744073709551616 : Int) ^ a ≤ 18446744073709551616 ^ b := by
  obtain ⟨d, rfl⟩ := Nat.exists_eq_add_of_le h
  rw [Int.pow_add]
  have hp : (0 : Int) < 18446744073709551616 ^ a := Int.pow_pos (by decide)
  have hq : (0 : Int) < 18446744073709551616 ^ d := Int.pow_pos (by decide)
  have : (18446744073709551616 : Int) ^ a * 1 ≤ 18446744073709551616 ^ a * 18446744073709551616 ^ d := Int.mul_le_mul_of_nonneg_left (by omega) (Int.le_of_lt hp)
  omega
theorem val_lt_of_nlen_lt {a b : List Int} (ha : Words a) (hb : Words b) (h : nlen a < nlen b) : val a < val b := by
  have h1 := val_lt_nlen ha
  have h2 := val_ge_of_nlen hb (by omega)
  have := pow_mono (show nlen a ≤ nlen b - 1 by omega)
  omega
theorem nlen_eq_of_val {a b : List Int} (ha : Words a) (hb : Words b) (h : val a = val b) : nlen a = nlen b := by
  rcases Nat.lt_trichotomy (nlen a) (nlen b) with h1 | h1 | h1
  · have := val_lt_of_nlen_lt ha hb h1; omega
  · exact h1
  · have := val_lt_of_nlen_lt hb ha h1; omega
theorem isN_unique {a b : List Int} {n : Int} (ha : IsN a n) (hb : IsN b n) : a = b := by
  apply val_inj ha.1 hb.1
  · rw [← ha.2.1, ← hb.2.1]; exact nlen_eq_of_val ha.1 hb.1 (ha.2.2.trans hb.2.2.symm)
  · exact ha.2.2.trans hb.2.2.symm
theorem norm_eq_iff {a b : List Int} (ha : Words a) (hb : Words b) : norm a = norm b ↔ val a = val b := by
  constructor
  · intro h; rw [← val_norm a, ← val_norm b, h]
  · intro h; exact isN_unique (n := val b) (h ▸ isN_norm ha) (isN_norm hb)
end Lim
end Go.Proofs.YtjihgkanbhccpaaGreatDoor
