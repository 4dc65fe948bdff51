/- Several texts, joined: RefTm. -/
import Derived.Test.YtjihgkanbhccpaaGreatDoorJne
import Derived.Test.YtjihgkanbhccpaaGreatDoorJda
import Derived.Test.YtjihgkanbhccpaaGreatDoorJna
namespace Go.Proofs.YtjihgkanbhccpaaGreatDoor
open Go.RowKit Lim

/-- what decimal digits (as bytes) are worth, the lowest first -/
def rdv : List Int → Int
  | [] => 0
  | c :: l => (c - 48) + 10 * rdv l
theorem rdv_snoc (l : List Int) (c : Int) : rdv (l ++ [c]) = rdv l + 10 ^ l.length * (c - 48) := by
  induction l with
  | nil => simp [rdv]
  | cons x l ih => simp only [List.cons_append, rdv, ih, List.length_cons, Int.pow_succ]; grind
theorem dvI_reverse (l : List Int) : dvI l.reverse = rdv l := by
  induction l with
  | nil => rfl
  | cons x l ih => rw [List.reverse_cons, dvI_snoc, ih, rdv]; omega
/-- how a number is parted: the rest of the digits, nine of them at most, and those that are laid -/
theorem nine_step {N V r O c : Int} {k L : Nat} (h : N = (V * 10 ^ (9 - k) + r) * 10 ^ L + O) (hk : k < 9) (hc : c = 48 + r % 10) :
    N = (V * 10 ^ (9 - (k + 1)) + r / 10) * 10 ^ (L + 1) + (O + 10 ^ L * (c - 48)) := by
  have e : r = 10 * (r / 10) + r % 10 := (Int.mul_ediv_add_emod r 10).symm
  rw [h, hc, show 9 - k = (9 - (k + 1)) + 1 from by omega, Int.pow_succ, Int.pow_succ]
  generalize r / 10 = q at *
  generalize r % 10 = m at *
  subst e
  generalize (10 : Int) ^ (9 - (k + 1)) = P at *
  grind
theorem nine_lt {r : Int} {k : Nat} (hk : k < 9) (h0 : 0 ≤ r) (h : r < 10 ^ (9 - k)) : 0 ≤ r / 10 ∧ r / 10 < 10 ^ (9 - (k + 1)) := by
  refine ⟨by omega, ?_⟩
  rw [show 9 - k = (9 - (k + 1)) + 1 from by omega, Int.pow_succ] at h
  omega
/-- digits from m on are divided by 10^9 -/
structure BilInv (l lz : List Int) (n m : Nat) (r : Int) : Prop where
  len : lz.length = n
  dig : Dig32 lz
  r0 : 0 ≤ r
  r1 : r < 1000000000
  old : ∀ j, j < m → nth lz j = nth l j
  val : v32 (lz.drop m) * 1000000000 + r = v32 (l.drop m)
theorem BilInv.step {l lz : List Int} {n m : Nat} {r s : Int} (h : BilInv l lz n (m + 1) r) (hm : m < n) (hl : Dig32 l) (hs : s = r * 4294967296 + nth l m) :
    BilInv l (lz.set m (s / 1000000000)) n m (s % 1000000000) := by
  have hx := hl.nth m
  have h0 := h.r0
  have h1 := h.r1
  have hln := h.len
  have h5 := h.val
  refine ⟨by simp [hln], h.dig.set _ (by omega) (by omega), by omega, by omega, fun j hj => ?_, ?_⟩
  · rw [nth_set (by omega), if_neg (by omega)]; exact h.old j (by omega)
  · rw [v32_drop_set (by omega), v32_drop l m, ← h5]
    have e : s = 1000000000 * (s / 1000000000) + s % 1000000000 := (Int.mul_ediv_add_emod s 1000000000).symm
    generalize s / 1000000000 = q at *
    generalize s % 1000000000 = t at *
    omega
/-- the number that a slice of digits of 32 bits holds -/
def memD (w : World) : Value → Int
  | .slice (some a) n _ => v32 ((List.range n).map fun i => intOf ((w.cell? ⟨a.block, a.off + i, none⟩).getD undef))
  | _ => 0
theorem memD_at {w : World} {ao : Option Addr} {b o c : Nat} {l : List Int} (h : At w ao b o l) : memD w (.slice ao l.length c) = v32 l := by
  rcases h.loc with e | e
  · subst e; cases ao <;> simp [memD, v32]
  · subst e
    have e : ((List.range l.length).map fun i => intOf ((w.cell? ⟨b, o + i, none⟩).getD undef)) = l := by
      refine nth_ext (by rw [List.length_map, List.length_range]) fun i hi => ?_
      rw [List.length_map, List.length_range] at hi
      rw [nth_eq (by rw [List.length_map, List.length_range]; exact hi)]
      simp [h.cell i hi, intOf]
    show v32 _ = v32 l
    rw [e]
theorem MineB.wr {b o n : Nat} {w w' : World} {B : Nat} {v : Value} {l : List Int} (h : MineB w B v l) (hw : Wr b o n w w') (hb : b < B) : MineB w' B v l := by
  obtain ⟨h1, h2⟩ := h
  refine ⟨h1, ?_⟩
  rcases h2 with h2 | ⟨g, cap, cur, rfl, hB1, hh, hr⟩
  · exact .inl h2
  · exact .inr ⟨g, cap, cur, rfl, hB1, by rw [hw.block g (by omega)]; exact hh, hr⟩
theorem mineB_shape {w : World} {B : Nat} {v : Value} {l : List Int} (h : MineB w B v l) : ∃ ao c, v = .slice ao l.length c := by
  rcases h.2 with ⟨rfl, h0⟩ | ⟨g', cap, cur, rfl, _⟩
  · exact ⟨none, 0, by rw [h0]⟩
  · exact ⟨_, _, rfl⟩
theorem mineB_nil (w : World) (B : Nat) : MineB w B (.slice none 0 0) [] := World.ownsRow_nil w B _ _
theorem mineB_snoc {w : World} {B n : Nat} {v : Value} {l : List Int} {c : Int} (hl : l.length = n) (h : w.ownsRow B 5 1 v (n + 1) (l.map (Value.int .u8) ++ [.int .u8 c])) : MineB w B v (l ++ [c]) := by
  unfold MineB
  rw [List.length_append, hl, List.map_append]; exact h
theorem one_newB (w : World) (u1 : Value) : ∀ j u, [u1][j]? = some u → (w.alloc (.cells #[u1] 5)).cell? ((⟨w.heap.size, 0, none⟩ : Addr).add j) = some u := by
  intro j u hj
  match j, hj with
  | 0, hj =>
    rw [show ((⟨w.heap.size, 0, none⟩ : Addr).add 0) = ⟨w.heap.size, 0, none⟩ from rfl, cell_new]
    simpa using hj
/-- so many decimal digits fit -/
theorem ten_fit {L n : Nat} {N V O : Int} (h : N = V * 10 ^ L + O) (hV : 0 < V) (hO : 0 ≤ O) (hN : N < 18446744073709551616 ^ n) : L ≤ 64 * n := by
  rcases Nat.lt_or_ge (64 * n) L with e | e
  · have h1 : (1 : Int) * 10 ^ L ≤ V * 10 ^ L := Int.mul_le_mul_of_nonneg_right (by omega) (Int.le_of_lt (Int.pow_pos (by decide)))
    have h2 : ((10 ^ L : Nat) : Int) = (10 : Int) ^ L := by rw [Int.natCast_pow]; rfl
    have h3 : 2 ^ (64 * n) ≤ 10 ^ L := Nat.le_trans (Nat.pow_le_pow_right (by decide) (Nat.le_of_lt e)) (Nat.pow_le_pow_left (by decide) L)
    have h4 := bpow n
    omega
  · exact e
theorem rdv_nonneg {l : List Int} (h : DigI l) : 0 ≤ rdv l := by
  induction l with
  | nil => simp [rdv]
  | cons c l ih =>
    have h1 := h c List.mem_cons_self
    have h2 := ih fun y hy => h y (List.mem_cons_of_mem _ hy)
    simp only [rdv]; omega
/-- two texts of one number -/
theorem decI_cons (c : Int) (l : List Int) : dvI (c :: l) = (c - 48) * 10 ^ l.length + dvI l := by
  have := dvI_append [c] l
  rw [List.singleton_append] at this
  rw [this]; simp [dvI]
theorem decI_bd {l : List Int} (h : DigI l) : 0 ≤ dvI l ∧ dvI l < 10 ^ l.length := by
  induction l with
  | nil => simp [dvI]
  | cons c l ih =>
    have h1 := h c List.mem_cons_self
    have h2 := ih fun y hy => h y (List.mem_cons_of_mem _ hy)
    have hp : (0 : Int) < 10 ^ l.length := Int.pow_pos (by decide)
    have h3 : 0 ≤ (c - 48) * 10 ^ l.length := Int.mul_nonneg (by omega) (Int.le_of_lt hp)
    have h4 : (c - 48) * 10 ^ l.length ≤ 9 * 10 ^ l.length := Int.mul_le_mul_of_nonneg_right (by omega) (Int.le_of_lt hp)
    rw [decI_cons, List.length_cons, Int.pow_succ]; omega
theorem decI_inj : ∀ {a b : List Int}, DigI a → DigI b → a.length = b.length → dvI a = dvI b → a = b
  | [], [], _, _, _, _ => rfl
  | x :: a, y :: b, ha, hb, hl, hv => by
    have ha' : DigI a := fun z hz => ha z (List.mem_cons_of_mem _ hz)
    have hb' : DigI b := fun z hz => hb z (List.mem_cons_of_mem _ hz)
    have hl' : a.length = b.length := by simpa using hl
    have h1 := decI_bd ha'
    have h2 := decI_bd hb'
    rw [decI_cons, decI_cons, hl'] at hv
    rw [hl'] at h1
    have hp : (0 : Int) < 10 ^ b.length := Int.pow_pos (by decide)
    have e : x = y := by
      rcases Int.lt_trichotomy x y with c | c | c
      · have : (x - 48 + 1) * 10 ^ b.length ≤ (y - 48) * 10 ^ b.length := Int.mul_le_mul_of_nonneg_right (by omega) (Int.le_of_lt hp)
        rw [Int.add_mul] at this; omega
      · exact c
      · have : (y - 48 + 1) * 10 ^ b.length ≤ (x - 48) * 10 ^ b.length := Int.mul_le_mul_of_nonneg_right (by omega) (Int.le_of_lt hp)
        rw [Int.add_mul] at this; omega
    subst e
    rw [decI_inj ha' hb' hl' (by omega)]
theorem decI_ge {l : List Int} (h : DigI l) (h0 : 0 < l.length) (h1 : nth l 0 ≠ 48) : 10 ^ (l.length - 1) ≤ dvI l := by
  cases l with
  | nil => simp at h0
  | cons c l =>
    have hc := h c List.mem_cons_self
    rw [nth_zero] at h1
    have h2 := decI_bd fun y hy => h y (List.mem_cons_of_mem _ hy)
    have hp : (0 : Int) < 10 ^ l.length := Int.pow_pos (by decide)
    have : (1 : Int) * 10 ^ l.length ≤ (c - 48) * 10 ^ l.length := Int.mul_le_mul_of_nonneg_right (by omega) (Int.le_of_lt hp)
    rw [decI_cons, List.length_cons, Nat.add_sub_cancel]; omega
theorem dig_len {a b : List Int} (ha : DigI a) (hb : DigI b) (h0 : 0 < a.length) (h1 : b.length = 1 ∨ nth b 0 ≠ 48) (hv : dvI a = dvI b) : b.length ≤ a.length := by
  rcases h1 with e | e
  · omega
  · rcases Nat.lt_or_ge a.length b.length with c | c
    · have h2 := decI_ge hb (by omega) e
      have h3 := (decI_bd ha).2
      have h4 := pow10_le (show a.length ≤ b.length - 1 by omega)
      omega
    · exact c
theorem textOf_eq {s t : ByteArray} {n : Int} (h : TextOf s n) (k : TextOf t n) : s = t := by
  obtain ⟨d, h1, h2, h3, h4, h5⟩ := h.bytes
  obtain ⟨e, k1, k2, k3, k4, k5⟩ := k.bytes
  have a1 := dig_len h2 k2 h4 k5 (by rw [h3, k3])
  have a2 := dig_len k2 h2 k4 h5 (by rw [h3, k3])
  have e1 : d = e := decI_inj h2 k2 (by omega) (by rw [h3, k3])
  have e2 : s.data.toList = t.data.toList := by
    have e3 : s.data.toList.map (fun c => (c.toNat : Int)) = t.data.toList.map (fun c => (c.toNat : Int)) := by rw [h1, k1, e1]
    have inj : ∀ x y : List UInt8, x.map (fun c => (c.toNat : Int)) = y.map (fun c => (c.toNat : Int)) → x = y := by
      intro x
      induction x with
      | nil => intro y hy; cases y with
        | nil => rfl
        | cons z y => simp at hy
      | cons a x ih => intro y hy; cases y with
        | nil => simp at hy
        | cons z y =>
          simp only [List.map_cons, List.cons.injEq] at hy
          have ea : a = z := UInt8.toNat_inj.1 (by have := hy.1; omega)
          rw [ih y hy.2, ea]
    exact inj _ _ e3
  have e4 : s.data = t.data := Array.toList_inj.1 e2
  cases s; cases t; simp at e4; rw [e4]
/-- how far a list is turned round -/
structure TurnInv (O L : List Int) (i : Nat) : Prop where
  len : L.length = O.length
  done : ∀ p, p < O.length → (p < i ∨ O.length ≤ p + i) → nth L p = nth O (O.length - 1 - p)
  left : ∀ p, i ≤ p → p + i < O.length → nth L p = nth O p
theorem TurnInv.step {O L : List Int} {i j : Nat} (h : TurnInv O L i) (hj : i + j + 1 = O.length) (hij : i < j) : TurnInv O ((L.set i (nth L j)).set j (nth L i)) (i + 1) := by
  have hl := h.len
  have e1 := h.left i (Nat.le_refl _) (by omega)
  have e2 := h.left j (by omega) (by omega)
  refine ⟨by simp [hl], fun p hp hd => ?_, fun p hp hd => ?_⟩
  · rw [nth_set (by simp [hl]; omega), nth_set (by omega)]
    by_cases c1 : p = j
    · subst c1; rw [if_pos rfl, e1]; congr 1; omega
    · rw [if_neg c1]
      by_cases c2 : p = i
      · subst c2; rw [if_pos rfl, e2]; congr 1; omega
      · rw [if_neg c2]; exact h.done p hp (by omega)
  · rw [nth_set (by simp [hl]; omega), nth_set (by omega), if_neg (by omega), if_neg (by omega)]; exact h.left p (by omega) (by omega)
theorem TurnInv.fin {O L : List Int} {i : Nat} (h : TurnInv O L i) (hi : O.length ≤ 2 * i + 1) : L = O.reverse := by
  refine nth_ext (by simp [h.len]) fun p hp => ?_
  rw [h.len] at hp
  rw [nth_eq (l := O.reverse) (by simpa using hp), List.getElem_reverse, ← nth_eq]
  by_cases c : p < i ∨ O.length ≤ p + i
  · exact h.done p hp c
  · rw [h.left p (by omega) (by omega)]; congr 1; omega
end Go.Proofs.YtjihgkanbhccpaaGreatDoor
