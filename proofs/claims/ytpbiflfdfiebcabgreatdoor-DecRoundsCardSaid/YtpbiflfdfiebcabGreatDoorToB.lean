/- nat.Bytes tells a number as bytes, the highest first. -/
import Derived.Test.YtpbiflfdfiebcabGreatDoorFromB
namespace Go.Proofs.YtpbiflfdfiebcabGreatDoor
open Go.RowKit Lim

theorem info_u8 : (Tryz.prog.info? 5).map (fun i => (i.zero, i.size, i.bytes)) = some (some (.int .u8 0), 1, 1) := by kernel_rfl
theorem under_bytes : Tryz.prog.underlying 109 = some (.slice 5) := by kernel_rfl
/-- block g holds just the bytes l -/
def RowB (w : World) (g : Nat) (l : List Int) : Prop := w.heap[g]? = some (.cells (l.map (Value.int .u8)).toArray 5 (0, 0))
theorem RowB.at {w : World} {g : Nat} {l : List Int} (h : RowB w g l) : AtB w (some ⟨g, 0, none⟩) g 0 l :=
  ⟨.inr rfl, fun i hi => by
    unfold RowB at h
    simp only [World.cell?, h]
    simp [nth_eq hi, hi]⟩
theorem RowB.free {w : World} {g : Nat} {l : List Int} (h : RowB w g l) (o n : Nat) : Free w g o n := by
  intro i _
  unfold RowB at h
  simp [World.frozen?, h]
theorem made_u8 (n : Nat) : madeCells (Value.int .u8 0).cells n = ((List.replicate n 0).map (Value.int .u8)).toArray := by
  apply Array.ext
  · simp [size_madeCells]
  · intro j h1 h2
    simp [madeCells, Value.cells, Nat.mod_one]
theorem wpList_makeB {w : World} {ops : Array Oper} {rest : List Oper} {o : Oper} {a : Act} {Q : Exit → Act → World → Prop}
    (hg : o.guard = none) (l c : Operand) (hop : o.op = Op.makeSlice 109 l c) (n : Nat) (L C : Int) (hl : a.eval l = .int .i64 L) (hc : a.eval c = .int .i64 C) (hL : L = (n : Int)) (hC : C = (n : Int)) (hn : n ≤ 17592186044416)
    (hK : ∀ w', RowB w' w.heap.size (List.replicate n 0) → Below w.heap.size w w' → w'.heap.size = w.heap.size + 1 → wpList Tryz.prog ops Q rest (a.put o.dst (.slice (some ⟨w.heap.size, 0, none⟩) n n)) w') :
    wpList Tryz.prog ops Q (o :: rest) a w := by
  obtain ⟨i, hi, hz, hs, hb⟩ := info_parts info_u8
  refine wpList_plain hg fun K hK' => ?_
  have hrun := run_make (P := Tryz.prog) w 109 5 i (.int .u8 0) under_bytes hi hz .i64 .i64 (n : Int) (n : Int) (by omega) (by omega) (by rw [hb]; omega) (by omega)
  subst hL
  subst hC
  unfold Oper.wp
  simp only [execOp, hop, hl, hc]
  simp [hrun, Result.andThen]
  refine hK' _ _ (hK _ ?_ ?_ ?_)
  · show (w.heap.push _)[w.heap.size]? = _
    rw [Array.getElem?_push_size, hs, Nat.mul_one, made_u8]
  · exact (Below.refl _ _).alloc (Nat.le_refl _) _
  · simp

theorem emod_parts (V : Int) (hV : 0 ≤ V) (k : Nat) : V % 256 ^ (k + 1) = (V / 256 ^ k % 256) * 256 ^ k + V % 256 ^ k := by
  obtain ⟨v, rfl⟩ := Int.eq_ofNat_of_zero_le hV
  have e : ∀ j : Nat, (256 : Int) ^ j = ((256 ^ j : Nat) : Int) := fun j => by rw [Int.natCast_pow]; rfl
  rw [e, e]
  have := Nat.mod_mul (x := v) (a := 256 ^ k) (b := 256)
  rw [← Nat.pow_succ] at this
  have h2 : ((v % 256 ^ (k + 1) : Nat) : Int) = ((v % 256 ^ k + 256 ^ k * (v / 256 ^ k % 256) : Nat) : Int) := by rw [this]
  rw [Int.natCast_add, Int.natCast_mul] at h2
  simp only [Int.natCast_emod, Int.natCast_ediv] at h2
  rw [h2, Int.add_comm, Int.mul_comm]; rfl
theorem bval_digits {r : List Int} {V : Int} (hV : 0 ≤ V) (h : ∀ i, i < r.length → nth r (r.length - 1 - i) = V / 256 ^ i % 256) : ∀ k, k ≤ r.length → bval (r.drop (r.length - k)) = V % 256 ^ k
  | 0, _ => by rw [Nat.sub_zero, List.drop_length]; simp [bval]
  | k + 1, hk => by
    have ih := bval_digits hV h k (by omega)
    rw [show r.length - (k + 1) = r.length - 1 - k from by omega, bval_drop (by omega), show r.length - 1 - k + 1 = r.length - k from by omega, ih, h k (by omega), show r.length - 1 - (r.length - 1 - k) = k from by omega, emod_parts V hV k]
theorem byte_at {l : List Int} (wl : Words l) (i : Nat) (hi : i / 8 < l.length) : nth l (i / 8) / 2 ^ (8 * (i % 8)) % 256 = val l / 256 ^ i % 256 := by
  have e2 := val_split l (i / 8) (by omega)
  rw [List.drop_eq_getElem_cons hi, val, ← nth_eq hi] at e2
  have h1 := val_nonneg (wl.take (i / 8))
  have h2 := val_lt (wl.take (i / 8))
  rw [List.length_take, Nat.min_eq_left (by omega)] at h2
  have hp := pow_pos (i / 8)
  have hS : (0 : Int) < 2 ^ (8 * (i % 8)) := Int.pow_pos (by decide)
  have hB : (18446744073709551616 : Int) = 2 ^ (8 * (i % 8)) * (256 * 2 ^ (56 - 8 * (i % 8))) := by
    rw [show (256 : Int) = 2 ^ 8 from rfl, ← Int.pow_add, ← Int.pow_add, show 8 * (i % 8) + (8 + (56 - 8 * (i % 8))) = 64 from by omega]; rfl
  rw [pow_parts, ← Int.ediv_ediv_of_nonneg (Int.le_of_lt hp), e2, Int.add_mul_ediv_left _ _ (by omega), Int.ediv_eq_zero_of_lt h1 h2, Int.zero_add]
  generalize nth l (i / 8) = x at *
  generalize val (l.drop (i / 8 + 1)) = y at *
  conv => rhs; rw [hB]
  rw [Int.mul_assoc, Int.add_mul_ediv_left _ _ (by omega), Int.mul_assoc, Int.add_mul_emod_self_left]

/-- the lowest k bytes are laid -/
structure TbInv (V : Int) (m k : Nat) (r : List Int) : Prop where
  len : r.length = m
  oct : Octets r
  dig : ∀ i, i < k → nth r (m - 1 - i) = V / 256 ^ i % 256
theorem TbInv.step {V : Int} {m k : Nat} {r : List Int} {x : Int} (h : TbInv V m k r) (hk : k < m) (hx : x = V / 256 ^ k % 256) : TbInv V m (k + 1) (r.set (m - 1 - k) x) := by
  have hl := h.len
  refine ⟨by simp [hl], fun y hy => ?_, fun i hi => ?_⟩
  · rcases List.mem_or_eq_of_mem_set hy with e | e
    · exact h.oct y e
    · subst e; rw [hx]; exact ⟨Int.emod_nonneg _ (by decide), Int.emod_lt_of_pos _ (by decide)⟩
  · rw [nth_set (by omega)]
    by_cases e : i = k
    · subst e; rw [if_pos rfl]; exact hx
    · rw [if_neg (by omega)]; exact h.dig i (by omega)
theorem TbInv.done {V : Int} {m : Nat} {r : List Int} (h : TbInv V m m r) (hV : 0 ≤ V) (h1 : V < 256 ^ m) (h2 : m ≠ 0 → 256 ^ (m - 1) ≤ V) : IsB r V := by
  have hl := h.len
  have hv := bval_digits hV (r := r) (fun i hi => by rw [hl]; exact h.dig i (by omega)) m (by omega)
  rw [hl, Nat.sub_self, List.drop_zero, Int.emod_eq_of_lt hV h1] at hv
  refine ⟨h.oct, fun hne => ?_, hv⟩
  have hm : m ≠ 0 := fun e => hne (List.eq_nil_of_length_eq_zero (by omega))
  have hd := h.dig (m - 1) (by omega)
  rw [show m - 1 - (m - 1) = 0 from by omega] at hd
  rw [hd]
  have hp : (0 : Int) < 256 ^ (m - 1) := Int.pow_pos (by decide)
  have q1 : 1 ≤ V / 256 ^ (m - 1) := by rw [Int.le_ediv_iff_mul_le hp]; have := h2 hm; omega
  have q2 : V / 256 ^ (m - 1) < 256 := by
    rw [Int.ediv_lt_iff_lt_mul hp, Int.mul_comm, ← Int.pow_succ, show (m - 1).succ = m from by omega]; exact h1
  rw [Int.emod_eq_of_lt (by omega) q2]; omega
/-- how many bytes -/
theorem bytes_len {V : Int} (hV : 0 ≤ V) : V < 256 ^ ((bitLen V.toNat + 7) / 8) ∧ ((bitLen V.toNat + 7) / 8 ≠ 0 → 256 ^ ((bitLen V.toNat + 7) / 8 - 1) ≤ V) := by
  obtain ⟨v, rfl⟩ := Int.eq_ofNat_of_zero_le hV
  rw [Int.toNat_natCast]
  have hs := bitLen_spec v
  have e : ∀ j : Nat, (256 : Int) ^ j = ((2 ^ (8 * j) : Nat) : Int) := fun j => by rw [Nat.pow_mul, Int.natCast_pow]; rfl
  rw [e, e]
  constructor
  · have := Nat.pow_le_pow_right (n := 2) (by decide) (show bitLen v ≤ 8 * ((bitLen v + 7) / 8) by omega)
    have h1 := hs.1
    omega
  · intro hm
    have hv0 : v ≠ 0 := by intro e; subst e; simp [bitLen] at hm
    have := Nat.pow_le_pow_right (n := 2) (by decide) (show 8 * ((bitLen v + 7) / 8 - 1) ≤ bitLen v - 1 by omega)
    have h1 := hs.2 hv0
    omega
theorem NewB.of {w w' : World} {l : List Int} {ao : Option Addr} {n c b o : Nat} (hn : n = l.length) (h1 : n ≤ c) (h2 : w.heap.size ≤ b) (h3 : AtB w' ao b o l) (h4 : Free w' b o n) : NewB w w' (.slice ao n c) l := by
  subst hn; exact ⟨ao, b, o, c, rfl, h1, h2, h3, h4⟩
theorem AtB.drew {w : World} {ao : Option Addr} {b o : Nat} {l : List Int} (h : AtB w ao b o l) : AtB w.drew ao b o l := ⟨h.loc, h.cell⟩

end Go.Proofs.YtpbiflfdfiebcabGreatDoor
