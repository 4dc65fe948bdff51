/- nat.Bytes tells a number as bytes, the highest first. -/
import Derived.Test.YtplmeahabddklaaDoorFromB
namespace Go.Proofs.YtplmeahabddklaaDoor
open Go.RowKit Lim

theorem info_u8 : (Tryd.prog.info? 5).map (fun i => (i.zero, i.size, i.bytes)) = some (some (.int .u8 0), 1, 1) := by kernel_rfl
theorem under_bytes : Tryd.prog.underlying 56 = some (.slice 5) := by kernel_rfl
/-- block g holds just the bytes l -/
def RowB (w : World) (g : Nat) (l : List Int) : Prop := w.heap[g]? = some (.cells (l.map (Value.int .u8)).toArray 5 (0, 0))
theorem RowB.at {w : World} {g : Nat} {l : List Int} (h : RowB w g l) : AtB w (some ⟨g, 0, none⟩) g 0 l :=
  ⟨.inr rfl, fun i hi => by
    unfold RowB at h
    simp only [World.cell?, h]
    simp [nth_eq hi, hi]⟩
theorem RowB.free {w : World} {g : Nat} {l : List Int} (h : RowB w g l) (o n : Nat) : Free w g o n := by
  intro i _
  unfold RowB at h
  simp [World.frozen?, h]
theorem made_u8 (n : Nat) : madeCells (Value.int .u8 0).cells n = ((List.replicate n 0).map (Value.int .u8)).toArray := by
  apply Array.ext
  · simp [size_madeCells]
  · intro j h1 h2
    simp [madeCells, Value.cells, Nat.mod_one]
theorem wpList_makeB {w : World} {ops : Array Oper} {rest : List Oper} {o : Oper} {a : Act} {Q : Exit → Act → World → Prop}
    (hg : o.guard = none) (l c : Operand) (hop : o.op = Op.makeSlice 56 l c) (n : Nat) (L C : Int) (hl : a.eval l = .int .i64 L) (hc : a.eval c = .int .i64 C) (hL : L = (n : Int)) (hC : C = (n : Int)) (hn : n ≤ 17592186044416)
    (hK : ∀ w', RowB w' w.heap.size (List.replicate n 0) → Below w.heap.size w w' → w'.heap.size = w.heap.size + 1 → wpList Tryd.prog ops Q rest (a.put o.dst (.slice (some ⟨w.heap.size, 0, none⟩) n n)) w') :
    wpList Tryd.prog ops Q (o :: rest) a w := by
  obtain ⟨i, hi, hz, hs, hb⟩ := info_parts info_u8
  refine wpList_plain hg fun K hK' => ?_
  have hrun := run_make (P := Tryd.prog) w 56 5 i (.int .u8 0) under_bytes hi hz .i64 .i64 (n : Int) (n : Int) (by omega) (by omega) (by rw [hb]; omega) (by omega)
  subst hL
  subst hC
  unfold Oper.wp
  simp only [execOp, hop, hl, hc]
  simp [hrun, Result.andThen]
  refine hK' _ _ (hK _ ?_ ?_ ?_)
  · show (w.heap.push _)[w.heap.size]? = _
    rw [Array.getElem?_push_size, hs, Nat.mul_one, made_u8]
  · exact (Below.refl _ _).alloc (Nat.le_refl _) _
  · simp

theorem emod_parts (V : Int) (hV : 0 ≤ V) (k : Nat) : V % 256 ^ (k + 1) = (V / 256 ^ k % 256) * 256 ^ k + V % 256 ^ k := by
  obtain ⟨v, rfl⟩ := Int.eq_ofNat_of_zero_le hV
  have e : ∀ j : Nat, (256 : Int) ^ j = ((256 ^ j : Nat) : Int) := fun j => by rw [Int.natCast_pow]; rfl
  rw [e, e]
  have := Nat.mod_mul (x := v) (a := 256 ^ k) (b := 256)
  rw [← Nat.pow_succ] at this
  have h2 : ((v % 256 ^ (k + 1) : Nat) : Int) = ((v % 256 ^ k + 256 ^ k * (v / 256 ^ k % 256) : Nat) : Int) := by rw [this]
  rw [Int.natCast_add, Int.natCast_mul] at h2
  simp only [Int.natCast_emod, Int.natCast_ediv] at h2
  rw [h2, Int.add_comm, Int.mul_comm]; rfl
theorem bval_digits {r : List Int} {V : Int} (hV : 0 ≤ V) (h : ∀ i, i < r.length → nth r (r.length - 1 - i) = V / 256 ^ i % 256) : ∀ k, k ≤ r.length → bval (r.drop (r.length - k)) = V % 256 ^ k
  | 0, _ => by rw [Nat.sub_zero, List.drop_length]; simp [bval]
  | k + 1, hk => by
    have ih := bval_digits hV h k (by omega)
    rw [show r.length - (k + 1) = r.length - 1 - k from by omega, bval_drop (by omega), show r.length - 1 - k + 1 = r.length - k from by omega, ih, h k (by omega), show r.length - 1 - (r.length - 1 - k) = k from by omega, emod_parts V hV k]
theorem byte_at {l : List Int} (wl : Words l) (i : Nat) (hi : i / 8 < l.length) : nth l (i / 8) / 2 ^ (8 * (i % 8)) % 256 = val l / 256 ^ i % 256 := by
  have e2 := val_split l (i / 8) (by omega)
  rw [List.drop_eq_getElem_cons hi, val, ← nth_eq hi] at e2
  have h1 := val_nonneg (wl.take (i / 8))
  have h2 := val_lt (wl.take (i / 8))
  rw [List.length_take, Nat.min_eq_left (by omega)] at h2
  have hp := pow_pos (i / 8)
  have hS : (0 : Int) < 2 ^ (8 * (i % 8)) := Int.pow_pos (by decide)
  have hB : (18446744073709551616 : Int) = 2 ^ (8 * (i % 8)) * (256 * 2 ^ (56 - 8 * (i % 8))) := by
    rw [show (256 : Int) = 2 ^ 8 from rfl, ← Int.pow_add, ← Int.pow_add, show 8 * (i % 8) + (8 + (56 - 8 * (i % 8))) = 64 from by omega]; rfl
  rw [pow_parts, ← Int.ediv_ediv_of_nonneg (Int.le_of_lt hp), e2, Int.add_mul_ediv_left _ _ (by omega), Int.ediv_eq_zero_of_lt h1 h2, Int.zero_add]
  generalize nth l (i / 8) = x at *
  generalize val (l.drop (i / 8 + 1)) = y at *
  conv => rhs; rw [hB]
  rw [Int.mul_assoc, Int.add_mul_ediv_left _ _ (by omega), Int.mul_assoc, Int.add_mul_emod_self_left]

/-- the lowest k bytes are laid -/
structure TbInv (V : Int) (m k : Nat) (r : List Int) : Prop where
  len : r.length = m
  oct : Octets r
  dig : ∀ i, i < k → nth r (m - 1 - i) = V / 256 ^ i % 256
theorem TbInv.step {V : Int} {m k : Nat} {r : List Int} {x : Int} (h : TbInv V m k r) (hk : k < m) (hx : x = V / 256 ^ k % 256) : TbInv V m (k + 1) (r.set (m - 1 - k) x) := by
  have hl := h.len
  refine ⟨by simp [hl], fun y hy => ?_, fun i hi => ?_⟩
  · rcases List.mem_or_eq_of_mem_set hy with e | e
    · exact h.oct y e
    · subst e; rw [hx]; exact ⟨Int.emod_nonneg _ (by decide), Int.emod_lt_of_pos _ (by decide)⟩
  · rw [nth_set (by omega)]
    by_cases e : i = k
    · subst e; rw [if_pos rfl]; exact hx
    · rw [if_neg (by omega)]; exact h.dig i (by omega)
theorem TbInv.done {V : Int} {m : Nat} {r : List Int} (h : TbInv V m m r) (hV : 0 ≤ V) (h1 : V < 256 ^ m) (h2 : m ≠ 0 → 256 ^ (m - 1) ≤ V) : IsB r V := by
  have hl := h.len
  have hv := bval_digits hV (r := r) (fun i hi => by rw [hl]; exact h.dig i (by omega)) m (by omega)
  rw [hl, Nat.sub_self, List.drop_zero, Int.emod_eq_of_lt hV h1] at hv
  refine ⟨h.oct, fun hne => ?_, hv⟩
  have hm : m ≠ 0 := fun e => hne (List.eq_nil_of_length_eq_zero (by omega))
  have hd := h.dig (m - 1) (by omega)
  rw [show m - 1 - (m - 1) = 0 from by omega] at hd
  rw [hd]
  have hp : (0 : Int) < 256 ^ (m - 1) := Int.pow_pos (by decide)
  have q1 : 1 ≤ V / 256 ^ (m - 1) := by rw [Int.le_ediv_iff_mul_le hp]; have := h2 hm; omega
  have q2 : V / 256 ^ (m - 1) < 256 := by
    rw [Int.ediv_lt_iff_lt_mul hp, Int.mul_comm, ← Int.pow_succ, show (m - 1).succ = m from by omega]; exact h1
  rw [Int.emod_eq_of_lt (by omega) q2]; omega
/-- how many bytes -/
theorem bytes_len {V : Int} (hV : 0 ≤ V) : V < 256 ^ ((bitLen V.toNat + 7) / 8) ∧ ((bitLen V.toNat + 7) / 8 ≠ 0 → 256 ^ ((bitLen V.toNat + 7) / 8 - 1) ≤ V) := by
  obtain ⟨v, rfl⟩ := Int.eq_ofNat_of_zero_le hV
  rw [Int.toNat_natCast]
  have hs := bitLen_spec v
  have e : ∀ j : Nat, (256 : Int) ^ j = ((2 ^ (8 * j) : Nat) : Int) := fun j => by rw [Nat.pow_mul, Int.natCast_pow]; rfl
  rw [e, e]
  constructor
  · have := Nat.pow_le_pow_right (n := 2) (by decide) (show bitLen v ≤ 8 * ((bitLen v + 7) / 8) by omega)
    have h1 := hs.1
    omega
  · intro hm
    have hv0 : v ≠ 0 := by intro e; subst e; simp [bitLen] at hm
    have := Nat.pow_le_pow_right (n := 2) (by decide) (show 8 * ((bitLen v + 7) / 8 - 1) ≤ bitLen v - 1 by omega)
    have h1 := hs.2 hv0
    omega
theorem NewB.of {w w' : World} {l : List Int} {ao : Option Addr} {n c b o : Nat} (hn : n = l.length) (h1 : n ≤ c) (h2 : w.heap.size ≤ b) (h3 : AtB w' ao b o l) (h4 : Free w' b o n) : NewB w w' (.slice ao n c) l := by
  subst hn; exact ⟨ao, b, o, c, rfl, h1, h2, h3, h4⟩
theorem AtB.drew {w : World} {ao : Option Addr} {b o : Nat} {l : List Int} (h : AtB w ao b o l) : AtB w.drew ao b o l := ⟨h.loc, h.cell⟩

set_option maxHeartbeats 2000000 in
set_option maxRecDepth 100000 in
theorem bytes_any (ao : Option Addr) (n c b o : Nat) (l : List Int) (w : World) (hl : l.length = n) (hc : n ≤ c) (hbig : n ≤ 1099511627776) (wl : Words l) (ha : At w ao b o l) :
    Calls Tryd.prog 43 #[.slice ao n c] w fun e w' => ∃ v r, e = .returned v ∧ NewB w w' v r ∧ IsB r (val l) ∧ r.length = (bitLen (val l).toNat + 7) / 8 ∧ r.length ≤ 8 * n ∧ Below w.heap.size w w' := by
  have hV := val_nonneg wl
  obtain ⟨hB1, hB2⟩ := bytes_len hV
  have t1 := bits_any ao n c b o l w hl hc hbig wl ha
  have hb64 : bitLen (val l).toNat ≤ 64 * n := by
    have h1 := val_lt wl
    rw [hl, bpow] at h1
    have h2 := (bitLen_spec (val l).toNat).2
    by_cases c : bitLen (val l).toNat ≤ 64 * n
    · exact c
    · have h3 : (val l).toNat ≠ 0 := by intro e; rw [e] at c; simp [bitLen] at c
      have h4 := Nat.pow_le_pow_right (n := 2) (by decide) (show 64 * n ≤ bitLen (val l).toNat - 1 by omega)
      have := h2 h3
      omega
  obtain ⟨m, hm⟩ : ∃ m : Nat, ((bitLen (val l).toNat : Int) + 7) / 8 = m := ⟨(bitLen (val l).toNat + 7) / 8, by omega⟩
  have hm' : (bitLen (val l).toNat + 7) / 8 = m := by omega
  rw [hm'] at hB1 hB2 ⊢
  generalize bitLen (val l).toNat = L at *
  have HM := (show Hid ((L + 7) / 8 = m) from hm')
  have hm8 : m ≤ 8 * n := by omega
  clear hm'
  go_enter Tryd.func43, Tryd.ntmps43
  go_wp2_with fail
  refine t1.mono ?_
  rintro e w1 ⟨rfl, hb1⟩
  have ha1 := ha.keep hb1
  have hsz1 := hb1.size
  clear t1 ha
  go_wp2_with (at_make; refine wpList_makeB rfl _ _ rfl m _ _ rfl rfl (by omega) (by omega) (by omega) ?_; intro w2 hrow hbel hsz)
  have ha2 := ha1.keep hbel
  have hne : l = [] ∨ b ≠ w1.heap.size := by
    rcases ha1.lt with e | e
    · exact .inl e
    · exact .inr (by omega)
  clear ha1
  go_loopw [12] (fun ti wr => ∃ (k : Nat) (r : List Int), k ≤ m ∧ ti = .int .i64 k ∧ TbInv (val l) m k r ∧ AtB wr (some ⟨w1.heap.size, 0, none⟩) w1.heap.size 0 r ∧ Wr w1.heap.size 0 m w2 wr) (fun ti _ => m - (intOf ti).toNat)
  case atStart => exact ⟨0, _, Nat.zero_le _, rfl, ⟨by simp, fun x hx => by rw [List.eq_of_mem_replicate hx]; decide, fun i hi => by omega⟩, hrow.at, Wr.refl _ _ _ _⟩
  case round =>
    obtain ⟨k, r, hk, rfl, hinv, hat, hwr⟩ := hrel
    have hlen := hinv.len
    by_cases hlt : k < m
    · obtain ⟨i, hi⟩ : ∃ i : Nat, (k : Int) / 8 = i := ⟨k / 8, by omega⟩
      obtain ⟨j, hj⟩ : ∃ j : Nat, (k : Int) % 8 = j := ⟨k % 8, by omega⟩
      obtain ⟨h, hh⟩ : ∃ h : Nat, (m : Int) - 1 - k = h := ⟨m - 1 - k, by omega⟩
      have hi1 : (i : Int) < n := by omega
      have hh1 : (h : Int) < m := by omega
      have hj1 : j < 8 := by omega
      rcases ha2.loc with e | rfl
      · subst e; simp at hl; omega
      have hcz := (ha2.wr hwr hne).cell i (by omega)
      have hfr := hwr.free (hrow.free 0 m) h (by omega)
      have hco := hat.cell h (by omega)
      rw [Nat.zero_add] at hfr hco
      have hx := wl.nth i
      have hby := byte_at wl k (by omega)
      rw [show k / 8 = i from by omega, show k % 8 = j from by omega] at hby
      have HS : Hid (TbInv (val l) m (k + 1) (r.set h (nth l i / 2 ^ (8 * j) % 256))) := by
        have := hinv.step (x := nth l i / 2 ^ (8 * j) % 256) hlt hby
        rwa [show m - 1 - k = h from by omega] at this
      have HA := (show Hid _ from hat)
      have HW := (show Hid _ from hwr)
      clear hat hwr hinv hrow ha2 wl hby
      generalize nth l i = x at *
      go_wp2_with fail
      rw [Nat.mul_comm j 8]
      refine ⟨⟨k + 1, _, by omega, by go_num, HS.out, ?_, ?_⟩, by simp [intOf]; omega⟩
      · have := HA.out.setCell (i := h) (by omega) (x / 2 ^ (8 * j) % 256)
        rwa [Nat.zero_add] at this
      · exact HW.out.setCell (by omega) (by omega) _
    · have hkn : k = m := by omega
      subst hkn
      have HI := hinv.done hV hB1 hB2
      have hfz := hwr.free (hrow.free 0 k)
      have HB := (hb1.trans (hbel.mono hsz1)).trans (hwr.below hsz1)
      clear hinv hrow hwr hbel ha2 hb1
      go_wp2
      go_ret
      exact ⟨_, r, rfl, NewB.of hlen.symm (Nat.le_refl _) hsz1 hat hfz, HI, by omega, by omega, HB⟩
end Go.Proofs.YtplmeahabddklaaDoor
