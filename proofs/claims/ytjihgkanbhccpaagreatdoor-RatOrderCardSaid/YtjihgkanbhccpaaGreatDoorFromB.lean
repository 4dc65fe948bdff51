/- nat.Bits; nat.FromBytes reads bytes, the highest first. -/
import Derived.Test.YtjihgkanbhccpaaGreatDoorByteMem
import Derived.Test.YtjihgkanbhccpaaGreatDoorDiv64
namespace Go.Proofs.YtjihgkanbhccpaaGreatDoor
open Go.RowKit Lim

theorem bpow (k : Nat) : (18446744073709551616 : Int) ^ k = ((2 ^ (64 * k) : Nat) : Int) := by
  rw [Nat.pow_mul, Int.natCast_pow]; rfl
theorem bits_top {l : List Int} (wl : Words l) (hn : nlen l ≠ 0) : bitLen (val l).toNat = 64 * (nlen l - 1) + bitLen (nth l (nlen l - 1)).toNat := by
  have h0 := val_nonneg wl
  have hs := val_split (norm l) (nlen l - 1) (by rw [norm_length]; omega)
  have hd : (norm l).drop (nlen l - 1) = [nth l (nlen l - 1)] := by
    apply nth_ext
    · simp [norm_length]; omega
    · intro i hi
      simp [norm_length] at hi
      have : i = 0 := by omega
      subst this
      rw [nth_drop, norm_nth, nth_zero]; rfl
  rw [hd, val_single, val_norm] at hs
  have h1 := val_lt (wl.norm.take (nlen l - 1))
  have h2 := val_nonneg (wl.norm.take (nlen l - 1))
  rw [List.length_take, norm_length, Nat.min_eq_left (by omega)] at h1
  have h3 := wl.nth (nlen l - 1)
  have h4 := nlen_last hn
  generalize nth l (nlen l - 1) = x at *
  generalize val ((norm l).take (nlen l - 1)) = y at *
  generalize nlen l - 1 = k at *
  rw [bpow] at hs h1
  obtain ⟨x, rfl⟩ := Int.eq_ofNat_of_zero_le h3.1
  obtain ⟨y, rfl⟩ := Int.eq_ofNat_of_zero_le h2
  obtain ⟨v, hv⟩ := Int.eq_ofNat_of_zero_le h0
  rw [hv] at hs ⊢
  have hq : v / 2 ^ (64 * k) = x := by
    have hv2 : v = y + 2 ^ (64 * k) * x := by
      have : (v : Int) = ((y + 2 ^ (64 * k) * x : Nat) : Int) := by rw [hs, Int.natCast_add, Int.natCast_mul]
      exact Int.ofNat.inj this
    rw [hv2, Nat.add_mul_div_left _ _ (Nat.two_pow_pos _), Nat.div_eq_of_lt (by omega), Nat.zero_add]
  rw [Int.toNat_natCast, Int.toNat_natCast, bitLen_shift v (64 * k) (by rw [hq]; omega), hq]

set_option maxHeartbeats 1000000 in
set_option maxRecDepth 100000 in
theorem bits_any (ao : Option Addr) (n c b o : Nat) (l : List Int) (w : World) (hl : l.length = n) (hc : n ≤ c) (hbig : n ≤ 1099511627776) (wl : Words l) (ha : At w ao b o l) :
    Calls Tryz.prog 86 #[.slice ao n c] w fun e w' => e = .returned (.int .i64 (bitLen (val l).toNat)) ∧ Below w.heap.size w w' := by
  have hn := nlen_le l
  have t1 := trim_any ao n c l w hl hc (by omega) ha.cells
  by_cases h0 : nlen l = 0
  · rw [h0] at t1
    have hv : (val l).toNat = 0 := by rw [(nlen_eq_zero_iff_val wl).1 h0]; rfl
    rw [hv, show bitLen 0 = 0 from rfl]
    go_enter Tryz.func86, Tryz.ntmps86
    go_wp2_with fail
    refine t1.mono ?_
    rintro e w1 ⟨rfl, rfl⟩
    go_wp2_with fail
    go_ret
    exact ⟨rfl, Below.refl _ _⟩
  · have ht := bits_top wl h0
    have hx := wl.nth (nlen l - 1)
    have hcell := ha.cell (nlen l - 1) (by omega)
    have hl64 := bitLen_le64 (n := (nth l (nlen l - 1)).toNat) (by omega)
    have t2 := fun wx => clz64 (nth l (nlen l - 1)) wx hx.1 hx.2
    rcases ha.loc with e | rfl
    · subst e; simp [nlen] at h0
    rw [ht]
    generalize nth l (nlen l - 1) = x at *
    generalize bitLen x.toNat = L at *
    clear ht ha
    obtain ⟨k, hk⟩ : ∃ k, nlen l = k + 1 := ⟨nlen l - 1, by omega⟩
    rw [hk] at t1 hcell hn ⊢
    rw [Nat.add_sub_cancel] at hcell ⊢
    clear hk h0
    have hk0 : (k : Int) < (k : Int) + 1 := by omega
    go_enter Tryz.func86, Tryz.ntmps86
    go_wp2_with fail
    refine t1.mono ?_
    rintro e w1 ⟨rfl, rfl⟩
    clear t1
    go_wp2_with fail
    refine (t2 _).mono ?_
    rintro e w2 ⟨rfl, rfl⟩
    go_wp2
    go_ret
    exact ⟨ret1 (by omega), Below.refl _ _⟩

theorem isN_nil' : IsN [] 0 := ⟨Words.nil, rfl, rfl⟩
/-- the last k bytes are laid -/
structure FbInv (lb : List Int) (m k : Nat) (lz : List Int) : Prop where
  len : lz.length = m
  words : Words lz
  val : Lim.val lz = bval (lb.drop (lb.length - k))
theorem bval_drop {l : List Int} {i : Nat} (h : i < l.length) : bval (l.drop i) = nth l i * 256 ^ (l.length - 1 - i) + bval (l.drop (i + 1)) := by
  rw [List.drop_eq_getElem_cons h, bval, nth_eq h, List.length_drop, show l.length - (i + 1) = l.length - 1 - i from by omega]
theorem Octets.drop {l : List Int} (h : Octets l) (k : Nat) : Octets (l.drop k) := fun x hx => h x (List.mem_of_mem_drop hx)
theorem val_set {l : List Int} {i : Nat} (h : i < l.length) (x : Int) : val (l.set i x) = val l + 18446744073709551616 ^ i * (x - nth l i) := by
  have e1 := val_split (l.set i x) i (by simp; omega)
  have e2 := val_split l i (by omega)
  rw [List.take_set_of_le (Nat.le_refl _), List.drop_set, if_neg (by omega), Nat.sub_self] at e1
  rw [List.drop_eq_getElem_cons h, List.set_cons_zero, val] at e1
  rw [List.drop_eq_getElem_cons h, val] at e2
  rw [e1, e2, nth_eq h]; grind
theorem limb_lt {l : List Int} (wl : Words l) {i : Nat} (h : i < l.length) {P : Int} (hP : val l < 18446744073709551616 ^ i * P) : nth l i < P := by
  have e2 := val_split l i (by omega)
  rw [List.drop_eq_getElem_cons h, val] at e2
  have h1 := val_nonneg (wl.take i)
  have h2 := val_nonneg (wl.drop (i + 1))
  have hp := pow_pos i
  have h3 : 0 ≤ 18446744073709551616 ^ i * (18446744073709551616 * val (l.drop (i + 1))) := Int.mul_nonneg (Int.le_of_lt hp) (by omega)
  rw [Int.mul_add] at e2
  have h4 : 18446744073709551616 ^ i * nth l i < 18446744073709551616 ^ i * P := by rw [nth_eq h]; omega
  exact Int.lt_of_mul_lt_mul_left h4 (Int.le_of_lt hp)
theorem pow_parts (k : Nat) : (256 : Int) ^ k = 18446744073709551616 ^ (k / 8) * 2 ^ (8 * (k % 8)) := by
  have e : (18446744073709551616 : Int) = 256 ^ 8 := by decide
  have e2 : (2 : Int) ^ (8 * (k % 8)) = 256 ^ (k % 8) := by rw [Int.pow_mul]; rfl
  rw [e, e2, ← Int.pow_mul, ← Int.pow_add]; congr 1; omega
theorem fb_step {lb lz : List Int} {m k : Nat} (hb : Octets lb) (hm : (lb.length + 7) / 8 = m) (h : FbInv lb m k lz) (hk : k < lb.length) :
    bits .or .u64 (nth lz (k / 8)) (IntKind.u64.wrap (nth lb (lb.length - 1 - k) * 2 ^ (8 * (k % 8)))) = nth lz (k / 8) + nth lb (lb.length - 1 - k) * 2 ^ (8 * (k % 8)) ∧
    FbInv lb m (k + 1) (lz.set (k / 8) (nth lz (k / 8) + nth lb (lb.length - 1 - k) * 2 ^ (8 * (k % 8)))) := by
  have hl := h.len
  have hx := hb.nth (lb.length - 1 - k)
  have hbd := bval_bound (hb.drop (lb.length - k))
  rw [List.length_drop, show lb.length - (lb.length - k) = k from by omega] at hbd
  have hv := h.val
  have hz := h.words.nth (k / 8)
  have hlt := limb_lt h.words (i := k / 8) (by omega) (P := 2 ^ (8 * (k % 8))) (by rw [← pow_parts, hv]; exact hbd.2)
  have hS : (0 : Int) < 2 ^ (8 * (k % 8)) := Int.pow_pos (by decide)
  have hT : (2 : Int) ^ (8 * (k % 8)) * 256 ≤ 18446744073709551616 := by
    have : (2 : Nat) ^ (8 * (k % 8)) ≤ 2 ^ 56 := Nat.pow_le_pow_right (by decide) (by omega)
    have e : ((2 ^ (8 * (k % 8)) : Nat) : Int) = (2 : Int) ^ (8 * (k % 8)) := by rw [Int.natCast_pow]; rfl
    have e2 : (2 : Nat) ^ 56 = 72057594037927936 := by decide
    omega
  have hx1 : 0 ≤ nth lb (lb.length - 1 - k) * 2 ^ (8 * (k % 8)) := Int.mul_nonneg hx.1 (Int.le_of_lt hS)
  have hx2 : nth lb (lb.length - 1 - k) * 2 ^ (8 * (k % 8)) ≤ 255 * 2 ^ (8 * (k % 8)) := Int.mul_le_mul_of_nonneg_right (by omega) (Int.le_of_lt hS)
  constructor
  · rw [IntKind.wrap_u64, Int.emod_eq_of_lt hx1 (by omega)]
    rw [u64_or _ _ hz.1 hz.2 hx1 (by omega), Nat.or_comm, ← u64_or _ _ hx1 (by omega) hz.1 hz.2]
    rw [or_add _ _ (8 * (k % 8)) _ rfl hx.1 (by omega) hz.1 hlt hz.2, Int.add_comm]
  · refine ⟨by simp [hl], h.words.set _ (by omega) (by omega), ?_⟩
    rw [val_set (by omega), hv, show lb.length - (k + 1) = lb.length - 1 - k from by omega, bval_drop (l := lb) (i := lb.length - 1 - k) (by omega), show lb.length - 1 - k + 1 = lb.length - k from by omega, show lb.length - 1 - (lb.length - 1 - k) = k from by omega, pow_parts k]
    grind

end Go.Proofs.YtjihgkanbhccpaaGreatDoor
