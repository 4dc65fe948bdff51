/- gleanhelp.Less over lists of one length: as their values; a text is what Parse reads. -/
import Derived.Test.YtiglmhibnenhdabDoorApp
import Derived.Test.YtiglmhibnenhdabDoorParse
import Derived.Test.YtiglmhibnenhdabDoorNm
namespace Go.Proofs.YtiglmhibnenhdabDoor
open Go.RowKit Lim

theorem bval_split (l : List Int) (i : Nat) : bval l = bval (l.take i) * 256 ^ (l.length - i) + bval (l.drop i) := by
  induction l generalizing i with
  | nil => simp [bval]
  | cons x l ih =>
    cases i with
    | zero => simp [bval]
    | succ i =>
      by_cases h : i ≤ l.length
      · simp only [List.take_succ_cons, List.drop_succ_cons, bval, List.length_cons, List.length_take, Nat.min_eq_left h]
        rw [ih i]
        have e : (256 : Int) ^ l.length = 256 ^ i * 256 ^ (l.length - i) := by rw [← Int.pow_add]; congr 1; omega
        rw [e, show l.length + 1 - (i + 1) = l.length - i by omega, Int.add_mul, Int.mul_assoc]
        omega
      · rw [List.take_of_length_le (by simp; omega), List.drop_of_length_le (by simp; omega), show (x :: l).length - (i + 1) = 0 by simp; omega]
        simp [bval]
theorem bval_less {l l' : List Int} {i : Nat} (ho : Octets l) (ho' : Octets l') (hl : l.length = l'.length) (hi : i < l.length) (he : ∀ j, j < i → nth l j = nth l' j) (hd : nth l i < nth l' i) : bval l < bval l' := by
  have e : l.take i = l'.take i := nth_ext (by simp [hl]) fun j hj => by
    have hj' : j < i := by simp at hj; omega
    rw [nth_take hj', nth_take hj']; exact he j hj'
  rw [bval_split l i, bval_split l' i, e, hl, bval_drop hi, bval_drop (l := l') (by omega)]
  have b1 := bval_bound (ho.drop (i + 1))
  have b2 := bval_bound (ho'.drop (i + 1))
  rw [List.length_drop] at b1 b2
  rw [show l.length - (i + 1) = l'.length - 1 - i by omega] at b1
  rw [hl]
  have h1 : (nth l i + 1) * 256 ^ (l'.length - 1 - i) ≤ nth l' i * 256 ^ (l'.length - 1 - i) := Int.mul_le_mul_of_nonneg_right (by omega) (Int.le_of_lt (Int.pow_pos (by decide)))
  rw [Int.add_mul, Int.one_mul] at h1
  omega

set_option maxHeartbeats 1000000 in
set_option maxRecDepth 100000 in
theorem less_any (ao : Option Addr) (n c b o : Nat) (ao' : Option Addr) (c' b' o' : Nat) (l l' : List Int) (w : World) (hl : l.length = n) (hl' : l'.length = n) (hbig : n ≤ 4398046511104) (hO : Octets l) (hO' : Octets l')
    (ha : AtB w ao b o l) (ha' : AtB w ao' b' o' l') :
    Calls Tryd.prog 18 #[.slice ao n c, .slice ao' n c'] w fun e w' => e = .returned (.bool (decide (bval l < bval l'))) ∧ Below w.heap.size w w' := by
  go_enter Tryd.func18, Tryd.ntmps18
  go_wp2_with fail
  go_loopw [5] (fun ti wr => ∃ k : Nat, k ≤ n ∧ ti = .int .i64 k ∧ Hid (∀ i, i < k → nth l i = nth l' i) ∧ Below w.heap.size w wr) (fun ti _ => n - (intOf ti).toNat)
  case atStart => exact ⟨0, Nat.zero_le _, rfl, fun i hi => by omega, Below.refl _ _⟩
  case round =>
    obtain ⟨k, hk, rfl, hz, hbe⟩ := hrel
    by_cases hlt : k < n
    · have hat := ha.keep hbe
      have hat' := ha'.keep hbe
      rcases ha.loc with e | rfl
      · subst e; simp at hl; omega
      rcases ha'.loc with e | rfl
      · subst e; simp at hl'; omega
      have q1 := hat.cell k (by omega)
      have q2 := hat'.cell k (by omega)
      have hk0 : (k : Int) < n := by omega
      by_cases hd : nth l k = nth l' k
      · have HY : Hid (nth l k = nth l' k) := hd
        rw [hd] at q1
        generalize nth l' k = x at q1 q2
        clear hd ha ha' hat hat'
        go_wp2_with fail
        go_quiet (fail)
        go_wp2
        go_roundw
        case rel => exact ⟨k + 1, by omega, by go_num, fun i hi => by
          by_cases e : i = k
          · subst e; exact HY.out
          · exact hz.out i (by omega), below_drewN hbe _⟩
        case measure => simp [intOf]; omega
      · have HF : Hid (decide (nth l k < nth l' k) = decide (bval l < bval l')) := by
          show _ = _
          by_cases h : nth l k < nth l' k
          · rw [decide_eq_true h, decide_eq_true (bval_less hO hO' (by omega) (by omega) hz.out h)]
          · have := bval_less hO' hO (by omega) (i := k) (by omega) (fun j hj => (hz.out j hj).symm) (by omega)
            rw [decide_eq_false h, decide_eq_false (by omega)]
        have hd' : (nth l k != nth l' k) = true := by rw [bne_iff_ne]; exact hd
        generalize nth l k = x at *
        generalize nth l' k = y at *
        clear ha ha' hat hat' hd
        go_wp2_with fail
        go_quiet (fail)
        go_wp2_with fail
        go_quiet (fail)
        go_wp2
        go_ret
        exact ⟨retB HF.out, below_drewN (below_drewN hbe _) _⟩
    · have HF : Hid (decide (bval l < bval l') = false) := by
        have e : l = l' := nth_ext (by omega) fun i hi => hz.out i (by omega)
        show _ = _
        rw [e]; simp
      go_wp2
      go_ret
      exact ⟨retB HF.out.symm, hbe⟩

theorem text_isT {S : ByteArray} {n : Int} (h : TextOf S n) : isT S.data.toList = true ∧ dval S.data.toList = n := by
  obtain ⟨d, hd, hD, hv, h0, h1⟩ := h.bytes
  subst hd
  have hall : S.data.toList.all isD = true := by
    rw [List.all_eq_true]
    intro c hc
    have := hD _ (List.mem_map_of_mem hc)
    simp only [isD, decide_eq_true_eq]
    omega
  refine ⟨?_, ?_⟩
  · unfold isT
    rw [hall, Bool.and_true]
    rw [List.length_map] at h0 h1
    cases hl : S.data.toList with
    | nil => rw [hl] at h0; simp at h0
    | cons c t =>
      rw [hl] at h1
      simp only [List.map_cons, nth_zero, List.length_cons] at h1
      simp
      rcases h1 with e | e
      · right; simpa using e
      · left
        intro e'
        subst e'
        exact e rfl
  · rw [← hv]
    unfold dval dvI
    rw [List.foldl_map]
end Go.Proofs.YtiglmhibnenhdabDoor
