/- Several texts, joined: EncI. -/
import Derived.Test.YtgfglfpckjkcdaaJba
namespace Go.Proofs.Ytgfglfpckjkcdaa
open Go.RowKit Lim

theorem be_bval {l : List Int} (h : Octets l) : be l.length (bval l) = l := by
  refine bval_inj (be_oct _ _) h (be_length _ _) ?_
  have hb := bval_bound h
  rw [be_val _ hb.1, Int.emod_eq_of_lt hb.1 hb.2]
theorem be_take {l : List Int} (h : Octets l) {m : Nat} (hm : m ≤ l.length) : be m (bval (l.take m)) = l.take m := by
  have := be_bval (l := l.take m) (fun x hx => h x (List.mem_of_mem_take hx))
  rwa [List.length_take, Nat.min_eq_left hm] at this
/-- a part was read of L: with an error nothing is taken; without one, what is laid again is what was taken -/
def One (err' : Int) (L L' : List Int) (laid : List Int → Prop) : Prop := (err' ≠ 0 ∧ L' = L) ∨ (err' = 0 ∧ ∃ k, k ≤ L.length ∧ laid (L.take k) ∧ L' = L.drop k)
theorem one_fix {L : List Int} (h : Octets L) (m : Nat) : One (rdE (pFix m L) 0) L (rdL (pFix m L) 0 L) (fun t => be m (rdV 0 (pFix m L) 0) = t) := by
  by_cases hm : m ≤ L.length
  · have e : pFix m L = .inr (bval (L.take m), m) := by unfold pFix; rw [if_pos hm]
    rw [e]
    exact .inr ⟨rfl, m, hm, be_take h hm, rfl⟩
  · have e : pFix m L = .inl 40 := by unfold pFix; rw [if_neg hm]
    rw [e]
    exact .inl ⟨by decide, rfl⟩
theorem one_bool {L : List Int} (h : Octets L) : One (rdE (pBool L) 0) L (rdL (pBool L) 0 L) (fun t => be 1 (if rdV false (pBool L) 0 then 1 else 0) = t) := by
  by_cases hm : 1 ≤ L.length
  · by_cases hx : 1 < bval (L.take 1)
    · have e : pBool L = .inl 41 := by unfold pBool; rw [if_pos hm, if_pos hx]
      rw [e]
      exact .inl ⟨by decide, rfl⟩
    · have e : pBool L = .inr (bval (L.take 1) == 1, 1) := by unfold pBool; rw [if_pos hm, if_neg hx]
      rw [e]
      refine .inr ⟨rfl, 1, hm, ?_, rfl⟩
      have hbt := be_take h hm
      have h0 := (bval_bound (l := L.take 1) (fun x hx => h x (List.mem_of_mem_take hx))).1
      show be 1 (if (bval (L.take 1) == 1) = true then 1 else 0) = L.take 1
      generalize L.take 1 = M at *
      by_cases h1 : bval M = 1
      · rw [h1] at hbt ⊢
        exact hbt
      · rw [show bval M = 0 by omega] at hbt ⊢
        exact hbt
  · have e : pBool L = .inl 40 := by unfold pBool; rw [if_neg hm]
    rw [e]
    exact .inl ⟨by decide, rfl⟩
theorem cntOf_nn {m : Nat} {L : List Int} (h : Octets L) : ((cntOf m L : Nat) : Int) = bval (L.take m) := by
  unfold cntOf
  rw [Int.toNat_of_nonneg (bval_bound (fun x hx => h x (List.mem_of_mem_take hx))).1]
theorem cnt_lay {m : Nat} {L : List Int} (h : Octets L) (hm : m ≤ L.length) (hc : m + cntOf m L ≤ L.length) : cntd m ((L.drop m).take (cntOf m L)) = L.take (m + cntOf m L) := by
  unfold cntd
  have e : (((L.drop m).take (cntOf m L)).length : Int) = bval (L.take m) := by
    rw [List.length_take, List.length_drop, Nat.min_eq_left (by omega)]
    exact cntOf_nn h
  rw [e, be_take h hm, List.take_add]
theorem one_nat {L : List Int} (h : Octets L) : One (rdE (pNat L) 0) L (rdL (pNat L) 0 L) (fun t => natE (rdV 0 (pNat L) 0) 0 = 0 ∧ ∀ K, natL (rdV 0 (pNat L) 0) 0 K = K ++ t) := by
  by_cases hm : 1 ≤ L.length
  · by_cases hc : 1 + cntOf 1 L ≤ L.length
    · by_cases hz : 0 < cntOf 1 L ∧ nth (L.drop 1) 0 = 0
      · have e : pNat L = .inl 41 := by unfold pNat; rw [if_pos hm, if_pos hc, if_pos hz]
        rw [e]
        exact .inl ⟨by decide, rfl⟩
      · have e : pNat L = .inr (bval ((L.drop 1).take (cntOf 1 L)), 1 + cntOf 1 L) := by unfold pNat; rw [if_pos hm, if_pos hc, if_neg hz]
        have hcl := cnt_lay h hm hc
        have hlt : ((cntOf 1 L : Nat) : Int) < 256 := by
          have := (bval_bound (l := L.take 1) (fun x hx => h x (List.mem_of_mem_take hx))).2
          rw [List.length_take, Nat.min_eq_left hm] at this
          rw [cntOf_nn h]
          simpa using this
        have hoct : Octets ((L.drop 1).take (cntOf 1 L)) := fun x hx => h x (List.mem_of_mem_drop (List.mem_of_mem_take hx))
        have hlen : ((L.drop 1).take (cntOf 1 L)).length = cntOf 1 L := by rw [List.length_take, List.length_drop]; omega
        have hB : natB (bval ((L.drop 1).take (cntOf 1 L))) = (L.drop 1).take (cntOf 1 L) := natB_unique (bval_bound hoct).1 ⟨hoct, fun hne => by
          have hpos : 0 < cntOf 1 L := by
            rcases Nat.eq_zero_or_pos (cntOf 1 L) with h0 | h0
            · exact absurd (by rw [h0]; simp) hne
            · exact h0
          rw [nth_take hpos]
          exact fun h0 => hz ⟨hpos, h0⟩, rfl⟩
        rw [e]
        refine .inr ⟨rfl, _, hc, ?_, rfl⟩
        show natE (bval ((L.drop 1).take (cntOf 1 L))) 0 = 0 ∧ ∀ K, natL (bval ((L.drop 1).take (cntOf 1 L))) 0 K = K ++ L.take (1 + cntOf 1 L)
        unfold natE natL
        rw [hB, if_pos (by omega)]
        refine ⟨rfl, fun K => ?_⟩
        rw [if_pos (by omega), hcl]
        rfl
    · have e : pNat L = .inl 40 := by unfold pNat; rw [if_pos hm, if_neg hc]
      rw [e]
      exact .inl ⟨by decide, rfl⟩
  · have e : pNat L = .inl 40 := by unfold pNat; rw [if_neg hm]
    rw [e]
    exact .inl ⟨by decide, rfl⟩
theorem one_raw {L : List Int} {most : Int} (h : Octets L) : One (rdE (pRaw most L) 0) L (rdL (pRaw most L) 0 L) (fun t => cntd 4 (rdV [] (pRaw most L) 0) = t) := by
  by_cases hm : 4 ≤ L.length
  · by_cases hq : most < (cntOf 4 L : Int)
    · have e : pRaw most L = .inl 42 := by unfold pRaw; rw [if_pos hm, if_pos hq]
      rw [e]
      exact .inl ⟨by decide, rfl⟩
    · by_cases hc : 4 + cntOf 4 L ≤ L.length
      · have e : pRaw most L = .inr ((L.drop 4).take (cntOf 4 L), 4 + cntOf 4 L) := by unfold pRaw; rw [if_pos hm, if_neg hq, if_pos hc]
        rw [e]
        exact .inr ⟨rfl, _, hc, cnt_lay h hm hc, rfl⟩
      · have e : pRaw most L = .inl 40 := by unfold pRaw; rw [if_pos hm, if_neg hq, if_neg hc]
        rw [e]
        exact .inl ⟨by decide, rfl⟩
  · have e : pRaw most L = .inl 40 := by unfold pRaw; rw [if_neg hm]
    rw [e]
    exact .inl ⟨by decide, rfl⟩
theorem ByA.front2 {w : World} {b : Nat} {ao : Option Addr} {n c : Nat} {l : List Int} (h : ByA w b ao n c l) {k : Nat} (hk : k ≤ n) : ByA w b ao k c (l.take k) := by
  obtain ⟨o, h1, h2, h3, h4, h5⟩ := h.ex
  refine ⟨o, by rw [List.length_take]; omega, by omega, h3, fun x hx => h4 x (List.mem_of_mem_take hx), ?_, fun i hi => ?_⟩
  · rcases h5.loc with e | e
    · exact .inl (by rw [e]; simp)
    · exact .inr e
  · rw [List.length_take] at hi
    rw [h5.cell i (by omega), nth_take (by omega)]
theorem pRaw_len {most : Int} {L : List Int} {err : Int} : (rdV [] (pRaw most L) err).length ≤ L.length := by
  unfold rdV pRaw
  repeat' split
  all_goals first
    | exact Nat.zero_le _
    | (rename_i hh; repeat' split at hh
       all_goals first
         | cases hh
           rw [List.length_take, List.length_drop]; omega
         | cases hh)
theorem pRaw_oct {most : Int} {L : List Int} {err : Int} (h : Octets L) : Octets (rdV [] (pRaw most L) err) := by
  unfold rdV pRaw
  repeat' split
  all_goals first
    | exact fun x hx => by simp at hx
    | (rename_i hh; repeat' split at hh
       all_goals first
         | cases hh
           exact fun x hx => h x (List.mem_of_mem_drop (List.mem_of_mem_take hx))
         | cases hh)
end Go.Proofs.Ytgfglfpckjkcdaa
