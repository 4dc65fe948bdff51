/- Several texts, joined: EncI, RcJ, RcK, RcL, EncJ, EncK, RefB2, EncL, EncP, EncQ, EncR, EncS, RcO, RcM, RcN, EncM, RcT, RcRd. -/
import Derived.Test.YtjejmkcjflhoiaaGreatDoorJam
import Derived.Test.YtjejmkcjflhoiaaGreatDoorJaf
import Derived.Test.YtjejmkcjflhoiaaGreatDoorJad
namespace Go.Proofs.YtjejmkcjflhoiaaGreatDoor
open Go.RowKit Lim

theorem be_bval {l : List Int} (h : Octets l) : be l.length (bval l) = l := by
  refine bval_inj (be_oct _ _) h (be_length _ _) ?_
  have hb := bval_bound h
  rw [be_val _ hb.1, Int.emod_eq_of_lt hb.1 hb.2]
theorem be_take {l : List Int} (h : Octets l) {m : Nat} (hm : m ≤ l.length) : be m (bval (l.take m)) = l.take m := by
  have := be_bval (l := l.take m) (fun x hx => h x (List.mem_of_mem_take hx))
  rwa [List.length_take, Nat.min_eq_left hm] at this
/-- a part was read of L: with an error nothing is taken; without one, what is laid again is what was taken -/
def One (err' : Int) (L L' : List Int) (laid : List Int → Prop) : Prop := (err' ≠ 0 ∧ L' = L) ∨ (err' = 0 ∧ ∃ k, k ≤ L.length ∧ laid (L.take k) ∧ L' = L.drop k)
theorem one_fix {L : List Int} (h : Octets L) (m : Nat) : One (rdE (pFix m L) 0) L (rdL (pFix m L) 0 L) (fun t => be m (rdV 0 (pFix m L) 0) = t) := by
  by_cases hm : m ≤ L.length
  · have e : pFix m L = .inr (bval (L.take m), m) := by unfold pFix; rw [if_pos hm]
    rw [e]
    exact .inr ⟨rfl, m, hm, be_take h hm, rfl⟩
  · have e : pFix m L = .inl 40 := by unfold pFix; rw [if_neg hm]
    rw [e]
    exact .inl ⟨by decide, rfl⟩
theorem one_bool {L : List Int} (h : Octets L) : One (rdE (pBool L) 0) L (rdL (pBool L) 0 L) (fun t => be 1 (if rdV false (pBool L) 0 then 1 else 0) = t) := by
  by_cases hm : 1 ≤ L.length
  · by_cases hx : 1 < bval (L.take 1)
    · have e : pBool L = .inl 41 := by unfold pBool; rw [if_pos hm, if_pos hx]
      rw [e]
      exact .inl ⟨by decide, rfl⟩
    · have e : pBool L = .inr (bval (L.take 1) == 1, 1) := by unfold pBool; rw [if_pos hm, if_neg hx]
      rw [e]
      refine .inr ⟨rfl, 1, hm, ?_, rfl⟩
      have hbt := be_take h hm
      have h0 := (bval_bound (l := L.take 1) (fun x hx => h x (List.mem_of_mem_take hx))).1
      show be 1 (if (bval (L.take 1) == 1) = true then 1 else 0) = L.take 1
      generalize L.take 1 = M at *
      by_cases h1 : bval M = 1
      · rw [h1] at hbt ⊢
        exact hbt
      · rw [show bval M = 0 by omega] at hbt ⊢
        exact hbt
  · have e : pBool L = .inl 40 := by unfold pBool; rw [if_neg hm]
    rw [e]
    exact .inl ⟨by decide, rfl⟩
theorem cntOf_nn {m : Nat} {L : List Int} (h : Octets L) : ((cntOf m L : Nat) : Int) = bval (L.take m) := by
  unfold cntOf
  rw [Int.toNat_of_nonneg (bval_bound (fun x hx => h x (List.mem_of_mem_take hx))).1]
theorem cnt_lay {m : Nat} {L : List Int} (h : Octets L) (hm : m ≤ L.length) (hc : m + cntOf m L ≤ L.length) : cntd m ((L.drop m).take (cntOf m L)) = L.take (m + cntOf m L) := by
  unfold cntd
  have e : (((L.drop m).take (cntOf m L)).length : Int) = bval (L.take m) := by
    rw [List.length_take, List.length_drop, Nat.min_eq_left (by omega)]
    exact cntOf_nn h
  rw [e, be_take h hm, List.take_add]
theorem one_nat {L : List Int} (h : Octets L) : One (rdE (pNat L) 0) L (rdL (pNat L) 0 L) (fun t => natE (rdV 0 (pNat L) 0) 0 = 0 ∧ ∀ K, natL (rdV 0 (pNat L) 0) 0 K = K ++ t) := by
  by_cases hm : 1 ≤ L.length
  · by_cases hc : 1 + cntOf 1 L ≤ L.length
    · by_cases hz : 0 < cntOf 1 L ∧ nth (L.drop 1) 0 = 0
      · have e : pNat L = .inl 41 := by unfold pNat; rw [if_pos hm, if_pos hc, if_pos hz]
        rw [e]
        exact .inl ⟨by decide, rfl⟩
      · have e : pNat L = .inr (bval ((L.drop 1).take (cntOf 1 L)), 1 + cntOf 1 L) := by unfold pNat; rw [if_pos hm, if_pos hc, if_neg hz]
        have hcl := cnt_lay h hm hc
        have hlt : ((cntOf 1 L : Nat) : Int) < 256 := by
          have := (bval_bound (l := L.take 1) (fun x hx => h x (List.mem_of_mem_take hx))).2
          rw [List.length_take, Nat.min_eq_left hm] at this
          rw [cntOf_nn h]
          simpa using this
        have hoct : Octets ((L.drop 1).take (cntOf 1 L)) := fun x hx => h x (List.mem_of_mem_drop (List.mem_of_mem_take hx))
        have hlen : ((L.drop 1).take (cntOf 1 L)).length = cntOf 1 L := by rw [List.length_take, List.length_drop]; omega
        have hB : natB (bval ((L.drop 1).take (cntOf 1 L))) = (L.drop 1).take (cntOf 1 L) := natB_unique (bval_bound hoct).1 ⟨hoct, fun hne => by
          have hpos : 0 < cntOf 1 L := by
            rcases Nat.eq_zero_or_pos (cntOf 1 L) with h0 | h0
            · exact absurd (by rw [h0]; simp) hne
            · exact h0
          rw [nth_take hpos]
          exact fun h0 => hz ⟨hpos, h0⟩, rfl⟩
        rw [e]
        refine .inr ⟨rfl, _, hc, ?_, rfl⟩
        show natE (bval ((L.drop 1).take (cntOf 1 L))) 0 = 0 ∧ ∀ K, natL (bval ((L.drop 1).take (cntOf 1 L))) 0 K = K ++ L.take (1 + cntOf 1 L)
        unfold natE natL
        rw [hB, if_pos (by omega)]
        refine ⟨rfl, fun K => ?_⟩
        rw [if_pos (by omega), hcl]
        rfl
    · have e : pNat L = .inl 40 := by unfold pNat; rw [if_pos hm, if_neg hc]
      rw [e]
      exact .inl ⟨by decide, rfl⟩
  · have e : pNat L = .inl 40 := by unfold pNat; rw [if_neg hm]
    rw [e]
    exact .inl ⟨by decide, rfl⟩
theorem one_raw {L : List Int} {most : Int} (h : Octets L) : One (rdE (pRaw most L) 0) L (rdL (pRaw most L) 0 L) (fun t => cntd 4 (rdV [] (pRaw most L) 0) = t) := by
  by_cases hm : 4 ≤ L.length
  · by_cases hq : most < (cntOf 4 L : Int)
    · have e : pRaw most L = .inl 42 := by unfold pRaw; rw [if_pos hm, if_pos hq]
      rw [e]
      exact .inl ⟨by decide, rfl⟩
    · by_cases hc : 4 + cntOf 4 L ≤ L.length
      · have e : pRaw most L = .inr ((L.drop 4).take (cntOf 4 L), 4 + cntOf 4 L) := by unfold pRaw; rw [if_pos hm, if_neg hq, if_pos hc]
        rw [e]
        exact .inr ⟨rfl, _, hc, cnt_lay h hm hc, rfl⟩
      · have e : pRaw most L = .inl 40 := by unfold pRaw; rw [if_pos hm, if_neg hq, if_neg hc]
        rw [e]
        exact .inl ⟨by decide, rfl⟩
  · have e : pRaw most L = .inl 40 := by unfold pRaw; rw [if_neg hm]
    rw [e]
    exact .inl ⟨by decide, rfl⟩
theorem ByA.front2 {w : World} {b : Nat} {ao : Option Addr} {n c : Nat} {l : List Int} (h : ByA w b ao n c l) {k : Nat} (hk : k ≤ n) : ByA w b ao k c (l.take k) := by
  obtain ⟨o, h1, h2, h3, h4, h5⟩ := h.ex
  refine ⟨o, by rw [List.length_take]; omega, by omega, h3, fun x hx => h4 x (List.mem_of_mem_take hx), ?_, fun i hi => ?_⟩
  · rcases h5.loc with e | e
    · exact .inl (by rw [e]; simp)
    · exact .inr e
  · rw [List.length_take] at hi
    rw [h5.cell i (by omega), nth_take (by omega)]
theorem pRaw_len {most : Int} {L : List Int} {err : Int} : (rdV [] (pRaw most L) err).length ≤ L.length := by
  unfold rdV pRaw
  repeat' split
  all_goals first
    | exact Nat.zero_le _
    | (rename_i hh; repeat' split at hh
       all_goals first
         | cases hh
           rw [List.length_take, List.length_drop]; omega
         | cases hh)
theorem pRaw_oct {most : Int} {L : List Int} {err : Int} (h : Octets L) : Octets (rdV [] (pRaw most L) err) := by
  unfold rdV pRaw
  repeat' split
  all_goals first
    | exact fun x hx => by simp at hx
    | (rename_i hh; repeat' split at hh
       all_goals first
         | cases hh
           exact fun x hx => h x (List.mem_of_mem_drop (List.mem_of_mem_take hx))
         | cases hh)
end Go.Proofs.YtjejmkcjflhoiaaGreatDoor

namespace Go.Proofs.YtjejmkcjflhoiaaGreatDoor
namespace Rc
open Go.RowKit Go.Lib Pg Lim
theorem cntd_len (m : Nat) (l : List Int) : (cntd m l).length = m + l.length := by
  unfold cntd
  rw [List.length_append, be_length]
theorem take_app {l r : List Int} {m : Nat} (h : l.length = m) : (l ++ r).take m = l ∧ (l ++ r).drop m = r := by
  subst h
  exact ⟨List.take_left, List.drop_left⟩
theorem back_fix (m : Nat) {x : Int} (hx : 0 ≤ x) (r : List Int) : pFix m (be m x ++ r) = .inr (x % 256 ^ m, m) ∧ (be m x ++ r).drop m = r := by
  have h := take_app (r := r) (be_length m x)
  refine ⟨?_, h.2⟩
  unfold pFix
  rw [if_pos (by rw [List.length_append, be_length]; omega), h.1, be_val m hx]
theorem cnt_app {m : Nat} {l r : List Int} (hl : (l.length : Int) < 256 ^ m) : cntOf m (cntd m l ++ r) = l.length := by
  unfold cntOf cntd
  rw [List.append_assoc, (take_app (be_length m _)).1, be_val m (by omega), Int.emod_eq_of_lt (by omega) hl]
  rfl
theorem cnt_drop (m : Nat) (l r : List Int) : (cntd m l ++ r).drop m = l ++ r := by
  unfold cntd
  rw [List.append_assoc, (take_app (be_length m _)).2]
theorem back_nat {V : Int} (hV : 0 ≤ V) (hl : (natB V).length < 256) (r : List Int) : pNat (cntd 1 (natB V) ++ r) = .inr (V, 1 + (natB V).length) ∧ (cntd 1 (natB V) ++ r).drop (1 + (natB V).length) = r := by
  have hc : cntOf 1 (cntd 1 (natB V) ++ r) = (natB V).length := cnt_app (by simpa using (by omega : ((natB V).length : Int) < 256))
  have hd := cnt_drop 1 (natB V) r
  have hB := natB_is hV
  refine ⟨?_, ?_⟩
  · unfold pNat
    rw [if_pos (by rw [List.length_append, cntd_len]; omega), hc, if_pos (by rw [List.length_append, cntd_len]; omega), hd, if_neg, (take_app rfl).1, hB.2.2]
    rintro ⟨h0, h1⟩
    have hne : natB V ≠ [] := fun e => by rw [e] at h0; simp at h0
    refine hB.2.1 hne ?_
    rw [← h1]
    cases hh : natB V with
    | nil => exact absurd hh hne
    | cons x t => rfl
  · rw [← List.drop_drop, hd, (take_app rfl).2]
theorem back_raw {l : List Int} (hl : l.length < 4294967296) (r : List Int) : pRaw (l.length : Int) (cntd 4 l ++ r) = .inr (l, 4 + l.length) ∧ (cntd 4 l ++ r).drop (4 + l.length) = r := by
  have hc : cntOf 4 (cntd 4 l ++ r) = l.length := cnt_app (by simpa using (by omega : (l.length : Int) < 4294967296))
  have hd := cnt_drop 4 l r
  refine ⟨?_, ?_⟩
  · unfold pRaw
    rw [if_pos (by rw [List.length_append, cntd_len]; omega), hc, if_neg (by omega), if_pos (by rw [List.length_append, cntd_len]; omega), hd, (take_app rfl).1]
  · rw [← List.drop_drop, hd, (take_app rfl).2]
theorem back_bool (x : Bool) (r : List Int) : pBool (be 1 (if x then 1 else 0) ++ r) = .inr (x, 1) ∧ (be 1 (if x then 1 else 0) ++ r).drop 1 = r := by
  cases x
  · exact ⟨rfl, rfl⟩
  · exact ⟨rfl, rfl⟩
/-- a field that was read, laid again -/
theorem one1 {l : List Int} (h : Octets l) (k : Nat) (he : rdE (p1 k l) 0 = 0) : enc1 k (rdV 0 (p1 k l) 0) ++ rdL (p1 k l) 0 l = l ∧ ∃ m, rdL (p1 k l) 0 l = l.drop m := by
  match k with
  | 0 =>
    rcases one_fix h 8 with ⟨h1, _⟩ | ⟨_, m, h2, h3, h4⟩
    · exact absurd he h1
    · show be 8 (rdV 0 (pFix 8 l) 0) ++ rdL (pFix 8 l) 0 l = l ∧ ∃ m, rdL (pFix 8 l) 0 l = l.drop m
      rw [h3, h4]
      exact ⟨List.take_append_drop m l, m, rfl⟩
  | 1 =>
    have he' : rdE (pBool l) 0 = 0 := by rw [← pBoolI_E]; exact he
    rcases one_bool h with ⟨h1, _⟩ | ⟨_, m, h2, h3, h4⟩
    · exact absurd he' h1
    · show be 1 (rdV 0 (pBoolI l) 0) ++ rdL (pBoolI l) 0 l = l ∧ ∃ m, rdL (pBoolI l) 0 l = l.drop m
      rw [pBoolI_V, pBoolI_L, h3, h4]
      exact ⟨List.take_append_drop m l, m, rfl⟩
  | k + 2 =>
    rcases one_nat h with ⟨h1, _⟩ | ⟨_, m, h2, ⟨h3, h5⟩, h4⟩
    · exact absurd he h1
    · show cntd 1 (natB (fit (rdV 0 (pNat l) 0))) ++ rdL (pNat l) 0 l = l ∧ ∃ m, rdL (pNat l) 0 l = l.drop m
      have hf : (natB (rdV 0 (pNat l) 0)).length < 256 := by
        unfold natE at h3
        split at h3
        · assumption
        · exact absurd h3 (by decide)
      have e := h5 []
      unfold natL wrote at e
      rw [if_pos hf, if_pos rfl] at e
      unfold fit
      rw [if_pos hf]
      simp only [List.nil_append] at e
      rw [e, h4]
      exact ⟨List.take_append_drop m l, m, rfl⟩
theorem thr_cons {σ : Type} (nx : Nat → Nat → σ → σ) (p : Nat × Nat) (ks : List (Nat × Nat)) (s : σ) : thr nx (p :: ks) s = thr nx ks (nx p.1 p.2 s) := rfl
theorem thr_bad (ks : List (Nat × Nat)) : ∀ s : RSt, s.1 ≠ 0 → (thr rnx ks s).1 = s.1 := by
  induction ks with
  | nil => intro s _; rfl
  | cons p ks ih =>
    intro s hs
    have e : (rnx p.1 p.2 s).1 = s.1 := rdE_bad hs
    rw [thr_cons, ih _ (by rw [e]; exact hs), e]
theorem thr_place (ks : List (Nat × Nat)) (o : Nat) : ∀ s : RSt, o ∉ ks.map Prod.snd → (thr rnx ks s).2.2 o = s.2.2 o := by
  induction ks with
  | nil => intro s _; rfl
  | cons p ks ih =>
    intro s ho
    rw [List.map_cons, List.mem_cons, not_or] at ho
    rw [thr_cons, ih _ ho.2]
    show (if o = p.2 then _ else _) = _
    rw [if_neg ho.1]
theorem octets_drop {l : List Int} (h : Octets l) (m : Nat) : Octets (l.drop m) := fun x hx => h x (List.mem_of_mem_drop hx)
/-- a record that was read, laid again -/
theorem thr_one (ks : List (Nat × Nat)) : ∀ (l : List Int) (xs : Nat → Int), Octets l → (ks.map Prod.snd).Nodup → (thr rnx ks (0, l, xs)).1 = 0 → ∀ L, thr (pnx (thr rnx ks (0, l, xs)).2.2) ks L ++ (thr rnx ks (0, l, xs)).2.1 = L ++ l := by
  induction ks with
  | nil => intro l xs _ _ _ L; rfl
  | cons p ks ih =>
    intro l xs ho hnd he L
    rw [List.map_cons, List.nodup_cons] at hnd
    rw [thr_cons] at he
    have e1 : rdE (p1 p.1 l) 0 = 0 := by
      by_cases hz : rdE (p1 p.1 l) 0 = 0
      · exact hz
      · exact absurd ((thr_bad ks (rnx p.1 p.2 (0, l, xs)) hz).symm.trans he) hz
    obtain ⟨h1, m, h2⟩ := one1 ho p.1 e1
    have es : rnx p.1 p.2 (0, l, xs) = (0, rdL (p1 p.1 l) 0 l, fun i => if i = p.2 then rdV 0 (p1 p.1 l) 0 else xs i) := by
      show (rdE (p1 p.1 l) 0, _, _) = _
      rw [e1]
    have e0 : thr rnx (p :: ks) (0, l, xs) = thr rnx ks (0, rdL (p1 p.1 l) 0 l, fun i => if i = p.2 then rdV 0 (p1 p.1 l) 0 else xs i) := by rw [thr_cons, es]
    rw [es] at he
    rw [e0]
    have ih' := ih _ _ (by rw [h2]; exact octets_drop ho m) hnd.2 he
    rw [thr_cons, ih']
    have ev : (thr rnx ks (0, rdL (p1 p.1 l) 0 l, fun i => if i = p.2 then rdV 0 (p1 p.1 l) 0 else xs i)).2.2 p.2 = rdV 0 (p1 p.1 l) 0 := by
      rw [thr_place ks p.2 _ hnd.1]
      show (if p.2 = p.2 then _ else _) = _
      rw [if_pos rfl]
    show (L ++ enc1 p.1 _) ++ _ = L ++ l
    rw [ev, List.append_assoc, h1]
/-- a field that was laid, read -/
def rng : Nat → Int → Prop
  | 0, x => 0 ≤ x ∧ x < 18446744073709551616
  | 1, x => x = 0 ∨ x = 1
  | _, x => 0 ≤ x
def fitk : Nat → Int → Int
  | 0, x => x
  | 1, x => x
  | _, x => fit x
theorem back1 (k : Nat) {x : Int} (hx : rng k x) (r : List Int) : ∃ m, p1 k (enc1 k x ++ r) = .inr (fitk k x, m) ∧ (enc1 k x ++ r).drop m = r := by
  match k, hx with
  | 0, hx =>
    obtain ⟨h1, h2⟩ := back_fix 8 hx.1 r
    refine ⟨8, ?_, h2⟩
    show pFix 8 (be 8 x ++ r) = _
    rw [h1, Int.emod_eq_of_lt hx.1 (by have := hx.2; simpa using this)]
    rfl
  | 1, hx =>
    have key : ∀ t : Bool, ∃ m, pBoolI (be 1 (if t then 1 else 0) ++ r) = .inr ((if t then 1 else 0), m) ∧ (be 1 (if t then 1 else 0) ++ r).drop m = r := fun t => by
      obtain ⟨h1, h2⟩ := back_bool t r
      refine ⟨1, ?_, h2⟩
      unfold pBoolI
      rw [h1]
    rcases hx with rfl | rfl
    · exact key false
    · exact key true
  | k + 2, hx =>
    have hV : 0 ≤ fit x := by
      unfold fit
      split
      · exact hx
      · decide
    obtain ⟨h1, h2⟩ := back_nat hV (fit_len x) r
    exact ⟨_, h1, h2⟩
/-- a record that was laid, read -/
theorem thr_back (xv : Nat → Int) (ks : List (Nat × Nat)) : ∀ (r : List Int) (xs : Nat → Int), (ks.map Prod.snd).Nodup → (∀ p ∈ ks, rng p.1 (xv p.2)) → ∃ ys, thr rnx ks (0, thr (pnx xv) ks [] ++ r, xs) = (0, r, ys) ∧ (∀ p ∈ ks, ys p.2 = fitk p.1 (xv p.2)) ∧ ∀ o, o ∉ ks.map Prod.snd → ys o = xs o := by
  have hL : ∀ (ks : List (Nat × Nat)) (L : List Int), thr (pnx xv) ks L = L ++ thr (pnx xv) ks [] := by
    intro ks
    induction ks with
    | nil => intro L; simp [thr]
    | cons p ks ih =>
      intro L
      rw [thr_cons, thr_cons, ih (pnx xv p.1 p.2 L), ih (pnx xv p.1 p.2 [])]
      simp [pnx, List.append_assoc]
  induction ks with
  | nil => exact fun r xs _ _ => ⟨xs, rfl, (fun p hp => by cases hp), fun _ _ => rfl⟩
  | cons p ks ih =>
    intro r xs hnd hr
    rw [List.map_cons, List.nodup_cons] at hnd
    obtain ⟨m, h1, h2⟩ := back1 p.1 (hr p List.mem_cons_self) (thr (pnx xv) ks [] ++ r)
    have el : thr (pnx xv) (p :: ks) [] ++ r = enc1 p.1 (xv p.2) ++ (thr (pnx xv) ks [] ++ r) := by
      rw [thr_cons, hL]
      simp [pnx, List.append_assoc]
    rw [el, thr_cons]
    have es : rnx p.1 p.2 (0, enc1 p.1 (xv p.2) ++ (thr (pnx xv) ks [] ++ r), xs) = (0, thr (pnx xv) ks [] ++ r, fun i => if i = p.2 then fitk p.1 (xv p.2) else xs i) := by
      show (rdE (p1 p.1 _) 0, rdL (p1 p.1 _) 0 _, fun i => if i = p.2 then rdV 0 (p1 p.1 _) 0 else xs i) = _
      rw [h1]
      show (_, List.drop m _, _) = _
      rw [h2]
      rfl
    rw [es]
    obtain ⟨ys, e1, e2, e3⟩ := ih r _ hnd.2 (fun q hq => hr q (List.mem_cons_of_mem _ hq))
    refine ⟨ys, e1, fun q hq => ?_, fun o ho => ?_⟩
    · rcases List.mem_cons.1 hq with rfl | hq
      · rw [e3 _ hnd.1]
        show (if q.2 = q.2 then _ else _) = _
        rw [if_pos rfl]
      · exact e2 q hq
    · rw [List.map_cons, List.mem_cons, not_or] at ho
      rw [e3 o ho.2]
      show (if o = p.2 then _ else _) = _
      rw [if_neg ho.1]
end Rc
end Go.Proofs.YtjejmkcjflhoiaaGreatDoor

namespace Go.Proofs.YtjejmkcjflhoiaaGreatDoor
namespace Rc
open Go.RowKit Go.Lib Pg
attribute [local go_sem] Oper.semAt_some
theorem enc1_oct (k : Nat) (x : Int) : Octets (enc1 k x) := by
  unfold enc1
  split
  · exact be_oct _ _
  · exact be_oct _ _
  · intro y hy
    rcases List.mem_append.1 hy with h | h
    · exact be_oct _ _ y h
    · exact natB_oct _ y h
theorem thr_oct (xs : Nat → Int) (ks : List (Nat × Nat)) : ∀ L, Octets L → Octets (thr (pnx xs) ks L) := by
  induction ks with
  | nil => exact fun _ h => h
  | cons p ks ih =>
    intro L h
    rw [thr_cons]
    refine ih _ ?_
    intro y hy
    rcases List.mem_append.1 hy with h1 | h1
    · exact h y h1
    · exact enc1_oct _ _ y h1
/-- bytes that were laid, as a list -/
theorem box_bya {w : World} {b n : Nat} {M : List Int} (h : Box w b (M.map (Value.int .u8)) 5) (hn : n = M.length) (ho : Octets M) (hl : M.length ≤ 1000000) : ByA w b (some ⟨b, 0, none⟩) n n M :=
  ⟨0, hn.symm, Nat.le_refl _, ⟨by omega, fun e => by cases e⟩, ho, h.atB⟩
end Rc
end Go.Proofs.YtjejmkcjflhoiaaGreatDoor

namespace Go.Proofs.YtjejmkcjflhoiaaGreatDoor
namespace Rc
open Go.RowKit Go.Lib Pg
attribute [local go_sem] Oper.semAt_some
theorem bk_History {w : World} {bb n c : Nat} {ao : Option Addr} {x0 : Int} {x1 : Int} (A : ByA w bb ao n c (thr (pnx (fun o => ([x0, x1] : List Int).getD o 0)) [(2, 0), (0, 1)] [])) (hn : n ≤ 1000000000) (r0 : 0 ≤ x0) (r1 : 0 ≤ x1 ∧ x1 < 18446744073709551616) :
    Calls Tryz.prog 121 #[.slice ao n c] w fun e w' => ∃ a0 n0 c0, e = .returned (.tuple #[.agg #[.slice a0 n0 c0, .int .u64 x1], .int .i64 0]) ∧ (NatW w' w.heap.size a0 n0 c0 (fit x0) ∧ n0 ≤ 255) ∧ Below w.heap.size w w' := by
  have hl : (thr (pnx (fun o => ([x0, x1] : List Int).getD o 0)) [(2, 0), (0, 1)] []).length = n := by obtain ⟨o, h1, _⟩ := A.ex; exact h1
  obtain ⟨ys, e1, e2, -⟩ := thr_back (fun o => ([x0, x1] : List Int).getD o 0) [(2, 0), (0, 1)] [] (fun _ => 0) (by decide) (List.forall_mem_cons.2 ⟨r0, List.forall_mem_cons.2 ⟨r1, fun _ h => by cases h⟩⟩)
  rw [List.append_nil] at e1
  refine (History_any A hn hl).mono ?_
  rintro e w' ⟨⟨cs, xs, r, rfl, h1, h2, h3, h4⟩, B⟩
  rw [e1] at h3
  obtain ⟨rfl, rfl⟩ := h3 rfl
  have y0 := e2 (2, 0) (by simp)
  obtain ⟨a0, n0, c0, q0, w0, k0⟩ := (h2 0).2.2 rfl
  rw [show _ = fit x0 from y0] at w0
  have y1 := e2 (0, 1) (by simp)
  have q1 : cs[1]? = some (.int .u64 x1) := by rw [(h2 1).1 rfl]; exact congrArg _ (congrArg _ y1)
  have ecs : cs = [.slice a0 n0 c0, .int .u64 x1] := by
    apply List.ext_getElem?
    intro i
    match i with
    | 0 => rw [q0]; rfl
    | 1 => rw [q1]; rfl
    | k + 2 => rw [List.getElem?_eq_none (by omega), List.getElem?_eq_none (by simp)]
  subst ecs
  exact ⟨a0, n0, c0, rfl, ⟨w0, k0⟩, B⟩
theorem bk_Cut {w : World} {bb n c : Nat} {ao : Option Addr} {x0 : Int} {x1 : Int} (A : ByA w bb ao n c (thr (pnx (fun o => ([x0, x1] : List Int).getD o 0)) [(0, 0), (0, 1)] [])) (hn : n ≤ 1000000000) (r0 : 0 ≤ x0 ∧ x0 < 18446744073709551616) (r1 : 0 ≤ x1 ∧ x1 < 18446744073709551616) :
    Calls Tryz.prog 77 #[.slice ao n c] w fun e w' => e = .returned (.tuple #[.agg #[.int .u64 x0, .int .u64 x1], .int .i64 0]) ∧ Below w.heap.size w w' := by
  have hl : (thr (pnx (fun o => ([x0, x1] : List Int).getD o 0)) [(0, 0), (0, 1)] []).length = n := by obtain ⟨o, h1, _⟩ := A.ex; exact h1
  obtain ⟨ys, e1, e2, -⟩ := thr_back (fun o => ([x0, x1] : List Int).getD o 0) [(0, 0), (0, 1)] [] (fun _ => 0) (by decide) (List.forall_mem_cons.2 ⟨r0, List.forall_mem_cons.2 ⟨r1, fun _ h => by cases h⟩⟩)
  rw [List.append_nil] at e1
  refine (Cut_any A hn hl).mono ?_
  rintro e w' ⟨⟨cs, xs, r, rfl, h1, h2, h3, h4⟩, B⟩
  rw [e1] at h3
  obtain ⟨rfl, rfl⟩ := h3 rfl
  have y0 := e2 (0, 0) (by simp)
  have q0 : cs[0]? = some (.int .u64 x0) := by rw [(h2 0).1 rfl]; exact congrArg _ (congrArg _ y0)
  have y1 := e2 (0, 1) (by simp)
  have q1 : cs[1]? = some (.int .u64 x1) := by rw [(h2 1).1 rfl]; exact congrArg _ (congrArg _ y1)
  have ecs : cs = [.int .u64 x0, .int .u64 x1] := by
    apply List.ext_getElem?
    intro i
    match i with
    | 0 => rw [q0]; rfl
    | 1 => rw [q1]; rfl
    | k + 2 => rw [List.getElem?_eq_none (by omega), List.getElem?_eq_none (by simp)]
  subst ecs
  exact ⟨rfl, B⟩
end Rc
end Go.Proofs.YtjejmkcjflhoiaaGreatDoor

namespace Go.Proofs.YtjejmkcjflhoiaaGreatDoor
open Go.RowKit Lim

/-- the bytes of a step; none: it is too long -/
def stB (s : Stp) : Option (List Int) :=
  if s.what = 0 then some (be 1 (s.num % 256))
  else if s.what = 1 then some (be 4 (s.num % 4294967296))
  else if s.what = 2 then some (be 8 s.num)
  else if s.what = 3 then some (be 1 (if s.num % 2 == 1 then 1 else 0))
  else if s.what = 4 ∨ s.what = 5 then (if (natB s.V).length < 256 then some (cntd 1 (natB s.V)) else none)
  else if s.what = 6 then some (cntd 4 s.bl)
  else some []
/-- one step more -/
def stO (s : Stp) (o : Option (List Int)) : Option (List Int) := o.bind fun L => (stB s).map (L ++ ·)
/-- the bytes of a script -/
def laid (ss : List Stp) : Option (List Int) := ss.foldl (fun o s => stO s o) (some [])
theorem laid_snoc (ss : List Stp) (s : Stp) : laid (ss ++ [s]) = stO s (laid ss) := by
  unfold laid
  rw [List.foldl_append]
  rfl
theorem laid_take {ss : List Stp} {i : Nat} {s : Stp} (h : ss[i]? = some s) : laid (ss.take (i + 1)) = stO s (laid (ss.take i)) := by
  rw [List.take_add_one, h]
  exact laid_snoc _ _
theorem laid_from (ss : List Stp) (o : Option (List Int)) : ss.foldl (fun o s => stO s o) o = o.bind fun L => (laid ss).map (L ++ ·) := by
  induction ss generalizing o with
  | nil =>
    cases o with
    | none => rfl
    | some L => simp [laid]
  | cons s r ih =>
    have h1 : laid (s :: r) = (stO s (some [])).bind fun L => (laid r).map (L ++ ·) := by
      unfold laid
      rw [List.foldl_cons]
      exact ih _
    rw [List.foldl_cons, ih, h1]
    cases o with
    | none => rfl
    | some L =>
      unfold stO
      cases stB s with
      | none => rfl
      | some l =>
        cases laid r with
        | none => rfl
        | some t => simp [List.append_assoc]
theorem laid_append (l m : List Stp) : laid (l ++ m) = (laid l).bind fun L => (laid m).map (L ++ ·) := by
  rw [← laid_from m (laid l)]
  unfold laid
  rw [List.foldl_append]
theorem laid_cons (s : Stp) (r : List Stp) : laid (s :: r) = (stB s).bind fun L => (laid r).map (L ++ ·) := by
  have := laid_append [s] r
  rw [List.singleton_append] at this
  rw [this]
  unfold laid
  rw [List.foldl_cons, List.foldl_nil]
  unfold stO
  cases stB s with
  | none => rfl
  | some l => simp
/-- a Writer that has laid o (none: the error 42), at most N bytes -/
structure WrO (w : World) (g : Nat) (o : Option (List Int)) (N : Nat) : Prop where
  ex : ∃ err L, WrA w g err L ∧ L.length ≤ N ∧ (∀ M, o = some M → err = 0 ∧ L = M) ∧ (o = none → err = 42)
theorem WrO.lt {w : World} {g : Nat} {o : Option (List Int)} {N : Nat} (h : WrO w g o N) : g < w.heap.size := by
  obtain ⟨_, _, X, _⟩ := h.ex
  exact X.lt
theorem WrO.keep {w w' : World} {g : Nat} {o : Option (List Int)} {N : Nat} (h : WrO w g o N) (hb : Below w.heap.size w w') : WrO w' g o N := by
  obtain ⟨e, L, X, h1⟩ := h.ex
  exact ⟨e, L, X.keep hb, h1⟩
theorem WrO.off {w w' : World} {g g' : Nat} {o o' : Option (List Int)} {N N' : Nat} (h : WrO w g o N) (h' : WrO w g' o' N') (hne : g ≠ g') (hb : But g' w w') : WrO w' g o N := by
  obtain ⟨e, L, X, h1⟩ := h.ex
  obtain ⟨_, _, X', _⟩ := h'.ex
  exact ⟨e, L, X.off X' hne hb, h1⟩
theorem wroNew (w : World) : WrO (w.alloc (.cells Tryz.zeroCells230 230)) w.heap.size (some []) 0 :=
  ⟨0, [], wrNew w, Nat.le_refl _, fun M e => by cases e; exact ⟨rfl, rfl⟩, fun e => by cases e⟩
theorem WrO.some {w : World} {g : Nat} {o : Option (List Int)} {N : Nat} (h : WrO w g o N) {L : List Int} (e : o = .some L) : WrA w g 0 L ∧ L.length ≤ N := by
  obtain ⟨err, M, X, h1, h2, _⟩ := h.ex
  obtain ⟨rfl, rfl⟩ := h2 L e
  exact ⟨X, h1⟩
theorem WrO.none {w : World} {g : Nat} {o : Option (List Int)} {N : Nat} (h : WrO w g o N) (e : o = .none) : ∃ L, WrA w g 42 L := by
  obtain ⟨err, M, X, h1, _, h3⟩ := h.ex
  obtain rfl := h3 e
  exact ⟨M, X⟩
theorem cntd_len (m : Nat) (l : List Int) : (cntd m l).length = m + l.length := by
  unfold cntd
  rw [List.length_append, be_length]
/-- the step s, laid by a call that writes l -/
theorem WrO.lay {w' : World} {g : Nat} {o : Option (List Int)} {N K : Nat} {err : Int} {L l : List Int} {s : Stp} (hs : stB s = .some l) (hK : l.length ≤ K) (h1 : L.length ≤ N) (h2 : ∀ M, o = .some M → err = 0 ∧ L = M) (h3 : o = .none → err = 42) (X : WrA w' g err (wrote err L l)) : WrO w' g (stO s o) (N + K) := by
  refine ⟨err, _, X, ?_, fun M e => ?_, fun e => ?_⟩
  · have := wrote_len err L l
    omega
  · cases o with
    | none => cases e
    | some M' =>
      obtain ⟨rfl, rfl⟩ := h2 M' rfl
      unfold stO at e
      rw [hs] at e
      cases e
      exact ⟨rfl, rfl⟩
  · cases o with
    | none => exact h3 rfl
    | some M' =>
      unfold stO at e
      rw [hs] at e
      cases e
theorem raw_at {w : World} {g n c b : Nat} {ao : Option Addr} {l : List Int} (h : ByA w b ao n c l) (hg : w.heap.size ≤ g) : ∃ b' o, AtB w ao b' o l ∧ l.length = n ∧ n ≤ c ∧ b' ≠ g := by
  obtain ⟨o, h1, h2, h3, h4, h5⟩ := h.ex
  rcases h5.lt with e | e
  · subst e
    exact ⟨g + 1, 0, ⟨.inl rfl, fun i hi => by simp at hi⟩, h1, h2, by omega⟩
  · exact ⟨b, o, h5, h1, h2, by omega⟩
theorem natE_two {V err : Int} (h : (natB V).length < 256) (L : List Int) : natE V err = err ∧ natL V err L = wrote err L (cntd 1 (natB V)) := by
  unfold natE natL
  rw [if_pos h, if_pos h]
  exact ⟨rfl, rfl⟩
/-- a whole number's step -/
theorem WrO.nat {w' : World} {g : Nat} {o : Option (List Int)} {N K : Nat} {err : Int} {L : List Int} {s : Stp} (hw : s.what = 4 ∨ s.what = 5) (hK : 256 ≤ K) (h1 : L.length ≤ N) (h2 : ∀ M, o = .some M → err = 0 ∧ L = M) (h3 : o = .none → err = 42) (X : WrA w' g (natE s.V err) (natL s.V err L)) : WrO w' g (stO s o) (N + K) := by
  have e : stB s = if (natB s.V).length < 256 then .some (cntd 1 (natB s.V)) else .none := by
    unfold stB
    rcases hw with h | h <;> simp [h]
  by_cases hl : (natB s.V).length < 256
  · rw [if_pos hl] at e
    rw [(natE_two hl L).1, (natE_two hl L).2] at X
    exact WrO.lay e (by rw [cntd_len]; omega) h1 h2 h3 X
  · rw [if_neg hl] at e
    unfold natE natL at X
    rw [if_neg hl, if_neg hl] at X
    refine ⟨_, _, X, by omega, fun M hM => ?_, fun _ => ?_⟩
    · unfold stO at hM
      rw [e] at hM
      cases o <;> cases hM
    · unfold long
      cases o with
      | none => rw [h3 rfl]; rfl
      | some M => rw [(h2 M rfl).1]; rfl
end Go.Proofs.YtjejmkcjflhoiaaGreatDoor

namespace Go.Proofs.YtjejmkcjflhoiaaGreatDoor
open Go.RowKit Lim

theorem take_app {l r : List Int} {m : Nat} (h : l.length = m) : (l ++ r).take m = l ∧ (l ++ r).drop m = r := by
  subst h
  exact ⟨List.take_left, List.drop_left⟩
theorem back_fix (m : Nat) {x : Int} (hx : 0 ≤ x) (r : List Int) : pFix m (be m x ++ r) = .inr (x % 256 ^ m, m) ∧ (be m x ++ r).drop m = r := by
  have h := take_app (r := r) (be_length m x)
  refine ⟨?_, h.2⟩
  unfold pFix
  rw [if_pos (by rw [List.length_append, be_length]; omega), h.1, be_val m hx]
theorem cnt_app {m : Nat} {l r : List Int} (hl : (l.length : Int) < 256 ^ m) : cntOf m (cntd m l ++ r) = l.length := by
  unfold cntOf cntd
  rw [List.append_assoc, (take_app (be_length m _)).1, be_val m (by omega), Int.emod_eq_of_lt (by omega) hl]
  rfl
theorem cnt_drop (m : Nat) (l r : List Int) : (cntd m l ++ r).drop m = l ++ r := by
  unfold cntd
  rw [List.append_assoc, (take_app (be_length m _)).2]
theorem back_nat {V : Int} (hV : 0 ≤ V) (hl : (natB V).length < 256) (r : List Int) : pNat (cntd 1 (natB V) ++ r) = .inr (V, 1 + (natB V).length) ∧ (cntd 1 (natB V) ++ r).drop (1 + (natB V).length) = r := by
  have hc : cntOf 1 (cntd 1 (natB V) ++ r) = (natB V).length := cnt_app (by simpa using (by omega : ((natB V).length : Int) < 256))
  have hd := cnt_drop 1 (natB V) r
  have hB := natB_is hV
  refine ⟨?_, ?_⟩
  · unfold pNat
    rw [if_pos (by rw [List.length_append, cntd_len]; omega), hc, if_pos (by rw [List.length_append, cntd_len]; omega), hd, if_neg, (take_app rfl).1, hB.2.2]
    rintro ⟨h0, h1⟩
    have hne : natB V ≠ [] := fun e => by rw [e] at h0; simp at h0
    refine hB.2.1 hne ?_
    rw [← h1]
    cases hh : natB V with
    | nil => exact absurd hh hne
    | cons x t => rfl
  · rw [← List.drop_drop, hd, (take_app rfl).2]
theorem back_raw {l : List Int} (hl : l.length < 4294967296) (r : List Int) : pRaw (l.length : Int) (cntd 4 l ++ r) = .inr (l, 4 + l.length) ∧ (cntd 4 l ++ r).drop (4 + l.length) = r := by
  have hc : cntOf 4 (cntd 4 l ++ r) = l.length := cnt_app (by simpa using (by omega : (l.length : Int) < 4294967296))
  have hd := cnt_drop 4 l r
  refine ⟨?_, ?_⟩
  · unfold pRaw
    rw [if_pos (by rw [List.length_append, cntd_len]; omega), hc, if_neg (by omega), if_pos (by rw [List.length_append, cntd_len]; omega), hd, (take_app rfl).1]
  · rw [← List.drop_drop, hd, (take_app rfl).2]
theorem back_bool (x : Bool) (r : List Int) : pBool (be 1 (if x then 1 else 0) ++ r) = .inr (x, 1) ∧ (be 1 (if x then 1 else 0) ++ r).drop 1 = r := by
  cases x
  · exact ⟨rfl, rfl⟩
  · exact ⟨rfl, rfl⟩
theorem bkU64 {w : World} {g b : Nat} {x : Int} {r : List Int} (h0 : 0 ≤ x) (h1 : x < 18446744073709551616) (R : RdA w g b 0 (be 8 x ++ r)) :
    Calls Tryz.prog 175 #[.pointer (some ⟨g, 0, none⟩)] w fun e w' => e = .returned (.int .u64 x) ∧ RdA w' g b 0 r ∧ But g w w' := by
  have t := rdU64 R
  obtain ⟨e1, e2⟩ := back_fix 8 h0 r
  rw [e1] at t
  unfold rdV rdE rdL at t
  simp only [if_true] at t
  rw [e2, Int.emod_eq_of_lt h0 (by simpa using h1)] at t
  exact t
theorem bkBool {w : World} {g b : Nat} {x : Bool} {r : List Int} (R : RdA w g b 0 (be 1 (if x then 1 else 0) ++ r)) :
    Calls Tryz.prog 177 #[.pointer (some ⟨g, 0, none⟩)] w fun e w' => e = .returned (.bool x) ∧ RdA w' g b 0 r ∧ But g w w' := by
  have t := rdBool R
  obtain ⟨e1, e2⟩ := back_bool x r
  rw [e1] at t
  unfold rdV rdE rdL at t
  simp only [if_true] at t
  rw [e2] at t
  exact t
theorem bkNat {w : World} {g b : Nat} {V : Int} {r : List Int} (hV : 0 ≤ V) (hl : (natB V).length < 256) (R : RdA w g b 0 (cntd 1 (natB V) ++ r)) :
    Calls Tryz.prog 216 #[.pointer (some ⟨g, 0, none⟩)] w fun e w' => ∃ a n c, e = .returned (.slice a n c) ∧ NatO w' a n c V ∧ n ≤ 255 ∧ RdA w' g b 0 r ∧ But g w w' := by
  have t := rdNat R
  obtain ⟨e1, e2⟩ := back_nat hV hl r
  rw [e1] at t
  unfold rdV rdE rdL at t
  simp only [if_true] at t
  rw [e2] at t
  exact t
theorem bkDec {w : World} {g b : Nat} {V : Int} {r : List Int} (hV : 0 ≤ V) (hl : (natB V).length < 256) (R : RdA w g b 0 (cntd 1 (natB V) ++ r)) :
    Calls Tryz.prog 179 #[.pointer (some ⟨g, 0, none⟩)] w fun e w' => ∃ a n c, e = .returned (.agg #[.slice a n c]) ∧ NatO w' a n c V ∧ n ≤ 255 ∧ RdA w' g b 0 r ∧ But g w w' := by
  have t := rdDec R
  obtain ⟨e1, e2⟩ := back_nat hV hl r
  rw [e1] at t
  unfold rdV rdE rdL at t
  simp only [if_true] at t
  rw [e2] at t
  exact t
theorem stB_oct {w : World} {s : Stp} {l : List Int} (A : StpA w s) (h : stB s = some l) : Octets l := by
  have hbl : Octets s.bl := by obtain ⟨_, _, _, _, h4, _⟩ := A.byt.ex; exact h4
  have happ : ∀ {a b : List Int}, Octets a → Octets b → Octets (a ++ b) := fun ha hb x hx => by
    rcases List.mem_append.1 hx with e | e
    · exact ha x e
    · exact hb x e
  unfold stB at h
  repeat' split at h
  all_goals first
    | (cases h; done)
    | (cases h; exact be_oct _ _)
    | (cases h; exact happ (be_oct _ _) (natB_oct _))
    | (cases h; exact happ (be_oct _ _) hbl)
    | (cases h; exact fun x hx => by simp at hx)
theorem laid_oct {w : World} : ∀ {ss : List Stp} {T : List Int}, (∀ s ∈ ss, StpA w s) → laid ss = some T → Octets T
  | [], T, _, h => by cases h; exact fun x hx => by simp at hx
  | s :: r, T, hA, h => by
    rw [laid_cons] at h
    cases hs : stB s with
    | none => rw [hs] at h; cases h
    | some l =>
      rw [hs] at h
      cases hr : laid r with
      | none => rw [hr] at h; cases h
      | some t =>
        rw [hr] at h
        cases h
        intro x hx
        rcases List.mem_append.1 hx with e | e
        · exact stB_oct (hA s (List.mem_cons_self ..)) hs x e
        · exact laid_oct (fun s' hs' => hA s' (List.mem_cons_of_mem _ hs')) hr x e
theorem laid_step {ss : List Stp} {k : Nat} {s : Stp} {T : List Int} (h : laid (ss.drop k) = some T) (hs : ss[k]? = some s) : ∃ l T', stB s = some l ∧ laid (ss.drop (k + 1)) = some T' ∧ T = l ++ T' := by
  have hk : k < ss.length := by
    rcases Nat.lt_or_ge k ss.length with h | h
    · exact h
    · rw [List.getElem?_eq_none h] at hs; cases hs
  have e : ss.drop k = s :: ss.drop (k + 1) := by
    rw [List.drop_eq_getElem_cons hk]
    rw [List.getElem?_eq_getElem hk] at hs
    cases hs
    rfl
  rw [e, laid_cons] at h
  cases hb : stB s with
  | none => rw [hb] at h; cases h
  | some l =>
    rw [hb] at h
    cases hr : laid (ss.drop (k + 1)) with
    | none => rw [hr] at h; cases h
    | some t =>
      rw [hr] at h
      cases h
      exact ⟨l, t, rfl, rfl, rfl⟩
theorem ld_u64 {w : World} {g o : Nat} {x : Int} (hc : w.cell? ⟨g, o, none⟩ = some (.int .u64 x)) : (loadVar 22 ⟨g, o, none⟩).run Tryz.prog w = .ok (.int .u64 x) w := by go_simp
theorem ld_nat {w : World} {g o n c : Nat} {a : Option Addr} (hc : w.cell? ⟨g, o, none⟩ = some (.slice a n c)) : (loadVar 30 ⟨g, o, none⟩).run Tryz.prog w = .ok (.slice a n c) w := by go_simp
theorem ld_byt {w : World} {g o n c : Nat} {a : Option Addr} (hc : w.cell? ⟨g, o, none⟩ = some (.slice a n c)) : (loadVar 87 ⟨g, o, none⟩).run Tryz.prog w = .ok (.slice a n c) w := by go_simp
end Go.Proofs.YtjejmkcjflhoiaaGreatDoor

namespace Go.Proofs.YtjejmkcjflhoiaaGreatDoor
open Go.RowKit Lim

theorem MineB.shape {w : World} {B : Nat} {v : Value} {l : List Int} (h : MineB w B v l) : ∃ ao c, v = .slice ao l.length c := by
  rcases h.2 with ⟨rfl, h0⟩ | ⟨g, cap, cur, rfl, _⟩
  · exact ⟨none, 0, by rw [h0]⟩
  · exact ⟨_, _, rfl⟩
theorem MineB.atB {w : World} {B : Nat} {v : Value} {l : List Int} (h : MineB w B v l) : ∃ ao c b o, v = .slice ao l.length c ∧ l.length ≤ c ∧ AtB w ao b o l := by
  obtain ⟨_, h2⟩ := h
  rcases h2 with ⟨rfl, h0⟩ | ⟨g, cap, cur, rfl, hB, hh, hle, hmx, hsz, htk⟩
  · have e : l = [] := List.eq_nil_of_length_eq_zero h0
    subst e
    exact ⟨none, 0, 0, 0, rfl, Nat.le_refl _, .inl rfl, fun i hi => by simp at hi⟩
  · refine ⟨some ⟨g, 0, none⟩, cap, g, 0, rfl, hle, .inr rfl, fun i hi => ?_⟩
    have e : cur.toList[i]? = some (.int .u8 (nth l i)) := by
      have h1 : (cur.toList.take (l.length * 1))[i]? = some (.int .u8 (nth l i)) := by
        rw [htk, List.getElem?_map, List.getElem?_eq_getElem hi, nth_eq hi]; rfl
      rwa [Nat.mul_one, List.getElem?_take_of_lt hi] at h1
    simp only [World.cell?, hh]
    simpa using e
theorem minB_mono {w : World} {B B' : Nat} {v : Value} {l : List Int} (h : MineB w B v l) (hB : B' ≤ B) : MineB w B' v l := by
  obtain ⟨h1, h2⟩ := h
  refine ⟨h1, ?_⟩
  rcases h2 with h2 | ⟨g, cap, cur, rfl, hB1, hr⟩
  · exact .inl h2
  · exact .inr ⟨g, cap, cur, rfl, by omega, hr⟩
theorem bval_snoc (l : List Int) (c : Int) : bval (l ++ [c]) = 256 * bval l + c := by
  induction l with
  | nil => simp [bval]
  | cons x l ih => simp only [List.cons_append, bval, ih, List.length_append, List.length_singleton, Int.pow_succ]; grind
theorem IsB.snoc {l : List Int} {V c : Int} (h : IsB l V) (h0 : 0 ≤ c) (h1 : c < 256) (hne : l ≠ [] ∨ c ≠ 0) : IsB (l ++ [c]) (256 * V + c) := by
  refine ⟨fun x hx => ?_, fun _ => ?_, by rw [bval_snoc, h.2.2]⟩
  · rcases List.mem_append.1 hx with e | e
    · exact h.1 x e
    · simp at e; subst e; exact ⟨h0, h1⟩
  · cases l with
    | nil =>
      rcases hne with e | e
      · exact absurd rfl e
      · rw [List.nil_append, nth_zero]; exact e
    | cons y l => rw [List.cons_append, nth_zero]; have := h.2.1 (by simp); rwa [nth_zero] at this
theorem IsB.zero {l : List Int} {V : Int} (h : IsB l V) (hl : l = []) : IsB l (256 * V + 0) := by
  subst hl
  have := h.2.2
  simp [bval] at this
  subst this
  exact ⟨h.1, h.2.1, rfl⟩
theorem v32_drop {l : List Int} {i : Nat} (h : i < l.length) : v32 (l.drop i) = nth l i + 4294967296 * v32 (l.drop (i + 1)) := by
  rw [List.drop_eq_getElem_cons h, v32, nth_eq h]
theorem byte_step (V x : Int) (j : Nat) (hj : j < 4) : 256 * (V * 256 ^ j + x / 2 ^ (32 - 8 * j)) + x / 2 ^ (24 - 8 * j) % 256 = V * 256 ^ (j + 1) + x / 2 ^ (32 - 8 * (j + 1)) := by
  have e : x / 2 ^ (32 - 8 * j) = x / 2 ^ (24 - 8 * j) / 256 := by
    rw [Int.ediv_ediv_of_nonneg (Int.le_of_lt (Int.pow_pos (by decide))), show (256 : Int) = 2 ^ 8 from rfl, ← Int.pow_add, show 24 - 8 * j + 8 = 32 - 8 * j from by omega]
  rw [e, show 32 - 8 * (j + 1) = 24 - 8 * j from by omega, Int.pow_succ]
  generalize x / 2 ^ (24 - 8 * j) = y
  have : V * (256 ^ j * 256) = 256 * (V * 256 ^ j) := by grind
  omega

end Go.Proofs.YtjejmkcjflhoiaaGreatDoor

namespace Go.Proofs.YtjejmkcjflhoiaaGreatDoor
open Go.RowKit Lim

/-- only lists of bytes above B are changed -/
structure Byt (B : Nat) (w w' : World) : Prop where
  os : w'.os = w.os
  tape : w'.tape = w.tape
  output : w'.output = w.output
  size : w.heap.size ≤ w'.heap.size
  low : ∀ k : Nat, k < B → k < w.heap.size → w'.heap[k]? = w.heap[k]?
  typ : ∀ (k : Nat) (c : Array Value) (t : TypeId) (f : Nat × Nat), w.heap[k]? = some (Obj.cells c t f) → t ≠ 5 → w'.heap[k]? = w.heap[k]?
theorem Byt.of {B : Nat} {w w' : World} (h : Below w.heap.size w w') : Byt B w w' := ⟨h.os, h.tape, h.output, h.size, fun k _ hk => h.block k hk, fun k _ _ _ hc _ => h.block k (lt_of_block hc)⟩
theorem Byt.trans {B : Nat} {w w1 w2 : World} (h : Byt B w w1) (h' : Byt B w1 w2) : Byt B w w2 := ⟨h'.os.trans h.os, h'.tape.trans h.tape, h'.output.trans h.output, Nat.le_trans h.size h'.size,
  fun k hk hs => (h'.low k hk (Nat.lt_of_lt_of_le hs h.size)).trans (h.low k hk hs), fun k c t f hc ht => (h'.typ k c t f (by rw [h.typ k c t f hc ht]; exact hc) ht).trans (h.typ k c t f hc ht)⟩
theorem Byt.grown {B n : Nat} {w w' : World} {v : Value} {xs : List Value} (ho : w.ownsRow B 5 1 v n xs) (h : w.grownBy w' v.ownBlock) : Byt B w w' := by
  refine ⟨h.os, h.tape, h.output, h.size, fun k hk hs => h.block k hs fun e => ?_, fun k c t f hc ht => h.block k (lt_of_block hc) fun e => ?_⟩
  · have := (ho.lt k e.symm).1
    omega
  · rcases ho.2 with ⟨rfl, _⟩ | ⟨g, cap, cur, rfl, _, hh, _⟩
    · cases e
    · simp [Value.ownBlock] at e
      subst e
      rw [hh] at hc
      cases hc
      exact ht rfl
theorem Byt.below {B A : Nat} {w0 w w' : World} (h : Byt B w w') (b : Below A w0 w) (hA : A ≤ B) (hs : A ≤ w0.heap.size) : Below A w0 w' :=
  ⟨h.os.trans b.os, h.tape.trans b.tape, h.output.trans b.output, Nat.le_trans b.size h.size, fun k hk => (h.low k (by omega) (Nat.lt_of_lt_of_le (Nat.lt_of_lt_of_le hk hs) b.size)).trans (b.block k hk)⟩
theorem Pc.byt {B : Nat} {w w' : World} {p : Option Addr} {ps : List Int} (h : Pc w p ps) (b : Byt B w w') : Pc w' p ps := by
  induction h with
  | nil => exact .nil
  | cons hb hl _ ih => exact .cons ⟨by rw [b.typ _ _ _ _ hb.blk (by decide)]; exact hb.blk⟩ hl ih
theorem WrO.byt {B : Nat} {w w' : World} {g : Nat} {o : Option (List Int)} {N : Nat} (h : WrO w g o N) (b : Byt B w w') : WrO w' g o N := by
  obtain ⟨e, L, X, h1⟩ := h.ex
  obtain ⟨p, ps, lat, u, X', P, hu, hL⟩ := X.ex
  exact ⟨e, L, ⟨p, ps, lat, u, ⟨X'.len, by rw [b.typ _ _ _ _ X'.blk (by decide)]; exact X'.blk⟩, P.byt b, hu, hL⟩, h1⟩
theorem RdA.byt {B : Nat} {w w' : World} {g bb : Nat} {err : Int} {L : List Int} (h : RdA w g bb err L) (hb : L = [] ∨ bb < B) (b : Byt B w w') : RdA w' g bb err L := by
  obtain ⟨ao, n, c, X, A⟩ := h.ex
  obtain ⟨o, h1, h2, h3, h4, h5⟩ := A.ex
  refine ⟨ao, n, c, ⟨by rw [b.typ _ _ _ _ X.blk (by decide)]; exact X.blk⟩, o, h1, h2, h3, h4, h5.loc, fun i hi => ?_⟩
  have hc := h5.cell i hi
  rcases hb with e | e
  · subst e; simp at hi
  · rw [World.cell?_of_block (w := w) (b.low bb e (cell_lt hc))]
    exact hc
/-- bytes that may be written over -/
structure ByR (w : World) (g n : Nat) : Prop where
  ex : ∃ cur, w.heap[g]? = some (.cells cur 5 (0, 0)) ∧ n ≤ cur.size ∧ ∀ i, i < n → ∃ x, cur[i]? = some (.int .u8 x)
theorem MineB.byr {w : World} {B : Nat} {v : Value} {l : List Int} (h : MineB w B v l) : v = .slice none 0 0 ∧ l = [] ∨ ∃ g c, v = .slice (some ⟨g, 0, none⟩) l.length c ∧ B ≤ g ∧ g < w.heap.size ∧ ByR w g l.length := by
  obtain ⟨_, h2⟩ := h
  rcases h2 with ⟨rfl, h0⟩ | ⟨g, cap, cur, rfl, hB, hh, hle, hmx, hsz, htk⟩
  · exact .inl ⟨rfl, List.eq_nil_of_length_eq_zero h0⟩
  · refine .inr ⟨g, cap, rfl, hB, lt_of_block hh, cur, hh, by omega, fun i hi => ⟨nth l i, ?_⟩⟩
    have h3 : (cur.toList.take (l.length * 1))[i]? = some (.int .u8 (nth l i)) := by
      rw [htk, List.getElem?_map, List.getElem?_eq_getElem hi, nth_eq hi]
      rfl
    rw [List.getElem?_take] at h3
    split at h3
    · rw [← Array.getElem?_toList]
      exact h3
    · cases h3
theorem Box.byr {w : World} {g : Nat} {l : List Int} (h : Box w g (l.map (Value.int .u8)) 5) : ByR w g l.length := ⟨_, h.blk, by simp, fun i hi => ⟨nth l i, by simp [hi, nth_eq hi]⟩⟩
theorem ByR.cell {w : World} {g n i : Nat} (h : ByR w g n) (hi : i < n) : ∃ x, w.cell? ⟨g, i, none⟩ = some (.int .u8 x) ∧ w.frozen? ⟨g, i, none⟩ = false := by
  obtain ⟨cur, h1, h2, h3⟩ := h.ex
  obtain ⟨x, hx⟩ := h3 i hi
  exact ⟨x, by simp [World.cell?, h1, hx], by simp [World.frozen?, h1]⟩
theorem ByR.set {w : World} {g n i : Nat} (h : ByR w g n) (y : Int) : ByR (w.setCell ⟨g, i, none⟩ (.int .u8 y)) g n := by
  obtain ⟨cur, h1, h2, h3⟩ := h.ex
  refine ⟨cur.setIfInBounds i (.int .u8 y), ?_, by simpa using h2, fun j hj => ?_⟩
  · simp only [World.setCell, Array.getElem?_modify, if_true, h1]
    simp
  · by_cases e : i = j
    · subst e
      exact ⟨y, by rw [Array.getElem?_setIfInBounds]; simp; omega⟩
    · obtain ⟨x, hx⟩ := h3 j hj
      exact ⟨x, by rw [Array.getElem?_setIfInBounds, if_neg e]; exact hx⟩
theorem be_mod (m : Nat) {x : Int} (hx : 0 ≤ x) : be m (x % 256 ^ m) = be m x := by
  have h0 : (0 : Int) < 256 ^ m := Int.pow_pos (by decide)
  refine bval_inj (be_oct _ _) (be_oct _ _) (by rw [be_length, be_length]) ?_
  rw [be_val m hx, be_val m (Int.emod_nonneg _ (by omega)), Int.emod_emod]
end Go.Proofs.YtjejmkcjflhoiaaGreatDoor

namespace Go.Proofs.YtjejmkcjflhoiaaGreatDoor
open Go.RowKit Lim

theorem no_u8f (err : Int) (ao : Option Addr) (n c : Nat) : ∀ v ∈ [Value.slice ao n c, Value.int .i64 err], ∀ x, v ≠ .int .u8 x := fun v hv x e => by
  rcases List.mem_cons.1 hv with h | h
  · subst h; cases e
  · rw [List.mem_singleton] at h; subst h; cases e
theorem but_set (w : World) (g k : Nat) (v : Value) : But g w (w.setCell ⟨g, k, none⟩ v) := ⟨rfl, rfl, rfl, by rw [size_set]; exact Nat.le_refl _, fun _ _ h2 => Below.heap_setCell _ _ _ _ h2⟩
end Go.Proofs.YtjejmkcjflhoiaaGreatDoor

namespace Go.Proofs.YtjejmkcjflhoiaaGreatDoor
open Go.RowKit Lim

theorem bval_one {l : List Int} (h : 1 ≤ l.length) : bval (l.take 1) = nth l 0 := by
  cases l with
  | nil => simp at h
  | cons x t => simp [bval, nth]
theorem nth_drop1 (l : List Int) : nth (l.drop 1) 0 = nth l 1 := by
  cases l with
  | nil => rfl
  | cons x t => rfl
end Go.Proofs.YtjejmkcjflhoiaaGreatDoor

namespace Go.Proofs.YtjejmkcjflhoiaaGreatDoor
open Go.RowKit Lim

end Go.Proofs.YtjejmkcjflhoiaaGreatDoor

namespace Go.Proofs.YtjejmkcjflhoiaaGreatDoor
open Go.RowKit Lim

theorem atB_srcS {w : World} {x : Addr} {b o : Nat} {l : List Int} (h : AtB w (some x) b o l) : ∀ j u, (l.map (Value.int .u8))[j]? = some u → w.cell? (x.add j) = some u := by
  intro j u hu
  rw [List.getElem?_map] at hu
  rcases Nat.lt_or_ge j l.length with hj | hj
  · rw [List.getElem?_eq_getElem hj] at hu
    simp at hu
    subst hu
    have hx : x = ⟨b, o, none⟩ := by
      rcases h.loc with e | e
      · subst e; simp at hj
      · simpa using e
    subst hx
    have := h.cell j hj
    rw [nth_eq hj] at this
    rw [addr_add]
    exact this
  · rw [List.getElem?_eq_none hj] at hu; simp at hu
theorem i64_or_nat (a b : Nat) (ha : a < 9223372036854775808) (hb : b < 9223372036854775808) : bits .or .i64 (a : Int) (b : Int) = ((a ||| b : Nat) : Int) := by
  have hx : a ||| b < 2 ^ 63 := Nat.or_lt_two_pow (by omega) (by omega)
  show IntKind.i64.wrap ((BitVec.ofInt 64 (a : Int) ||| BitVec.ofInt 64 (b : Int)).toNat : Int) = _
  rw [BitVec.toNat_or, ofInt_u64 a (by omega), ofInt_u64 b (by omega)]
  simp [IntKind.wrap, IntKind.bits, IntKind.signed]
  omega
theorem or_addi (a b : Int) (s : Nat) (k : Int) (ha : a = k * 2 ^ s) (hk : 0 ≤ k) (ha1 : a < 9223372036854775808) (hb0 : 0 ≤ b) (hb1 : b < 2 ^ s) (hb2 : b < 9223372036854775808) : bits .or .i64 a b = a + b := by
  have h2 : (0 : Int) < 2 ^ s := Int.pow_pos (by decide)
  have ha0 : 0 ≤ a := by rw [ha]; exact Int.mul_nonneg hk (Int.le_of_lt h2)
  obtain ⟨A, rfl⟩ := Int.eq_ofNat_of_zero_le ha0
  obtain ⟨k, rfl⟩ := Int.eq_ofNat_of_zero_le hk
  obtain ⟨b, rfl⟩ := Int.eq_ofNat_of_zero_le hb0
  rw [i64_or_nat A b (by omega) (by omega)]
  have e : A = 2 ^ s * k := by
    have : (A : Int) = ((2 ^ s * k : Nat) : Int) := by rw [ha, Int.natCast_mul, Int.natCast_pow, Int.mul_comm]; rfl
    omega
  have hb' : b < 2 ^ s := by
    have : ((2 ^ s : Nat) : Int) = 2 ^ s := by rw [Int.natCast_pow]; rfl
    omega
  rw [e, ← Nat.two_pow_add_eq_or_of_lt hb']
  omega
theorem bval_four {l : List Int} (h : 4 ≤ l.length) : bval (l.take 4) = nth l 0 * 16777216 + nth l 1 * 65536 + nth l 2 * 256 + nth l 3 := by
  match l, h with
  | a :: b :: c :: d :: r, _ =>
    simp [bval, nth]
    omega
end Go.Proofs.YtjejmkcjflhoiaaGreatDoor

namespace Go.Proofs.YtjejmkcjflhoiaaGreatDoor
namespace Rc
open Go.RowKit Go.Lib Pg Lim
attribute [local go_sem] Oper.semAt_some
end Rc
end Go.Proofs.YtjejmkcjflhoiaaGreatDoor

namespace Go.Proofs.YtjejmkcjflhoiaaGreatDoor
namespace Rc
open Go.RowKit Go.Lib Pg Lim
attribute [local go_sem] Oper.semAt_some
theorem K8 : Kd Tryz.prog 87 5 1 1 (.int .u8 0) := ⟨by kernel_rfl, by kernel_rfl, rfl, by simp [Value.cells, Value.oneCell'], by decide⟩
/-- a byte more behind bytes that were laid -/
theorem app_b {w : World} {b n : Nat} {M : List Int} {x : Int} (h : Box w b (M.map (Value.int .u8)) 5) (hn : n = M.length) (ho : Octets M) (hx : 0 ≤ x ∧ x < 256) (hl : M.length ≤ 100000) :
    ∃ b' c' w', (Builtin.append_ #[87, 87] 87 #[.slice (some ⟨b, 0, none⟩) n n, .slice (some ⟨w.heap.size, 0, none⟩) 1 1]).run Tryz.prog (w.alloc (.cells #[.int .u8 x] 5)) = .ok (.slice (some ⟨b', 0, none⟩) (n + 1) c') w' ∧ ByA w' b' (some ⟨b', 0, none⟩) (n + 1) c' (M ++ [x]) ∧ Chg (· = b) w w' := by
  have al := below_alloc w (.cells #[.int .u8 x] 5)
  have nb := blk_new w [.int .u8 x] 5
  have hB : Blk (w.alloc (.cells #[.int .u8 x] 5)) b (M.map (Value.int .u8)) 5 := (Blk.mk h.blk).keep al
  have R := blk_rw (k := 1) (n := n) hB (by rw [List.length_map, hn, Nat.mul_one]) (by have : n ≤ 100000 := by omega
                                                                                       simp only [maxLen]; omega)
  obtain ⟨b', c', w', hr, hb, R', C⟩ := app_row K8 87 R ⟨w.heap.size, 0, none⟩ 1 1 [.int .u8 x] rfl (fun j u hj => by
    have : j = 0 := by have := (List.getElem?_eq_some_iff.1 hj).1; simp at this; omega
    subst this
    simp at hj
    subst hj
    exact nb.cell (i := 0) rfl) (by simp [Value.oneCell']) (by omega) (by omega)
  have hle := R'.le
  refine ⟨b', c', w', hr, ⟨0, by simp [hn], hle.1, ⟨by have := hle.2; simp only [maxLen] at this; omega, fun e => by cases e⟩, ?_, ⟨.inr rfl, fun i hi => ?_⟩⟩, (Chg.of (F := fun y => y = b) al).trans C (fun _ _ h => h)⟩
  · intro y hy
    rcases List.mem_append.1 hy with h1 | h1
    · exact ho y h1
    · simp at h1; subst h1; exact hx
  · rw [Nat.zero_add]
    refine R'.cell ?_
    have e : (M.map (Value.int .u8) ++ [Value.int .u8 x]) = (M ++ [x]).map (Value.int .u8) := by simp
    rw [e, List.getElem?_map]
    have : (M ++ [x])[i]? = some (nth (M ++ [x]) i) := by
      simp [nth, List.getD_eq_getElem?_getD, List.getElem?_eq_getElem hi]
    rw [this]
    rfl
theorem nat7 (w : World) : NatO (w.alloc (.cells #[.int .u64 7] 22)) (some ⟨w.heap.size, 0, none⟩) 1 1 7 :=
  ⟨w.heap.size, 0, [7], rfl, Nat.le_refl _, ⟨fun x hx => by simp at hx; omega, by decide, by decide⟩, ⟨.inr rfl, fun i hi => by
    have : i = 0 := by simp at hi; omega
    subst this
    exact (blk_new w [.int .u64 7] 22).cell (i := 0) rfl⟩⟩
theorem natB_7 : natB 7 = [7] := natB_unique (by decide) ⟨fun x hx => by simp at hx; omega, fun _ => by decide, by decide⟩
theorem fit_7 : fit 7 = 7 := by unfold fit; rw [natB_7]; rfl
theorem fit_0 : fit 0 = 0 := by unfold fit; rw [natB_0]; rfl
/-- bytes of few fields -/
theorem shortL (xs : Nat → Int) (ks : List (Nat × Nat)) (h : ks.length ≤ 10) : (thr (pnx xs) ks []).length ≤ 3000 := by
  have := pnx_len xs ks []
  simp at this
  omega
theorem laidB {w : World} {b n : Nat} {xs : Nat → Int} {ks : List (Nat × Nat)} (X : Box w b ((thr (pnx xs) ks []).map (Value.int .u8)) 5) (hn : n = (thr (pnx xs) ks []).length) (hk : ks.length ≤ 10) : ByA w b (some ⟨b, 0, none⟩) n n (thr (pnx xs) ks []) ∧ n ≤ 3000 := by
  have h := shortL xs ks hk
  exact ⟨box_bya X hn (thr_oct _ _ _ (fun y hy => by cases hy)) (by omega), by omega⟩
theorem lit_bya (w : World) (l : List Int) (ho : Octets l) (hl : l.length ≤ 1000) : ByA (w.alloc (.cells (l.map (Value.int .u8)).toArray 5)) w.heap.size (some ⟨w.heap.size, 0, none⟩) l.length l.length l := box_bya (box_new w (l.map (Value.int .u8)) 5) rfl ho (by omega)
end Rc
end Go.Proofs.YtjejmkcjflhoiaaGreatDoor

namespace Go.Proofs.YtjejmkcjflhoiaaGreatDoor
namespace Rc
open Go.RowKit Go.Lib Pg Lim
/-- where the ways of a stretch of code come together -/
structure CutP (a : Act) (slots : List Nat) (F : World → Prop) (a' : Act) (w' : World) : Prop where
  ex : ∃ x : Nat → Value, a' = putAll a (slots.map fun i => (some i, x i)) ∧ F w'
theorem wp_cut {c d : Code} {a : Act} {w : World} {Q : Exit → Act → World → Prop} (slots : List Nat) (F : World → Prop) (h1 : c.wp Tryz.prog (Exit.then (CutP a slots F) (fun _ _ _ => False)) a w) (h2 : ∀ (x : Nat → Value) w', F w' → d.wp Tryz.prog Q (putAll a (slots.map fun i => (some i, x i))) w') : (Code.seq c d).wp Tryz.prog Q a w :=
  wp_seq (Code.wp_mono (fun e a' w' h => by
    cases e <;> first
      | (obtain ⟨x, rfl, hF⟩ := h; exact h2 x w' hF)
      | exact h.elim) h1)
theorem cut_end {a a' : Act} {w : World} {F : World → Prop} {slots : List Nat} (h : a' = putAll a (slots.map fun i => (some i, a'.tmps.getD i undef))) (hF : F w) : CutP a slots F a' w := ⟨fun i => a'.tmps.getD i undef, h, hF⟩
theorem endE_zero {err : Int} {l : List Int} (h : endE err l = 0) : err = 0 ∧ l = [] := by
  unfold endE at h
  split at h
  · rename_i he
    split at h
    · rename_i hl
      exact ⟨he, List.eq_nil_of_length_eq_zero hl⟩
    · exact absurd h (by decide)
  · exact absurd h (by assumption)
/-- what is read whole is laid again as it was -/
theorem ones (ks : List (Nat × Nat)) (l : List Int) (ho : Octets l) (hnd : (ks.map Prod.snd).Nodup) (h : endE (thr rnx ks (0, l, fun _ => 0)).1 (thr rnx ks (0, l, fun _ => 0)).2.1 = 0) : thr (pnx (thr rnx ks (0, l, fun _ => 0)).2.2) ks [] = l := by
  obtain ⟨h1, h2⟩ := endE_zero h
  have := thr_one ks l (fun _ => 0) ho hnd h1 []
  rw [h2, List.append_nil, List.nil_append] at this
  exact this
theorem thr_congr {xs ys : Nat → Int} (ks : List (Nat × Nat)) (h : ∀ p ∈ ks, xs p.2 = ys p.2) : ∀ L, thr (pnx xs) ks L = thr (pnx ys) ks L := by
  induction ks with
  | nil => intro L; rfl
  | cons p ks ih =>
    intro L
    rw [thr_cons, thr_cons]
    have e : pnx xs p.1 p.2 L = pnx ys p.1 p.2 L := by unfold pnx; rw [h p List.mem_cons_self]
    rw [e]
    exact ih (fun q hq => h q (List.mem_cons_of_mem _ hq)) _
theorem fix8 (l : List Int) : (8 ≤ l.length → rdE (pFix 8 l) 0 = 0 ∧ rdL (pFix 8 l) 0 l = l.drop 8) ∧ (l.length < 8 → rdE (pFix 8 l) 0 ≠ 0) := by
  refine ⟨fun h => ?_, fun h => ?_⟩
  · unfold pFix
    rw [if_pos h]
    exact ⟨rfl, rfl⟩
  · unfold pFix
    rw [if_neg (by omega)]
    decide
/-- numbers alone: so many bytes -/
theorem len_u (k : Nat) : ∀ (ks : List (Nat × Nat)) (l : List Int) (xs : Nat → Int), ks.length = k → (∀ p ∈ ks, p.1 = 0) → (endE (thr rnx ks (0, l, xs)).1 (thr rnx ks (0, l, xs)).2.1 = 0 ↔ l.length = 8 * k) := by
  induction k with
  | zero =>
    intro ks l xs hk _
    obtain rfl : ks = [] := List.eq_nil_of_length_eq_zero hk
    show endE 0 l = 0 ↔ _
    unfold endE
    rw [if_pos rfl]
    constructor
    · intro h
      split at h
      · omega
      · exact absurd h (by decide)
    · intro h
      rw [if_pos (by omega)]
  | succ k ih =>
    intro ks l xs hk h0
    match ks, hk with
    | p :: ks, hk =>
      have hp : p.1 = 0 := h0 p List.mem_cons_self
      rw [thr_cons]
      by_cases hl : 8 ≤ l.length
      · obtain ⟨e1, e2⟩ := (fix8 l).1 hl
        have es : rnx p.1 p.2 (0, l, xs) = (0, l.drop 8, fun i => if i = p.2 then rdV 0 (pFix 8 l) 0 else xs i) := by
          rw [hp]
          show (rdE (pFix 8 l) 0, rdL (pFix 8 l) 0 l, _) = _
          rw [e1, e2]
          rfl
        rw [es, ih ks (l.drop 8) _ (by simpa using hk) (fun q hq => h0 q (List.mem_cons_of_mem _ hq)), List.length_drop]
        omega
      · have e1 : (rnx p.1 p.2 (0, l, xs)).1 ≠ 0 := by rw [hp]; exact (fix8 l).2 (by omega)
        have e2 := thr_bad ks _ e1
        constructor
        · intro h
          obtain ⟨h1, _⟩ := endE_zero h
          rw [e2] at h1
          exact absurd h1 e1
        · intro h
          omega
end Rc
end Go.Proofs.YtjejmkcjflhoiaaGreatDoor

namespace Go.Proofs.YtjejmkcjflhoiaaGreatDoor
open Go.RowKit Lim

theorem AtB.byt {B : Nat} {w w' : World} {ao : Option Addr} {b o : Nat} {l : List Int} (h : AtB w ao b o l) (hb : l = [] ∨ b < B) (k : Byt B w w') : AtB w' ao b o l :=
  ⟨h.loc, fun i hi => by
    have hc := h.cell i hi
    rcases hb with e | e
    · subst e; simp at hi
    · rw [World.cell?_of_block (w := w) (k.low b e (cell_lt hc))]
      exact hc⟩
theorem atB_src {w : World} {x : Addr} {b o : Nat} {l : List Int} (h : AtB w (some x) b o l) : ∀ j u, (l.map (Value.int .u8))[j]? = some u → w.cell? (x.add j) = some u := by
  intro j u hu
  rw [List.getElem?_map] at hu
  rcases Nat.lt_or_ge j l.length with hj | hj
  · rw [List.getElem?_eq_getElem hj] at hu
    simp at hu
    subst hu
    have hx : x = ⟨b, o, none⟩ := by
      rcases h.loc with e | e
      · subst e; simp at hj
      · simpa using e
    subst hx
    have := h.cell j hj
    rw [nth_eq hj] at this
    rw [addr_add]
    exact this
  · rw [List.getElem?_eq_none hj] at hu; simp at hu
theorem mineB_app {w : World} {B n : Nat} {v : Value} {L l : List Int} (h : w.ownsRow B 5 1 v n (L.map (Value.int .u8) ++ l.map (Value.int .u8))) (hn : n = L.length + l.length) : MineB w B v (L ++ l) := by
  unfold MineB
  rw [List.length_append, List.map_append, ← hn]
  exact h
end Go.Proofs.YtjejmkcjflhoiaaGreatDoor

namespace Go.Proofs.YtjejmkcjflhoiaaGreatDoor
namespace Rc
open Go.RowKit Go.Lib Pg Lim
attribute [local go_sem] Oper.semAt_some
theorem mineB_off {w : World} {B g i : Nat} {v : Value} {l : List Int} {cs : List Value} {t : TypeId} (h : MineB w B v l) (k : Blk w g cs t) (ht : t ≠ 5) (u : Value) : MineB (w.setCell ⟨g, i, none⟩ u) B v l := by
  obtain ⟨h1, h2⟩ := h
  refine ⟨h1, ?_⟩
  rcases h2 with h2 | ⟨g', cap, cur, h3, h4, h5, h6⟩
  · exact .inl h2
  · refine .inr ⟨g', cap, cur, h3, h4, ?_, h6⟩
    have hne : g' ≠ g := fun e => by
      subst e
      have := k.blk.symm.trans h5
      simp at this
      exact ht this.2
    rw [Below.heap_setCell w _ u g' hne]
    exact h5
theorem Blk.byt {B : Nat} {w w' : World} {g : Nat} {cs : List Value} {t : TypeId} (h : Blk w g cs t) (b : Byt B w w') (ht : t ≠ 5) : Blk w' g cs t := ⟨by rw [b.typ g _ t _ h.blk ht]; exact h.blk⟩
end Rc
end Go.Proofs.YtjejmkcjflhoiaaGreatDoor

namespace Go.Proofs.YtjejmkcjflhoiaaGreatDoor
namespace Rc
open Go.RowKit Go.Lib Pg Lim Gl
/-- what a record's reading gives -/
def outR (s : RSt) : Int := if endE s.1 s.2.1 = 0 then 0 else 80
def outX (s : RSt) : Nat → Int := if endE s.1 s.2.1 = 0 then s.2.2 else fun _ => 0
theorem outX_ok {s : RSt} (h : outR s = 0) : outX s = s.2.2 := by
  unfold outR at h
  unfold outX
  split at h
  · rename_i h'; rw [if_pos h']
  · cases h
theorem outX_no {s : RSt} (h : ¬ outR s = 0) : outX s = fun _ => 0 := by
  unfold outR at h
  unfold outX
  split at h
  · exact absurd rfl h
  · rename_i h'; rw [if_neg h']
theorem out_of {s : RSt} {xs : Nat → Int} {r : Int} (h1 : endE s.1 s.2.1 = 0 → r = 0 ∧ xs = s.2.2) (h2 : endE s.1 s.2.1 ≠ 0 → r = 80 ∧ xs = fun _ => 0) : xs = outX s ∧ r = outR s := by
  unfold outX outR
  by_cases h : endE s.1 s.2.1 = 0
  · rw [if_pos h, if_pos h]; exact ⟨(h1 h).2, (h1 h).1⟩
  · rw [if_neg h, if_neg h]; exact ⟨(h2 h).2, (h2 h).1⟩
theorem But.blk {w w' : World} {b g : Nat} {cs : List Value} {t : TypeId} (h : But b w w') (X : Blk w g cs t) (hn : g ≠ b) : Blk w' g cs t := X.same (h.block g X.lt hn)
theorem chg_but {g : Nat} {w w' : World} (h : Chg (· = g) w w') : But g w w' := ⟨h.os, h.tape, h.output, h.size, fun b hb hne => h.same b hb hne⟩
def u8V : Value → Bool
  | .int .u8 _ => true
  | _ => false
theorem NatW.keep {w w' : World} {B n c : Nat} {ao : Option Addr} {x : Int} (h : NatW w B ao n c x) (hb : Below w.heap.size w w') : NatW w' B ao n c x := h.off hb.size fun b _ hl => hb.block b hl
theorem NatW.but {w w' : World} {B n c g : Nat} {ao : Option Addr} {x : Int} (h : NatW w B ao n c x) (hb : But g w w') (hg : g < B) : NatW w' B ao n c x := h.off hb.size fun b hB hl => hb.block b hl (by omega)
/-- a number in blocks from B to T that stay as they were -/
structure NatX (w : World) (B T : Nat) (ao : Option Addr) (n c : Nat) (x : Int) : Prop where
  ex : ∃ w0 : World, w0.heap.size = T ∧ T ≤ w.heap.size ∧ NatW w0 B ao n c x ∧ ∀ b, B ≤ b → b < T → w.heap[b]? = w0.heap[b]?
theorem natX {w : World} {B n c : Nat} {ao : Option Addr} {x : Int} (h : NatW w B ao n c x) : NatX w B w.heap.size ao n c x := ⟨w, rfl, Nat.le_refl _, h, fun _ _ _ => rfl⟩
theorem NatX.nat {w : World} {B T n c : Nat} {ao : Option Addr} {x : Int} (h : NatX w B T ao n c x) : NatW w B ao n c x := by
  obtain ⟨w0, h1, h2, h3, h4⟩ := h.ex
  exact h3.off (by omega) fun b hb hl => h4 b hb (by omega)
theorem NatX.but {w w' : World} {B T n c g : Nat} {ao : Option Addr} {x : Int} (h : NatX w B T ao n c x) (U : But g w w') (hg : g < B ∨ T ≤ g) : NatX w' B T ao n c x := by
  obtain ⟨w0, h1, h2, h3, h4⟩ := h.ex
  exact ⟨w0, h1, Nat.le_trans h2 U.size, h3, fun b hb hl => (U.block b (by omega) (by omega)).trans (h4 b hb hl)⟩
theorem NatX.keep {w w' : World} {B T n c : Nat} {ao : Option Addr} {x : Int} (h : NatX w B T ao n c x) (U : Below w.heap.size w w') : NatX w' B T ao n c x := by
  obtain ⟨w0, h1, h2, h3, h4⟩ := h.ex
  exact ⟨w0, h1, Nat.le_trans h2 U.size, h3, fun b hb hl => (U.block b (by omega)).trans (h4 b hb hl)⟩
def stParams (l : List Int) : RSt := thr rnx [(0, 0), (0, 1), (0, 2), (0, 3), (0, 4), (0, 5), (0, 6), (0, 7), (0, 8), (0, 9)] (0, l, fun _ => 0)
theorem outParams {w w' : World} {s : RSt} {e : Ending} (h : FinR w kd_Params 10 mkA s e w') : e = .returned (.tuple #[.agg #[.int .u64 (outX s 0), .int .u64 (outX s 1), .int .u64 (outX s 2), .int .u64 (outX s 3), .int .u64 (outX s 4), .int .u64 (outX s 5), .int .u64 (outX s 6), .int .u64 (outX s 7), .int .u64 (outX s 8), .int .u64 (outX s 9)], .int .i64 (outR s)]) ∧ Below w.heap.size w w' := by
  obtain ⟨⟨cs, xs, r, rfl, h1, h2, h3, h4⟩, B⟩ := h
  obtain ⟨e1, e2⟩ := out_of h3 h4
  subst e1 e2
  have q0 := (h2 0).1 rfl
  have q1 := (h2 1).1 rfl
  have q2 := (h2 2).1 rfl
  have q3 := (h2 3).1 rfl
  have q4 := (h2 4).1 rfl
  have q5 := (h2 5).1 rfl
  have q6 := (h2 6).1 rfl
  have q7 := (h2 7).1 rfl
  have q8 := (h2 8).1 rfl
  have q9 := (h2 9).1 rfl
  have ecs : cs = [.int .u64 (outX s 0), .int .u64 (outX s 1), .int .u64 (outX s 2), .int .u64 (outX s 3), .int .u64 (outX s 4), .int .u64 (outX s 5), .int .u64 (outX s 6), .int .u64 (outX s 7), .int .u64 (outX s 8), .int .u64 (outX s 9)] := by
    refine List.ext_getElem? fun i => ?_
    rcases Nat.lt_or_ge i 10 with hi | hi
    · match i, hi with
      | 0, _ => exact q0
      | 1, _ => exact q1
      | 2, _ => exact q2
      | 3, _ => exact q3
      | 4, _ => exact q4
      | 5, _ => exact q5
      | 6, _ => exact q6
      | 7, _ => exact q7
      | 8, _ => exact q8
      | 9, _ => exact q9
      | n + 10, h => exact absurd h (by omega)
    · rw [List.getElem?_eq_none (by omega), List.getElem?_eq_none hi]
  subst ecs
  exact ⟨rfl, B⟩
def stChain (l : List Int) : RSt := thr rnx [(0, 0), (0, 1)] (0, l, fun _ => 0)
theorem outChain {w w' : World} {s : RSt} {e : Ending} (h : FinR w kd_Chain 2 mkA s e w') : e = .returned (.tuple #[.agg #[.int .u64 (outX s 0), .int .u64 (outX s 1)], .int .i64 (outR s)]) ∧ Below w.heap.size w w' := by
  obtain ⟨⟨cs, xs, r, rfl, h1, h2, h3, h4⟩, B⟩ := h
  obtain ⟨e1, e2⟩ := out_of h3 h4
  subst e1 e2
  have q0 := (h2 0).1 rfl
  have q1 := (h2 1).1 rfl
  have ecs : cs = [.int .u64 (outX s 0), .int .u64 (outX s 1)] := by
    refine List.ext_getElem? fun i => ?_
    rcases Nat.lt_or_ge i 2 with hi | hi
    · match i, hi with
      | 0, _ => exact q0
      | 1, _ => exact q1
      | n + 2, h => exact absurd h (by omega)
    · rw [List.getElem?_eq_none (by omega), List.getElem?_eq_none hi]
  subst ecs
  exact ⟨rfl, B⟩
def stPool (l : List Int) : RSt := thr rnx [(2, 0)] (0, l, fun _ => 0)
theorem outPool {w w' : World} {s : RSt} {e : Ending} (h : FinR w kd_Pool 1 mkA s e w') : ∃ a0 n0 c0, e = .returned (.tuple #[.agg #[.slice a0 n0 c0], .int .i64 (outR s)]) ∧ (NatW w' w.heap.size a0 n0 c0 (outX s 0) ∧ n0 ≤ 510) ∧ Below w.heap.size w w' := by
  obtain ⟨⟨cs, xs, r, rfl, h1, h2, h3, h4⟩, B⟩ := h
  obtain ⟨e1, e2⟩ := out_of h3 h4
  subst e1 e2
  obtain ⟨a0, n0, c0, q0, y0, z0⟩ := (h2 0).2.2 rfl
  have ecs : cs = [.slice a0 n0 c0] := by
    refine List.ext_getElem? fun i => ?_
    rcases Nat.lt_or_ge i 1 with hi | hi
    · match i, hi with
      | 0, _ => exact q0
      | n + 1, h => exact absurd h (by omega)
    · rw [List.getElem?_eq_none (by omega), List.getElem?_eq_none hi]
  subst ecs
  exact ⟨a0, n0, c0, rfl, ⟨y0, by omega⟩, B⟩
def stAccount (l : List Int) : RSt := thr rnx [(0, 0), (0, 1)] (0, l, fun _ => 0)
theorem outAccount {w w' : World} {s : RSt} {e : Ending} (h : FinR w kd_Account 2 mkA s e w') : e = .returned (.tuple #[.agg #[.int .u64 (outX s 0), .int .u64 (outX s 1)], .int .i64 (outR s)]) ∧ Below w.heap.size w w' := by
  obtain ⟨⟨cs, xs, r, rfl, h1, h2, h3, h4⟩, B⟩ := h
  obtain ⟨e1, e2⟩ := out_of h3 h4
  subst e1 e2
  have q0 := (h2 0).1 rfl
  have q1 := (h2 1).1 rfl
  have ecs : cs = [.int .u64 (outX s 0), .int .u64 (outX s 1)] := by
    refine List.ext_getElem? fun i => ?_
    rcases Nat.lt_or_ge i 2 with hi | hi
    · match i, hi with
      | 0, _ => exact q0
      | 1, _ => exact q1
      | n + 2, h => exact absurd h (by omega)
    · rw [List.getElem?_eq_none (by omega), List.getElem?_eq_none hi]
  subst ecs
  exact ⟨rfl, B⟩
def stVal (l : List Int) : RSt := thr rnx [(0, 0), (0, 1), (2, 2), (1, 3), (0, 4), (1, 5), (0, 6), (2, 7), (2, 8), (2, 9)] (0, l, fun _ => 0)
theorem outVal {w w' : World} {s : RSt} {e : Ending} (h : FinR w kd_Val 10 mkA s e w') : ∃ a2 n2 c2 a7 n7 c7 a8 n8 c8 a9 n9 c9, e = .returned (.tuple #[.agg #[.int .u64 (outX s 0), .int .u64 (outX s 1), .slice a2 n2 c2, .bool (outX s 3 == 1), .int .u64 (outX s 4), .bool (outX s 5 == 1), .int .u64 (outX s 6), .slice a7 n7 c7, .slice a8 n8 c8, .slice a9 n9 c9], .int .i64 (outR s)]) ∧ (NatW w' w.heap.size a2 n2 c2 (outX s 2) ∧ n2 ≤ 510) ∧ (NatW w' w.heap.size a7 n7 c7 (outX s 7) ∧ n7 ≤ 510) ∧ (NatW w' w.heap.size a8 n8 c8 (outX s 8) ∧ n8 ≤ 510) ∧ (NatW w' w.heap.size a9 n9 c9 (outX s 9) ∧ n9 ≤ 510) ∧ Below w.heap.size w w' := by
  obtain ⟨⟨cs, xs, r, rfl, h1, h2, h3, h4⟩, B⟩ := h
  obtain ⟨e1, e2⟩ := out_of h3 h4
  subst e1 e2
  have q0 := (h2 0).1 rfl
  have q1 := (h2 1).1 rfl
  obtain ⟨a2, n2, c2, q2, y2, z2⟩ := (h2 2).2.2 rfl
  obtain ⟨t3, q3, y3⟩ := (h2 3).2.1 rfl
  have y3 : (outX s 3 == 1) = t3 := by rw [y3]; cases t3 <;> rfl
  rw [← y3] at q3
  have q4 := (h2 4).1 rfl
  obtain ⟨t5, q5, y5⟩ := (h2 5).2.1 rfl
  have y5 : (outX s 5 == 1) = t5 := by rw [y5]; cases t5 <;> rfl
  rw [← y5] at q5
  have q6 := (h2 6).1 rfl
  obtain ⟨a7, n7, c7, q7, y7, z7⟩ := (h2 7).2.2 rfl
  obtain ⟨a8, n8, c8, q8, y8, z8⟩ := (h2 8).2.2 rfl
  obtain ⟨a9, n9, c9, q9, y9, z9⟩ := (h2 9).2.2 rfl
  have ecs : cs = [.int .u64 (outX s 0), .int .u64 (outX s 1), .slice a2 n2 c2, .bool (outX s 3 == 1), .int .u64 (outX s 4), .bool (outX s 5 == 1), .int .u64 (outX s 6), .slice a7 n7 c7, .slice a8 n8 c8, .slice a9 n9 c9] := by
    refine List.ext_getElem? fun i => ?_
    rcases Nat.lt_or_ge i 10 with hi | hi
    · match i, hi with
      | 0, _ => exact q0
      | 1, _ => exact q1
      | 2, _ => exact q2
      | 3, _ => exact q3
      | 4, _ => exact q4
      | 5, _ => exact q5
      | 6, _ => exact q6
      | 7, _ => exact q7
      | 8, _ => exact q8
      | 9, _ => exact q9
      | n + 10, h => exact absurd h (by omega)
    · rw [List.getElem?_eq_none (by omega), List.getElem?_eq_none hi]
  subst ecs
  exact ⟨a2, n2, c2, a7, n7, c7, a8, n8, c8, a9, n9, c9, rfl, ⟨y2, by omega⟩, ⟨y7, by omega⟩, ⟨y8, by omega⟩, ⟨y9, by omega⟩, B⟩
def stDelegation (l : List Int) : RSt := thr rnx [(2, 0), (0, 1), (2, 2)] (0, l, fun _ => 0)
theorem outDelegation {w w' : World} {s : RSt} {e : Ending} (h : FinR w kd_Delegation 3 mkA s e w') : ∃ a0 n0 c0 a2 n2 c2, e = .returned (.tuple #[.agg #[.slice a0 n0 c0, .int .u64 (outX s 1), .slice a2 n2 c2], .int .i64 (outR s)]) ∧ (NatW w' w.heap.size a0 n0 c0 (outX s 0) ∧ n0 ≤ 510) ∧ (NatW w' w.heap.size a2 n2 c2 (outX s 2) ∧ n2 ≤ 510) ∧ Below w.heap.size w w' := by
  obtain ⟨⟨cs, xs, r, rfl, h1, h2, h3, h4⟩, B⟩ := h
  obtain ⟨e1, e2⟩ := out_of h3 h4
  subst e1 e2
  obtain ⟨a0, n0, c0, q0, y0, z0⟩ := (h2 0).2.2 rfl
  have q1 := (h2 1).1 rfl
  obtain ⟨a2, n2, c2, q2, y2, z2⟩ := (h2 2).2.2 rfl
  have ecs : cs = [.slice a0 n0 c0, .int .u64 (outX s 1), .slice a2 n2 c2] := by
    refine List.ext_getElem? fun i => ?_
    rcases Nat.lt_or_ge i 3 with hi | hi
    · match i, hi with
      | 0, _ => exact q0
      | 1, _ => exact q1
      | 2, _ => exact q2
      | n + 3, h => exact absurd h (by omega)
    · rw [List.getElem?_eq_none (by omega), List.getElem?_eq_none hi]
  subst ecs
  exact ⟨a0, n0, c0, a2, n2, c2, rfl, ⟨y0, by omega⟩, ⟨y2, by omega⟩, B⟩
def stHistory (l : List Int) : RSt := thr rnx [(2, 0), (0, 1)] (0, l, fun _ => 0)
theorem outHistory {w w' : World} {s : RSt} {e : Ending} (h : FinR w kd_History 2 mkA s e w') : ∃ a0 n0 c0, e = .returned (.tuple #[.agg #[.slice a0 n0 c0, .int .u64 (outX s 1)], .int .i64 (outR s)]) ∧ (NatW w' w.heap.size a0 n0 c0 (outX s 0) ∧ n0 ≤ 510) ∧ Below w.heap.size w w' := by
  obtain ⟨⟨cs, xs, r, rfl, h1, h2, h3, h4⟩, B⟩ := h
  obtain ⟨e1, e2⟩ := out_of h3 h4
  subst e1 e2
  obtain ⟨a0, n0, c0, q0, y0, z0⟩ := (h2 0).2.2 rfl
  have q1 := (h2 1).1 rfl
  have ecs : cs = [.slice a0 n0 c0, .int .u64 (outX s 1)] := by
    refine List.ext_getElem? fun i => ?_
    rcases Nat.lt_or_ge i 2 with hi | hi
    · match i, hi with
      | 0, _ => exact q0
      | 1, _ => exact q1
      | n + 2, h => exact absurd h (by omega)
    · rw [List.getElem?_eq_none (by omega), List.getElem?_eq_none hi]
  subst ecs
  exact ⟨a0, n0, c0, rfl, ⟨y0, by omega⟩, B⟩
theorem oHistory {w : World} {bb n c : Nat} {ao : Option Addr} {l : List Int} (A : ByA w bb ao n c l) (hn : n ≤ 1000000000) : Calls Tryz.prog 121 #[.slice ao n c] w fun e w' => ∃ a0 n0 c0, e = .returned (.tuple #[.agg #[.slice a0 n0 c0, .int .u64 (outX (stHistory l) 1)], .int .i64 (outR (stHistory l))]) ∧ (NatW w' w.heap.size a0 n0 c0 (outX (stHistory l) 0) ∧ n0 ≤ 510) ∧ Below w.heap.size w w' := by
  refine (History_any A hn (by obtain ⟨o, h1, _⟩ := A.ex; exact h1)).mono ?_
  intro e w' h
  exact outHistory h
def stCut (l : List Int) : RSt := thr rnx [(0, 0), (0, 1)] (0, l, fun _ => 0)
theorem outCut {w w' : World} {s : RSt} {e : Ending} (h : FinR w kd_Cut 2 mkA s e w') : e = .returned (.tuple #[.agg #[.int .u64 (outX s 0), .int .u64 (outX s 1)], .int .i64 (outR s)]) ∧ Below w.heap.size w w' := by
  obtain ⟨⟨cs, xs, r, rfl, h1, h2, h3, h4⟩, B⟩ := h
  obtain ⟨e1, e2⟩ := out_of h3 h4
  subst e1 e2
  have q0 := (h2 0).1 rfl
  have q1 := (h2 1).1 rfl
  have ecs : cs = [.int .u64 (outX s 0), .int .u64 (outX s 1)] := by
    refine List.ext_getElem? fun i => ?_
    rcases Nat.lt_or_ge i 2 with hi | hi
    · match i, hi with
      | 0, _ => exact q0
      | 1, _ => exact q1
      | n + 2, h => exact absurd h (by omega)
    · rw [List.getElem?_eq_none (by omega), List.getElem?_eq_none hi]
  subst ecs
  exact ⟨rfl, B⟩
theorem oCut {w : World} {bb n c : Nat} {ao : Option Addr} {l : List Int} (A : ByA w bb ao n c l) (hn : n ≤ 1000000000) : Calls Tryz.prog 77 #[.slice ao n c] w fun e w' => e = .returned (.tuple #[.agg #[.int .u64 (outX (stCut l) 0), .int .u64 (outX (stCut l) 1)], .int .i64 (outR (stCut l))]) ∧ Below w.heap.size w w' := by
  refine (Cut_any A hn (by obtain ⟨o, h1, _⟩ := A.ex; exact h1)).mono ?_
  intro e w' h
  exact outCut h
def stUnbonding (l : List Int) : RSt := thr rnx [(0, 0), (0, 1), (0, 2), (0, 3), (0, 4), (0, 5)] (0, l, fun _ => 0)
theorem outUnbonding {w w' : World} {s : RSt} {e : Ending} (h : FinR w kd_Unbonding 6 mkA s e w') : e = .returned (.tuple #[.agg #[.int .u64 (outX s 0), .int .u64 (outX s 1), .int .u64 (outX s 2), .int .u64 (outX s 3), .int .u64 (outX s 4), .int .u64 (outX s 5)], .int .i64 (outR s)]) ∧ Below w.heap.size w w' := by
  obtain ⟨⟨cs, xs, r, rfl, h1, h2, h3, h4⟩, B⟩ := h
  obtain ⟨e1, e2⟩ := out_of h3 h4
  subst e1 e2
  have q0 := (h2 0).1 rfl
  have q1 := (h2 1).1 rfl
  have q2 := (h2 2).1 rfl
  have q3 := (h2 3).1 rfl
  have q4 := (h2 4).1 rfl
  have q5 := (h2 5).1 rfl
  have ecs : cs = [.int .u64 (outX s 0), .int .u64 (outX s 1), .int .u64 (outX s 2), .int .u64 (outX s 3), .int .u64 (outX s 4), .int .u64 (outX s 5)] := by
    refine List.ext_getElem? fun i => ?_
    rcases Nat.lt_or_ge i 6 with hi | hi
    · match i, hi with
      | 0, _ => exact q0
      | 1, _ => exact q1
      | 2, _ => exact q2
      | 3, _ => exact q3
      | 4, _ => exact q4
      | 5, _ => exact q5
      | n + 6, h => exact absurd h (by omega)
    · rw [List.getElem?_eq_none (by omega), List.getElem?_eq_none hi]
  subst ecs
  exact ⟨rfl, B⟩
def stMove (l : List Int) : RSt := thr rnx [(0, 0), (0, 1), (0, 2), (0, 3), (0, 4), (0, 5), (2, 6)] (0, l, fun _ => 0)
theorem outMove {w w' : World} {s : RSt} {e : Ending} (h : FinR w kd_Move 7 mkA s e w') : ∃ a6 n6 c6, e = .returned (.tuple #[.agg #[.int .u64 (outX s 0), .int .u64 (outX s 1), .int .u64 (outX s 2), .int .u64 (outX s 3), .int .u64 (outX s 4), .int .u64 (outX s 5), .slice a6 n6 c6], .int .i64 (outR s)]) ∧ (NatW w' w.heap.size a6 n6 c6 (outX s 6) ∧ n6 ≤ 510) ∧ Below w.heap.size w w' := by
  obtain ⟨⟨cs, xs, r, rfl, h1, h2, h3, h4⟩, B⟩ := h
  obtain ⟨e1, e2⟩ := out_of h3 h4
  subst e1 e2
  have q0 := (h2 0).1 rfl
  have q1 := (h2 1).1 rfl
  have q2 := (h2 2).1 rfl
  have q3 := (h2 3).1 rfl
  have q4 := (h2 4).1 rfl
  have q5 := (h2 5).1 rfl
  obtain ⟨a6, n6, c6, q6, y6, z6⟩ := (h2 6).2.2 rfl
  have ecs : cs = [.int .u64 (outX s 0), .int .u64 (outX s 1), .int .u64 (outX s 2), .int .u64 (outX s 3), .int .u64 (outX s 4), .int .u64 (outX s 5), .slice a6 n6 c6] := by
    refine List.ext_getElem? fun i => ?_
    rcases Nat.lt_or_ge i 7 with hi | hi
    · match i, hi with
      | 0, _ => exact q0
      | 1, _ => exact q1
      | 2, _ => exact q2
      | 3, _ => exact q3
      | 4, _ => exact q4
      | 5, _ => exact q5
      | 6, _ => exact q6
      | n + 7, h => exact absurd h (by omega)
    · rw [List.getElem?_eq_none (by omega), List.getElem?_eq_none hi]
  subst ecs
  exact ⟨a6, n6, c6, rfl, ⟨y6, by omega⟩, B⟩
def stNumber (l : List Int) : RSt := thr rnx [(0, 0)] (0, l, fun _ => 0)
theorem outNumber {w w' : World} {s : RSt} {e : Ending} (h : FinR w kd_Number 1 mkO s e w') : e = .returned (.tuple #[.int .u64 (outX s 0), .int .i64 (outR s)]) ∧ Below w.heap.size w w' := by
  obtain ⟨⟨cs, xs, r, rfl, h1, h2, h3, h4⟩, B⟩ := h
  obtain ⟨e1, e2⟩ := out_of h3 h4
  subst e1 e2
  have q0 := (h2 0).1 rfl
  have ecs : cs = [.int .u64 (outX s 0)] := by
    refine List.ext_getElem? fun i => ?_
    rcases Nat.lt_or_ge i 1 with hi | hi
    · match i, hi with
      | 0, _ => exact q0
      | n + 1, h => exact absurd h (by omega)
    · rw [List.getElem?_eq_none (by omega), List.getElem?_eq_none hi]
  subst ecs
  exact ⟨rfl, B⟩
end Rc
end Go.Proofs.YtjejmkcjflhoiaaGreatDoor
