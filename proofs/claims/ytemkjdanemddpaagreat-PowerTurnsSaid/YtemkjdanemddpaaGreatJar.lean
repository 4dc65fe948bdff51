/- Several texts, joined: Enc0, Enc1, Enc2, GcdOne, Small, Groups, CopyN, RefD, RefB, Enc8, Enc3, Enc4, Enc5, Enc6, Enc9, EncA, EncB, EncC, EncD, Enc7, EncE, RcA, RcB, RcC, RcD, RcE, RcF, RcG, RcH, RcI, EncF, EncG, EncI, RcJ, RcK, RcL, EncJ, EncK, RefB2, EncL, EncP, EncQ, EncR, EncS, RcO, RcM, RcN, EncM, RcT, RcRd. -/
import Derived.Test.YtemkjdanemddpaaGreatJaq
import Derived.Deep.RegionWith
import Derived.OpenShut
import Derived.Laws.AppendOwnNone
import Derived.Deep.RegionLaw
import Derived.Laws.CopyOwn
import Derived.Great.FillDense
import Derived.Lib.SliceRun
import Derived.Test.YtemkjdanemddpaaGreatJaa
import Derived.Test.YtemkjdanemddpaaGreatJak
import Derived.Lib.SlBytesConst
namespace Go.Proofs.YtemkjdanemddpaaGreat
open Go.RowKit Lim

end Go.Proofs.YtemkjdanemddpaaGreat

namespace Go.Proofs.YtemkjdanemddpaaGreat
open Go.RowKit Lim

end Go.Proofs.YtemkjdanemddpaaGreat

namespace Go.Proofs.YtemkjdanemddpaaGreat
open Go.RowKit Lim

end Go.Proofs.YtemkjdanemddpaaGreat

namespace Go.Proofs.YtemkjdanemddpaaGreat
open Go.RowKit Lim

end Go.Proofs.YtemkjdanemddpaaGreat

namespace Go.Proofs.YtemkjdanemddpaaGreat
open Go.RowKit Lim

end Go.Proofs.YtemkjdanemddpaaGreat

namespace Go.Proofs.YtemkjdanemddpaaGreat
open Go.RowKit Lim

end Go.Proofs.YtemkjdanemddpaaGreat

namespace Go.Proofs.YtemkjdanemddpaaGreat
open Go.RowKit Lim

end Go.Proofs.YtemkjdanemddpaaGreat

namespace Go.Proofs.YtemkjdanemddpaaGreat
open Go.RowKit Lim

end Go.Proofs.YtemkjdanemddpaaGreat

namespace Go.Proofs.YtemkjdanemddpaaGreat
open Go.RowKit Lim

end Go.Proofs.YtemkjdanemddpaaGreat

namespace Go.Proofs.YtemkjdanemddpaaGreat
open Go.RowKit Lim
end Go.Proofs.YtemkjdanemddpaaGreat

namespace Go.Proofs.YtemkjdanemddpaaGreat
open Go.RowKit Lim

end Go.Proofs.YtemkjdanemddpaaGreat

namespace Go.Proofs.YtemkjdanemddpaaGreat
open Go.RowKit Lim

end Go.Proofs.YtemkjdanemddpaaGreat

namespace Go.Proofs.YtemkjdanemddpaaGreat
open Go.RowKit Lim

/-- a number in m bytes, the highest first -/
def be : Nat → Int → List Int
  | 0, _ => []
  | m + 1, x => x / 256 ^ m % 256 :: be m x
theorem be_length (m : Nat) (x : Int) : (be m x).length = m := by
  induction m with
  | zero => rfl
  | succ m ih => rw [be, List.length_cons, ih]
theorem be_nth (m : Nat) (x : Int) : ∀ i, i < m → nth (be m x) i = x / 256 ^ (m - 1 - i) % 256 := by
  induction m with
  | zero => intro i hi; omega
  | succ m ih =>
    intro i hi
    cases i with
    | zero => rfl
    | succ i =>
      rw [be, nth_succ, ih i (by omega), show m - 1 - i = m + 1 - 1 - (i + 1) by omega]
theorem be_oct (m : Nat) (x : Int) : Octets (be m x) := by
  induction m with
  | zero => intro y hy; simp [be] at hy
  | succ m ih =>
    intro y hy
    rw [be] at hy
    rcases List.mem_cons.1 hy with e | e
    · subst e; exact ⟨Int.emod_nonneg _ (by decide), Int.emod_lt_of_pos _ (by decide)⟩
    · exact ih y e
theorem be_val (m : Nat) {x : Int} (hx : 0 ≤ x) : bval (be m x) = x % 256 ^ m := by
  induction m with
  | zero => simp [be, bval]
  | succ m ih => rw [be, bval, be_length, ih, ← emod_parts x hx m]
/-- what a Writer has, when l is laid -/
def wrote (err : Int) (L l : List Int) : List Int := if err = 0 then L ++ l else L
/-- a list behind its length -/
def cntd (m : Nat) (l : List Int) : List Int := be m l.length ++ l
/-- the error of a list that is too long -/
def long (err : Int) : Int := if err = 0 then 42 else err
end Go.Proofs.YtemkjdanemddpaaGreat

namespace Go.Proofs.YtemkjdanemddpaaGreat
open Go.RowKit Lim

/-- the bytes of a whole number, the highest first -/
def natB (V : Int) : List Int := be ((bitLen V.toNat + 7) / 8) V
theorem natB_is {V : Int} (hV : 0 ≤ V) : IsB (natB V) V := by
  obtain ⟨h1, h2⟩ := bytes_len hV
  unfold natB
  generalize (bitLen V.toNat + 7) / 8 = k at *
  refine ⟨be_oct k V, fun hne => ?_, by rw [be_val k hV, Int.emod_eq_of_lt hV h1]⟩
  have hk : k ≠ 0 := fun e => hne (by rw [e]; rfl)
  rw [be_nth k V 0 (by omega), show k - 1 - 0 = k - 1 by omega]
  have hp : (0 : Int) < 256 ^ (k - 1) := Int.pow_pos (by decide)
  have q1 : 1 ≤ V / 256 ^ (k - 1) := by rw [Int.le_ediv_iff_mul_le hp]; have := h2 hk; omega
  have q2 : V / 256 ^ (k - 1) < 256 := by
    rw [Int.ediv_lt_iff_lt_mul hp, Int.mul_comm, ← Int.pow_succ, show (k - 1).succ = k from by omega]; exact h1
  rw [Int.emod_eq_of_lt (by omega) q2]; omega
/-- the error behind a whole number -/
def natE (V err : Int) : Int := if (natB V).length < 256 then err else long err
/-- what a Writer has behind it -/
def natL (V err : Int) (L : List Int) : List Int := if (natB V).length < 256 then wrote err L (cntd 1 (natB V)) else L
end Go.Proofs.YtemkjdanemddpaaGreat

namespace Go.Proofs.YtemkjdanemddpaaGreat
open Go.RowKit Lim

/-- the error behind a part that is read: the first one -/
def rdE {α : Type} (r : Int ⊕ α × Nat) (err : Int) : Int := if err = 0 then (match r with | .inl e => e | .inr _ => 0) else err
/-- what is left -/
def rdL {α : Type} (r : Int ⊕ α × Nat) (err : Int) (l : List Int) : List Int := if err = 0 then (match r with | .inl _ => l | .inr p => l.drop p.2) else l
/-- what is told -/
def rdV {α : Type} (z : α) (r : Int ⊕ α × Nat) (err : Int) : α := if err = 0 then (match r with | .inl _ => z | .inr p => p.1) else z
/-- a number of m bytes -/
def pFix (m : Nat) (l : List Int) : Int ⊕ Int × Nat := if m ≤ l.length then .inr (bval (l.take m), m) else .inl 40
def pBool (l : List Int) : Int ⊕ Bool × Nat := if 1 ≤ l.length then (if 1 < bval (l.take 1) then .inl 41 else .inr (bval (l.take 1) == 1, 1)) else .inl 40
/-- how many bytes a count of m bytes tells -/
def cntOf (m : Nat) (l : List Int) : Nat := (bval (l.take m)).toNat
def pNat (l : List Int) : Int ⊕ Int × Nat := if 1 ≤ l.length then (if 1 + cntOf 1 l ≤ l.length then (if 0 < cntOf 1 l ∧ nth (l.drop 1) 0 = 0 then .inl 41 else .inr (bval ((l.drop 1).take (cntOf 1 l)), 1 + cntOf 1 l)) else .inl 40) else .inl 40
theorem rdE_bad {α : Type} {r : Int ⊕ α × Nat} {err : Int} (h : err ≠ 0) : rdE r err = err := by unfold rdE; rw [if_neg h]
end Go.Proofs.YtemkjdanemddpaaGreat

namespace Go.Proofs.YtemkjdanemddpaaGreat
open Go.RowKit Lim

end Go.Proofs.YtemkjdanemddpaaGreat

namespace Go.Proofs.YtemkjdanemddpaaGreat
open Go.RowKit Lim

end Go.Proofs.YtemkjdanemddpaaGreat

namespace Go.Proofs.YtemkjdanemddpaaGreat
open Go.RowKit Lim

end Go.Proofs.YtemkjdanemddpaaGreat

namespace Go.Proofs.YtemkjdanemddpaaGreat
open Go.RowKit Lim

/-- what End tells -/
def endE (err : Int) (l : List Int) : Int := if err = 0 then (if l.length = 0 then 0 else 43) else err
end Go.Proofs.YtemkjdanemddpaaGreat

namespace Go.Proofs.YtemkjdanemddpaaGreat
open Go.RowKit Lim

end Go.Proofs.YtemkjdanemddpaaGreat

namespace Go.Proofs.YtemkjdanemddpaaGreat
open Go.RowKit Lim

theorem natB_unique {V : Int} {l : List Int} (hV : 0 ≤ V) (h : IsB l V) : natB V = l := isB_unique (natB_is hV) h
end Go.Proofs.YtemkjdanemddpaaGreat

namespace Go.Proofs.YtemkjdanemddpaaGreat
namespace Rc
open Go.RowKit Go.Lib Pg
attribute [local go_sem] Oper.semAt_some
end Rc
end Go.Proofs.YtemkjdanemddpaaGreat

namespace Go.Proofs.YtemkjdanemddpaaGreat
namespace Rc
open Go.RowKit Go.Lib Pg
attribute [local go_sem] Oper.semAt_some
def thr {σ : Type} (nx : Nat → Nat → σ → σ) (l : List (Nat × Nat)) (s : σ) : σ := l.foldl (fun s p => nx p.1 p.2 s) s
end Rc
end Go.Proofs.YtemkjdanemddpaaGreat

namespace Go.Proofs.YtemkjdanemddpaaGreat
namespace Rc
open Go.RowKit Go.Lib Pg
attribute [local go_sem] Oper.semAt_some
/-- a number as a record holds it -/
def fit (V : Int) : Int := if (natB V).length < 256 then V else 0
/-- a field's bytes -/
def enc1 : Nat → Int → List Int
  | 0, x => be 8 x
  | 1, x => be 1 x
  | _, x => cntd 1 (natB (fit x))
end Rc
end Go.Proofs.YtemkjdanemddpaaGreat

namespace Go.Proofs.YtemkjdanemddpaaGreat
namespace Rc
open Go.RowKit Go.Lib Pg
attribute [local go_sem] Oper.semAt_some
/-- a field laid behind what there is -/
def pnx (xs : Nat → Int) (k o : Nat) (L : List Int) : List Int := L ++ enc1 k (xs o)
end Rc
end Go.Proofs.YtemkjdanemddpaaGreat

namespace Go.Proofs.YtemkjdanemddpaaGreat
namespace Rc
open Go.RowKit Go.Lib Pg
attribute [local go_sem] Oper.semAt_some
end Rc
end Go.Proofs.YtemkjdanemddpaaGreat

namespace Go.Proofs.YtemkjdanemddpaaGreat
namespace Rc
open Go.RowKit Go.Lib Pg Lim
attribute [local go_sem] Oper.semAt_some
end Rc
end Go.Proofs.YtemkjdanemddpaaGreat

namespace Go.Proofs.YtemkjdanemddpaaGreat
namespace Rc
open Go.RowKit Go.Lib Pg
attribute [local go_sem] Oper.semAt_some
abbrev RSt := Int × List Int × (Nat → Int)
def pBoolI (l : List Int) : Int ⊕ Int × Nat := match pBool l with
  | .inl e => .inl e
  | .inr p => .inr ((if p.1 then 1 else 0), p.2)
/-- what is read of a field -/
def p1 : Nat → List Int → Int ⊕ Int × Nat
  | 0, l => pFix 8 l
  | 1, l => pBoolI l
  | _, l => pNat l
theorem pBoolI_E (l : List Int) (err : Int) : rdE (pBoolI l) err = rdE (pBool l) err := by
  unfold rdE pBoolI
  cases pBool l <;> rfl
theorem pBoolI_L (l m : List Int) (err : Int) : rdL (pBoolI l) err m = rdL (pBool l) err m := by
  unfold rdL pBoolI
  cases pBool l <;> rfl
theorem pBoolI_V (l : List Int) (err : Int) : rdV 0 (pBoolI l) err = if rdV false (pBool l) err then 1 else 0 := by
  unfold rdV pBoolI
  by_cases h : err = 0
  · rw [if_pos h, if_pos h]
    cases pBool l <;> rfl
  · rw [if_neg h, if_neg h]
    rfl
def rnx (k o : Nat) (s : RSt) : RSt := (rdE (p1 k s.2.1) s.1, rdL (p1 k s.2.1) s.1 s.2.1, fun i => if i = o then rdV 0 (p1 k s.2.1) s.1 else s.2.2 i)
end Rc
end Go.Proofs.YtemkjdanemddpaaGreat

namespace Go.Proofs.YtemkjdanemddpaaGreat
namespace Rc
open Go.RowKit Go.Lib Pg
attribute [local go_sem] Oper.semAt_some
end Rc
end Go.Proofs.YtemkjdanemddpaaGreat

namespace Go.Proofs.YtemkjdanemddpaaGreat
namespace Rc
open Go.RowKit Go.Lib Pg
attribute [local go_sem] Oper.semAt_some
end Rc
end Go.Proofs.YtemkjdanemddpaaGreat

namespace Go.Proofs.YtemkjdanemddpaaGreat
open Go.RowKit Lim

end Go.Proofs.YtemkjdanemddpaaGreat

namespace Go.Proofs.YtemkjdanemddpaaGreat
open Go.RowKit Lim

/-- a step of a script: its five cells, and what lies behind its two lists -/
structure Stp where
  what : Int
  num : Int
  na : Option Addr
  nn : Nat
  nc : Nat
  V : Int
  ba : Option Addr
  bn : Nat
  bc : Nat
  bb : Nat
  bl : List Int
  most : Int
end Go.Proofs.YtemkjdanemddpaaGreat

namespace Go.Proofs.YtemkjdanemddpaaGreat
open Go.RowKit Lim

theorem be_bval {l : List Int} (h : Octets l) : be l.length (bval l) = l := by
  refine bval_inj (be_oct _ _) h (be_length _ _) ?_
  have hb := bval_bound h
  rw [be_val _ hb.1, Int.emod_eq_of_lt hb.1 hb.2]
theorem be_take {l : List Int} (h : Octets l) {m : Nat} (hm : m ≤ l.length) : be m (bval (l.take m)) = l.take m := by
  have := be_bval (l := l.take m) (fun x hx => h x (List.mem_of_mem_take hx))
  rwa [List.length_take, Nat.min_eq_left hm] at this
/-- a part was read of L: with an error nothing is taken; without one, what is laid again is what was taken -/
def One (err' : Int) (L L' : List Int) (laid : List Int → Prop) : Prop := (err' ≠ 0 ∧ L' = L) ∨ (err' = 0 ∧ ∃ k, k ≤ L.length ∧ laid (L.take k) ∧ L' = L.drop k)
theorem one_fix {L : List Int} (h : Octets L) (m : Nat) : One (rdE (pFix m L) 0) L (rdL (pFix m L) 0 L) (fun t => be m (rdV 0 (pFix m L) 0) = t) := by
  by_cases hm : m ≤ L.length
  · have e : pFix m L = .inr (bval (L.take m), m) := by unfold pFix; rw [if_pos hm]
    rw [e]
    exact .inr ⟨rfl, m, hm, be_take h hm, rfl⟩
  · have e : pFix m L = .inl 40 := by unfold pFix; rw [if_neg hm]
    rw [e]
    exact .inl ⟨by decide, rfl⟩
theorem one_bool {L : List Int} (h : Octets L) : One (rdE (pBool L) 0) L (rdL (pBool L) 0 L) (fun t => be 1 (if rdV false (pBool L) 0 then 1 else 0) = t) := by
  by_cases hm : 1 ≤ L.length
  · by_cases hx : 1 < bval (L.take 1)
    · have e : pBool L = .inl 41 := by unfold pBool; rw [if_pos hm, if_pos hx]
      rw [e]
      exact .inl ⟨by decide, rfl⟩
    · have e : pBool L = .inr (bval (L.take 1) == 1, 1) := by unfold pBool; rw [if_pos hm, if_neg hx]
      rw [e]
      refine .inr ⟨rfl, 1, hm, ?_, rfl⟩
      have hbt := be_take h hm
      have h0 := (bval_bound (l := L.take 1) (fun x hx => h x (List.mem_of_mem_take hx))).1
      show be 1 (if (bval (L.take 1) == 1) = true then 1 else 0) = L.take 1
      generalize L.take 1 = M at *
      by_cases h1 : bval M = 1
      · rw [h1] at hbt ⊢
        exact hbt
      · rw [show bval M = 0 by omega] at hbt ⊢
        exact hbt
  · have e : pBool L = .inl 40 := by unfold pBool; rw [if_neg hm]
    rw [e]
    exact .inl ⟨by decide, rfl⟩
theorem cntOf_nn {m : Nat} {L : List Int} (h : Octets L) : ((cntOf m L : Nat) : Int) = bval (L.take m) := by
  unfold cntOf
  rw [Int.toNat_of_nonneg (bval_bound (fun x hx => h x (List.mem_of_mem_take hx))).1]
theorem cnt_lay {m : Nat} {L : List Int} (h : Octets L) (hm : m ≤ L.length) (hc : m + cntOf m L ≤ L.length) : cntd m ((L.drop m).take (cntOf m L)) = L.take (m + cntOf m L) := by
  unfold cntd
  have e : (((L.drop m).take (cntOf m L)).length : Int) = bval (L.take m) := by
    rw [List.length_take, List.length_drop, Nat.min_eq_left (by omega)]
    exact cntOf_nn h
  rw [e, be_take h hm, List.take_add]
theorem one_nat {L : List Int} (h : Octets L) : One (rdE (pNat L) 0) L (rdL (pNat L) 0 L) (fun t => natE (rdV 0 (pNat L) 0) 0 = 0 ∧ ∀ K, natL (rdV 0 (pNat L) 0) 0 K = K ++ t) := by
  by_cases hm : 1 ≤ L.length
  · by_cases hc : 1 + cntOf 1 L ≤ L.length
    · by_cases hz : 0 < cntOf 1 L ∧ nth (L.drop 1) 0 = 0
      · have e : pNat L = .inl 41 := by unfold pNat; rw [if_pos hm, if_pos hc, if_pos hz]
        rw [e]
        exact .inl ⟨by decide, rfl⟩
      · have e : pNat L = .inr (bval ((L.drop 1).take (cntOf 1 L)), 1 + cntOf 1 L) := by unfold pNat; rw [if_pos hm, if_pos hc, if_neg hz]
        have hcl := cnt_lay h hm hc
        have hlt : ((cntOf 1 L : Nat) : Int) < 256 := by
          have := (bval_bound (l := L.take 1) (fun x hx => h x (List.mem_of_mem_take hx))).2
          rw [List.length_take, Nat.min_eq_left hm] at this
          rw [cntOf_nn h]
          simpa using this
        have hoct : Octets ((L.drop 1).take (cntOf 1 L)) := fun x hx => h x (List.mem_of_mem_drop (List.mem_of_mem_take hx))
        have hlen : ((L.drop 1).take (cntOf 1 L)).length = cntOf 1 L := by rw [List.length_take, List.length_drop]; omega
        have hB : natB (bval ((L.drop 1).take (cntOf 1 L))) = (L.drop 1).take (cntOf 1 L) := natB_unique (bval_bound hoct).1 ⟨hoct, fun hne => by
          have hpos : 0 < cntOf 1 L := by
            rcases Nat.eq_zero_or_pos (cntOf 1 L) with h0 | h0
            · exact absurd (by rw [h0]; simp) hne
            · exact h0
          rw [nth_take hpos]
          exact fun h0 => hz ⟨hpos, h0⟩, rfl⟩
        rw [e]
        refine .inr ⟨rfl, _, hc, ?_, rfl⟩
        show natE (bval ((L.drop 1).take (cntOf 1 L))) 0 = 0 ∧ ∀ K, natL (bval ((L.drop 1).take (cntOf 1 L))) 0 K = K ++ L.take (1 + cntOf 1 L)
        unfold natE natL
        rw [hB, if_pos (by omega)]
        refine ⟨rfl, fun K => ?_⟩
        rw [if_pos (by omega), hcl]
        rfl
    · have e : pNat L = .inl 40 := by unfold pNat; rw [if_pos hm, if_neg hc]
      rw [e]
      exact .inl ⟨by decide, rfl⟩
  · have e : pNat L = .inl 40 := by unfold pNat; rw [if_neg hm]
    rw [e]
    exact .inl ⟨by decide, rfl⟩
end Go.Proofs.YtemkjdanemddpaaGreat

namespace Go.Proofs.YtemkjdanemddpaaGreat
namespace Rc
open Go.RowKit Go.Lib Pg Lim
/-- a field that was read, laid again -/
theorem one1 {l : List Int} (h : Octets l) (k : Nat) (he : rdE (p1 k l) 0 = 0) : enc1 k (rdV 0 (p1 k l) 0) ++ rdL (p1 k l) 0 l = l ∧ ∃ m, rdL (p1 k l) 0 l = l.drop m := by
  match k with
  | 0 =>
    rcases one_fix h 8 with ⟨h1, _⟩ | ⟨_, m, h2, h3, h4⟩
    · exact absurd he h1
    · show be 8 (rdV 0 (pFix 8 l) 0) ++ rdL (pFix 8 l) 0 l = l ∧ ∃ m, rdL (pFix 8 l) 0 l = l.drop m
      rw [h3, h4]
      exact ⟨List.take_append_drop m l, m, rfl⟩
  | 1 =>
    have he' : rdE (pBool l) 0 = 0 := by rw [← pBoolI_E]; exact he
    rcases one_bool h with ⟨h1, _⟩ | ⟨_, m, h2, h3, h4⟩
    · exact absurd he' h1
    · show be 1 (rdV 0 (pBoolI l) 0) ++ rdL (pBoolI l) 0 l = l ∧ ∃ m, rdL (pBoolI l) 0 l = l.drop m
      rw [pBoolI_V, pBoolI_L, h3, h4]
      exact ⟨List.take_append_drop m l, m, rfl⟩
  | k + 2 =>
    rcases one_nat h with ⟨h1, _⟩ | ⟨_, m, h2, ⟨h3, h5⟩, h4⟩
    · exact absurd he h1
    · show cntd 1 (natB (fit (rdV 0 (pNat l) 0))) ++ rdL (pNat l) 0 l = l ∧ ∃ m, rdL (pNat l) 0 l = l.drop m
      have hf : (natB (rdV 0 (pNat l) 0)).length < 256 := by
        unfold natE at h3
        split at h3
        · assumption
        · exact absurd h3 (by decide)
      have e := h5 []
      unfold natL wrote at e
      rw [if_pos hf, if_pos rfl] at e
      unfold fit
      rw [if_pos hf]
      simp only [List.nil_append] at e
      rw [e, h4]
      exact ⟨List.take_append_drop m l, m, rfl⟩
theorem thr_cons {σ : Type} (nx : Nat → Nat → σ → σ) (p : Nat × Nat) (ks : List (Nat × Nat)) (s : σ) : thr nx (p :: ks) s = thr nx ks (nx p.1 p.2 s) := rfl
theorem thr_bad (ks : List (Nat × Nat)) : ∀ s : RSt, s.1 ≠ 0 → (thr rnx ks s).1 = s.1 := by
  induction ks with
  | nil => intro s _; rfl
  | cons p ks ih =>
    intro s hs
    have e : (rnx p.1 p.2 s).1 = s.1 := rdE_bad hs
    rw [thr_cons, ih _ (by rw [e]; exact hs), e]
theorem thr_place (ks : List (Nat × Nat)) (o : Nat) : ∀ s : RSt, o ∉ ks.map Prod.snd → (thr rnx ks s).2.2 o = s.2.2 o := by
  induction ks with
  | nil => intro s _; rfl
  | cons p ks ih =>
    intro s ho
    rw [List.map_cons, List.mem_cons, not_or] at ho
    rw [thr_cons, ih _ ho.2]
    show (if o = p.2 then _ else _) = _
    rw [if_neg ho.1]
theorem octets_drop {l : List Int} (h : Octets l) (m : Nat) : Octets (l.drop m) := fun x hx => h x (List.mem_of_mem_drop hx)
/-- a record that was read, laid again -/
theorem thr_one (ks : List (Nat × Nat)) : ∀ (l : List Int) (xs : Nat → Int), Octets l → (ks.map Prod.snd).Nodup → (thr rnx ks (0, l, xs)).1 = 0 → ∀ L, thr (pnx (thr rnx ks (0, l, xs)).2.2) ks L ++ (thr rnx ks (0, l, xs)).2.1 = L ++ l := by
  induction ks with
  | nil => intro l xs _ _ _ L; rfl
  | cons p ks ih =>
    intro l xs ho hnd he L
    rw [List.map_cons, List.nodup_cons] at hnd
    rw [thr_cons] at he
    have e1 : rdE (p1 p.1 l) 0 = 0 := by
      by_cases hz : rdE (p1 p.1 l) 0 = 0
      · exact hz
      · exact absurd ((thr_bad ks (rnx p.1 p.2 (0, l, xs)) hz).symm.trans he) hz
    obtain ⟨h1, m, h2⟩ := one1 ho p.1 e1
    have es : rnx p.1 p.2 (0, l, xs) = (0, rdL (p1 p.1 l) 0 l, fun i => if i = p.2 then rdV 0 (p1 p.1 l) 0 else xs i) := by
      show (rdE (p1 p.1 l) 0, _, _) = _
      rw [e1]
    have e0 : thr rnx (p :: ks) (0, l, xs) = thr rnx ks (0, rdL (p1 p.1 l) 0 l, fun i => if i = p.2 then rdV 0 (p1 p.1 l) 0 else xs i) := by rw [thr_cons, es]
    rw [es] at he
    rw [e0]
    have ih' := ih _ _ (by rw [h2]; exact octets_drop ho m) hnd.2 he
    rw [thr_cons, ih']
    have ev : (thr rnx ks (0, rdL (p1 p.1 l) 0 l, fun i => if i = p.2 then rdV 0 (p1 p.1 l) 0 else xs i)).2.2 p.2 = rdV 0 (p1 p.1 l) 0 := by
      rw [thr_place ks p.2 _ hnd.1]
      show (if p.2 = p.2 then _ else _) = _
      rw [if_pos rfl]
    show (L ++ enc1 p.1 _) ++ _ = L ++ l
    rw [ev, List.append_assoc, h1]
end Rc
end Go.Proofs.YtemkjdanemddpaaGreat

namespace Go.Proofs.YtemkjdanemddpaaGreat
namespace Rc
open Go.RowKit Go.Lib Pg
attribute [local go_sem] Oper.semAt_some
end Rc
end Go.Proofs.YtemkjdanemddpaaGreat

namespace Go.Proofs.YtemkjdanemddpaaGreat
namespace Rc
open Go.RowKit Go.Lib Pg
attribute [local go_sem] Oper.semAt_some
end Rc
end Go.Proofs.YtemkjdanemddpaaGreat

namespace Go.Proofs.YtemkjdanemddpaaGreat
open Go.RowKit Lim

/-- the bytes of a step; none: it is too long -/
def stB (s : Stp) : Option (List Int) :=
  if s.what = 0 then some (be 1 (s.num % 256))
  else if s.what = 1 then some (be 4 (s.num % 4294967296))
  else if s.what = 2 then some (be 8 s.num)
  else if s.what = 3 then some (be 1 (if s.num % 2 == 1 then 1 else 0))
  else if s.what = 4 ∨ s.what = 5 then (if (natB s.V).length < 256 then some (cntd 1 (natB s.V)) else none)
  else if s.what = 6 then some (cntd 4 s.bl)
  else some []
/-- one step more -/
def stO (s : Stp) (o : Option (List Int)) : Option (List Int) := o.bind fun L => (stB s).map (L ++ ·)
/-- the bytes of a script -/
def laid (ss : List Stp) : Option (List Int) := ss.foldl (fun o s => stO s o) (some [])
end Go.Proofs.YtemkjdanemddpaaGreat

namespace Go.Proofs.YtemkjdanemddpaaGreat
open Go.RowKit Lim

end Go.Proofs.YtemkjdanemddpaaGreat

namespace Go.Proofs.YtemkjdanemddpaaGreat
open Go.RowKit Lim

end Go.Proofs.YtemkjdanemddpaaGreat

namespace Go.Proofs.YtemkjdanemddpaaGreat
open Go.RowKit Lim

end Go.Proofs.YtemkjdanemddpaaGreat

namespace Go.Proofs.YtemkjdanemddpaaGreat
open Go.RowKit Lim

end Go.Proofs.YtemkjdanemddpaaGreat

namespace Go.Proofs.YtemkjdanemddpaaGreat
open Go.RowKit Lim

end Go.Proofs.YtemkjdanemddpaaGreat

namespace Go.Proofs.YtemkjdanemddpaaGreat
open Go.RowKit Lim

end Go.Proofs.YtemkjdanemddpaaGreat

namespace Go.Proofs.YtemkjdanemddpaaGreat
open Go.RowKit Lim

end Go.Proofs.YtemkjdanemddpaaGreat

namespace Go.Proofs.YtemkjdanemddpaaGreat
namespace Rc
open Go.RowKit Go.Lib Pg Lim
attribute [local go_sem] Oper.semAt_some
end Rc
end Go.Proofs.YtemkjdanemddpaaGreat

namespace Go.Proofs.YtemkjdanemddpaaGreat
namespace Rc
open Go.RowKit Go.Lib Pg Lim
attribute [local go_sem] Oper.semAt_some
end Rc
end Go.Proofs.YtemkjdanemddpaaGreat

namespace Go.Proofs.YtemkjdanemddpaaGreat
namespace Rc
open Go.RowKit Go.Lib Pg Lim
theorem endE_zero {err : Int} {l : List Int} (h : endE err l = 0) : err = 0 ∧ l = [] := by
  unfold endE at h
  split at h
  · rename_i he
    split at h
    · rename_i hl
      exact ⟨he, List.eq_nil_of_length_eq_zero hl⟩
    · exact absurd h (by decide)
  · exact absurd h (by assumption)
/-- what is read whole is laid again as it was -/
theorem ones (ks : List (Nat × Nat)) (l : List Int) (ho : Octets l) (hnd : (ks.map Prod.snd).Nodup) (h : endE (thr rnx ks (0, l, fun _ => 0)).1 (thr rnx ks (0, l, fun _ => 0)).2.1 = 0) : thr (pnx (thr rnx ks (0, l, fun _ => 0)).2.2) ks [] = l := by
  obtain ⟨h1, h2⟩ := endE_zero h
  have := thr_one ks l (fun _ => 0) ho hnd h1 []
  rw [h2, List.append_nil, List.nil_append] at this
  exact this
end Rc
end Go.Proofs.YtemkjdanemddpaaGreat

namespace Go.Proofs.YtemkjdanemddpaaGreat
open Go.RowKit Lim

end Go.Proofs.YtemkjdanemddpaaGreat

namespace Go.Proofs.YtemkjdanemddpaaGreat
namespace Rc
open Go.RowKit Go.Lib Pg Lim
attribute [local go_sem] Oper.semAt_some
end Rc
end Go.Proofs.YtemkjdanemddpaaGreat

namespace Go.Proofs.YtemkjdanemddpaaGreat
namespace Rc
open Go.RowKit Go.Lib Pg Lim Gl
end Rc
end Go.Proofs.YtemkjdanemddpaaGreat
