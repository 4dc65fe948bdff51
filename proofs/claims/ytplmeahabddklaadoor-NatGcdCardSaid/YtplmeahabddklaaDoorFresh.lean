/- Numbers in memory of their own, which may be written over: what a Spoil of one leaves of the others. -/
import Derived.Test.YtplmeahabddklaaDoorSpoil
import Derived.Test.YtplmeahabddklaaDoorSmallN
import Derived.Test.YtplmeahabddklaaDoorCopyN
import Derived.Test.YtplmeahabddklaaDoorRefT
namespace Go.Proofs.YtplmeahabddklaaDoor
open Go.RowKit Lim

/-- the limbs l lie at ao -/
structure LimA (w : World) (ao : Option Addr) (n c : Nat) (l : List Int) : Prop where
  ex : ∃ b o, l.length = n ∧ n ≤ c ∧ Words l ∧ At w ao b o l
theorem LimA.a {w : World} {ao : Option Addr} {n c : Nat} {l : List Int} (h : LimA w ao n c l) : NatA w ao n c (val l) := by
  obtain ⟨b, o, h1, h2, h3, h4⟩ := h.ex
  exact ⟨b, o, l, h1, h2, h3, h4, rfl⟩
theorem LimA.keep {w w' : World} {ao : Option Addr} {n c : Nat} {l : List Int} (h : LimA w ao n c l) (hb : Below w.heap.size w w') : LimA w' ao n c l := by
  obtain ⟨b, o, h1, h2, h3, h4⟩ := h.ex
  exact ⟨b, o, h1, h2, h3, h4.keep hb⟩
theorem lSame {w : World} {ao ao' : Option Addr} {n c n' c' : Nat} {l : List Int} (h : LimA w ao n c l) (h' : LimA w ao' n' c' l) (hn : n ≤ 4398046511104) (hn' : n' ≤ 4398046511104) :
    Calls Tryd.prog 19 #[.slice ao n c, .slice ao' n' c'] w fun e w' => e = .returned (.bool true) ∧ Below w.heap.size w w' := by
  obtain ⟨b, o, h1, h2, h3, h4⟩ := h.ex
  obtain ⟨b', o', h1', h2', h3', h4'⟩ := h'.ex
  have t := helpNat ao n c b o ao' n' c' b' o' l l w h1 h1' hn hn' h4 h4'
  rw [eqB_true rfl] at t
  exact t
theorem lCopy {w : World} {ao : Option Addr} {n c : Nat} {l : List Int} (h : LimA w ao n c l) (hn : n ≤ 1099511627776) (hnil : ao = none → c = 0) :
    Calls Tryd.prog 11 #[.slice ao n c] w fun e w' => ∃ a d, e = .returned (.slice a n d) ∧ LimA w' a n d l ∧ Below w.heap.size w w' := by
  obtain ⟨b, o, h1, h2, h3, h4⟩ := h.ex
  refine (copy_any ao n c b o l w h1 hn hnil h4).mono ?_
  rintro e w' ⟨v, rfl, hM, hB⟩
  obtain ⟨a, d, rfl, h5, _, g, _, _, h6, _⟩ := hM.open
  rw [h1] at h5 ⊢
  exact ⟨a, d, rfl, ⟨g, 0, h1, h5, h3, h6⟩, hB⟩

/-- the normal list of x lies at ao, in one of the blocks from B up to T, and may be written over -/
structure NatN (w : World) (B T : Nat) (ao : Option Addr) (n c : Nat) (x : Int) : Prop where
  ex : ∃ b o l, l.length = n ∧ n ≤ c ∧ IsN l x ∧ At w ao b o l ∧ Free w b o n ∧ (l = [] ∨ (B ≤ b ∧ b < T))
theorem NatN.o {w : World} {B T : Nat} {ao : Option Addr} {n c : Nat} {x : Int} (h : NatN w B T ao n c x) : NatO w ao n c x := by
  obtain ⟨b, o, l, h1, h2, h3, h4, _⟩ := h.ex
  exact ⟨b, o, l, h1, h2, h3, h4⟩
theorem NatN.eqv {w : World} {B T : Nat} {ao : Option Addr} {n c : Nat} {x y : Int} (h : NatN w B T ao n c x) (e : x = y) : NatN w B T ao n c y := e ▸ h
theorem NatN.keep {w w' : World} {B T : Nat} {ao : Option Addr} {n c : Nat} {x : Int} (h : NatN w B T ao n c x) (hb : Below w.heap.size w w') : NatN w' B T ao n c x := by
  obtain ⟨b, o, l, h1, h2, h3, h4, h5, h6⟩ := h.ex
  refine ⟨b, o, l, h1, h2, h3, h4.keep hb, ?_, h6⟩
  rcases h4.lt with e | e
  · subst e; subst h1; exact fun i hi => by simp at hi
  · exact Free.below hb h5 e
theorem natN_nil (w : World) (B T : Nat) : NatN w B T none 0 0 0 := ⟨0, 0, [], rfl, Nat.le_refl _, isN_nil, ⟨.inl rfl, fun i hi => by simp at hi⟩, fun i hi => by omega, .inl rfl⟩
theorem NewV.n {w w' : World} {v : Value} {r : List Int} {x : Int} (h : NewV w w' v r) (hI : IsN r x) : ∃ a c, v = .slice a r.length c ∧ NatN w' w.heap.size w'.heap.size a r.length c x := by
  obtain ⟨ao, b, o, c, e, h1, h2, h3, h4⟩ := h.is
  refine ⟨ao, c, e, b, o, r, rfl, h1, hI, h3, h4, ?_⟩
  rcases h3.lt with e | e
  · exact .inl e
  · exact .inr ⟨h2, e⟩

/-- nothing but blocks from B up to T is turned -/
structure Turn (B T : Nat) (w w' : World) : Prop where
  os : w'.os = w.os
  tape : w'.tape = w.tape
  output : w'.output = w.output
  size : w'.heap.size = w.heap.size
  block : ∀ k, (k < B ∨ T ≤ k) → w'.heap[k]? = w.heap[k]?
theorem Turn.below {B T B0 : Nat} {w w' : World} (h : Turn B T w w') (hB : B0 ≤ B) : Below B0 w w' :=
  ⟨h.os, h.tape, h.output, by rw [h.size]; exact Nat.le_refl _, fun k hk => h.block k (.inl (by omega))⟩
theorem At.turn {B T : Nat} {w w' : World} (h : Turn B T w w') {ao : Option Addr} {b o : Nat} {l : List Int} (k : At w ao b o l) (hb : l = [] ∨ b < B ∨ T ≤ b) : At w' ao b o l :=
  ⟨k.loc, fun i hi => by
    rcases hb with e | e
    · subst e; simp at hi
    · rw [World.cell?_of_block (w := w) (h.block b e)]; exact k.cell i hi⟩
theorem NatN.turn {w w' : World} {B T B' T' : Nat} {ao : Option Addr} {n c : Nat} {x : Int} (h : NatN w B' T' ao n c x) (t : Turn B T w w') (hd : T ≤ B' ∨ T' ≤ B) : NatN w' B' T' ao n c x := by
  obtain ⟨b, o, l, h1, h2, h3, h4, h5, h6⟩ := h.ex
  have hb : l = [] ∨ b < B ∨ T ≤ b := by
    rcases h6 with e | e
    · exact .inl e
    · right; omega
  refine ⟨b, o, l, h1, h2, h3, h4.turn t hb, ?_, h6⟩
  rcases hb with e | e
  · subst e; subst h1; exact fun i hi => by simp at hi
  · intro i hi
    rw [World.frozen?_of_block (w := w) (t.block b e)]; exact h5 i hi
set_option maxHeartbeats 1000000 in
set_option maxRecDepth 100000 in
theorem spoil_nil (ao : Option Addr) (c : Nat) (w : World) :
    Calls Tryd.prog 27 #[.slice ao 0 c] w fun e w' => e = .returned (.tuple #[]) ∧ w' = w := by
  go_enter Tryd.func27, Tryd.ntmps27
  go_wp2_with fail
  go_loop [2] (fun ti => ti = .int .i64 0) (fun _ => 0)
  case atStart => rfl
  case round =>
    subst hrel
    go_wp2
    go_end0
    exact ⟨rfl, rfl⟩
theorem nSpoil {w : World} {B T : Nat} {ao : Option Addr} {n c : Nat} {x : Int} (h : NatN w B T ao n c x) (hn : n ≤ 4398046511104) :
    Calls Tryd.prog 27 #[.slice ao n c] w fun e w' => e = .returned (.tuple #[]) ∧ Turn B T w w' := by
  obtain ⟨b, o, l, h1, h2, h3, h4, h5, h6⟩ := h.ex
  rcases h6 with e | e
  · subst e
    obtain rfl : n = 0 := h1.symm
    refine (spoil_nil ao c w).mono ?_
    rintro e w' ⟨rfl, rfl⟩
    exact ⟨rfl, rfl, rfl, rfl, rfl, fun _ _ => rfl⟩
  · refine (spoil_any ao n c b o l w h1 hn h3.1 h4 h5).mono ?_
    rintro e w' ⟨rfl, hw, _⟩
    exact ⟨rfl, hw.os, hw.tape, hw.output, hw.size, fun k hk => hw.block k (by omega)⟩

/-- a difference, or nothing -/
def subV (x y : Int) : Int := if y ≤ x then x - y else 0
def subE (x y : Int) : Int := if y ≤ x then 0 else 10
def smV (x : Int) : Int := if x < 18446744073709551616 then x else 0
def smB (x : Int) : Bool := decide (x < 18446744073709551616)
theorem fAdd {w : World} {ao ao' : Option Addr} {n c n' c' : Nat} {x y : Int} (h : NatA w ao n c x) (h' : NatA w ao' n' c' y) (hn : n ≤ 1099511627776) (hn' : n' ≤ 1099511627776) :
    Calls Tryd.prog 12 #[.slice ao n c, .slice ao' n' c'] w fun e w' => ∃ a k d, e = .returned (.slice a k d) ∧ NatN w' w.heap.size w'.heap.size a k d (x + y) ∧ k ≤ n + n' + 1 ∧ Below w.heap.size w w' := by
  obtain ⟨b, o, l, h1, h2, h3, h4, rfl⟩ := h.ex
  obtain ⟨b', o', l', h1', h2', h3', h4', rfl⟩ := h'.ex
  refine (add_any ao n c b o ao' n' c' b' o' l l' w h1 h1' h2 h2' hn hn' h3 h3' h4 h4').mono ?_
  rintro e w' ⟨v, r, rfl, hnw, hI, hlen, hB⟩
  obtain ⟨a, d, rfl, hO⟩ := hnw.n hI
  exact ⟨a, _, d, rfl, hO, hlen, hB⟩
theorem fMul {w : World} {ao ao' : Option Addr} {n c n' c' : Nat} {x y : Int} (h : NatA w ao n c x) (h' : NatA w ao' n' c' y) (hn : n ≤ 1099511627776) (hn' : n' ≤ 1099511627776) :
    Calls Tryd.prog 13 #[.slice ao n c, .slice ao' n' c'] w fun e w' => ∃ a k d, e = .returned (.slice a k d) ∧ NatN w' w.heap.size w'.heap.size a k d (x * y) ∧ k ≤ n + n' ∧ Below w.heap.size w w' := by
  obtain ⟨b, o, l, h1, h2, h3, h4, rfl⟩ := h.ex
  obtain ⟨b', o', l', h1', h2', h3', h4', rfl⟩ := h'.ex
  refine (mul_any ao n c b o ao' n' c' b' o' l l' w h1 h1' h2 h2' hn hn' h3 h3' h4 h4').mono ?_
  rintro e w' ⟨v, r, rfl, hnw, hI, hlen, hB⟩
  obtain ⟨a, d, rfl, hO⟩ := hnw.n hI
  exact ⟨a, _, d, rfl, hO, hlen, hB⟩
theorem fNorm {w : World} {ao : Option Addr} {n c : Nat} {x : Int} (h : NatA w ao n c x) (hn : n ≤ 1099511627776) :
    Calls Tryd.prog 14 #[.slice ao n c] w fun e w' => ∃ a k d, e = .returned (.slice a k d) ∧ NatN w' w.heap.size w'.heap.size a k d x ∧ k ≤ n ∧ Below w.heap.size w w' := by
  obtain ⟨b, o, l, h1, h2, h3, h4, rfl⟩ := h.ex
  refine (norm_any ao n c b o l w h1 h2 hn h4).mono ?_
  rintro e w' ⟨rfl, hrow, hB⟩
  exact ⟨_, _, _, rfl, ⟨_, _, norm l, norm_length l, Nat.le_refl _, isN_norm h3, hrow.at, hrow.free _ _, .inr ⟨Nat.le_refl _, hrow.lt⟩⟩, by have := nlen_le l; omega, hB⟩
theorem fSub {w : World} {ao ao' : Option Addr} {n c n' c' : Nat} {x y : Int} (h : NatA w ao n c x) (h' : NatA w ao' n' c' y) (hn : n ≤ 1099511627776) (hn' : n' ≤ 1099511627776) :
    Calls Tryd.prog 15 #[.slice ao n c, .slice ao' n' c'] w fun e w' => ∃ a k d, e = .returned (.tuple #[.slice a k d, .int .i64 (subE x y)]) ∧ NatN w' w.heap.size w'.heap.size a k d (subV x y) ∧ k ≤ n ∧ Below w.heap.size w w' := by
  obtain ⟨b, o, l, h1, h2, h3, h4, rfl⟩ := h.ex
  obtain ⟨b', o', l', h1', h2', h3', h4', rfl⟩ := h'.ex
  unfold subE subV
  by_cases hge : val l' ≤ val l
  · rw [if_pos hge, if_pos hge]
    refine (sub_ge ao n c b o ao' n' c' b' o' l l' w h1 h1' h2 h2' hn hn' h3 h3' h4 h4' hge).mono ?_
    rintro e w' ⟨v, r, rfl, hnw, hI, hlen, hB⟩
    obtain ⟨a, d, rfl, hO⟩ := hnw.n hI
    exact ⟨a, _, d, rfl, hO, hlen, hB⟩
  · rw [if_neg hge, if_neg hge]
    refine (sub_lt ao n c b o ao' n' c' b' o' l l' w h1 h1' h2 h2' hn hn' h3 h3' h4 h4' (by omega)).mono ?_
    rintro e w' ⟨rfl, hB⟩
    exact ⟨none, 0, 0, rfl, natN_nil _ _ _, Nat.zero_le _, hB⟩
theorem rSubV {w : World} {ao ao' : Option Addr} {n c n' c' : Nat} {x y : Int} (h : NatA w ao n c x) (h' : NatA w ao' n' c' y) (hn : n ≤ 137438953472) (hn' : n' ≤ 137438953472) :
    Calls Tryd.prog 16 #[.slice ao n c, .slice ao' n' c'] w fun e w' => ∃ a k d, e = .returned (.tuple #[.slice a k d, .int .i64 (subE x y)]) ∧ NatO w' a k d (subV x y) ∧ k ≤ 2 * n ∧ Below w.heap.size w w' := by
  unfold subE subV
  by_cases hge : y ≤ x
  · rw [if_pos hge, if_pos hge]
    exact rSub h h' hn hn' hge
  · rw [if_neg hge, if_neg hge]
    refine (rSubLt h h' hn hn' (by omega)).mono ?_
    rintro e w' ⟨rfl, hB⟩
    exact ⟨none, 0, 0, rfl, natO_nil _, Nat.zero_le _, hB⟩
theorem fSmall {w : World} {ao : Option Addr} {n c : Nat} {x : Int} (h : NatA w ao n c x) (hn : n ≤ 1099511627776) :
    Calls Tryd.prog 17 #[.slice ao n c] w fun e w' => e = .returned (.tuple #[.int .u64 (smV x), .bool (smB x)]) ∧ Below w.heap.size w w' := small_fits h hn
theorem rSmallV {w : World} {ao : Option Addr} {n c : Nat} {x : Int} (h : NatA w ao n c x) (hn : n ≤ 274877906944) :
    Calls Tryd.prog 18 #[.slice ao n c] w fun e w' => e = .returned (.tuple #[.int .u64 (smV x), .bool (smB x)]) ∧ Below w.heap.size w w' := rSmall h hn
end Go.Proofs.YtplmeahabddklaaDoor
