/- Limbs that may be written over, whatever they are worth; division with each of its answers. -/
import Derived.Test.YtplmeahabddklaaDoorFresh
import Derived.Test.YtplmeahabddklaaDoorRefW
namespace Go.Proofs.YtplmeahabddklaaDoor
open Go.RowKit Lim

theorem list_choose (n : Nat) (P : Nat → Int → Prop) (h : ∀ i, i < n → ∃ y, P i y) : ∃ l : List Int, l.length = n ∧ ∀ i, i < n → P i (nth l i) := by
  induction n with
  | zero => exact ⟨[], rfl, fun i hi => by omega⟩
  | succ n ih =>
    obtain ⟨l, h1, h2⟩ := ih fun i hi => h i (by omega)
    obtain ⟨y, hy⟩ := h n (by omega)
    refine ⟨l ++ [y], by simp [h1], fun i hi => ?_⟩
    by_cases e : i < n
    · rw [nth_append_left (by omega)]; exact h2 i e
    · obtain rfl : i = n := by omega
      rw [nth_append_right (by omega), h1, Nat.sub_self, nth_zero]; exact hy
/-- limbs lie at ao, in one of the blocks from B up to T, and may be written over -/
structure WdN (w : World) (B T : Nat) (ao : Option Addr) (n c : Nat) : Prop where
  ex : ∃ b o l, l.length = n ∧ n ≤ c ∧ Words l ∧ At w ao b o l ∧ Free w b o n ∧ (l = [] ∨ (B ≤ b ∧ b < T))
theorem NatN.w {w : World} {B T : Nat} {ao : Option Addr} {n c : Nat} {x : Int} (h : NatN w B T ao n c x) : WdN w B T ao n c := by
  obtain ⟨b, o, l, h1, h2, h3, h4, h5, h6⟩ := h.ex
  exact ⟨b, o, l, h1, h2, h3.1, h4, h5, h6⟩
theorem WdN.keep {w w' : World} {B T : Nat} {ao : Option Addr} {n c : Nat} (h : WdN w B T ao n c) (hb : Below w.heap.size w w') : WdN w' B T ao n c := by
  obtain ⟨b, o, l, h1, h2, h3, h4, h5, h6⟩ := h.ex
  refine ⟨b, o, l, h1, h2, h3, h4.keep hb, ?_, h6⟩
  rcases h4.lt with e | e
  · subst e; subst h1; exact fun i hi => by simp at hi
  · exact Free.below hb h5 e
/-- limbs are turned into limbs, in blocks from B up to T -/
structure TurnW (B T : Nat) (w w' : World) : Prop where
  t : Turn B T w w'
  word : ∀ b i x, w.cell? ⟨b, i, none⟩ = some (.int .u64 x) → 0 ≤ x → x < 18446744073709551616 → ∃ y, w'.cell? ⟨b, i, none⟩ = some (.int .u64 y) ∧ 0 ≤ y ∧ y < 18446744073709551616
  frozen : ∀ b i, w'.frozen? ⟨b, i, none⟩ = w.frozen? ⟨b, i, none⟩
theorem TurnW.refl (B T : Nat) (w : World) : TurnW B T w w := ⟨⟨rfl, rfl, rfl, rfl, fun _ _ => rfl⟩, fun _ _ x h h0 h1 => ⟨x, h, h0, h1⟩, fun _ _ => rfl⟩
theorem WdN.turn {w w' : World} {B T B' T' : Nat} {ao : Option Addr} {n c : Nat} (h : WdN w B' T' ao n c) (t : TurnW B T w w') : WdN w' B' T' ao n c := by
  obtain ⟨b, o, l, h1, h2, h3, h4, h5, h6⟩ := h.ex
  obtain ⟨l', e1, e2⟩ := list_choose n (fun i y => w'.cell? ⟨b, o + i, none⟩ = some (.int .u64 y) ∧ 0 ≤ y ∧ y < 18446744073709551616) fun i hi => t.word b (o + i) _ (h4.cell i (by omega)) (h3.nth i).1 (h3.nth i).2
  have e0 : l = [] → l' = [] := fun e => List.eq_nil_of_length_eq_zero (by rw [e1, ← h1, e]; rfl)
  refine ⟨b, o, l', e1, h2, ?_, ⟨?_, fun i hi => (e2 i (by omega)).1⟩, fun i hi => by rw [t.frozen]; exact h5 i hi, ?_⟩
  · intro z hz
    obtain ⟨i, hi, rfl⟩ := List.getElem_of_mem hz
    rw [← nth_eq hi]
    exact (e2 i (by omega)).2
  · rcases h4.loc with e | e
    · exact .inl (e0 e)
    · exact .inr e
  · rcases h6 with e | e
    · exact .inl (e0 e)
    · exact .inr e
theorem wSpoil {w : World} {B T : Nat} {ao : Option Addr} {n c : Nat} (h : WdN w B T ao n c) (hn : n ≤ 4398046511104) :
    Calls Tryd.prog 27 #[.slice ao n c] w fun e w' => e = .returned (.tuple #[]) ∧ TurnW B T w w' := by
  obtain ⟨b, o, l, h1, h2, h3, h4, h5, h6⟩ := h.ex
  rcases h6 with e | e
  · subst e
    obtain rfl : n = 0 := h1.symm
    refine (spoil_nil ao c w).mono ?_
    rintro e w' ⟨rfl, rfl⟩
    exact ⟨rfl, TurnW.refl _ _ _⟩
  · refine (spoil_any ao n c b o l w h1 hn h3 h4 h5).mono ?_
    rintro e w' ⟨rfl, hw, l', k1, k2, k3⟩
    refine ⟨rfl, ⟨hw.os, hw.tape, hw.output, hw.size, fun k hk => hw.block k (by omega)⟩, fun b' i x hx h0 h1' => ?_, fun b' i => ?_⟩
    · by_cases eb : b' = b
      · subst eb
        by_cases ei : o ≤ i ∧ i < o + n
        · obtain ⟨j, rfl⟩ := Nat.exists_eq_add_of_le ei.1
          exact ⟨_, k3.cell j (by omega), k2.nth j⟩
        · exact ⟨x, by rw [hw.cell i (by omega)]; exact hx, h0, h1'⟩
      · exact ⟨x, by rw [hw.other eb]; exact hx, h0, h1'⟩
    · by_cases eb : b' = b
      · subst eb; exact hw.frozen i
      · exact World.frozen?_of_block (w := w) (hw.block b' eb)

def remV (x y : Int) : Int := if y = 0 then 0 else x % y
def divE (y : Int) : Int := if y = 0 then 11 else 0
theorem fDiv {w : World} {ao ao' : Option Addr} {n c n' c' : Nat} {x y : Int} (h : NatA w ao n c x) (h' : NatA w ao' n' c' y) (hn : n ≤ 1099511627776) (hn' : n' ≤ 1099511627776) :
    Calls Tryd.prog 29 #[.slice ao n c, .slice ao' n' c'] w fun e w' => ∃ a k d a' k' d', e = .returned (.tuple #[.slice a k d, .slice a' k' d', .int .i64 (divE y)]) ∧ NatN w' w.heap.size w'.heap.size a k d (x / y) ∧ NatN w' w.heap.size w'.heap.size a' k' d' (remV x y) ∧ k ≤ n ∧ k' ≤ n + n' ∧ Below w.heap.size w w' := by
  by_cases hz : y = 0
  · unfold remV divE
    rw [if_pos hz, if_pos hz, hz, Int.ediv_zero]
    refine (nDivZero h' hn' hz).mono ?_
    rintro e w' ⟨rfl, rfl⟩
    exact ⟨none, 0, 0, none, 0, 0, rfl, natN_nil _ _ _, natN_nil _ _ _, Nat.zero_le _, Nat.zero_le _, Below.refl _ _⟩
  · unfold remV divE
    rw [if_neg hz, if_neg hz]
    obtain ⟨b, o, l, h1, h2, h3, h4, rfl⟩ := h.ex
    obtain ⟨b', o', l', h1', h2', h3', h4', rfl⟩ := h'.ex
    refine (div_any ao n c b o ao' n' c' b' o' l l' w h1 h1' h2 h2' hn hn' h3 h3' h4 h4' hz).mono ?_
    rintro e w' ⟨v, u, r, s, rfl, hnw, hnu, hI, hJ, hlr, hls, hB⟩
    obtain ⟨a, d, rfl, hO⟩ := hnw.n hI
    obtain ⟨a', d', rfl, hO'⟩ := hnu.n hJ
    exact ⟨a, _, d, a', _, d', rfl, hO, hO', hlr, hls, hB⟩
theorem fMulDiv {w : World} {ao ao' ad : Option Addr} {n c n' c' nd cd : Nat} {x y z : Int} (h : NatA w ao n c x) (h' : NatA w ao' n' c' y) (hd : NatA w ad nd cd z) (hn : n ≤ 274877906944) (hn' : n' ≤ 274877906944) (hnd : nd ≤ 274877906944) :
    Calls Tryd.prog 35 #[.slice ao n c, .slice ao' n' c', .slice ad nd cd] w fun e w' => ∃ a k d a' k' d', e = .returned (.tuple #[.slice a k d, .slice a' k' d', .int .i64 (divE z)]) ∧ NatN w' w.heap.size w'.heap.size a k d (x * y / z) ∧ NatN w' w.heap.size w'.heap.size a' k' d' (remV (x * y) z) ∧ k ≤ n + n' ∧ k' ≤ n + n' + nd ∧ Below w.heap.size w w' := by
  by_cases hz : z = 0
  · unfold remV divE
    rw [if_pos hz, if_pos hz]
    have e0 : x * y / z = 0 := by rw [hz, Int.ediv_zero]
    rw [e0]
    refine (nMulDivZero h h' hd hn hn' hnd hz).mono ?_
    rintro e w' ⟨rfl, hB⟩
    exact ⟨none, 0, 0, none, 0, 0, rfl, natN_nil _ _ _, natN_nil _ _ _, Nat.zero_le _, Nat.zero_le _, hB⟩
  · unfold remV divE
    rw [if_neg hz, if_neg hz]
    obtain ⟨b, o, l, h1, h2, h3, h4, rfl⟩ := h.ex
    obtain ⟨b', o', l', h1', h2', h3', h4', rfl⟩ := h'.ex
    obtain ⟨bd, od, ld, h1d, h2d, h3d, h4d, rfl⟩ := hd.ex
    refine (muldiv_any ao n c b o ao' n' c' b' o' ad nd cd bd od l l' ld w h1 h1' h1d h2 h2' h2d hn hn' hnd h3 h3' h3d h4 h4' h4d hz).mono ?_
    rintro e w' ⟨v, u, r, s, rfl, hnw, hnu, hI, hJ, hlr, hls, hB⟩
    obtain ⟨a, d, rfl, hO⟩ := hnw.n hI
    obtain ⟨a', d', rfl, hO'⟩ := hnu.n hJ
    exact ⟨a, _, d, a', _, d', rfl, hO, hO', hlr, hls, hB⟩
theorem rDivV {w : World} {ao ao' : Option Addr} {n c n' c' : Nat} {x y : Int} (h : NatA w ao n c x) (h' : NatA w ao' n' c' y) (hn : n ≤ 137438953472) (hn' : n' ≤ 137438953472) :
    Calls Tryd.prog 34 #[.slice ao n c, .slice ao' n' c'] w fun e w' => ∃ a k d a' k' d', e = .returned (.tuple #[.slice a k d, .slice a' k' d', .int .i64 (divE y)]) ∧ NatO w' a k d (x / y) ∧ NatO w' a' k' d' (remV x y) ∧ k ≤ 2 * n ∧ k' ≤ 2 * n' ∧ Below w.heap.size w w' := by
  by_cases hz : y = 0
  · unfold remV divE
    rw [if_pos hz, if_pos hz]
    have e0 : x / y = 0 := by rw [hz, Int.ediv_zero]
    rw [e0]
    refine (rDivZero h h' hn hn' hz).mono ?_
    rintro e w' ⟨rfl, hB⟩
    exact ⟨none, 0, 0, none, 0, 0, rfl, natO_nil _, natO_nil _, Nat.zero_le _, Nat.zero_le _, hB⟩
  · unfold remV divE
    rw [if_neg hz, if_neg hz]
    exact rDiv h h' hn hn' hz
theorem rMulDivV {w : World} {ao ao' ad : Option Addr} {n c n' c' nd cd : Nat} {x y z : Int} (h : NatA w ao n c x) (h' : NatA w ao' n' c' y) (hd : NatA w ad nd cd z) (hn : n ≤ 34359738368) (hn' : n' ≤ 34359738368) (hnd : nd ≤ 137438953472) :
    Calls Tryd.prog 36 #[.slice ao n c, .slice ao' n' c', .slice ad nd cd] w fun e w' => ∃ a k d a' k' d', e = .returned (.tuple #[.slice a k d, .slice a' k' d', .int .i64 (divE z)]) ∧ NatO w' a k d (x * y / z) ∧ NatO w' a' k' d' (remV (x * y) z) ∧ k ≤ 4 * n + 4 * n' ∧ k' ≤ 2 * nd ∧ Below w.heap.size w w' := by
  by_cases hz : z = 0
  · unfold remV divE
    rw [if_pos hz, if_pos hz]
    have e0 : x * y / z = 0 := by rw [hz, Int.ediv_zero]
    rw [e0]
    refine (rMulDivZero h h' hd hn hn' hnd hz).mono ?_
    rintro e w' ⟨rfl, hB⟩
    exact ⟨none, 0, 0, none, 0, 0, rfl, natO_nil _, natO_nil _, Nat.zero_le _, Nat.zero_le _, hB⟩
  · unfold remV divE
    rw [if_neg hz, if_neg hz]
    exact rMulDiv h h' hd hn hn' hnd hz
end Go.Proofs.YtplmeahabddklaaDoor
