/- Several texts, joined: FoAc. -/
import Derived.Test.YtjejmkcjflhoiaaGreatDoorJaB
namespace Go.Proofs.YtjejmkcjflhoiaaGreatDoor
namespace Fo
open Go.RowKit Go.Lib Pg Lim Gl Kv Bk Pw
set_option linter.unusedVariables false
set_option linter.unusedSimpArgs false
set_option maxHeartbeats 1000000
/-- a delegation's reward, stake and ratio behind the cuts -/
def St.tr (s : St) (i : Nat) : Int × Int × Int := (aft s.C (s.pe i)).foldl (cmS s.R) (0, s.st i, s.R (s.pe i))
/-- its claim, times U36, ahead of rounding -/
def St.pot (s : St) (i : Nat) : Int := (s.tr i).1 * U36 + (s.tr i).2.1 * (s.R s.la - (s.tr i).2.2)
structure Iw (T : Int) (s : St) : Prop where
  per : ∀ i, s.hd i = true → 0 ≤ s.pe i ∧ s.pe i ≤ s.la
  cuts : ∀ c ∈ s.C, c.1 ≤ s.la
  tr : ∀ i, s.hd i = true → 0 ≤ (s.tr i).2.1 ∧ (s.tr i).2.1 * T ≤ s.sh i * (s.tk * U36) ∧ (s.tr i).2.2 ≤ s.R s.la
  sum : U36 * (s.all + s.cur) + hsum s.hd s.pot ≤ U36 * s.giv
section
variable {T : Int} {s s' : St} {m i : Nat}
theorem St.claim (I : Iw T s) (h : s.hd i = true) : cmV s.R (aft s.C (s.pe i)) (s.pe i) s.la (s.st i) * U36 ≤ s.pot i := by
  have ht := (I.tr i h).2.2
  unfold cmV St.pot
  show ((s.tr i).1 + (s.tr i).2.1 * subV (s.R s.la) (s.tr i).2.2 / U36) * U36 ≤ _
  unfold subV
  rw [if_pos ht, Int.add_mul]
  have := Int.ediv_mul_le ((s.tr i).2.1 * (s.R s.la - (s.tr i).2.2)) (show U36 ≠ 0 by decide)
  omega
theorem hsum_le {h : Nat → Bool} {f g : Nat → Int} (e : ∀ i, h i = true → f i ≤ g i) : hsum h f ≤ hsum h g := by
  have k : ∀ i, (if h i then f i else 0) ≤ (if h i then g i else 0) := fun i => by
    split
    · rename_i c
      exact e i c
    · exact Int.le_refl _
  have k0 := k 0
  have k1 := k 1
  have k2 := k 2
  have k3 := k 3
  unfold hsum
  omega
theorem hsum_add {h : Nat → Bool} {f g : Nat → Int} : hsum h (fun i => f i + g i) = hsum h f + hsum h g := by
  unfold hsum
  cases h 0 <;> cases h 1 <;> cases h 2 <;> cases h 3 <;> simp <;> omega
theorem hsum_mul {h : Nat → Bool} {f : Nat → Int} {a : Int} : hsum h (fun i => f i * a) = hsum h f * a := by
  unfold hsum
  cases h 0 <;> cases h 1 <;> cases h 2 <;> cases h 3 <;> simp [Int.add_mul]
theorem hsum_off {h : Nat → Bool} {b : Bool} {f g : Nat → Int} (hi : i < 4) (e : ∀ j, j ≠ i → f j = g j) (hb : b = true → f i = 0) (hh : h i = true → g i = 0) : hsum (up h i b) f = hsum h g := by
  unfold hsum up
  rcases four hi with rfl | rfl | rfl | rfl <;> cases b <;> simp_all
theorem fold_R {R R' : Int → Int} : ∀ {D : List (Int × Int × Int)} {x : Int × Int × Int}, (∀ c ∈ D, R' c.1 = R c.1) → D.foldl (cmS R') x = D.foldl (cmS R) x
  | [], _, _ => rfl
  | c :: D, x, h => by
    rw [List.foldl_cons, List.foldl_cons]
    have e : cmS R' x c = cmS R x c := by unfold cmS; rw [h c List.mem_cons_self]
    rw [e]
    exact fold_R fun d hd => h d (List.mem_cons_of_mem _ hd)
theorem Iw.trc (I : Iw T s) (h : s.hd i = true) : s.clo.tr i = s.tr i := by
  have hp := I.per i h
  have hR : ∀ p, p ≤ s.la → s.clo.R p = s.R p := fun p hp => if_neg (by omega)
  show (aft s.C (s.pe i)).foldl (cmS s.clo.R) (0, s.st i, s.clo.R (s.pe i)) = _
  rw [hR _ hp.2]
  exact fold_R fun c hc => hR _ (I.cuts c (List.mem_filter.1 hc).1)
theorem Iw.clo (I : Iw T s) (V : Iv T s m) (hT : 0 < T) : Iw T s.clo := by
  have hR : s.clo.R s.clo.la = s.R s.la + s.cur / s.tk := if_pos rfl
  have hd := V.div
  refine ⟨fun j hj => ?_, fun c hc => ?_, fun j hj => ?_, ?_⟩
  · have := I.per j hj
    exact ⟨this.1, by show s.pe j ≤ s.la + 1; omega⟩
  · have := I.cuts c hc
    show c.1 ≤ s.la + 1
    omega
  · rw [I.trc hj, hR]
    obtain ⟨h1, h2, h3⟩ := I.tr j hj
    exact ⟨h1, h2, by omega⟩
  · have h1 : hsum s.clo.hd s.clo.pot ≤ hsum s.hd (fun j => s.pot j + (s.tr j).2.1 * (s.cur / s.tk)) := hsum_le fun j hj => by
      unfold St.pot
      rw [I.trc hj, hR, Int.add_assoc, ← Int.mul_add]
      have : s.R s.la + s.cur / s.tk - (s.tr j).2.2 = s.R s.la - (s.tr j).2.2 + s.cur / s.tk := by omega
      rw [this]
      exact Int.le_refl _
    rw [hsum_add, hsum_mul] at h1
    have h2 : hsum s.hd (fun j => (s.tr j).2.1 * T) ≤ hsum s.hd (fun j => s.sh j * (s.tk * U36)) := hsum_le fun j hj => (I.tr j hj).2.1
    rw [hsum_mul, hsum_mul] at h2
    have h3 : hsum s.hd s.sh ≤ T := by have := V.fre; have := V.sh.1; omega
    have h4 : 0 ≤ s.tk * U36 := Int.mul_nonneg (by have := V.tk; omega) (by decide)
    have h5 := Int.mul_le_mul_of_nonneg_right h3 h4
    have h6 : hsum s.hd (fun j => (s.tr j).2.1) ≤ s.tk * U36 := by
      rw [Int.mul_comm T] at h5
      exact Int.le_of_mul_le_mul_right (Int.le_trans h2 h5) hT
    have h7 := Int.mul_le_mul_of_nonneg_right h6 hd.1
    have h8 : s.tk * U36 * (s.cur / s.tk) ≤ U36 * s.cur := by
      have := Int.mul_ediv_self_le (x := s.cur) (k := s.tk) (by have := V.tk; omega)
      rw [Int.mul_comm s.tk, Int.mul_assoc]
      exact Int.mul_le_mul_of_nonneg_left this (by decide)
    have h9 := I.sum
    rw [Int.mul_add] at h9
    show U36 * (s.all + 0) + hsum s.clo.hd s.clo.pot ≤ U36 * s.giv
    rw [Int.add_zero]
    omega
theorem aft_app {C : List (Int × Int × Int)} {c : Int × Int × Int} {fr : Int} (h : fr < c.1) : aft (C ++ [c]) fr = aft C fr ++ [c] := by
  unfold aft
  rw [List.filter_append, List.filter_cons_of_pos (by simpa using h)]
  rfl
theorem Dstp.iw (h : Dstp T s s') (I : Iw T s) (V : Iv T s m) (hT : 0 < T) : Iw T s' := by
  have c := I.clo V hT
  have vc := V.clo
  cases h with
  | give r hr =>
    refine ⟨I.per, I.cuts, I.tr, ?_⟩
    have := I.sum
    show U36 * (s.all + (s.cur + r)) + hsum s.hd s.pot ≤ U36 * (s.giv + r)
    rw [Int.mul_add] at this ⊢
    rw [Int.mul_add, Int.mul_add]
    omega
  | clo => exact c
  | leave i hi hh =>
    have hh2 : s.clo.hd i = true := hh
    have sub : ∀ j, up s.clo.hd i false j = true → s.clo.hd j = true := fun j hj => by
      unfold up at hj
      split at hj
      · cases hj
      · exact hj
    refine ⟨fun j hj => c.per j (sub j hj), c.cuts, fun j hj => c.tr j (sub j hj), ?_⟩
    have h1 := c.sum
    have h2 := St.claim c hh2
    show U36 * (s.clo.all + cmV s.clo.R (aft s.clo.C (s.clo.pe i)) (s.clo.pe i) s.clo.la (s.clo.st i) + s.clo.cur) + hsum (up s.clo.hd i false) s.clo.pot ≤ U36 * s.clo.giv
    rw [hsum_out hi hh2]
    generalize cmV s.clo.R (aft s.clo.C (s.clo.pe i)) (s.clo.pe i) s.clo.la (s.clo.st i) = v at h2 ⊢
    rw [Int.mul_comm] at h2
    rw [Int.mul_add] at h1 ⊢
    rw [Int.mul_add]
    omega
  | join i z hi hh hz =>
    have hh2 : s.clo.hd i = false := hh
    have trj : ∀ j, j ≠ i → (s.clo.join T i z).tr j = s.clo.tr j := fun j hj => by
      unfold St.tr St.join up
      simp only [if_neg hj]
    have afi : aft s.clo.C s.clo.la = [] := List.filter_eq_nil_iff.2 fun d hd => by have := c.cuts d hd; simpa using this
    have tri : (s.clo.join T i z).tr i = (0, z * (s.clo.tk * U36) / T, s.clo.R s.clo.la) := by
      show (aft s.clo.C (up s.clo.pe i s.clo.la i)).foldl (cmS s.clo.R) (0, up s.clo.st i (z * (s.clo.tk * U36) / T) i, s.clo.R (up s.clo.pe i s.clo.la i)) = _
      simp only [up, if_true]
      rw [afi]
      rfl
    have old : ∀ j, j ≠ i → up s.clo.hd i true j = true → s.clo.hd j = true := fun j hj h => by
      unfold up at h
      rwa [if_neg hj] at h
    have pos : 0 ≤ z * (s.clo.tk * U36) := Int.mul_nonneg hz.1 (Int.mul_nonneg (by have := V.tk; show 0 ≤ s.tk; omega) (by decide))
    refine ⟨fun j hj => ?_, c.cuts, fun j hj => ?_, ?_⟩
    · show 0 ≤ up s.clo.pe i s.clo.la j ∧ up s.clo.pe i s.clo.la j ≤ s.clo.la
      by_cases e : j = i
      · unfold up
        rw [if_pos e]
        exact ⟨vc.la.1, Int.le_refl _⟩
      · have := c.per j (old j e hj)
        unfold up
        rw [if_neg e]
        exact this
    · by_cases e : j = i
      · subst e
        rw [tri]
        refine ⟨Int.ediv_nonneg pos (by omega), ?_, Int.le_refl _⟩
        show z * (s.clo.tk * U36) / T * T ≤ up s.clo.sh j z j * (s.clo.tk * U36)
        simp only [up, if_true]
        exact Int.ediv_mul_le _ (by omega)
      · rw [trj j e]
        have := c.tr j (old j e hj)
        refine ⟨this.1, ?_, this.2.2⟩
        show (s.clo.tr j).2.1 * T ≤ up s.clo.sh i z j * (s.clo.tk * U36)
        unfold up
        rw [if_neg e]
        exact this.2.1
    · have h1 := c.sum
      have e : hsum (up s.clo.hd i true) (s.clo.join T i z).pot = hsum s.clo.hd s.clo.pot := hsum_off hi (fun j hj => by unfold St.pot; rw [trj j hj]; rfl) (fun _ => by
        unfold St.pot
        rw [tri]
        show 0 * U36 + z * (s.clo.tk * U36) / T * (s.clo.R s.clo.la - s.clo.R s.clo.la) = 0
        rw [Int.sub_self, Int.mul_zero, Int.zero_mul]
        rfl) (fun h => by rw [hh2] at h; cases h)
      show U36 * (s.clo.all + s.clo.cur) + hsum (up s.clo.hd i true) (s.clo.join T i z).pot ≤ U36 * s.clo.giv
      rw [e]
      exact h1
  | cut t ht =>
    have trj : ∀ j, s.hd j = true → (s.clo.cut t).tr j = cmS s.clo.R (s.clo.tr j) (s.clo.la, s.clo.tk, t) := fun j hj => by
      have hp := I.per j hj
      show (aft (s.clo.C ++ [(s.clo.la, s.clo.tk, t)]) (s.clo.pe j)).foldl (cmS s.clo.R) _ = _
      rw [aft_app (by show s.pe j < s.la + 1; omega), List.foldl_append]
      rfl
    have tkp : 0 < s.clo.tk := by have := V.tk; show 0 < s.tk; omega
    refine ⟨c.per, fun d hd => ?_, fun j hj => ?_, ?_⟩
    · rcases List.mem_append.1 hd with h | h
      · exact c.cuts d h
      · rw [List.mem_singleton.1 h]
        exact Int.le_refl _
    · rw [trj j hj]
      obtain ⟨h1, h2, h3⟩ := c.tr j hj
      have p1 : 0 ≤ t * U36 := Int.mul_nonneg (by omega) (by decide)
      have p2 : 0 < s.clo.tk * U36 := Int.mul_pos tkp (by decide)
      refine ⟨Int.ediv_nonneg (Int.mul_nonneg h1 p1) (Int.le_of_lt p2), ?_, Int.le_refl _⟩
      show (s.clo.tr j).2.1 * (t * U36) / (s.clo.tk * U36) * T ≤ s.clo.sh j * (t * U36)
      generalize (s.clo.tr j).2.1 = S at h1 h2
      generalize s.clo.sh j = h at h2
      generalize t * U36 = a at p1
      generalize s.clo.tk * U36 = b at p2 h2
      have d1 : S * a / b * b ≤ S * a := Int.ediv_mul_le _ (by omega)
      have d2 := Int.mul_le_mul_of_nonneg_right d1 (Int.le_of_lt hT)
      have d3 := Int.mul_le_mul_of_nonneg_right h2 p1
      refine Int.le_of_mul_le_mul_right (a := b) ?_ p2
      have e1 : S * a / b * T * b = S * a / b * b * T := by rw [Int.mul_assoc, Int.mul_comm T, ← Int.mul_assoc]
      have e2 : S * a * T = S * T * a := by rw [Int.mul_assoc, Int.mul_comm a, ← Int.mul_assoc]
      have e3 : h * a * b = h * b * a := by rw [Int.mul_assoc, Int.mul_comm a, ← Int.mul_assoc]
      omega
    · have h1 : hsum s.clo.hd (s.clo.cut t).pot ≤ hsum s.clo.hd s.clo.pot := hsum_le fun j hj => by
        have h3 := (c.tr j hj).2.2
        unfold St.pot
        rw [trj j hj]
        show ((s.clo.tr j).1 + (s.clo.tr j).2.1 * subV (s.clo.R s.clo.la) (s.clo.tr j).2.2 / U36) * U36 + _ * (s.clo.R s.clo.la - s.clo.R s.clo.la) ≤ _
        unfold subV
        rw [if_pos h3, Int.sub_self, Int.mul_zero, Int.add_mul]
        have := Int.ediv_mul_le ((s.clo.tr j).2.1 * (s.clo.R s.clo.la - (s.clo.tr j).2.2)) (show U36 ≠ 0 by decide)
        omega
      have := c.sum
      show U36 * (s.clo.all + s.clo.cur) + hsum s.clo.hd (s.clo.cut t).pot ≤ U36 * s.clo.giv
      omega
  | skip => exact I
end
end Fo
end Go.Proofs.YtjejmkcjflhoiaaGreatDoor
