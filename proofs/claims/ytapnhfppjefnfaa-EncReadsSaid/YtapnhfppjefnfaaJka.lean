/- Several texts, joined: EncK. -/
import Derived.Test.YtapnhfppjefnfaaJda
namespace Go.Proofs.Ytapnhfppjefnfaa
open Go.RowKit Lim

theorem take_app {l r : List Int} {m : Nat} (h : l.length = m) : (l ++ r).take m = l ∧ (l ++ r).drop m = r := by
  subst h
  exact ⟨List.take_left, List.drop_left⟩
theorem back_fix (m : Nat) {x : Int} (hx : 0 ≤ x) (r : List Int) : pFix m (be m x ++ r) = .inr (x % 256 ^ m, m) ∧ (be m x ++ r).drop m = r := by
  have h := take_app (r := r) (be_length m x)
  refine ⟨?_, h.2⟩
  unfold pFix
  rw [if_pos (by rw [List.length_append, be_length]; omega), h.1, be_val m hx]
theorem cnt_app {m : Nat} {l r : List Int} (hl : (l.length : Int) < 256 ^ m) : cntOf m (cntd m l ++ r) = l.length := by
  unfold cntOf cntd
  rw [List.append_assoc, (take_app (be_length m _)).1, be_val m (by omega), Int.emod_eq_of_lt (by omega) hl]
  rfl
theorem cnt_drop (m : Nat) (l r : List Int) : (cntd m l ++ r).drop m = l ++ r := by
  unfold cntd
  rw [List.append_assoc, (take_app (be_length m _)).2]
theorem back_nat {V : Int} (hV : 0 ≤ V) (hl : (natB V).length < 256) (r : List Int) : pNat (cntd 1 (natB V) ++ r) = .inr (V, 1 + (natB V).length) ∧ (cntd 1 (natB V) ++ r).drop (1 + (natB V).length) = r := by
  have hc : cntOf 1 (cntd 1 (natB V) ++ r) = (natB V).length := cnt_app (by simpa using (by omega : ((natB V).length : Int) < 256))
  have hd := cnt_drop 1 (natB V) r
  have hB := natB_is hV
  refine ⟨?_, ?_⟩
  · unfold pNat
    rw [if_pos (by rw [List.length_append, cntd_len]; omega), hc, if_pos (by rw [List.length_append, cntd_len]; omega), hd, if_neg, (take_app rfl).1, hB.2.2]
    rintro ⟨h0, h1⟩
    have hne : natB V ≠ [] := fun e => by rw [e] at h0; simp at h0
    refine hB.2.1 hne ?_
    rw [← h1]
    cases hh : natB V with
    | nil => exact absurd hh hne
    | cons x t => rfl
  · rw [← List.drop_drop, hd, (take_app rfl).2]
theorem back_raw {l : List Int} (hl : l.length < 4294967296) (r : List Int) : pRaw (l.length : Int) (cntd 4 l ++ r) = .inr (l, 4 + l.length) ∧ (cntd 4 l ++ r).drop (4 + l.length) = r := by
  have hc : cntOf 4 (cntd 4 l ++ r) = l.length := cnt_app (by simpa using (by omega : (l.length : Int) < 4294967296))
  have hd := cnt_drop 4 l r
  refine ⟨?_, ?_⟩
  · unfold pRaw
    rw [if_pos (by rw [List.length_append, cntd_len]; omega), hc, if_neg (by omega), if_pos (by rw [List.length_append, cntd_len]; omega), hd, (take_app rfl).1]
  · rw [← List.drop_drop, hd, (take_app rfl).2]
theorem back_bool (x : Bool) (r : List Int) : pBool (be 1 (if x then 1 else 0) ++ r) = .inr (x, 1) ∧ (be 1 (if x then 1 else 0) ++ r).drop 1 = r := by
  cases x
  · exact ⟨rfl, rfl⟩
  · exact ⟨rfl, rfl⟩
theorem bkU8 {w : World} {g b : Nat} {x : Int} {r : List Int} (h0 : 0 ≤ x) (h1 : x < 256) (R : RdA w g b 0 (be 1 x ++ r)) :
    Calls Try.prog 12 #[.pointer (some ⟨g, 0, none⟩)] w fun e w' => e = .returned (.int .u8 x) ∧ RdA w' g b 0 r ∧ But g w w' := by
  have t := rdU8 R
  obtain ⟨e1, e2⟩ := back_fix 1 h0 r
  rw [e1] at t
  unfold rdV rdE rdL at t
  simp only [if_true] at t
  rw [e2, Int.emod_eq_of_lt h0 (by simpa using h1)] at t
  exact t
theorem bkU32 {w : World} {g b : Nat} {x : Int} {r : List Int} (h0 : 0 ≤ x) (h1 : x < 4294967296) (R : RdA w g b 0 (be 4 x ++ r)) :
    Calls Try.prog 13 #[.pointer (some ⟨g, 0, none⟩)] w fun e w' => e = .returned (.int .u32 x) ∧ RdA w' g b 0 r ∧ But g w w' := by
  have t := rdU32 R
  obtain ⟨e1, e2⟩ := back_fix 4 h0 r
  rw [e1] at t
  unfold rdV rdE rdL at t
  simp only [if_true] at t
  rw [e2, Int.emod_eq_of_lt h0 (by simpa using h1)] at t
  exact t
theorem bkU64 {w : World} {g b : Nat} {x : Int} {r : List Int} (h0 : 0 ≤ x) (h1 : x < 18446744073709551616) (R : RdA w g b 0 (be 8 x ++ r)) :
    Calls Try.prog 14 #[.pointer (some ⟨g, 0, none⟩)] w fun e w' => e = .returned (.int .u64 x) ∧ RdA w' g b 0 r ∧ But g w w' := by
  have t := rdU64 R
  obtain ⟨e1, e2⟩ := back_fix 8 h0 r
  rw [e1] at t
  unfold rdV rdE rdL at t
  simp only [if_true] at t
  rw [e2, Int.emod_eq_of_lt h0 (by simpa using h1)] at t
  exact t
theorem bkBool {w : World} {g b : Nat} {x : Bool} {r : List Int} (R : RdA w g b 0 (be 1 (if x then 1 else 0) ++ r)) :
    Calls Try.prog 15 #[.pointer (some ⟨g, 0, none⟩)] w fun e w' => e = .returned (.bool x) ∧ RdA w' g b 0 r ∧ But g w w' := by
  have t := rdBool R
  obtain ⟨e1, e2⟩ := back_bool x r
  rw [e1] at t
  unfold rdV rdE rdL at t
  simp only [if_true] at t
  rw [e2] at t
  exact t
theorem bkNat {w : World} {g b : Nat} {V : Int} {r : List Int} (hV : 0 ≤ V) (hl : (natB V).length < 256) (R : RdA w g b 0 (cntd 1 (natB V) ++ r)) :
    Calls Try.prog 16 #[.pointer (some ⟨g, 0, none⟩)] w fun e w' => ∃ a n c, e = .returned (.slice a n c) ∧ NatO w' a n c V ∧ n ≤ 255 ∧ RdA w' g b 0 r ∧ But g w w' := by
  have t := rdNat R
  obtain ⟨e1, e2⟩ := back_nat hV hl r
  rw [e1] at t
  unfold rdV rdE rdL at t
  simp only [if_true] at t
  rw [e2] at t
  exact t
theorem bkDec {w : World} {g b : Nat} {V : Int} {r : List Int} (hV : 0 ≤ V) (hl : (natB V).length < 256) (R : RdA w g b 0 (cntd 1 (natB V) ++ r)) :
    Calls Try.prog 17 #[.pointer (some ⟨g, 0, none⟩)] w fun e w' => ∃ a n c, e = .returned (.agg #[.slice a n c]) ∧ NatO w' a n c V ∧ n ≤ 255 ∧ RdA w' g b 0 r ∧ But g w w' := by
  have t := rdDec R
  obtain ⟨e1, e2⟩ := back_nat hV hl r
  rw [e1] at t
  unfold rdV rdE rdL at t
  simp only [if_true] at t
  rw [e2] at t
  exact t
theorem bkRaw {w : World} {g b n : Nat} {l r : List Int} (hl : l.length = n) (hn : n < 4294967296) (ho : Octets l) (R : RdA w g b 0 (cntd 4 l ++ r)) :
    Calls Try.prog 18 #[.pointer (some ⟨g, 0, none⟩), .int .i64 n] w fun e w' => ∃ a c bq, e = .returned (.slice a n c) ∧ ByA w' bq a n c l ∧ RdA w' g b 0 r ∧ But g w w' := by
  subst hl
  have t := rdRaw (most := (l.length : Int)) (by omega) (by omega) R
  obtain ⟨e1, e2⟩ := back_raw hn r
  rw [e1] at t
  unfold rdV rdE rdL at t
  simp only [if_true] at t
  rw [e2] at t
  refine t.mono ?_
  rintro e w' ⟨v, h1, h2, h3, h4⟩
  obtain ⟨bq, a, c, rfl, _, h5⟩ := h2.bya ho
  exact ⟨a, c, bq, h1, h5, h3, h4⟩
theorem stB_oct {w : World} {s : Stp} {l : List Int} (A : StpA w s) (h : stB s = some l) : Octets l := by
  have hbl : Octets s.bl := by obtain ⟨_, _, _, _, h4, _⟩ := A.byt.ex; exact h4
  have happ : ∀ {a b : List Int}, Octets a → Octets b → Octets (a ++ b) := fun ha hb x hx => by
    rcases List.mem_append.1 hx with e | e
    · exact ha x e
    · exact hb x e
  unfold stB at h
  repeat' split at h
  all_goals first
    | (cases h; done)
    | (cases h; exact be_oct _ _)
    | (cases h; exact happ (be_oct _ _) (natB_oct _))
    | (cases h; exact happ (be_oct _ _) hbl)
    | (cases h; exact fun x hx => by simp at hx)
theorem laid_oct {w : World} : ∀ {ss : List Stp} {T : List Int}, (∀ s ∈ ss, StpA w s) → laid ss = some T → Octets T
  | [], T, _, h => by cases h; exact fun x hx => by simp at hx
  | s :: r, T, hA, h => by
    rw [laid_cons] at h
    cases hs : stB s with
    | none => rw [hs] at h; cases h
    | some l =>
      rw [hs] at h
      cases hr : laid r with
      | none => rw [hr] at h; cases h
      | some t =>
        rw [hr] at h
        cases h
        intro x hx
        rcases List.mem_append.1 hx with e | e
        · exact stB_oct (hA s (List.mem_cons_self ..)) hs x e
        · exact laid_oct (fun s' hs' => hA s' (List.mem_cons_of_mem _ hs')) hr x e
theorem laid_step {ss : List Stp} {k : Nat} {s : Stp} {T : List Int} (h : laid (ss.drop k) = some T) (hs : ss[k]? = some s) : ∃ l T', stB s = some l ∧ laid (ss.drop (k + 1)) = some T' ∧ T = l ++ T' := by
  have hk : k < ss.length := by
    rcases Nat.lt_or_ge k ss.length with h | h
    · exact h
    · rw [List.getElem?_eq_none h] at hs; cases hs
  have e : ss.drop k = s :: ss.drop (k + 1) := by
    rw [List.drop_eq_getElem_cons hk]
    rw [List.getElem?_eq_getElem hk] at hs
    cases hs
    rfl
  rw [e, laid_cons] at h
  cases hb : stB s with
  | none => rw [hb] at h; cases h
  | some l =>
    rw [hb] at h
    cases hr : laid (ss.drop (k + 1)) with
    | none => rw [hr] at h; cases h
    | some t =>
      rw [hr] at h
      cases h
      exact ⟨l, t, rfl, rfl, rfl⟩
theorem ld_u64 {w : World} {g o : Nat} {x : Int} (hc : w.cell? ⟨g, o, none⟩ = some (.int .u64 x)) : (loadVar 28 ⟨g, o, none⟩).run Try.prog w = .ok (.int .u64 x) w := by go_simp
theorem ld_nat {w : World} {g o n c : Nat} {a : Option Addr} (hc : w.cell? ⟨g, o, none⟩ = some (.slice a n c)) : (loadVar 30 ⟨g, o, none⟩).run Try.prog w = .ok (.slice a n c) w := by go_simp
theorem ld_byt {w : World} {g o n c : Nat} {a : Option Addr} (hc : w.cell? ⟨g, o, none⟩ = some (.slice a n c)) : (loadVar 22 ⟨g, o, none⟩).run Try.prog w = .ok (.slice a n c) w := by go_simp
end Go.Proofs.Ytapnhfppjefnfaa
