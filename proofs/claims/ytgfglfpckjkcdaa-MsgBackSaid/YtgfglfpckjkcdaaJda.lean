/- Several texts, joined: EncJ, EncK. -/
import Derived.Test.YtgfglfpckjkcdaaJca
namespace Go.Proofs.Ytgfglfpckjkcdaa
open Go.RowKit Lim

/-- the bytes of a step; none: it is too long -/
def stB (s : Stp) : Option (List Int) :=
  if s.what = 0 then some (be 1 (s.num % 256))
  else if s.what = 1 then some (be 4 (s.num % 4294967296))
  else if s.what = 2 then some (be 8 s.num)
  else if s.what = 3 then some (be 1 (if s.num % 2 == 1 then 1 else 0))
  else if s.what = 4 ∨ s.what = 5 then (if (natB s.V).length < 256 then some (cntd 1 (natB s.V)) else none)
  else if s.what = 6 then some (cntd 4 s.bl)
  else some []
/-- one step more -/
def stO (s : Stp) (o : Option (List Int)) : Option (List Int) := o.bind fun L => (stB s).map (L ++ ·)
/-- the bytes of a script -/
def laid (ss : List Stp) : Option (List Int) := ss.foldl (fun o s => stO s o) (some [])
theorem laid_snoc (ss : List Stp) (s : Stp) : laid (ss ++ [s]) = stO s (laid ss) := by
  unfold laid
  rw [List.foldl_append]
  rfl
theorem laid_take {ss : List Stp} {i : Nat} {s : Stp} (h : ss[i]? = some s) : laid (ss.take (i + 1)) = stO s (laid (ss.take i)) := by
  rw [List.take_add_one, h]
  exact laid_snoc _ _
theorem laid_from (ss : List Stp) (o : Option (List Int)) : ss.foldl (fun o s => stO s o) o = o.bind fun L => (laid ss).map (L ++ ·) := by
  induction ss generalizing o with
  | nil =>
    cases o with
    | none => rfl
    | some L => simp [laid]
  | cons s r ih =>
    have h1 : laid (s :: r) = (stO s (some [])).bind fun L => (laid r).map (L ++ ·) := by
      unfold laid
      rw [List.foldl_cons]
      exact ih _
    rw [List.foldl_cons, ih, h1]
    cases o with
    | none => rfl
    | some L =>
      unfold stO
      cases stB s with
      | none => rfl
      | some l =>
        cases laid r with
        | none => rfl
        | some t => simp [List.append_assoc]
theorem laid_append (l m : List Stp) : laid (l ++ m) = (laid l).bind fun L => (laid m).map (L ++ ·) := by
  rw [← laid_from m (laid l)]
  unfold laid
  rw [List.foldl_append]
theorem laid_cons (s : Stp) (r : List Stp) : laid (s :: r) = (stB s).bind fun L => (laid r).map (L ++ ·) := by
  have := laid_append [s] r
  rw [List.singleton_append] at this
  rw [this]
  unfold laid
  rw [List.foldl_cons, List.foldl_nil]
  unfold stO
  cases stB s with
  | none => rfl
  | some l => simp
/-- a Writer that has laid o (none: the error 42), at most N bytes -/
structure WrO (w : World) (g : Nat) (o : Option (List Int)) (N : Nat) : Prop where
  ex : ∃ err L, WrA w g err L ∧ L.length ≤ N ∧ (∀ M, o = some M → err = 0 ∧ L = M) ∧ (o = none → err = 42)
theorem WrO.lt {w : World} {g : Nat} {o : Option (List Int)} {N : Nat} (h : WrO w g o N) : g < w.heap.size := by
  obtain ⟨_, _, X, _⟩ := h.ex
  exact X.lt
theorem WrO.keep {w w' : World} {g : Nat} {o : Option (List Int)} {N : Nat} (h : WrO w g o N) (hb : Below w.heap.size w w') : WrO w' g o N := by
  obtain ⟨e, L, X, h1⟩ := h.ex
  exact ⟨e, L, X.keep hb, h1⟩
theorem WrO.off {w w' : World} {g g' : Nat} {o o' : Option (List Int)} {N N' : Nat} (h : WrO w g o N) (h' : WrO w g' o' N') (hne : g ≠ g') (hb : But g' w w') : WrO w' g o N := by
  obtain ⟨e, L, X, h1⟩ := h.ex
  obtain ⟨_, _, X', _⟩ := h'.ex
  exact ⟨e, L, X.off X' hne hb, h1⟩
theorem WrO.some {w : World} {g : Nat} {o : Option (List Int)} {N : Nat} (h : WrO w g o N) {L : List Int} (e : o = .some L) : WrA w g 0 L ∧ L.length ≤ N := by
  obtain ⟨err, M, X, h1, h2, _⟩ := h.ex
  obtain ⟨rfl, rfl⟩ := h2 L e
  exact ⟨X, h1⟩
theorem WrO.none {w : World} {g : Nat} {o : Option (List Int)} {N : Nat} (h : WrO w g o N) (e : o = .none) : ∃ L, WrA w g 42 L := by
  obtain ⟨err, M, X, h1, _, h3⟩ := h.ex
  obtain rfl := h3 e
  exact ⟨M, X⟩
theorem cntd_len (m : Nat) (l : List Int) : (cntd m l).length = m + l.length := by
  unfold cntd
  rw [List.length_append, be_length]
/-- the step s, laid by a call that writes l -/
theorem WrO.lay {w' : World} {g : Nat} {o : Option (List Int)} {N K : Nat} {err : Int} {L l : List Int} {s : Stp} (hs : stB s = .some l) (hK : l.length ≤ K) (h1 : L.length ≤ N) (h2 : ∀ M, o = .some M → err = 0 ∧ L = M) (h3 : o = .none → err = 42) (X : WrA w' g err (wrote err L l)) : WrO w' g (stO s o) (N + K) := by
  refine ⟨err, _, X, ?_, fun M e => ?_, fun e => ?_⟩
  · have := wrote_len err L l
    omega
  · cases o with
    | none => cases e
    | some M' =>
      obtain ⟨rfl, rfl⟩ := h2 M' rfl
      unfold stO at e
      rw [hs] at e
      cases e
      exact ⟨rfl, rfl⟩
  · cases o with
    | none => exact h3 rfl
    | some M' =>
      unfold stO at e
      rw [hs] at e
      cases e
theorem raw_at {w : World} {g n c b : Nat} {ao : Option Addr} {l : List Int} (h : ByA w b ao n c l) (hg : w.heap.size ≤ g) : ∃ b' o, AtB w ao b' o l ∧ l.length = n ∧ n ≤ c ∧ b' ≠ g := by
  obtain ⟨o, h1, h2, h3, h4, h5⟩ := h.ex
  rcases h5.lt with e | e
  · subst e
    exact ⟨g + 1, 0, ⟨.inl rfl, fun i hi => by simp at hi⟩, h1, h2, by omega⟩
  · exact ⟨b, o, h5, h1, h2, by omega⟩
theorem natE_two {V err : Int} (h : (natB V).length < 256) (L : List Int) : natE V err = err ∧ natL V err L = wrote err L (cntd 1 (natB V)) := by
  unfold natE natL
  rw [if_pos h, if_pos h]
  exact ⟨rfl, rfl⟩
/-- a whole number's step -/
theorem WrO.nat {w' : World} {g : Nat} {o : Option (List Int)} {N K : Nat} {err : Int} {L : List Int} {s : Stp} (hw : s.what = 4 ∨ s.what = 5) (hK : 256 ≤ K) (h1 : L.length ≤ N) (h2 : ∀ M, o = .some M → err = 0 ∧ L = M) (h3 : o = .none → err = 42) (X : WrA w' g (natE s.V err) (natL s.V err L)) : WrO w' g (stO s o) (N + K) := by
  have e : stB s = if (natB s.V).length < 256 then .some (cntd 1 (natB s.V)) else .none := by
    unfold stB
    rcases hw with h | h <;> simp [h]
  by_cases hl : (natB s.V).length < 256
  · rw [if_pos hl] at e
    rw [(natE_two hl L).1, (natE_two hl L).2] at X
    exact WrO.lay e (by rw [cntd_len]; omega) h1 h2 h3 X
  · rw [if_neg hl] at e
    unfold natE natL at X
    rw [if_neg hl, if_neg hl] at X
    refine ⟨_, _, X, by omega, fun M hM => ?_, fun _ => ?_⟩
    · unfold stO at hM
      rw [e] at hM
      cases o <;> cases hM
    · unfold long
      cases o with
      | none => rw [h3 rfl]; rfl
      | some M => rw [(h2 M rfl).1]; rfl
end Go.Proofs.Ytgfglfpckjkcdaa

namespace Go.Proofs.Ytgfglfpckjkcdaa
open Go.RowKit Lim

theorem take_app {l r : List Int} {m : Nat} (h : l.length = m) : (l ++ r).take m = l ∧ (l ++ r).drop m = r := by
  subst h
  exact ⟨List.take_left, List.drop_left⟩
theorem back_fix (m : Nat) {x : Int} (hx : 0 ≤ x) (r : List Int) : pFix m (be m x ++ r) = .inr (x % 256 ^ m, m) ∧ (be m x ++ r).drop m = r := by
  have h := take_app (r := r) (be_length m x)
  refine ⟨?_, h.2⟩
  unfold pFix
  rw [if_pos (by rw [List.length_append, be_length]; omega), h.1, be_val m hx]
theorem cnt_app {m : Nat} {l r : List Int} (hl : (l.length : Int) < 256 ^ m) : cntOf m (cntd m l ++ r) = l.length := by
  unfold cntOf cntd
  rw [List.append_assoc, (take_app (be_length m _)).1, be_val m (by omega), Int.emod_eq_of_lt (by omega) hl]
  rfl
theorem cnt_drop (m : Nat) (l r : List Int) : (cntd m l ++ r).drop m = l ++ r := by
  unfold cntd
  rw [List.append_assoc, (take_app (be_length m _)).2]
theorem back_nat {V : Int} (hV : 0 ≤ V) (hl : (natB V).length < 256) (r : List Int) : pNat (cntd 1 (natB V) ++ r) = .inr (V, 1 + (natB V).length) ∧ (cntd 1 (natB V) ++ r).drop (1 + (natB V).length) = r := by
  have hc : cntOf 1 (cntd 1 (natB V) ++ r) = (natB V).length := cnt_app (by simpa using (by omega : ((natB V).length : Int) < 256))
  have hd := cnt_drop 1 (natB V) r
  have hB := natB_is hV
  refine ⟨?_, ?_⟩
  · unfold pNat
    rw [if_pos (by rw [List.length_append, cntd_len]; omega), hc, if_pos (by rw [List.length_append, cntd_len]; omega), hd, if_neg, (take_app rfl).1, hB.2.2]
    rintro ⟨h0, h1⟩
    have hne : natB V ≠ [] := fun e => by rw [e] at h0; simp at h0
    refine hB.2.1 hne ?_
    rw [← h1]
    cases hh : natB V with
    | nil => exact absurd hh hne
    | cons x t => rfl
  · rw [← List.drop_drop, hd, (take_app rfl).2]
theorem back_raw {l : List Int} (hl : l.length < 4294967296) (r : List Int) : pRaw (l.length : Int) (cntd 4 l ++ r) = .inr (l, 4 + l.length) ∧ (cntd 4 l ++ r).drop (4 + l.length) = r := by
  have hc : cntOf 4 (cntd 4 l ++ r) = l.length := cnt_app (by simpa using (by omega : (l.length : Int) < 4294967296))
  have hd := cnt_drop 4 l r
  refine ⟨?_, ?_⟩
  · unfold pRaw
    rw [if_pos (by rw [List.length_append, cntd_len]; omega), hc, if_neg (by omega), if_pos (by rw [List.length_append, cntd_len]; omega), hd, (take_app rfl).1]
  · rw [← List.drop_drop, hd, (take_app rfl).2]
theorem back_bool (x : Bool) (r : List Int) : pBool (be 1 (if x then 1 else 0) ++ r) = .inr (x, 1) ∧ (be 1 (if x then 1 else 0) ++ r).drop 1 = r := by
  cases x
  · exact ⟨rfl, rfl⟩
  · exact ⟨rfl, rfl⟩
theorem bkU8 {w : World} {g b : Nat} {x : Int} {r : List Int} (h0 : 0 ≤ x) (h1 : x < 256) (R : RdA w g b 0 (be 1 x ++ r)) :
    Calls Try.prog 33 #[.pointer (some ⟨g, 0, none⟩)] w fun e w' => e = .returned (.int .u8 x) ∧ RdA w' g b 0 r ∧ But g w w' := by
  have t := rdU8 R
  obtain ⟨e1, e2⟩ := back_fix 1 h0 r
  rw [e1] at t
  unfold rdV rdE rdL at t
  simp only [if_true] at t
  rw [e2, Int.emod_eq_of_lt h0 (by simpa using h1)] at t
  exact t
theorem bkU64 {w : World} {g b : Nat} {x : Int} {r : List Int} (h0 : 0 ≤ x) (h1 : x < 18446744073709551616) (R : RdA w g b 0 (be 8 x ++ r)) :
    Calls Try.prog 42 #[.pointer (some ⟨g, 0, none⟩)] w fun e w' => e = .returned (.int .u64 x) ∧ RdA w' g b 0 r ∧ But g w w' := by
  have t := rdU64 R
  obtain ⟨e1, e2⟩ := back_fix 8 h0 r
  rw [e1] at t
  unfold rdV rdE rdL at t
  simp only [if_true] at t
  rw [e2, Int.emod_eq_of_lt h0 (by simpa using h1)] at t
  exact t
theorem stB_oct {w : World} {s : Stp} {l : List Int} (A : StpA w s) (h : stB s = some l) : Octets l := by
  have hbl : Octets s.bl := by obtain ⟨_, _, _, _, h4, _⟩ := A.byt.ex; exact h4
  have happ : ∀ {a b : List Int}, Octets a → Octets b → Octets (a ++ b) := fun ha hb x hx => by
    rcases List.mem_append.1 hx with e | e
    · exact ha x e
    · exact hb x e
  unfold stB at h
  repeat' split at h
  all_goals first
    | (cases h; done)
    | (cases h; exact be_oct _ _)
    | (cases h; exact happ (be_oct _ _) (natB_oct _))
    | (cases h; exact happ (be_oct _ _) hbl)
    | (cases h; exact fun x hx => by simp at hx)
theorem laid_oct {w : World} : ∀ {ss : List Stp} {T : List Int}, (∀ s ∈ ss, StpA w s) → laid ss = some T → Octets T
  | [], T, _, h => by cases h; exact fun x hx => by simp at hx
  | s :: r, T, hA, h => by
    rw [laid_cons] at h
    cases hs : stB s with
    | none => rw [hs] at h; cases h
    | some l =>
      rw [hs] at h
      cases hr : laid r with
      | none => rw [hr] at h; cases h
      | some t =>
        rw [hr] at h
        cases h
        intro x hx
        rcases List.mem_append.1 hx with e | e
        · exact stB_oct (hA s (List.mem_cons_self ..)) hs x e
        · exact laid_oct (fun s' hs' => hA s' (List.mem_cons_of_mem _ hs')) hr x e
theorem laid_step {ss : List Stp} {k : Nat} {s : Stp} {T : List Int} (h : laid (ss.drop k) = some T) (hs : ss[k]? = some s) : ∃ l T', stB s = some l ∧ laid (ss.drop (k + 1)) = some T' ∧ T = l ++ T' := by
  have hk : k < ss.length := by
    rcases Nat.lt_or_ge k ss.length with h | h
    · exact h
    · rw [List.getElem?_eq_none h] at hs; cases hs
  have e : ss.drop k = s :: ss.drop (k + 1) := by
    rw [List.drop_eq_getElem_cons hk]
    rw [List.getElem?_eq_getElem hk] at hs
    cases hs
    rfl
  rw [e, laid_cons] at h
  cases hb : stB s with
  | none => rw [hb] at h; cases h
  | some l =>
    rw [hb] at h
    cases hr : laid (ss.drop (k + 1)) with
    | none => rw [hr] at h; cases h
    | some t =>
      rw [hr] at h
      cases h
      exact ⟨l, t, rfl, rfl, rfl⟩
theorem ld_u64 {w : World} {g o : Nat} {x : Int} (hc : w.cell? ⟨g, o, none⟩ = some (.int .u64 x)) : (loadVar 22 ⟨g, o, none⟩).run Try.prog w = .ok (.int .u64 x) w := by go_simp
theorem ld_byt {w : World} {g o n c : Nat} {a : Option Addr} (hc : w.cell? ⟨g, o, none⟩ = some (.slice a n c)) : (loadVar 32 ⟨g, o, none⟩).run Try.prog w = .ok (.slice a n c) w := by go_simp
end Go.Proofs.Ytgfglfpckjkcdaa
