/- Several texts, joined: EncJ, EncK, RefB2, EncL, EncM. -/
import Derived.Test.YtenlhceceplldaaGreatJca
import Derived.Test.YtenlhceceplldaaGreatJba
namespace Go.Proofs.YtenlhceceplldaaGreat
open Go.RowKit Lim

/-- the bytes of a step; none: it is too long -/
def stB (s : Stp) : Option (List Int) :=
  if s.what = 0 then some (be 1 (s.num % 256))
  else if s.what = 1 then some (be 4 (s.num % 4294967296))
  else if s.what = 2 then some (be 8 s.num)
  else if s.what = 3 then some (be 1 (if s.num % 2 == 1 then 1 else 0))
  else if s.what = 4 ∨ s.what = 5 then (if (natB s.V).length < 256 then some (cntd 1 (natB s.V)) else none)
  else if s.what = 6 then some (cntd 4 s.bl)
  else some []
/-- one step more -/
def stO (s : Stp) (o : Option (List Int)) : Option (List Int) := o.bind fun L => (stB s).map (L ++ ·)
/-- the bytes of a script -/
def laid (ss : List Stp) : Option (List Int) := ss.foldl (fun o s => stO s o) (some [])
theorem laid_snoc (ss : List Stp) (s : Stp) : laid (ss ++ [s]) = stO s (laid ss) := by
  unfold laid
  rw [List.foldl_append]
  rfl
theorem laid_take {ss : List Stp} {i : Nat} {s : Stp} (h : ss[i]? = some s) : laid (ss.take (i + 1)) = stO s (laid (ss.take i)) := by
  rw [List.take_add_one, h]
  exact laid_snoc _ _
theorem laid_from (ss : List Stp) (o : Option (List Int)) : ss.foldl (fun o s => stO s o) o = o.bind fun L => (laid ss).map (L ++ ·) := by
  induction ss generalizing o with
  | nil =>
    cases o with
    | none => rfl
    | some L => simp [laid]
  | cons s r ih =>
    have h1 : laid (s :: r) = (stO s (some [])).bind fun L => (laid r).map (L ++ ·) := by
      unfold laid
      rw [List.foldl_cons]
      exact ih _
    rw [List.foldl_cons, ih, h1]
    cases o with
    | none => rfl
    | some L =>
      unfold stO
      cases stB s with
      | none => rfl
      | some l =>
        cases laid r with
        | none => rfl
        | some t => simp [List.append_assoc]
theorem laid_append (l m : List Stp) : laid (l ++ m) = (laid l).bind fun L => (laid m).map (L ++ ·) := by
  rw [← laid_from m (laid l)]
  unfold laid
  rw [List.foldl_append]
theorem laid_cons (s : Stp) (r : List Stp) : laid (s :: r) = (stB s).bind fun L => (laid r).map (L ++ ·) := by
  have := laid_append [s] r
  rw [List.singleton_append] at this
  rw [this]
  unfold laid
  rw [List.foldl_cons, List.foldl_nil]
  unfold stO
  cases stB s with
  | none => rfl
  | some l => simp
/-- a Writer that has laid o (none: the error 42), at most N bytes -/
structure WrO (w : World) (g : Nat) (o : Option (List Int)) (N : Nat) : Prop where
  ex : ∃ err L, WrA w g err L ∧ L.length ≤ N ∧ (∀ M, o = some M → err = 0 ∧ L = M) ∧ (o = none → err = 42)
theorem WrO.lt {w : World} {g : Nat} {o : Option (List Int)} {N : Nat} (h : WrO w g o N) : g < w.heap.size := by
  obtain ⟨_, _, X, _⟩ := h.ex
  exact X.lt
theorem WrO.keep {w w' : World} {g : Nat} {o : Option (List Int)} {N : Nat} (h : WrO w g o N) (hb : Below w.heap.size w w') : WrO w' g o N := by
  obtain ⟨e, L, X, h1⟩ := h.ex
  exact ⟨e, L, X.keep hb, h1⟩
theorem WrO.off {w w' : World} {g g' : Nat} {o o' : Option (List Int)} {N N' : Nat} (h : WrO w g o N) (h' : WrO w g' o' N') (hne : g ≠ g') (hb : But g' w w') : WrO w' g o N := by
  obtain ⟨e, L, X, h1⟩ := h.ex
  obtain ⟨_, _, X', _⟩ := h'.ex
  exact ⟨e, L, X.off X' hne hb, h1⟩
theorem wroNew (w : World) : WrO (w.alloc (.cells Tryz.zeroCells159 159)) w.heap.size (some []) 0 :=
  ⟨0, [], wrNew w, Nat.le_refl _, fun M e => by cases e; exact ⟨rfl, rfl⟩, fun e => by cases e⟩
theorem WrO.some {w : World} {g : Nat} {o : Option (List Int)} {N : Nat} (h : WrO w g o N) {L : List Int} (e : o = .some L) : WrA w g 0 L ∧ L.length ≤ N := by
  obtain ⟨err, M, X, h1, h2, _⟩ := h.ex
  obtain ⟨rfl, rfl⟩ := h2 L e
  exact ⟨X, h1⟩
theorem WrO.none {w : World} {g : Nat} {o : Option (List Int)} {N : Nat} (h : WrO w g o N) (e : o = .none) : ∃ L, WrA w g 42 L := by
  obtain ⟨err, M, X, h1, _, h3⟩ := h.ex
  obtain rfl := h3 e
  exact ⟨M, X⟩
theorem cntd_len (m : Nat) (l : List Int) : (cntd m l).length = m + l.length := by
  unfold cntd
  rw [List.length_append, be_length]
/-- the step s, laid by a call that writes l -/
theorem WrO.lay {w' : World} {g : Nat} {o : Option (List Int)} {N K : Nat} {err : Int} {L l : List Int} {s : Stp} (hs : stB s = .some l) (hK : l.length ≤ K) (h1 : L.length ≤ N) (h2 : ∀ M, o = .some M → err = 0 ∧ L = M) (h3 : o = .none → err = 42) (X : WrA w' g err (wrote err L l)) : WrO w' g (stO s o) (N + K) := by
  refine ⟨err, _, X, ?_, fun M e => ?_, fun e => ?_⟩
  · have := wrote_len err L l
    omega
  · cases o with
    | none => cases e
    | some M' =>
      obtain ⟨rfl, rfl⟩ := h2 M' rfl
      unfold stO at e
      rw [hs] at e
      cases e
      exact ⟨rfl, rfl⟩
  · cases o with
    | none => exact h3 rfl
    | some M' =>
      unfold stO at e
      rw [hs] at e
      cases e
theorem raw_at {w : World} {g n c b : Nat} {ao : Option Addr} {l : List Int} (h : ByA w b ao n c l) (hg : w.heap.size ≤ g) : ∃ b' o, AtB w ao b' o l ∧ l.length = n ∧ n ≤ c ∧ b' ≠ g := by
  obtain ⟨o, h1, h2, h3, h4, h5⟩ := h.ex
  rcases h5.lt with e | e
  · subst e
    exact ⟨g + 1, 0, ⟨.inl rfl, fun i hi => by simp at hi⟩, h1, h2, by omega⟩
  · exact ⟨b, o, h5, h1, h2, by omega⟩
theorem natE_two {V err : Int} (h : (natB V).length < 256) (L : List Int) : natE V err = err ∧ natL V err L = wrote err L (cntd 1 (natB V)) := by
  unfold natE natL
  rw [if_pos h, if_pos h]
  exact ⟨rfl, rfl⟩
/-- a whole number's step -/
theorem WrO.nat {w' : World} {g : Nat} {o : Option (List Int)} {N K : Nat} {err : Int} {L : List Int} {s : Stp} (hw : s.what = 4 ∨ s.what = 5) (hK : 256 ≤ K) (h1 : L.length ≤ N) (h2 : ∀ M, o = .some M → err = 0 ∧ L = M) (h3 : o = .none → err = 42) (X : WrA w' g (natE s.V err) (natL s.V err L)) : WrO w' g (stO s o) (N + K) := by
  have e : stB s = if (natB s.V).length < 256 then .some (cntd 1 (natB s.V)) else .none := by
    unfold stB
    rcases hw with h | h <;> simp [h]
  by_cases hl : (natB s.V).length < 256
  · rw [if_pos hl] at e
    rw [(natE_two hl L).1, (natE_two hl L).2] at X
    exact WrO.lay e (by rw [cntd_len]; omega) h1 h2 h3 X
  · rw [if_neg hl] at e
    unfold natE natL at X
    rw [if_neg hl, if_neg hl] at X
    refine ⟨_, _, X, by omega, fun M hM => ?_, fun _ => ?_⟩
    · unfold stO at hM
      rw [e] at hM
      cases o <;> cases hM
    · unfold long
      cases o with
      | none => rw [h3 rfl]; rfl
      | some M => rw [(h2 M rfl).1]; rfl
end Go.Proofs.YtenlhceceplldaaGreat

namespace Go.Proofs.YtenlhceceplldaaGreat
open Go.RowKit Lim

theorem take_app {l r : List Int} {m : Nat} (h : l.length = m) : (l ++ r).take m = l ∧ (l ++ r).drop m = r := by
  subst h
  exact ⟨List.take_left, List.drop_left⟩
theorem back_fix (m : Nat) {x : Int} (hx : 0 ≤ x) (r : List Int) : pFix m (be m x ++ r) = .inr (x % 256 ^ m, m) ∧ (be m x ++ r).drop m = r := by
  have h := take_app (r := r) (be_length m x)
  refine ⟨?_, h.2⟩
  unfold pFix
  rw [if_pos (by rw [List.length_append, be_length]; omega), h.1, be_val m hx]
theorem cnt_app {m : Nat} {l r : List Int} (hl : (l.length : Int) < 256 ^ m) : cntOf m (cntd m l ++ r) = l.length := by
  unfold cntOf cntd
  rw [List.append_assoc, (take_app (be_length m _)).1, be_val m (by omega), Int.emod_eq_of_lt (by omega) hl]
  rfl
theorem cnt_drop (m : Nat) (l r : List Int) : (cntd m l ++ r).drop m = l ++ r := by
  unfold cntd
  rw [List.append_assoc, (take_app (be_length m _)).2]
theorem back_nat {V : Int} (hV : 0 ≤ V) (hl : (natB V).length < 256) (r : List Int) : pNat (cntd 1 (natB V) ++ r) = .inr (V, 1 + (natB V).length) ∧ (cntd 1 (natB V) ++ r).drop (1 + (natB V).length) = r := by
  have hc : cntOf 1 (cntd 1 (natB V) ++ r) = (natB V).length := cnt_app (by simpa using (by omega : ((natB V).length : Int) < 256))
  have hd := cnt_drop 1 (natB V) r
  have hB := natB_is hV
  refine ⟨?_, ?_⟩
  · unfold pNat
    rw [if_pos (by rw [List.length_append, cntd_len]; omega), hc, if_pos (by rw [List.length_append, cntd_len]; omega), hd, if_neg, (take_app rfl).1, hB.2.2]
    rintro ⟨h0, h1⟩
    have hne : natB V ≠ [] := fun e => by rw [e] at h0; simp at h0
    refine hB.2.1 hne ?_
    rw [← h1]
    cases hh : natB V with
    | nil => exact absurd hh hne
    | cons x t => rfl
  · rw [← List.drop_drop, hd, (take_app rfl).2]
theorem back_raw {l : List Int} (hl : l.length < 4294967296) (r : List Int) : pRaw (l.length : Int) (cntd 4 l ++ r) = .inr (l, 4 + l.length) ∧ (cntd 4 l ++ r).drop (4 + l.length) = r := by
  have hc : cntOf 4 (cntd 4 l ++ r) = l.length := cnt_app (by simpa using (by omega : (l.length : Int) < 4294967296))
  have hd := cnt_drop 4 l r
  refine ⟨?_, ?_⟩
  · unfold pRaw
    rw [if_pos (by rw [List.length_append, cntd_len]; omega), hc, if_neg (by omega), if_pos (by rw [List.length_append, cntd_len]; omega), hd, (take_app rfl).1]
  · rw [← List.drop_drop, hd, (take_app rfl).2]
theorem back_bool (x : Bool) (r : List Int) : pBool (be 1 (if x then 1 else 0) ++ r) = .inr (x, 1) ∧ (be 1 (if x then 1 else 0) ++ r).drop 1 = r := by
  cases x
  · exact ⟨rfl, rfl⟩
  · exact ⟨rfl, rfl⟩
theorem bkU64 {w : World} {g b : Nat} {x : Int} {r : List Int} (h0 : 0 ≤ x) (h1 : x < 18446744073709551616) (R : RdA w g b 0 (be 8 x ++ r)) :
    Calls Tryz.prog 155 #[.pointer (some ⟨g, 0, none⟩)] w fun e w' => e = .returned (.int .u64 x) ∧ RdA w' g b 0 r ∧ But g w w' := by
  have t := rdU64 R
  obtain ⟨e1, e2⟩ := back_fix 8 h0 r
  rw [e1] at t
  unfold rdV rdE rdL at t
  simp only [if_true] at t
  rw [e2, Int.emod_eq_of_lt h0 (by simpa using h1)] at t
  exact t
theorem bkBool {w : World} {g b : Nat} {x : Bool} {r : List Int} (R : RdA w g b 0 (be 1 (if x then 1 else 0) ++ r)) :
    Calls Tryz.prog 157 #[.pointer (some ⟨g, 0, none⟩)] w fun e w' => e = .returned (.bool x) ∧ RdA w' g b 0 r ∧ But g w w' := by
  have t := rdBool R
  obtain ⟨e1, e2⟩ := back_bool x r
  rw [e1] at t
  unfold rdV rdE rdL at t
  simp only [if_true] at t
  rw [e2] at t
  exact t
theorem bkNat {w : World} {g b : Nat} {V : Int} {r : List Int} (hV : 0 ≤ V) (hl : (natB V).length < 256) (R : RdA w g b 0 (cntd 1 (natB V) ++ r)) :
    Calls Tryz.prog 205 #[.pointer (some ⟨g, 0, none⟩)] w fun e w' => ∃ a n c, e = .returned (.slice a n c) ∧ NatO w' a n c V ∧ n ≤ 255 ∧ RdA w' g b 0 r ∧ But g w w' := by
  have t := rdNat R
  obtain ⟨e1, e2⟩ := back_nat hV hl r
  rw [e1] at t
  unfold rdV rdE rdL at t
  simp only [if_true] at t
  rw [e2] at t
  exact t
theorem bkDec {w : World} {g b : Nat} {V : Int} {r : List Int} (hV : 0 ≤ V) (hl : (natB V).length < 256) (R : RdA w g b 0 (cntd 1 (natB V) ++ r)) :
    Calls Tryz.prog 159 #[.pointer (some ⟨g, 0, none⟩)] w fun e w' => ∃ a n c, e = .returned (.agg #[.slice a n c]) ∧ NatO w' a n c V ∧ n ≤ 255 ∧ RdA w' g b 0 r ∧ But g w w' := by
  have t := rdDec R
  obtain ⟨e1, e2⟩ := back_nat hV hl r
  rw [e1] at t
  unfold rdV rdE rdL at t
  simp only [if_true] at t
  rw [e2] at t
  exact t
theorem stB_oct {w : World} {s : Stp} {l : List Int} (A : StpA w s) (h : stB s = some l) : Octets l := by
  have hbl : Octets s.bl := by obtain ⟨_, _, _, _, h4, _⟩ := A.byt.ex; exact h4
  have happ : ∀ {a b : List Int}, Octets a → Octets b → Octets (a ++ b) := fun ha hb x hx => by
    rcases List.mem_append.1 hx with e | e
    · exact ha x e
    · exact hb x e
  unfold stB at h
  repeat' split at h
  all_goals first
    | (cases h; done)
    | (cases h; exact be_oct _ _)
    | (cases h; exact happ (be_oct _ _) (natB_oct _))
    | (cases h; exact happ (be_oct _ _) hbl)
    | (cases h; exact fun x hx => by simp at hx)
theorem laid_oct {w : World} : ∀ {ss : List Stp} {T : List Int}, (∀ s ∈ ss, StpA w s) → laid ss = some T → Octets T
  | [], T, _, h => by cases h; exact fun x hx => by simp at hx
  | s :: r, T, hA, h => by
    rw [laid_cons] at h
    cases hs : stB s with
    | none => rw [hs] at h; cases h
    | some l =>
      rw [hs] at h
      cases hr : laid r with
      | none => rw [hr] at h; cases h
      | some t =>
        rw [hr] at h
        cases h
        intro x hx
        rcases List.mem_append.1 hx with e | e
        · exact stB_oct (hA s (List.mem_cons_self ..)) hs x e
        · exact laid_oct (fun s' hs' => hA s' (List.mem_cons_of_mem _ hs')) hr x e
theorem laid_step {ss : List Stp} {k : Nat} {s : Stp} {T : List Int} (h : laid (ss.drop k) = some T) (hs : ss[k]? = some s) : ∃ l T', stB s = some l ∧ laid (ss.drop (k + 1)) = some T' ∧ T = l ++ T' := by
  have hk : k < ss.length := by
    rcases Nat.lt_or_ge k ss.length with h | h
    · exact h
    · rw [List.getElem?_eq_none h] at hs; cases hs
  have e : ss.drop k = s :: ss.drop (k + 1) := by
    rw [List.drop_eq_getElem_cons hk]
    rw [List.getElem?_eq_getElem hk] at hs
    cases hs
    rfl
  rw [e, laid_cons] at h
  cases hb : stB s with
  | none => rw [hb] at h; cases h
  | some l =>
    rw [hb] at h
    cases hr : laid (ss.drop (k + 1)) with
    | none => rw [hr] at h; cases h
    | some t =>
      rw [hr] at h
      cases h
      exact ⟨l, t, rfl, rfl, rfl⟩
theorem ld_u64 {w : World} {g o : Nat} {x : Int} (hc : w.cell? ⟨g, o, none⟩ = some (.int .u64 x)) : (loadVar 22 ⟨g, o, none⟩).run Tryz.prog w = .ok (.int .u64 x) w := by go_simp
theorem ld_nat {w : World} {g o n c : Nat} {a : Option Addr} (hc : w.cell? ⟨g, o, none⟩ = some (.slice a n c)) : (loadVar 28 ⟨g, o, none⟩).run Tryz.prog w = .ok (.slice a n c) w := by go_simp
theorem ld_byt {w : World} {g o n c : Nat} {a : Option Addr} (hc : w.cell? ⟨g, o, none⟩ = some (.slice a n c)) : (loadVar 49 ⟨g, o, none⟩).run Tryz.prog w = .ok (.slice a n c) w := by go_simp
end Go.Proofs.YtenlhceceplldaaGreat

namespace Go.Proofs.YtenlhceceplldaaGreat
open Go.RowKit Lim

theorem MineB.shape {w : World} {B : Nat} {v : Value} {l : List Int} (h : MineB w B v l) : ∃ ao c, v = .slice ao l.length c := by
  rcases h.2 with ⟨rfl, h0⟩ | ⟨g, cap, cur, rfl, _⟩
  · exact ⟨none, 0, by rw [h0]⟩
  · exact ⟨_, _, rfl⟩
theorem MineB.atB {w : World} {B : Nat} {v : Value} {l : List Int} (h : MineB w B v l) : ∃ ao c b o, v = .slice ao l.length c ∧ l.length ≤ c ∧ AtB w ao b o l := by
  obtain ⟨_, h2⟩ := h
  rcases h2 with ⟨rfl, h0⟩ | ⟨g, cap, cur, rfl, hB, hh, hle, hmx, hsz, htk⟩
  · have e : l = [] := List.eq_nil_of_length_eq_zero h0
    subst e
    exact ⟨none, 0, 0, 0, rfl, Nat.le_refl _, .inl rfl, fun i hi => by simp at hi⟩
  · refine ⟨some ⟨g, 0, none⟩, cap, g, 0, rfl, hle, .inr rfl, fun i hi => ?_⟩
    have e : cur.toList[i]? = some (.int .u8 (nth l i)) := by
      have h1 : (cur.toList.take (l.length * 1))[i]? = some (.int .u8 (nth l i)) := by
        rw [htk, List.getElem?_map, List.getElem?_eq_getElem hi, nth_eq hi]; rfl
      rwa [Nat.mul_one, List.getElem?_take_of_lt hi] at h1
    simp only [World.cell?, hh]
    simpa using e
theorem minB_mono {w : World} {B B' : Nat} {v : Value} {l : List Int} (h : MineB w B v l) (hB : B' ≤ B) : MineB w B' v l := by
  obtain ⟨h1, h2⟩ := h
  refine ⟨h1, ?_⟩
  rcases h2 with h2 | ⟨g, cap, cur, rfl, hB1, hr⟩
  · exact .inl h2
  · exact .inr ⟨g, cap, cur, rfl, by omega, hr⟩
theorem bval_snoc (l : List Int) (c : Int) : bval (l ++ [c]) = 256 * bval l + c := by
  induction l with
  | nil => simp [bval]
  | cons x l ih => simp only [List.cons_append, bval, ih, List.length_append, List.length_singleton, Int.pow_succ]; grind
theorem IsB.snoc {l : List Int} {V c : Int} (h : IsB l V) (h0 : 0 ≤ c) (h1 : c < 256) (hne : l ≠ [] ∨ c ≠ 0) : IsB (l ++ [c]) (256 * V + c) := by
  refine ⟨fun x hx => ?_, fun _ => ?_, by rw [bval_snoc, h.2.2]⟩
  · rcases List.mem_append.1 hx with e | e
    · exact h.1 x e
    · simp at e; subst e; exact ⟨h0, h1⟩
  · cases l with
    | nil =>
      rcases hne with e | e
      · exact absurd rfl e
      · rw [List.nil_append, nth_zero]; exact e
    | cons y l => rw [List.cons_append, nth_zero]; have := h.2.1 (by simp); rwa [nth_zero] at this
theorem IsB.zero {l : List Int} {V : Int} (h : IsB l V) (hl : l = []) : IsB l (256 * V + 0) := by
  subst hl
  have := h.2.2
  simp [bval] at this
  subst this
  exact ⟨h.1, h.2.1, rfl⟩
theorem v32_drop {l : List Int} {i : Nat} (h : i < l.length) : v32 (l.drop i) = nth l i + 4294967296 * v32 (l.drop (i + 1)) := by
  rw [List.drop_eq_getElem_cons h, v32, nth_eq h]
theorem byte_step (V x : Int) (j : Nat) (hj : j < 4) : 256 * (V * 256 ^ j + x / 2 ^ (32 - 8 * j)) + x / 2 ^ (24 - 8 * j) % 256 = V * 256 ^ (j + 1) + x / 2 ^ (32 - 8 * (j + 1)) := by
  have e : x / 2 ^ (32 - 8 * j) = x / 2 ^ (24 - 8 * j) / 256 := by
    rw [Int.ediv_ediv_of_nonneg (Int.le_of_lt (Int.pow_pos (by decide))), show (256 : Int) = 2 ^ 8 from rfl, ← Int.pow_add, show 24 - 8 * j + 8 = 32 - 8 * j from by omega]
  rw [e, show 32 - 8 * (j + 1) = 24 - 8 * j from by omega, Int.pow_succ]
  generalize x / 2 ^ (24 - 8 * j) = y
  have : V * (256 ^ j * 256) = 256 * (V * 256 ^ j) := by grind
  omega

set_option maxHeartbeats 4000000 in
set_option maxRecDepth 100000 in
theorem refBytes_any (ao : Option Addr) (n c b o : Nat) (l : List Int) (w : World) (hl : l.length = n) (hbig : n ≤ 274877906944) (wl : Words l) (ha : At w ao b o l) :
    Calls Tryz.prog 139 #[.slice ao n c] w fun e w' => ∃ v r, e = .returned v ∧ MineB w' w.heap.size v r ∧ IsB r (val l) ∧ r.length ≤ 8 * n ∧ Below w.heap.size w w' := by
  obtain ⟨i0, hi0, hz0, hz1, hz2⟩ := info_parts info_u8
  go_enter Tryz.func139, Tryz.ntmps139
  go_wp2_with fail
  refine (digits_any ao n c b o l w hl hbig wl ha).mono ?_
  rintro e w1 ⟨v, d, rfl, hn1, hd, hdn, hdv, hdl, hb1⟩
  obtain ⟨ad, bd, od, cd, rfl, hcd, _, hat, _⟩ := hn1.is
  have hsz1 := hb1.size
  have HDV := (show Hid _ from hdv)
  have HDN := (show Hid _ from hdn)
  clear hdv hdn hn1
  obtain ⟨N, hN⟩ : ∃ N, d.length = N := ⟨_, rfl⟩
  have HN := (show Hid _ from hN)
  rw [hN] at hcd hdl ⊢
  clear hN
  go_wp2_with fail
  go_loopw [4, 5] (fun tz ti wr => ∃ (m : Nat) (r : List Int), m ≤ N ∧ ti = .int .i64 ((m : Int) - 1) ∧ MineB wr w1.heap.size tz r ∧ IsB r (v32 (d.drop m)) ∧ r.length ≤ 4 * (N - m) ∧ Below w1.heap.size w1 wr) (fun _ ti _ => (intOf ti + 1).toNat)
  case atStart => exact ⟨N, [], Nat.le_refl _, rfl, World.ownsRow_nil _ _ _ _, ⟨fun x hx => by simp at hx, fun h => absurd rfl h, by rw [List.drop_of_length_le (by rw [HN.out]; exact Nat.le_refl _)]; rfl⟩, by simp, Below.refl _ _⟩
  case round =>
    obtain ⟨m, r, hm, rfl, hmr, hIr, hrl, hbe⟩ := hrel
    by_cases hlt : 0 < m
    · obtain ⟨i, rfl⟩ : ∃ i, m = i + 1 := ⟨m - 1, by omega⟩
      rcases hat.loc with e | rfl
      · subst e; have := HN.out; simp at this; omega
      have hii : ((i + 1 : Nat) : Int) - 1 = i := by omega
      rw [hii]
      have hi1 : (i : Int) < N := by omega
      have hx := hd.nth i
      have hlb := cell_lt (hat.cell i (by rw [HN.out]; omega))
      have HV : Hid (v32 (d.drop i) = nth d i + 4294967296 * v32 (d.drop (i + 1))) := v32_drop (by rw [HN.out]; omega)
      have HC : Hid (∀ wz, Below w1.heap.size w1 wz → wz.cell? ⟨bd, od + i, none⟩ = some (.int .u64 (nth d i))) := fun wz hz => by
        rw [hz.cell (p := ⟨bd, od + i, none⟩) hlb]; exact hat.cell i (by rw [HN.out]; omega)
      generalize v32 (d.drop (i + 1)) = V at *
      generalize nth d i = x at *
      go_wp2_with fail
      go_loopw [4, 6] (fun tz tk wr => ∃ (j : Nat) (r : List Int), j ≤ 4 ∧ tk = .int .i64 (24 - 8 * (j : Int)) ∧ MineB wr w1.heap.size tz r ∧ IsB r (V * 256 ^ j + x / 2 ^ (32 - 8 * j)) ∧ r.length ≤ 4 * (N - (i + 1)) + j ∧ Below w1.heap.size w1 wr) (fun _ tk _ => (intOf tk + 8).toNat)
      case atStart => exact ⟨0, r, by decide, rfl, hmr, by rw [show x / 2 ^ (32 - 8 * 0) = 0 from Int.ediv_eq_zero_of_lt hx.1 hx.2]; simpa using hIr, by omega, hbe⟩
      case round =>
        clear hmr hIr hrl hbe
        obtain ⟨j, r, hj, rfl, hmr, hIr, hrl, hbe⟩ := hrel
        obtain ⟨az, cz, rfl⟩ := hmr.shape
        by_cases hj4 : j < 4
        · obtain ⟨sh, hsh⟩ : ∃ sh : Nat, (24 : Int) - 8 * j = sh := ⟨24 - 8 * j, by omega⟩
          have hsh2 : 24 - 8 * j = sh := by omega
          have hst := byte_step V x j hj4
          rw [hsh2] at hst
          have HST := (show Hid _ from hst)
          have HSH := (show Hid _ from hsh2)
          clear hst hsh2
          have hc0 := Int.emod_nonneg (x / 2 ^ sh) (show (256 : Int) ≠ 0 by decide)
          have hc1 := Int.emod_lt_of_pos (x / 2 ^ sh) (show (0 : Int) < 256 by decide)
          have hcell := HC.out wr hbe
          have hszr := hbe.size
          have hsh64 : sh ≤ 24 := by have := HSH.out; omega
          obtain ⟨C, hC⟩ : ∃ C, x / 2 ^ sh % 256 = C := ⟨_, rfl⟩
          rw [hC] at hc0 hc1 HST
          by_cases hskip : r = [] ∧ C = 0
          · obtain ⟨rfl, rfl⟩ := hskip
            have HI := hIr.zero rfl
            rw [HST.out] at HI
            have HI2 := (show Hid _ from HI)
            clear HI
            go_wp2
            go_roundw
            case rel => exact ⟨j + 1, [], by omega, by rw [show (24 - 8 * ((j + 1 : Nat) : Int)) = (sh : Int) - 8 from by omega], hmr, HI2.out, by simp, hbe⟩
            case measure => simp [intOf]; omega
          · by_cases hr0 : r = []
            · have hC0 : C ≠ 0 := fun e => hskip ⟨hr0, e⟩
              have hCb : (C != 0) = true := by rw [bne_iff_ne]; exact hC0
              have hrl0 : r.length = 0 := by rw [hr0]; rfl
              have hown : wr.ownsRow w1.heap.size 5 1 (.slice az r.length cz) r.length (r.map (Value.int .u8)) := hmr
              have hnn : r.length ≤ 4398046511104 := by omega
              have HIa := hIr.snoc (c := C) hc0 hc1 (.inr hC0)
              rw [HST.out] at HIa
              have HI2 := (show Hid _ from HIa)
              clear HIa
              generalize hRL : r.length = RL at *
              have HRL := (show Hid _ from hRL)
              clear hRL
              have hRL0 : RL ≤ 0 := by have := hrl0; omega
              clear hrl0 hr0 hskip
              go_wp2_with (at_builtin; refine wpList_append_own _ rfl _ _ 49 rfl w1.heap.size 5 i0 (.int .u8 0) 1 1 under_bytes hi0 hz0 hz1 hz2 rfl (by decide) _ _ _ rfl (hown.alloc _) ⟨wr.heap.size, 0, none⟩ 1 1 [.int .u8 C] rfl rfl ?ca1 ?ca2 ?ca3 ?ca4 ?ca5 ?_)
              case ca1 => exact cell_one_new _ _ _
              case ca2 => intro u hu; simp at hu; subst hu; rfl
              case ca3 => unfold maxLen; omega
              case ca4 => omega
              case ca5 => simp; omega
              intro v' w2 hown' hgrow _
              have hM : MineB w2 w1.heap.size v' (r ++ [C]) := by
                unfold MineB
                rw [List.length_append, HRL.out, List.map_append]; exact hown'
              have HB : Below w1.heap.size w1 w2 := (hbe.alloc (by omega) _).grown hgrow (by simp; omega) (own_ge hmr)
              have hlr : (r ++ [C]).length ≤ 4 * (N - (i + 1)) + (j + 1) := by rw [List.length_append, HRL.out]; simp; omega
              clear hown' hgrow hown hmr hbe hIr
              go_wp2
              go_roundw
              case rel => exact ⟨j + 1, r ++ [C], by omega, by rw [show (24 - 8 * ((j + 1 : Nat) : Int)) = (sh : Int) - 8 from by omega], hM, HI2.out, hlr, HB⟩
              case measure => simp [intOf]; omega
            · have hrp : 0 < r.length := Nat.pos_of_ne_zero fun e => hr0 (List.eq_nil_of_length_eq_zero e)
              have hown : wr.ownsRow w1.heap.size 5 1 (.slice az r.length cz) r.length (r.map (Value.int .u8)) := hmr
              have hnn : r.length ≤ 4398046511104 := by omega
              have HIa := hIr.snoc (c := C) hc0 hc1 (.inl hr0)
              rw [HST.out] at HIa
              have HI2 := (show Hid _ from HIa)
              clear HIa
              generalize hRL : r.length = RL at *
              have HRL := (show Hid _ from hRL)
              clear hRL
              clear hr0 hskip
              go_wp2_with (at_builtin; refine wpList_append_own _ rfl _ _ 49 rfl w1.heap.size 5 i0 (.int .u8 0) 1 1 under_bytes hi0 hz0 hz1 hz2 rfl (by decide) _ _ _ rfl (hown.alloc _) ⟨wr.heap.size, 0, none⟩ 1 1 [.int .u8 C] rfl rfl ?cb1 ?cb2 ?cb3 ?cb4 ?cb5 ?_)
              case cb1 => exact cell_one_new _ _ _
              case cb2 => intro u hu; simp at hu; subst hu; rfl
              case cb3 => unfold maxLen; omega
              case cb4 => omega
              case cb5 => simp; omega
              intro v' w2 hown' hgrow _
              have hM : MineB w2 w1.heap.size v' (r ++ [C]) := by
                unfold MineB
                rw [List.length_append, HRL.out, List.map_append]; exact hown'
              have HB : Below w1.heap.size w1 w2 := (hbe.alloc (by omega) _).grown hgrow (by simp; omega) (own_ge hmr)
              have hlr : (r ++ [C]).length ≤ 4 * (N - (i + 1)) + (j + 1) := by rw [List.length_append, HRL.out]; simp; omega
              clear hown' hgrow hown hmr hbe hIr
              go_wp2
              go_roundw
              case rel => exact ⟨j + 1, r ++ [C], by omega, by rw [show (24 - 8 * ((j + 1 : Nat) : Int)) = (sh : Int) - 8 from by omega], hM, HI2.out, hlr, HB⟩
              case measure => simp [intOf]; omega
        · have hj5 : j = 4 := by omega
          subst hj5
          have HI : IsB r (v32 (d.drop i)) := by
            rw [HV.out]
            have := hIr
            rw [show (256 : Int) ^ 4 = 4294967296 from by decide, show (2 : Int) ^ (32 - 8 * 4) = 1 from by decide, Int.ediv_one] at this
            rw [show x + 4294967296 * V = V * 4294967296 + x from by omega]; exact this
          have HI2 := (show Hid _ from HI)
          clear HI hIr
          go_wp2
          go_roundw
          case rel => exact ⟨i, r, by omega, rfl, hmr, HI2.out, by omega, hbe⟩
          case measure => simp [intOf]
    · have hm0 : m = 0 := by omega
      subst hm0
      rw [List.drop_zero, HDV.out] at hIr
      have HI2 := (show Hid _ from hIr)
      have hM : MineB wr w.heap.size _ r := minB_mono hmr hsz1
      have HB := hb1.trans (hbe.mono hsz1)
      clear hIr hmr
      go_wp2
      go_ret
      exact ⟨_, r, rfl, hM, HI2.out, by omega, HB⟩
end Go.Proofs.YtenlhceceplldaaGreat

namespace Go.Proofs.YtenlhceceplldaaGreat
open Go.RowKit Lim

/-- only lists of bytes above B are changed -/
structure Byt (B : Nat) (w w' : World) : Prop where
  os : w'.os = w.os
  tape : w'.tape = w.tape
  output : w'.output = w.output
  size : w.heap.size ≤ w'.heap.size
  low : ∀ k : Nat, k < B → k < w.heap.size → w'.heap[k]? = w.heap[k]?
  typ : ∀ (k : Nat) (c : Array Value) (t : TypeId) (f : Nat × Nat), w.heap[k]? = some (Obj.cells c t f) → t ≠ 5 → w'.heap[k]? = w.heap[k]?
theorem Byt.of {B : Nat} {w w' : World} (h : Below w.heap.size w w') : Byt B w w' := ⟨h.os, h.tape, h.output, h.size, fun k _ hk => h.block k hk, fun k _ _ _ hc _ => h.block k (lt_of_block hc)⟩
theorem Byt.trans {B : Nat} {w w1 w2 : World} (h : Byt B w w1) (h' : Byt B w1 w2) : Byt B w w2 := ⟨h'.os.trans h.os, h'.tape.trans h.tape, h'.output.trans h.output, Nat.le_trans h.size h'.size,
  fun k hk hs => (h'.low k hk (Nat.lt_of_lt_of_le hs h.size)).trans (h.low k hk hs), fun k c t f hc ht => (h'.typ k c t f (by rw [h.typ k c t f hc ht]; exact hc) ht).trans (h.typ k c t f hc ht)⟩
theorem Byt.grown {B n : Nat} {w w' : World} {v : Value} {xs : List Value} (ho : w.ownsRow B 5 1 v n xs) (h : w.grownBy w' v.ownBlock) : Byt B w w' := by
  refine ⟨h.os, h.tape, h.output, h.size, fun k hk hs => h.block k hs fun e => ?_, fun k c t f hc ht => h.block k (lt_of_block hc) fun e => ?_⟩
  · have := (ho.lt k e.symm).1
    omega
  · rcases ho.2 with ⟨rfl, _⟩ | ⟨g, cap, cur, rfl, _, hh, _⟩
    · cases e
    · simp [Value.ownBlock] at e
      subst e
      rw [hh] at hc
      cases hc
      exact ht rfl
theorem Byt.below {B A : Nat} {w0 w w' : World} (h : Byt B w w') (b : Below A w0 w) (hA : A ≤ B) (hs : A ≤ w0.heap.size) : Below A w0 w' :=
  ⟨h.os.trans b.os, h.tape.trans b.tape, h.output.trans b.output, Nat.le_trans b.size h.size, fun k hk => (h.low k (by omega) (Nat.lt_of_lt_of_le (Nat.lt_of_lt_of_le hk hs) b.size)).trans (b.block k hk)⟩
theorem Pc.byt {B : Nat} {w w' : World} {p : Option Addr} {ps : List Int} (h : Pc w p ps) (b : Byt B w w') : Pc w' p ps := by
  induction h using Pc.ind with
  | nil => exact .nil
  | cons hb hl _ ih => exact .cons ⟨by rw [b.typ _ _ _ _ hb.blk (by decide)]; exact hb.blk⟩ hl ih
theorem WrO.byt {B : Nat} {w w' : World} {g : Nat} {o : Option (List Int)} {N : Nat} (h : WrO w g o N) (b : Byt B w w') : WrO w' g o N := by
  obtain ⟨e, L, X, h1⟩ := h.ex
  obtain ⟨p, ps, lat, u, X', P, hu, hL⟩ := X.ex
  exact ⟨e, L, ⟨p, ps, lat, u, ⟨X'.len, by rw [b.typ _ _ _ _ X'.blk (by decide)]; exact X'.blk⟩, P.byt b, hu, hL⟩, h1⟩
theorem RdA.byt {B : Nat} {w w' : World} {g bb : Nat} {err : Int} {L : List Int} (h : RdA w g bb err L) (hb : L = [] ∨ bb < B) (b : Byt B w w') : RdA w' g bb err L := by
  obtain ⟨ao, n, c, X, A⟩ := h.ex
  obtain ⟨o, h1, h2, h3, h4, h5⟩ := A.ex
  refine ⟨ao, n, c, ⟨by rw [b.typ _ _ _ _ X.blk (by decide)]; exact X.blk⟩, o, h1, h2, h3, h4, h5.loc, fun i hi => ?_⟩
  have hc := h5.cell i hi
  rcases hb with e | e
  · subst e; simp at hi
  · rw [World.cell?_of_block (w := w) (b.low bb e (cell_lt hc))]
    exact hc
/-- bytes that may be written over -/
structure ByR (w : World) (g n : Nat) : Prop where
  ex : ∃ cur, w.heap[g]? = some (.cells cur 5 (0, 0)) ∧ n ≤ cur.size ∧ ∀ i, i < n → ∃ x, cur[i]? = some (.int .u8 x)
theorem MineB.byr {w : World} {B : Nat} {v : Value} {l : List Int} (h : MineB w B v l) : v = .slice none 0 0 ∧ l = [] ∨ ∃ g c, v = .slice (some ⟨g, 0, none⟩) l.length c ∧ B ≤ g ∧ g < w.heap.size ∧ ByR w g l.length := by
  obtain ⟨_, h2⟩ := h
  rcases h2 with ⟨rfl, h0⟩ | ⟨g, cap, cur, rfl, hB, hh, hle, hmx, hsz, htk⟩
  · exact .inl ⟨rfl, List.eq_nil_of_length_eq_zero h0⟩
  · refine .inr ⟨g, cap, rfl, hB, lt_of_block hh, cur, hh, by omega, fun i hi => ⟨nth l i, ?_⟩⟩
    have h3 : (cur.toList.take (l.length * 1))[i]? = some (.int .u8 (nth l i)) := by
      rw [htk, List.getElem?_map, List.getElem?_eq_getElem hi, nth_eq hi]
      rfl
    rw [List.getElem?_take] at h3
    split at h3
    · rw [← Array.getElem?_toList]
      exact h3
    · cases h3
theorem Box.byr {w : World} {g : Nat} {l : List Int} (h : Box w g (l.map (Value.int .u8)) 5) : ByR w g l.length := ⟨_, h.blk, by simp, fun i hi => ⟨nth l i, by simp [hi, nth_eq hi]⟩⟩
theorem ByR.cell {w : World} {g n i : Nat} (h : ByR w g n) (hi : i < n) : ∃ x, w.cell? ⟨g, i, none⟩ = some (.int .u8 x) ∧ w.frozen? ⟨g, i, none⟩ = false := by
  obtain ⟨cur, h1, h2, h3⟩ := h.ex
  obtain ⟨x, hx⟩ := h3 i hi
  exact ⟨x, by simp [World.cell?, h1, hx], by simp [World.frozen?, h1]⟩
theorem ByR.set {w : World} {g n i : Nat} (h : ByR w g n) (y : Int) : ByR (w.setCell ⟨g, i, none⟩ (.int .u8 y)) g n := by
  obtain ⟨cur, h1, h2, h3⟩ := h.ex
  refine ⟨cur.setIfInBounds i (.int .u8 y), ?_, by simpa using h2, fun j hj => ?_⟩
  · simp only [World.setCell, Array.getElem?_modify, if_true, h1]
    simp
  · by_cases e : i = j
    · subst e
      exact ⟨y, by rw [Array.getElem?_setIfInBounds]; simp; omega⟩
    · obtain ⟨x, hx⟩ := h3 j hj
      exact ⟨x, by rw [Array.getElem?_setIfInBounds, if_neg e]; exact hx⟩
set_option maxHeartbeats 2000000 in
set_option maxRecDepth 100000 in
theorem spoilB {w : World} {g n c : Nat} (h : ByR w g n) (hn : n ≤ 1099511627776) :
    Calls Tryz.prog 31 #[.slice (some ⟨g, 0, none⟩) n c] w fun e w' => e = .returned (.tuple #[]) ∧ But g w w' := by
  have HR := (show Hid _ from h)
  have hn' : (n : Int) ≤ 1099511627776 := by omega
  clear h
  go_enter Tryz.func31, Tryz.ntmps31
  go_wp2_with fail
  go_loopw [2] (fun ti wr => ∃ k : Nat, k ≤ n ∧ ti = .int .i64 k ∧ ByR wr g n ∧ But g w wr) (fun ti _ => n - (intOf ti).toNat)
  case atStart => exact ⟨0, Nat.zero_le _, rfl, HR.out, But.refl _ _⟩
  case round =>
    obtain ⟨k, hk, rfl, hR, hB⟩ := hrel
    by_cases hlt : k < n
    · obtain ⟨x, c1, f1⟩ := hR.cell hlt
      have HR2 := (show Hid _ from hR)
      have HB2 := (show Hid _ from hB)
      have hlt' : (k : Int) < n := by omega
      clear hR hB
      go_wp2
      refine ⟨⟨k + 1, by omega, by go_num, HR2.out.set _, ?_⟩, by simp [intOf]; omega⟩
      exact HB2.out.trans ⟨rfl, rfl, rfl, by rw [size_set]; exact Nat.le_refl _, fun k _ h2 => Below.heap_setCell _ _ _ k h2⟩
    · obtain rfl : k = n := by omega
      have HB2 := (show Hid _ from hB)
      clear hR hB
      go_wp2
      go_end0
      exact ⟨rfl, HB2.out⟩
set_option maxRecDepth 100000 in
theorem spoilB0 {w : World} {c : Nat} {ao : Option Addr} :
    Calls Tryz.prog 31 #[.slice ao 0 c] w fun e w' => e = .returned (.tuple #[]) ∧ w' = w := by
  go_enter Tryz.func31, Tryz.ntmps31
  go_wp2_with fail
  go_loop [2] (fun ti => ti = .int .i64 0) (fun _ => 0)
  case atStart => rfl
  case round =>
    subst hrel
    go_wp2
    go_end0
    exact ⟨rfl, rfl⟩
theorem be_mod (m : Nat) {x : Int} (hx : 0 ≤ x) : be m (x % 256 ^ m) = be m x := by
  have h0 : (0 : Int) < 256 ^ m := Int.pow_pos (by decide)
  refine bval_inj (be_oct _ _) (be_oct _ _) (by rw [be_length, be_length]) ?_
  rw [be_val m hx, be_val m (Int.emod_nonneg _ (by omega)), Int.emod_emod]
set_option maxHeartbeats 2000000 in
set_option maxRecDepth 100000 in
theorem put_any {w : World} {B n : Nat} {x : Int} {v : Value} {L : List Int} (hM : MineB w B v L) (hB : B ≤ w.heap.size) (hn : n ≤ 8) (hL : L.length ≤ 1099511627776) :
    Calls Tryz.prog 138 #[v, .int .i64 n, .int .u64 x] w fun e w' => ∃ v', e = .returned v' ∧ MineB w' B v' (L ++ be n x) ∧ Byt B w w' := by
  obtain ⟨i0, hi, hz0, hz1, hz2⟩ := info_parts info_u8
  have HI : Hid (Tryz.prog.info? 5 = some i0 ∧ i0.zero = some (.int .u8 0) ∧ i0.size = 1 ∧ i0.bytes = 1) := ⟨hi, hz0, hz1, hz2⟩
  have HM := (show Hid _ from hM)
  have HBS := (show Hid _ from hB)
  have hn' : (n : Int) ≤ 8 := by omega
  clear hi hz0 hz1 hz2 hM hB
  go_enter Tryz.func138, Tryz.ntmps138
  go_wp2_with fail
  go_loopw [0, 7] (fun tv ti wr => ∃ j : Nat, j ≤ n ∧ ti = .int .i64 ((n : Int) - 1 - j) ∧ MineB wr B tv (L ++ (be n x).take j) ∧ Byt B w wr) (fun _ ti _ => (intOf ti + 1).toNat)
  case atStart => exact ⟨0, Nat.zero_le _, by simp, by rw [List.take_zero, List.append_nil]; exact HM.out, Byt.of (Below.refl _ _)⟩
  case round =>
    obtain ⟨j, hj, rfl, hMj, hBj⟩ := hrel
    by_cases hlt : j < n
    · obtain ⟨h, hh⟩ : ∃ h : Nat, (n : Int) - 1 - j = h := ⟨n - 1 - j, by omega⟩
      have hh' : n - 1 - j = h := by omega
      have hh8 : h < 8 := by omega
      have HD : Hid ((be n x).take (j + 1) = (be n x).take j ++ [x / 2 ^ (8 * h) % 256]) := by
        have e1 : (256 : Int) ^ h = 2 ^ (8 * h) := by rw [Int.pow_mul]; rfl
        show _ = _
        rw [take_succ_nth (by rw [be_length]; exact hlt), be_nth n x j hlt, hh', e1]
      obtain ⟨M, hMd⟩ : ∃ M, M = L ++ (be n x).take j := ⟨_, rfl⟩
      rw [← hMd] at hMj
      obtain ⟨q, hq⟩ : ∃ q, M.length = q := ⟨_, rfl⟩
      have hqL : q ≤ 1099511627776 + 8 := by
        have : M.length = L.length + ((be n x).take j).length := by rw [hMd, List.length_append]
        rw [List.length_take, be_length] at this
        omega
      have HMD := (show Hid _ from hMd)
      have HQ := (show Hid _ from hq)
      obtain ⟨az, cz, rfl⟩ := hMj.shape
      have hal := below_alloc wr (.cells #[.int .u8 (x / 2 ^ (8 * h) % 256)] 5)
      have hown : (wr.alloc (.cells #[.int .u8 (x / 2 ^ (8 * h) % 256)] 5)).ownsRow B 5 1 (.slice az M.length cz) M.length (M.map (Value.int .u8)) := mineB_keep hMj hal
      rw [hq] at hown ⊢
      have HBJ := (show Hid _ from hBj.trans (Byt.of hal))
      have HSZ : Hid (B ≤ (wr.alloc (.cells #[.int .u8 (x / 2 ^ (8 * h) % 256)] 5)).heap.size) := Nat.le_trans HBS.out (Nat.le_trans hBj.size hal.size)
      have hsrc : ∀ q u, [Value.int .u8 (x / 2 ^ (8 * h) % 256)][q]? = some u → (wr.alloc (.cells #[.int .u8 (x / 2 ^ (8 * h) % 256)] 5)).cell? ((⟨wr.heap.size, 0, none⟩ : Addr).add q) = some u := fun q u hu => by
        match q, hu with
        | 0, hu =>
          cases hu
          have hb := (box_new wr [Value.int .u8 (x / 2 ^ (8 * h) % 256)] 5).blk
          simp only [World.cell?, Addr.add, if_true, hb]
          rfl
        | q + 1, hu => simp at hu
      clear hMj hBj hal hh' hq hMd
      rw [hh]
      go_wp2_with (at_builtin; refine wpList_append_own _ rfl _ _ 49 rfl B 5 i0 (.int .u8 0) 1 1 under_bytes HI.out.1 HI.out.2.1 HI.out.2.2.1 HI.out.2.2.2 rfl (by decide) _ _ _ rfl hown ⟨wr.heap.size, 0, none⟩ 1 1 [Value.int .u8 (x / 2 ^ (8 * h) % 256)] rfl rfl ?c1 ?c2 ?c3 ?c4 ?c5 ?_)
      case c1 => exact hsrc
      case c2 => intro u hu; rw [List.mem_singleton] at hu; subst hu; rfl
      case c3 => unfold maxLen; omega
      case c4 => omega
      case c5 => exact HSZ.out
      intro v' w2 hown' hgrow _
      have HBY := (show Hid _ from HBJ.out.trans (Byt.grown hown hgrow))
      have HM2 : Hid (MineB w2 B v' (L ++ (be n x).take (j + 1))) := by
        show w2.ownsRow _ _ _ _ _ _
        have e : (L ++ (be n x).take (j + 1)) = M ++ [x / 2 ^ (8 * h) % 256] := by rw [HD.out, HMD.out, List.append_assoc]
        rw [e, List.length_append, HQ.out, List.map_append]
        exact hown'
      clear hown hown' hgrow hsrc
      go_wp2
      exact ⟨⟨j + 1, by omega, by go_num, HM2.out, HBY.out⟩, by simp [intOf]⟩
    · obtain rfl : j = n := by omega
      have HM2 : Hid (MineB wr B u0 (L ++ be j x)) := by
        have := hMj
        rw [List.take_of_length_le (by rw [be_length]; exact Nat.le_refl _)] at this
        exact this
      have HBY := (show Hid _ from hBj)
      have e1 : (j : Int) - 1 - j = -1 := by omega
      rw [e1]
      clear hMj hBj
      go_wp2
      go_ret
      exact ⟨_, rfl, HM2.out, HBY.out⟩
end Go.Proofs.YtenlhceceplldaaGreat

namespace Go.Proofs.YtenlhceceplldaaGreat
open Go.RowKit Lim

theorem AtB.byt {B : Nat} {w w' : World} {ao : Option Addr} {b o : Nat} {l : List Int} (h : AtB w ao b o l) (hb : l = [] ∨ b < B) (k : Byt B w w') : AtB w' ao b o l :=
  ⟨h.loc, fun i hi => by
    have hc := h.cell i hi
    rcases hb with e | e
    · subst e; simp at hi
    · rw [World.cell?_of_block (w := w) (k.low b e (cell_lt hc))]
      exact hc⟩
theorem atB_src {w : World} {x : Addr} {b o : Nat} {l : List Int} (h : AtB w (some x) b o l) : ∀ j u, (l.map (Value.int .u8))[j]? = some u → w.cell? (x.add j) = some u := by
  intro j u hu
  rw [List.getElem?_map] at hu
  rcases Nat.lt_or_ge j l.length with hj | hj
  · rw [List.getElem?_eq_getElem hj] at hu
    simp at hu
    subst hu
    have hx : x = ⟨b, o, none⟩ := by
      rcases h.loc with e | e
      · subst e; simp at hj
      · simpa using e
    subst hx
    have := h.cell j hj
    rw [nth_eq hj] at this
    rw [addr_add]
    exact this
  · rw [List.getElem?_eq_none hj] at hu; simp at hu
theorem mineB_app {w : World} {B n : Nat} {v : Value} {L l : List Int} (h : w.ownsRow B 5 1 v n (L.map (Value.int .u8) ++ l.map (Value.int .u8))) (hn : n = L.length + l.length) : MineB w B v (L ++ l) := by
  unfold MineB
  rw [List.length_append, List.map_append, ← hn]
  exact h
set_option maxHeartbeats 2000000 in
set_option maxRecDepth 100000 in
theorem refNat4 {w : World} {B n c : Nat} {ao : Option Addr} {v : Value} {L : List Int} {V : Int} (hM : MineB w B v L) (hB : B ≤ w.heap.size) (hL : L.length ≤ 1099511627776) (A : NatA w ao n c V) (hn : n ≤ 3000) :
    Calls Tryz.prog 178 #[v, .slice ao n c] w fun e w' => ∃ v', e = .returned (.tuple #[v', .bool (decide ((natB V).length < 256))]) ∧ ((natB V).length < 256 → MineB w' B v' (L ++ cntd 1 (natB V))) ∧ Byt B w w' := by
  obtain ⟨i0, hi, hz0, hz1, hz2⟩ := info_parts info_u8
  have HI : Hid (Tryz.prog.info? 5 = some i0 ∧ i0.zero = some (.int .u8 0) ∧ i0.size = 1 ∧ i0.bytes = 1) := ⟨hi, hz0, hz1, hz2⟩
  have hV := A.nonneg
  obtain ⟨b, o, l, h1, h2, h3, h4, rfl⟩ := A.ex
  have HM := (show Hid _ from hM)
  have HBS := (show Hid _ from hB)
  have HV := (show Hid _ from hV)
  have t := refBytes_any ao n c b o l w h1 (by omega) h3 h4
  clear hi hz0 hz1 hz2 A h1 h2 h3 h4 hM hB hV
  obtain ⟨r, hr⟩ : ∃ r, natB (val l) = r := ⟨_, rfl⟩
  obtain ⟨q, hq⟩ : ∃ q, r.length = q := ⟨_, rfl⟩
  have HR := (show Hid _ from hr)
  have HQ := (show Hid _ from hq)
  rw [hr, hq]
  clear hr hq
  by_cases hlt : q < 256
  · rw [decide_eq_true hlt]
    have hlt' : (q : Int) < 256 := by omega
    have hq2 : ((255 : Int) < q) = False := eq_false (by omega)
    clear hlt
    go_enter Tryz.func178, Tryz.ntmps178
    go_wp2_with fail
    refine t.mono ?_
    rintro e w1 ⟨v1, r', rfl, hM1, hI, -, hB1⟩
    obtain rfl : r = r' := by rw [← HR.out]; exact natB_unique HV.out hI
    obtain ⟨a1, c1, rfl⟩ := hM1.shape
    have hM1' := hM1
    rw [HQ.out] at hM1 ⊢
    have HM1 := (show Hid (MineB w1 w.heap.size (.slice a1 q c1) r) from hM1)
    have HB1 := (show Hid _ from hB1)
    have hal := below_alloc w1 (.cells #[.int .u8 (q : Int)] 5)
    have hown : (w1.alloc (.cells #[.int .u8 (q : Int)] 5)).ownsRow B 5 1 v L.length (L.map (Value.int .u8)) := mineB_keep (mineB_keep HM.out HB1.out) hal
    have HAL := (show Hid _ from joinB HB1.out hal)
    have hsrc : ∀ j u, [Value.int .u8 (q : Int)][j]? = some u → (w1.alloc (.cells #[.int .u8 (q : Int)] 5)).cell? ((⟨w1.heap.size, 0, none⟩ : Addr).add j) = some u := fun j u hu => by
      match j, hu with
      | 0, hu =>
        cases hu
        have hb := (box_new w1 [Value.int .u8 (q : Int)] 5).blk
        simp only [World.cell?, Addr.add, if_true, hb]
        rfl
      | j + 1, hu => simp at hu
    have HM1A : Hid (MineB (w1.alloc (.cells #[.int .u8 (q : Int)] 5)) w.heap.size (.slice a1 q c1) r) := mineB_keep HM1.out hal
    clear hal t hI hB1 hM1 hM1'
    go_wp2_with (at_builtin; refine wpList_append_own _ rfl (.tmp 13) (.tmp 17) 49 rfl B 5 i0 (.int .u8 0) 1 1 under_bytes HI.out.1 HI.out.2.1 HI.out.2.2.1 HI.out.2.2.2 rfl (by decide) _ _ _ rfl hown ⟨w1.heap.size, 0, none⟩ 1 1 [Value.int .u8 (q : Int)] rfl rfl ?c1 ?c2 ?c3 ?c4 ?c5 ?_)
    case c1 => exact hsrc
    case c2 => intro u hu; rw [List.mem_singleton] at hu; subst hu; rfl
    case c3 => unfold maxLen; omega
    case c4 => omega
    case c5 => exact Nat.le_trans HBS.out HAL.out.size
    intro v2 w2 hown2 hgrow _
    obtain ⟨M, hMd⟩ : ∃ M, M = L ++ [(q : Int)] := ⟨_, rfl⟩
    have hM2 : MineB w2 B v2 M := by
      rw [hMd]
      exact mineB_app (l := [(q : Int)]) hown2 (by simp)
    have hownM : w2.ownsRow B 5 1 v2 M.length (M.map (Value.int .u8)) := hM2
    have HMD := (show Hid _ from hMd)
    have HLEN : Hid (M.length = L.length + 1) := by show _ = _; rw [hMd]; simp
    have HBY := (show Hid _ from (Byt.of (B := B) HAL.out).trans (Byt.grown hown hgrow))
    have hlow : ∀ k, v.ownBlock = some k → k < w.heap.size := fun k hk => ((show w.ownsRow B 5 1 v L.length (L.map (Value.int .u8)) from HM.out).lt k hk).2
    have HS2 : Hid (∃ b o, AtB w2 a1 b o r) := by
      obtain ⟨b9, a9, c9, e9, A9⟩ := HM1A.out.bya (by rw [← HR.out]; exact natB_oct _)
      injection e9 with e1 e2 e3
      subst e1
      rcases A9 with ⟨hge, o9, -, -, -, -, A9⟩
      refine ⟨b9, o9, A9.loc, fun i hi => hgrow.cell (A9.cell i hi) fun e => ?_⟩
      have := hlow b9 e.symm
      omega
    clear hown hown2 hgrow hsrc hM2 hMd hlow
    cases a1 with
    | none =>
      have e0 : q = 0 ∧ c1 = 0 := by
        rcases HM1.out.2 with ⟨h, -⟩ | ⟨_, _, _, h, _⟩
        · injection h with h1 h2 h3
          exact ⟨h2, h3⟩
        · cases h
      obtain ⟨rfl, rfl⟩ := e0
      go_wp2_with (at_builtin; refine wpList_append_own_none rfl (.tmp 18) (.tmp 19) 49 rfl B 5 i0 1 under_bytes HI.out.1 _ _ _ rfl hownM rfl ?_)
      have HM9 : Hid (MineB w2 B v2 (L ++ cntd 1 r)) := by
        have hr0 : r = [] := List.eq_nil_of_length_eq_zero HQ.out
        have e : L ++ cntd 1 r = M := by rw [HMD.out, hr0]; rfl
        rw [e]
        exact hownM
      clear hownM
      go_wp2
      go_ret2
      exact ⟨_, rfl, fun _ => HM9.out, HBY.out⟩
    | some x =>
      have hsrc2 : ∀ j u, (r.map (Value.int .u8))[j]? = some u → w2.cell? (x.add j) = some u := by
        obtain ⟨b9, o9, A9⟩ := HS2.out
        exact atB_src A9
      go_wp2_with (at_builtin; refine wpList_append_own _ rfl (.tmp 18) (.tmp 19) 49 rfl B 5 i0 (.int .u8 0) 1 1 under_bytes HI.out.1 HI.out.2.1 HI.out.2.2.1 HI.out.2.2.2 rfl (by decide) _ _ _ rfl hownM x q c1 (r.map (Value.int .u8)) rfl (by rw [List.length_map, HQ.out, Nat.mul_one]) ?c1 ?c2 ?c3 ?c4 ?c5 ?_)
      case c1 => exact hsrc2
      case c2 => exact ints_oneCell _ _
      case c3 => unfold maxLen; have := HLEN.out; omega
      case c4 => have := HLEN.out; omega
      case c5 => exact Nat.le_trans HBS.out HBY.out.size
      intro v3 w3 hown3 hgrow3 _
      have HM9 : Hid (MineB w3 B v3 (L ++ cntd 1 r)) := by
        have h9 := mineB_app (L := M) (l := r) hown3 (by rw [HQ.out])
        have e : L ++ cntd 1 r = M ++ r := by
          unfold cntd
          rw [HMD.out, HQ.out, List.append_assoc]
          congr 2
          show [(q : Int) / 256 ^ 0 % 256] = _
          rw [show (256 : Int) ^ 0 = 1 by decide, Int.ediv_one, Int.emod_eq_of_lt (by omega) hlt']
        rw [e]
        exact h9
      have HBY2 := (show Hid _ from HBY.out.trans (Byt.grown hownM hgrow3))
      clear hownM hown3 hgrow3 hsrc2
      go_wp2
      go_ret2
      exact ⟨_, rfl, fun _ => HM9.out, HBY2.out⟩
  · rw [decide_eq_false hlt]
    have hq2 : ((255 : Int) < q) = True := eq_true (by omega)
    go_enter Tryz.func178, Tryz.ntmps178
    go_wp2_with fail
    refine t.mono ?_
    rintro e w1 ⟨v1, r', rfl, hM1, hI, -, hB1⟩
    obtain rfl : r = r' := by rw [← HR.out]; exact natB_unique HV.out hI
    obtain ⟨a1, c1, rfl⟩ := hM1.shape
    rw [HQ.out]
    have HB1 := (show Hid _ from hB1)
    have HLT := (show Hid _ from hlt)
    clear t hI hB1 hM1 hlt
    go_wp2
    go_ret2
    exact ⟨_, rfl, fun h => absurd h HLT.out, Byt.of HB1.out⟩
end Go.Proofs.YtenlhceceplldaaGreat
