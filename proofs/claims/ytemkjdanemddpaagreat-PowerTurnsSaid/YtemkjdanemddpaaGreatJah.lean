/- Several texts, joined: PtB, PtM. -/
import Derived.Test.YtemkjdanemddpaaGreatJag
import Derived.Laws.IdiomRangeMap
import Derived.MapKept
namespace Go.Proofs.YtemkjdanemddpaaGreat
namespace Pt
open Go.RowKit Go.Lib Pg Gl So
set_option linter.unusedVariables false
set_option linter.unusedSimpArgs false
set_option maxHeartbeats 1000000
def El (n : Nat) (xs : Nat → Int) (v : Int) : Prop := ∃ i, i < n ∧ xs i = v
/-- l: the numbers of which p holds, rising, each once -/
structure Oly (p : Int → Prop) (l : List Int) : Prop where
  up : l.Pairwise (· < ·)
  mem : ∀ v, v ∈ l ↔ p v
theorem Oly.uniq {p : Int → Prop} : ∀ {l l' : List Int}, Oly p l → Oly p l' → l = l' := by
  intro l
  induction l generalizing p with
  | nil =>
    intro l' h h'
    cases l' with
    | nil => rfl
    | cons y r => exact absurd ((h.mem y).2 ((h'.mem y).1 List.mem_cons_self)) List.not_mem_nil
  | cons x r ih =>
    intro l' h h'
    cases l' with
    | nil => exact absurd ((h'.mem x).2 ((h.mem x).1 List.mem_cons_self)) List.not_mem_nil
    | cons y s =>
      have hx := List.pairwise_cons.1 h.up
      have hy := List.pairwise_cons.1 h'.up
      have exy : x = y := by
        have a := (h'.mem x).2 ((h.mem x).1 List.mem_cons_self)
        have b := (h.mem y).2 ((h'.mem y).1 List.mem_cons_self)
        rcases List.mem_cons.1 a with e | e
        · exact e
        · rcases List.mem_cons.1 b with e2 | e2
          · exact e2.symm
          · have := hy.1 x e
            have := hx.1 y e2
            omega
      subst exy
      congr 1
      refine ih (p := fun v => p v ∧ v ≠ x) ⟨hx.2, fun v => ?_⟩ ⟨hy.2, fun v => ?_⟩
      · constructor
        · intro hv
          have := hx.1 v hv
          exact ⟨(h.mem v).1 (List.mem_cons_of_mem _ hv), by omega⟩
        · rintro ⟨h1, h2⟩
          exact (List.mem_cons.1 ((h.mem v).2 h1)).resolve_left h2
      · constructor
        · intro hv
          have := hy.1 v hv
          exact ⟨(h'.mem v).1 (List.mem_cons_of_mem _ hv), by omega⟩
        · rintro ⟨h1, h2⟩
          exact (List.mem_cons.1 ((h'.mem v).2 h1)).resolve_left h2
theorem Oly.iff {p q : Int → Prop} {l : List Int} (h : Oly p l) (e : ∀ v, p v ↔ q v) : Oly q l := ⟨h.up, fun v => (h.mem v).trans (e v)⟩
section
variable {n k b : Nat} {f h : Nat → Int} {x : Int} {l : List Int}
theorem seg0_len : (seg 0 n f).length = n := by simp [seg]
theorem seg_app (h1 : ∀ i, i < n → h i = f i) (h2 : h n = x) : seg 0 (n + 1) h = seg 0 n f ++ [x] := by
  rw [seg_split (m := n) (Nat.zero_le _) (Nat.le_succ _), seg_out (f := f) (fun i _ hi => h1 i hi)]
  congr 1
  simp [seg, h2]
theorem seg_at {i : Nat} (hi : i < n) : (seg 0 n f)[i]? = some (f i) := by
  simp [seg, hi]
theorem seg_inj {m : Nat} (e : seg 0 n f = seg 0 m h) : n = m ∧ ∀ i, i < n → h i = f i := by
  have hl := congrArg List.length e
  rw [seg0_len, seg0_len] at hl
  subst hl
  refine ⟨rfl, fun i hi => ?_⟩
  have := congrArg (·[i]?) e
  simp only [seg_at hi, Option.some.injEq] at this
  exact this.symm
/-- sorted, and no number twice: rising -/
theorem rise (s : Srt 0 n h) (nd : (seg 0 n h).Nodup) : (seg 0 n h).Pairwise (· < ·) := by
  rw [List.pairwise_iff_getElem]
  intro i j hi hj hij
  rw [seg0_len] at hi hj
  have e1 := List.getElem?_eq_getElem (l := seg 0 n h) (i := i) (by rw [seg0_len]; exact hi)
  have e2 := List.getElem?_eq_getElem (l := seg 0 n h) (i := j) (by rw [seg0_len]; exact hj)
  rw [seg_at hi] at e1
  rw [seg_at hj] at e2
  have v1 := Option.some.inj e1
  have v2 := Option.some.inj e2
  rw [← v1, ← v2]
  have hle := s i j (Nat.zero_le _) (Nat.le_of_lt hij) hj
  have hne : h i ≠ h j := fun e => by
    have := (List.pairwise_iff_getElem.1 nd) i j (by rw [seg0_len]; exact hi) (by rw [seg0_len]; exact hj) hij
    rw [← v1, ← v2] at this
    exact this e
  omega
end
/-- the entries of a map, in the order in which they came -/
def mE : Nat → List (Int × Int) → List MapEntry
  | _, [] => []
  | b, (k, v) :: r => ⟨.int .u64 k, .int .i64 v, b⟩ :: mE (b + 1) r
def mo (L : List (Int × Int)) : Obj := .map (mE 0 L).toArray L.length
def fnd (k : Int) : List (Int × Int) → Nat → Option (Nat × Int)
  | [], _ => none
  | (q, v) :: r, i => if k = q then some (i, v) else fnd k r (i + 1)
def gv (L : List (Int × Int)) (k : Int) : Int := ((fnd k L 0).map (·.2)).getD 0
def ups (k x : Int) : List (Int × Int) → List (Int × Int)
  | [] => [(k, x)]
  | (q, v) :: r => if k = q then (k, x) :: r else (q, v) :: ups k x r
section
variable {L : List (Int × Int)} {k x : Int} {b i : Nat}
theorem find_mE (k : Int) : ∀ (L : List (Int × Int)) (b i : Nat), Instr.findNow (.int .u64) (.int .u64 k) (mE b L) i = some ((fnd k L i).map fun p => (p.1, Value.int .i64 p.2))
  | [], _, _ => rfl
  | (q, v) :: r, b, i => by
    simp only [mE, Instr.findNow, Instr.sameNow, if_true, fnd]
    by_cases e : k = q
    · subst e; simp
    · have : (k == q) = false := by simpa using e
      rw [this, if_neg e]
      exact find_mE k r (b + 1) (i + 1)
theorem mE_len : ∀ (L : List (Int × Int)) (b : Nat), (mE b L).length = L.length
  | [], _ => rfl
  | (_, _) :: r, b => by simp [mE, mE_len r (b + 1)]
theorem mE_at : ∀ (L : List (Int × Int)) (b i : Nat), (mE b L)[i]? = (L[i]?).map fun p => ⟨.int .u64 p.1, .int .i64 p.2, b + i⟩
  | [], _, _ => by simp [mE]
  | (k, v) :: r, b, 0 => by simp [mE]
  | (k, v) :: r, b, i + 1 => by
    simp only [mE, List.getElem?_cons_succ, mE_at r (b + 1) i]
    rw [show b + 1 + i = b + (i + 1) by omega]
theorem mE_app : ∀ (L : List (Int × Int)) (b : Nat), mE b (L ++ [(k, x)]) = mE b L ++ [⟨.int .u64 k, .int .i64 x, b + L.length⟩]
  | [], _ => rfl
  | (q, v) :: r, b => by
    simp only [List.cons_append, mE, mE_app r (b + 1), List.length_cons]
    rw [show b + 1 + r.length = b + (r.length + 1) by omega]
theorem ups_none : ∀ (L : List (Int × Int)) (i : Nat), fnd k L i = none → ups k x L = L ++ [(k, x)]
  | [], _, _ => rfl
  | (q, v) :: r, i, h => by
    simp only [fnd] at h
    split at h
    · cases h
    · rename_i e
      simp only [ups, if_neg e, List.cons_append, ups_none r (i + 1) h]
theorem fnd_ge : ∀ (L : List (Int × Int)) (i j : Nat) (v : Int), fnd k L i = some (j, v) → i ≤ j ∧ L[j - i]? = some (k, v)
  | [], _, _, _, h => by cases h
  | (q, u) :: r, i, j, v, h => by
    simp only [fnd] at h
    split at h
    · rename_i e
      cases h
      subst e
      simp
    · have := fnd_ge r (i + 1) j v h
      refine ⟨by omega, ?_⟩
      rw [show j - i = (j - (i + 1)) + 1 by omega, List.getElem?_cons_succ]
      exact this.2
theorem ups_some : ∀ (L : List (Int × Int)) (i j : Nat) (v : Int), fnd k L i = some (j, v) → ups k x L = L.set (j - i) (k, x)
  | [], _, _, _, h => by cases h
  | (q, u) :: r, i, j, v, h => by
    simp only [fnd] at h
    split at h
    · rename_i e
      cases h
      simp [ups, if_pos e]
    · rename_i e
      have := (fnd_ge r (i + 1) j v h).1
      rw [show j - i = (j - (i + 1)) + 1 by omega, List.set_cons_succ]
      simp only [ups, if_neg e, ups_some r (i + 1) j v h]
theorem mo_push (h : fnd k L 0 = none) : Obj.map ((mE 0 L).toArray.push { key := .int .u64 k, val := .int .i64 x, born := L.length }) (L.length + 1) = mo (ups k x L) := by
  rw [ups_none L 0 h]
  simp only [mo, mE_app, List.length_append, List.length_singleton, Nat.zero_add, List.push_toArray]
theorem mo_set {j : Nat} {v : Int} (h : fnd k L 0 = some (j, v)) : Obj.map ((mE 0 L).toArray.modify j fun e => { e with key := .int .u64 k, val := .int .i64 x }) L.length = mo (ups k x L) := by
  rw [ups_some L 0 j v h]
  have hj := (fnd_ge L 0 j v h).2
  rw [Nat.sub_zero] at hj ⊢
  simp only [mo, List.length_set]
  congr 1
  apply Array.ext'
  refine List.ext_getElem? fun i => ?_
  rw [Array.toList_modify, List.getElem?_modify]
  simp only [mE_at, List.getElem?_set, Nat.zero_add]
  by_cases e : j = i
  · subst e
    simp [hj, (List.getElem?_eq_some_iff.1 hj).1]
  · simp [e]
theorem mem_ups : ∀ {L : List (Int × Int)}, (L.map Prod.fst).Nodup → ∀ q v, ((q, v) ∈ ups k x L ↔ (q = k ∧ v = x) ∨ (q ≠ k ∧ (q, v) ∈ L))
  | [], _, q, v => by simp [ups]
  | (p, u) :: r, nd, q, v => by
    rw [List.map_cons, List.nodup_cons] at nd
    simp only [ups]
    split
    · rename_i e
      subst e
      have hn : ∀ z, (k, z) ∉ r := fun z hz => nd.1 (List.mem_map.2 ⟨_, hz, rfl⟩)
      simp only [List.mem_cons, Prod.mk.injEq]
      constructor
      · rintro (h | h)
        · exact .inl h
        · exact .inr ⟨fun e => by subst e; exact hn v h, .inr h⟩
      · rintro (h | ⟨h1, h2⟩)
        · exact .inl h
        · exact .inr (h2.resolve_left (fun e => h1 e.1))
    · rename_i e
      simp only [List.mem_cons, Prod.mk.injEq, mem_ups nd.2 q v]
      constructor
      · rintro (⟨h1, h2⟩ | h | ⟨h1, h2⟩)
        · exact .inr ⟨fun e2 => e (by rw [← e2, h1]), .inl ⟨h1, h2⟩⟩
        · exact .inl h
        · exact .inr ⟨h1, .inr h2⟩
      · rintro (h | ⟨h1, h2 | h2⟩)
        · exact .inr (.inl h)
        · exact .inl h2
        · exact .inr (.inr ⟨h1, h2⟩)
theorem keys_ups : ∀ {L : List (Int × Int)}, (L.map Prod.fst).Nodup → ((ups k x L).map Prod.fst).Nodup
  | [], _ => by simp [ups]
  | (p, u) :: r, nd => by
    have nd' := List.nodup_cons.1 (by rw [List.map_cons] at nd; exact nd)
    simp only [ups]
    split
    · rename_i e
      subst e
      exact nd
    · rename_i e
      rw [List.map_cons, List.nodup_cons]
      refine ⟨fun hm => ?_, keys_ups nd'.2⟩
      obtain ⟨⟨q, v⟩, h1, h2⟩ := List.mem_map.1 hm
      have h2' : q = p := h2
      rcases (mem_ups nd'.2 q v).1 h1 with h3 | h3
      · exact e (by rw [← h3.1, h2'])
      · exact nd'.1 (List.mem_map.2 ⟨_, h3.2, h2⟩)
theorem len_ups : ∀ {L : List (Int × Int)}, (ups k x L).length ≤ L.length + 1
  | [] => by simp [ups]
  | (p, u) :: r => by
    simp only [ups]
    split
    · simp
    · simp only [List.length_cons]
      have := len_ups (L := r)
      omega
theorem gv_mem (nd : (L.map Prod.fst).Nodup) {v : Int} (h : (k, v) ∈ L) : gv L k = v := by
  unfold gv
  cases e : fnd k L 0 with
  | none =>
    exfalso
    have : ∀ (L : List (Int × Int)) (i : Nat), fnd k L i = none → (k, v) ∉ L := by
      intro L
      induction L with
      | nil => intro i _ h; cases h
      | cons p r ih =>
        obtain ⟨q, u⟩ := p
        intro i hf hm
        simp only [fnd] at hf
        split at hf
        · cases hf
        · rename_i ne
          rcases List.mem_cons.1 hm with e2 | e2
          · cases e2; exact ne rfl
          · exact ih (i + 1) hf e2
    exact this L 0 e h
  | some p =>
    obtain ⟨j, u⟩ := p
    have h1 := List.mem_of_getElem? (fnd_ge L 0 j u e).2
    show u = v
    have : ∀ (L : List (Int × Int)), (L.map Prod.fst).Nodup → ∀ u v, (k, u) ∈ L → (k, v) ∈ L → u = v := by
      intro L
      induction L with
      | nil => intro _ u v h; cases h
      | cons p r ih =>
        obtain ⟨q, z⟩ := p
        intro nd u v hu hv
        rw [List.map_cons, List.nodup_cons] at nd
        rcases List.mem_cons.1 hu with e1 | e1 <;> rcases List.mem_cons.1 hv with e2 | e2
        · cases e1; cases e2; rfl
        · cases e1; exact absurd (List.mem_map.2 ⟨_, e2, rfl⟩) nd.1
        · cases e2; exact absurd (List.mem_map.2 ⟨_, e1, rfl⟩) nd.1
        · exact ih nd.2 u v e1 e2
    exact this L nd u v h1 h
theorem gv_not (h : ∀ v, (k, v) ∉ L) : gv L k = 0 := by
  unfold gv
  cases e : fnd k L 0 with
  | none => rfl
  | some p =>
    obtain ⟨j, u⟩ := p
    exact absurd (List.mem_of_getElem? (fnd_ge L 0 j u e).2) (h u)
end
/-- a number's side: 1 in the first list alone, 2 in the second alone, 3 in both -/
def Cls (A B : Int → Prop) (k v : Int) : Prop := (v = 1 ∧ A k ∧ ¬ B k) ∨ (v = 2 ∧ ¬ A k ∧ B k) ∨ (v = 3 ∧ A k ∧ B k)
structure Sd (A B : Int → Prop) (L : List (Int × Int)) : Prop where
  nd : (L.map Prod.fst).Nodup
  sp : ∀ k v, (k, v) ∈ L ↔ Cls A B k v
section
variable {A B : Int → Prop} {L : List (Int × Int)} {k : Int}
theorem Sd.nil : Sd (fun _ => False) (fun _ => False) [] := ⟨List.nodup_nil, fun k v => by simp [Cls]⟩
theorem Sd.gv (s : Sd A B L) (k : Int) : (gv L k = 0 ∧ ¬ A k ∧ ¬ B k) ∨ Cls A B k (gv L k) := by
  by_cases h : ∃ v, (k, v) ∈ L
  · obtain ⟨v, hv⟩ := h
    rw [gv_mem s.nd hv]
    exact .inr ((s.sp k v).1 hv)
  · refine .inl ⟨gv_not (fun v hv => h ⟨v, hv⟩), fun a => ?_, fun b => ?_⟩
    · by_cases b : B k
      · exact h ⟨3, (s.sp k 3).2 (.inr (.inr ⟨rfl, a, b⟩))⟩
      · exact h ⟨1, (s.sp k 1).2 (.inl ⟨rfl, a, b⟩)⟩
    · by_cases a : A k
      · exact h ⟨3, (s.sp k 3).2 (.inr (.inr ⟨rfl, a, b⟩))⟩
      · exact h ⟨2, (s.sp k 2).2 (.inr (.inl ⟨rfl, a, b⟩))⟩
theorem Sd.put {A' B' : Int → Prop} {x : Int} (s : Sd A B L) (ho : ∀ q, q ≠ k → (A' q ↔ A q) ∧ (B' q ↔ B q)) (hx : ∀ v, Cls A' B' k v ↔ v = x) : Sd A' B' (ups k x L) := by
  refine ⟨keys_ups s.nd, fun q v => ?_⟩
  rw [mem_ups s.nd]
  by_cases e : q = k
  · subst e
    rw [hx]
    simp
  · rw [s.sp]
    have := ho q e
    simp [e, Cls, this.1, this.2]
def or1 (o : Int) : Int := if o = 0 ∨ o = 1 then 1 else 3
def or2 (o : Int) : Int := if o = 0 ∨ o = 2 then 2 else 3
theorem Sd.rng (s : Sd A B L) (k : Int) : Pt.gv L k = 0 ∨ Pt.gv L k = 1 ∨ Pt.gv L k = 2 ∨ Pt.gv L k = 3 := by
  rcases s.gv k with h | h | h | h
  · exact .inl h.1
  · exact .inr (.inl h.1)
  · exact .inr (.inr (.inl h.1))
  · exact .inr (.inr (.inr h.1))
theorem Sd.one (s : Sd A (fun _ => False) L) (k : Int) : Sd (fun q => A q ∨ q = k) (fun _ => False) (ups k (or1 (Pt.gv L k)) L) := by
  refine s.put (k := k) (fun q hq => ⟨by simp [hq], Iff.rfl⟩) fun v => ?_
  have e : or1 (Pt.gv L k) = 1 := by
    unfold or1
    rcases s.gv k with h | h | h | h
    · rw [if_pos (.inl h.1)]
    · rw [if_pos (.inr h.1)]
    · exact h.2.2.elim
    · exact h.2.2.elim
  rw [e]
  simp [Cls]
theorem Sd.two (s : Sd A B L) (k : Int) : Sd A (fun q => B q ∨ q = k) (ups k (or2 (Pt.gv L k)) L) := by
  refine s.put (k := k) (fun q hq => ⟨Iff.rfl, by simp [hq]⟩) fun v => ?_
  have e : (or2 (Pt.gv L k) = 2 ∧ ¬ A k) ∨ (or2 (Pt.gv L k) = 3 ∧ A k) := by
    unfold or2
    rcases s.gv k with h | h | h | h
    · rw [if_pos (.inl h.1)]; exact .inl ⟨rfl, h.2.1⟩
    · rw [if_neg (by omega)]; exact .inr ⟨rfl, h.2.1⟩
    · rw [if_pos (.inr h.1)]; exact .inl ⟨rfl, h.2.1⟩
    · rw [if_neg (by omega)]; exact .inr ⟨rfl, h.2.1⟩
  rcases e with ⟨e, ha⟩ | ⟨e, ha⟩
  · rw [e]; simp [Cls, ha]
  · rw [e]; simp [Cls, ha]
theorem Sd.iff {A' B' : Int → Prop} (s : Sd A B L) (ha : ∀ q, A q ↔ A' q) (hb : ∀ q, B q ↔ B' q) : Sd A' B' L := ⟨s.nd, fun k v => (s.sp k v).trans (by simp [Cls, ha, hb])⟩
/-- what was gone through so far: those of one side that were seen -/
structure Oi (L : List (Int × Int)) (side : Int) (sn : Array Nat) (l : List Int) : Prop where
  nd : l.Nodup
  mem : ∀ x, x ∈ l ↔ ∃ i, L[i]? = some (x, side) ∧ sn.contains i = true
  few : l.length + (leftOf (mE 0 L).toArray sn).size ≤ L.length
variable {side : Int} {sn : Array Nat} {l : List Int}
theorem left_all (es : Array MapEntry) : leftOf es #[] = es := by
  unfold leftOf
  exact Array.filter_eq_self.2 (fun x _ => by simp)
theorem Oi.start : Oi L side #[] [] := ⟨List.nodup_nil, fun x => by simp, by rw [left_all]; simp [mE_len]⟩
theorem mem_mE {e : MapEntry} (he : e ∈ (mE 0 L).toArray.toList) : ∃ k v, L[e.born]? = some (k, v) ∧ e = ⟨.int .u64 k, .int .i64 v, e.born⟩ := by
  obtain ⟨i, hi⟩ := List.mem_iff_getElem?.1 (show e ∈ mE 0 L from he)
  rw [mE_at] at hi
  cases hL : L[i]? with
  | none => rw [hL] at hi; cases hi
  | some p =>
    rw [hL] at hi
    obtain ⟨k, v⟩ := p
    simp only [Option.map_some, Option.some.injEq, Nat.zero_add] at hi
    subst hi
    exact ⟨k, v, hL, rfl⟩
theorem nd_mE : ((mE 0 L).toArray.toList.map (·.born)).Nodup := by
  show ((mE 0 L).map (·.born)).Nodup
  have e : (mE 0 L).map (·.born) = List.range L.length := by
    refine List.ext_getElem? fun i => ?_
    rw [List.getElem?_map, mE_at]
    by_cases h : i < L.length
    · simp [h]
    · rw [List.getElem?_eq_none (by omega)]; simp; omega
  rw [e]
  exact List.nodup_range
theorem old_mE : ∀ x ∈ (mE 0 L).toArray.toList, x.born < L.length := fun x hx => by
  obtain ⟨k, v, h, _⟩ := mem_mE hx
  exact (List.getElem?_eq_some_iff.1 h).1
theorem Oi.step (o : Oi L side sn l) (nd : (L.map Prod.fst).Nodup) {e : MapEntry} {k v : Int} (he : e ∈ (leftOf (mE 0 L).toArray sn).toList) (hL : L[e.born]? = some (k, v)) : (v = side → Oi L side (sn.push e.born) (l ++ [k])) ∧ (v ≠ side → Oi L side (sn.push e.born) l) := by
  have hm := mem_left he
  have hs := left_shrinks (mE 0 L).toArray sn e he
  have hf := o.few
  have inj : ∀ (i : Nat) (u : Int), L[i]? = some (k, u) → i = e.born := fun i u hi => by
    have h1 : (L.map Prod.fst)[i]? = some k := by rw [List.getElem?_map, hi]; rfl
    have h2 : (L.map Prod.fst)[e.born]? = some k := by rw [List.getElem?_map, hL]; rfl
    obtain ⟨b1, e1⟩ := List.getElem?_eq_some_iff.1 h1
    obtain ⟨b2, e2⟩ := List.getElem?_eq_some_iff.1 h2
    have hp := List.pairwise_iff_getElem.1 nd
    rcases Nat.lt_trichotomy i e.born with c | c | c
    · exact absurd (e1.trans e2.symm) (hp i e.born b1 b2 c)
    · exact c
    · exact absurd (e2.trans e1.symm) (hp e.born i b2 b1 c)
  constructor
  · rintro rfl
    refine ⟨List.nodup_append.2 ⟨o.nd, List.nodup_cons.2 ⟨List.not_mem_nil, List.nodup_nil⟩, fun a ha b hb => ?_⟩, fun x => ?_, by rw [List.length_append, List.length_singleton]; omega⟩
    · rw [List.mem_singleton] at hb
      subst hb
      rintro rfl
      obtain ⟨i, h1, h2⟩ := (o.mem a).1 ha
      rw [inj i v h1, hm.2] at h2
      cases h2
    · rw [List.mem_append, List.mem_singleton, o.mem]
      constructor
      · rintro (⟨i, h1, h2⟩ | rfl)
        · exact ⟨i, h1, by rw [contains_push, h2]; rfl⟩
        · exact ⟨e.born, hL, by rw [contains_push]; simp⟩
      · rintro ⟨i, h1, h2⟩
        rw [contains_push, Bool.or_eq_true] at h2
        rcases h2 with h2 | h2
        · exact .inl ⟨i, h1, h2⟩
        · have : i = e.born := by simpa using h2
          subst this
          rw [hL] at h1
          cases h1
          exact .inr rfl
  · intro hv
    refine ⟨o.nd, fun x => ?_, by omega⟩
    rw [o.mem]
    constructor
    · rintro ⟨i, h1, h2⟩
      exact ⟨i, h1, by rw [contains_push, h2]; rfl⟩
    · rintro ⟨i, h1, h2⟩
      rw [contains_push, Bool.or_eq_true] at h2
      rcases h2 with h2 | h2
      · exact ⟨i, h1, h2⟩
      · have : i = e.born := by simpa using h2
        subst this
        rw [hL] at h1
        cases h1
        exact absurd rfl hv
theorem Oi.done (o : Oi L side sn l) (h : (leftOf (mE 0 L).toArray sn).size = 0) : ∀ x, x ∈ l ↔ (x, side) ∈ L := fun x => by
  rw [o.mem]
  constructor
  · rintro ⟨i, h1, _⟩
    exact List.mem_of_getElem? h1
  · intro hx
    obtain ⟨i, hi⟩ := List.mem_iff_getElem?.1 hx
    have hall := all_seen (mE 0 L).toArray sn h ⟨.int .u64 x, .int .i64 side, i⟩ (by
      show _ ∈ mE 0 L
      refine List.mem_iff_getElem?.2 ⟨i, ?_⟩
      rw [mE_at, hi]
      simp)
    exact ⟨i, hi, hall⟩
end
end Pt
end Go.Proofs.YtemkjdanemddpaaGreat

namespace Go.Proofs.YtemkjdanemddpaaGreat
namespace Pt
open Go.RowKit Go.Lib Pg Gl So
attribute [local go_sem] Oper.semAt_some
theorem und_m : Tryz.prog.underlying 83 = some (.map 31 3) := by kernel_rfl
theorem und_u : Tryz.prog.underlying 31 = some (.int .u64) := by kernel_rfl
section
variable {w : World} {bm clock : Nat} {es : Array MapEntry} {k : Int}
theorem isk (k : Int) : MapKept.IsKey (.int .u64) (.int .u64 k) := by
  simp [MapKept.IsKey]
theorem run_lk0 {r : Option (Nat × Value)} (hb : w.heap[bm]? = some (.map es clock)) (hf : Instr.findNow (.int .u64) (.int .u64 k) es.toList 0 = some r) : (Instr.lookup 83 (.map (some bm)) (.int .u64 k) false).run Tryz.prog w = .ok (match r with | some (_, v) => v | none => .int .i64 0) w := by
  simp only [Instr.lookup, Sem.run_bind, run_underlying und_m, Result.andThen_ok, MapKept.run_getObj_map hb, Sem.run_pure, MapKept.run_checkKey und_u (isk k), MapKept.run_findKey und_u hf]
  cases r with
  | none => simp
  | some p => obtain ⟨i, v⟩ := p; simp
/-- an object is laid anew -/
def wset (w : World) (r : Nat) (o : Obj) : World := { w with heap := w.heap.setIfInBounds r o }
theorem wset_at {r : Nat} {o o' : Obj} (h : w.heap[r]? = some o') : (wset w r o).heap[r]? = some o := by
  have := lt_of_block h
  simp [wset, this]
theorem wset_chg (r : Nat) (o : Obj) : Chg (· = r) w (wset w r o) := ⟨rfl, rfl, rfl, by simp [wset], fun b _ hb => by
  have hb' : ¬ (b = r) := hb
  simp only [wset]
  rw [Array.getElem?_setIfInBounds_ne (fun e => hb' e.symm)]⟩
theorem run_mu0 (v : Value) (hb : w.heap[bm]? = some (.map es clock)) (hf : Instr.findNow (.int .u64) (.int .u64 k) es.toList 0 = some none) : (Instr.mapUpdate 83 (.map (some bm)) (.int .u64 k) v).run Tryz.prog w = .ok () (wset w bm (.map (es.push { key := .int .u64 k, val := v, born := clock }) (clock + 1))) := by
  simp only [Instr.mapUpdate, Sem.run_bind, run_underlying und_m, Result.andThen_ok, MapKept.run_getObj_map hb, MapKept.run_checkKey und_u (isk k), MapKept.run_findKey und_u hf, MapKept.run_setObj_map _ hb]
  rfl
theorem run_mu1 (v u : Value) (i : Nat) (hb : w.heap[bm]? = some (.map es clock)) (hf : Instr.findNow (.int .u64) (.int .u64 k) es.toList 0 = some (some (i, u))) (hk : (((es[i]?).map (·.key)).getD (.int .u64 k)) = .int .u64 k) : (Instr.mapUpdate 83 (.map (some bm)) (.int .u64 k) v).run Tryz.prog w = .ok () (wset w bm (.map (es.modify i fun e => { e with key := .int .u64 k, val := v }) clock)) := by
  simp only [Instr.mapUpdate, Sem.run_bind, run_underlying und_m, Result.andThen_ok, MapKept.run_getObj_map hb, MapKept.run_checkKey und_u (isk k), MapKept.run_findKey und_u hf, hk]
  simp only [Instr.keyThatStays, Instr.sameBits, beq_self_eq_true, Bool.and_self, if_true, Sem.run_pure, Result.andThen_ok, MapKept.run_setObj_map _ hb]
  rfl
theorem run_setI {r b d : Nat} {a : Option Nat} {c : Array Nat} {o : Obj} (h : w.heap[r]? = some (.mapIter a b c d)) : (setObj r o).run Tryz.prog w = .ok () (wset w r o) := by
  simp only [setObj, Sem.run]
  rw [h]
  rfl
theorem run_getI {r b d : Nat} {a : Option Nat} {c : Array Nat} (h : w.heap[r]? = some (.mapIter a b c d)) : (getObj r).run Tryz.prog w = .ok (.mapIter a b c d) w := by
  simp only [getObj, Sem.run]
  rw [h]
/-- one entry that is left, whichever it be -/
theorem run_nx {r since c0 : Nat} {seen : Array Nat} (ty : TypeId) (hr : w.heap[r]? = some (.mapIter (some bm) since seen c0)) (hb : w.heap[bm]? = some (.map es clock)) (hold : ∀ x ∈ es.toList, x.born < since) (hsc : since ≤ c0) :
    ((leftOf es seen).size = 0 ∧ (Instr.next (.pointer (some ⟨r, 0, none⟩)) false ty).run Tryz.prog w = .ok (.tuple #[.bool false]) w) ∨
    ∃ e ∈ (leftOf es seen).toList, ∃ w1, (Instr.next (.pointer (some ⟨r, 0, none⟩)) false ty).run Tryz.prog w = .ok (.tuple #[.bool true, e.key, e.val]) w1 ∧ w1.heap[r]? = some (.mapIter (some bm) since (seen.push e.born) clock) ∧ Chg (· = r) w w1 := by
  have test := next_test_false seen es since c0 hold hsc
  have hL : ∀ x ∈ (leftOf es seen).toList, x.born < since := fun x hx => hold x (mem_left hx).1
  simp only [Instr.next, Sem.run_bind, run_getI hr, Result.andThen_ok, MapKept.run_getObj_map hb, test, Bool.false_eq_true, if_false]
  change ((leftOf es seen).size = 0 ∧ _) ∨ _
  rw [show (es.filter fun e => !seen.contains e.born) = leftOf es seen from rfl]
  obtain ⟨L, hLe⟩ : ∃ L, leftOf es seen = L := ⟨_, rfl⟩
  rw [hLe] at hL ⊢
  have old : (L.filter fun x => decide (x.born < since)) = L := Array.filter_eq_self.2 (fun x hx => by simpa using hL x (by simpa using hx))
  have new : (L.filter fun x => decide (x.born ≥ since)) = #[] := Array.filter_eq_empty_iff.2 (fun x hx => by have := hL x (by simpa using hx); simp; omega)
  rw [old, new, Array.append_empty]
  by_cases h0 : L.size = 0
  · refine .inl ⟨h0, ?_⟩
    obtain rfl : L = #[] := Array.eq_empty_of_size_eq_zero h0
    simp [choose, Sem.run, Question.forced]
  · refine .inr ?_
    have ne : L.isEmpty = false := by simp [Array.isEmpty, h0]
    rw [ne]
    have draw : ∃ (j : Nat) (w1 : World), j < L.size ∧ (w1 = w ∨ w1 = w.drew) ∧ (choose (Question.mapNext L.size)).run Tryz.prog w = .ok j w1 := by
      by_cases hf : L.size ≤ 1
      · exact ⟨0, w, by omega, .inl rfl, by simp [choose, Sem.run, Question.forced, hf]⟩
      · exact ⟨_, w.drew, Nat.mod_lt _ (by omega), .inr rfl, by
          simp only [choose, Sem.run, Question.forced, decide_eq_true_eq, hf, if_false, Question.cut]
          rfl⟩
    obtain ⟨j, w1, hj, hw, hrun⟩ := draw
    have h1 : w1.heap[r]? = some (.mapIter (some bm) since seen c0) := by rcases hw with rfl | rfl <;> exact hr
    refine ⟨L[j], by simp, wset w1 r (.mapIter (some bm) since (seen.push L[j].born) clock), ?_, wset_at h1, ?_⟩
    · simp only [Bool.false_eq_true, if_false, Array.empty_append, Array.size_map, hrun, Result.andThen_ok, Array.getElem?_map, Array.getElem?_eq_getElem hj, Option.map_some, Sem.run_bind, run_setI h1, Sem.run_pure]
    · have c := wset_chg (w := w1) r (.mapIter (some bm) since (seen.push L[j].born) clock)
      rcases hw with rfl | rfl
      · exact c
      · exact (Chg.of (F := (· = r)) (Below.refl _ _).drew).trans c (fun _ _ h => h)
theorem run_en0 {r since : Nat} {seen : Array Nat} {e : MapEntry} (hr : w.heap[r]? = some (.mapIter (some bm) since (seen.push e.born) clock)) (hb : w.heap[bm]? = some (.map es clock)) (he : e ∈ es.toList) (hn : (es.toList.map (·.born)).Nodup) :
    (Instr.entry (.pointer (some ⟨r, 0, none⟩))).run Tryz.prog w = .ok (.tuple #[e.key, e.val]) w := by
  have hf : es.find? (·.born == e.born) = some e := by rw [← Array.find?_toList]; exact find_born e es.toList hn he
  simp only [Instr.entry, Sem.run_bind, run_getI hr, Result.andThen_ok, MapKept.run_getObj_map hb, Array.back?_push, bne_self_eq_false, Bool.false_eq_true, if_false, hf, Sem.run_pure]
end
section
variable {P : Program} {n : Nat} {ds : List Deferred} {ops : Array Oper} {Q : Exit → Act → World → Prop} {rest : List Oper} {o : Oper} {l : Fr} {w : World}
theorem tmk (d : Nat) (h : ∀ w1 g, w1.heap[g]? = some (.map #[] 0) → w.heap.size ≤ g → Below w.heap.size w w1 → GL P n ds ops Q rest ((d, .map (some g)) :: l) w1) (hg : gd ops l o = some true := by kernel_rfl) (hc : chk n l o (some d) = true := by kernel_rfl) (hrun : (execOp (evL l) o).run P w = .ok (.value (.map (some w.heap.size))) (w.alloc (.map #[] 0)) := by kernel_rfl) : GL P n ds ops Q (o :: rest) l w :=
  tw d _ _ hrun (h _ _ (heap_alloc_new w _) (Nat.le_refl _) (below_alloc w _)) hg hc
end
section
variable {n : Nat} {ds : List Deferred} {ops : Array Oper} {Q : Exit → Act → World → Prop} {rest : List Oper} {o : Oper} {l : Fr} {w : World}
theorem run_lk {ρ : Operand → Value} {bm clock : Nat} {es : Array MapEntry} (k : Int) (v : Value) {r : Option (Nat × Value)} (hb : w.heap[bm]? = some (.map es clock)) (hf : Instr.findNow (.int .u64) (.int .u64 k) es.toList 0 = some r) (hv : (match r with | some (_, v) => v | none => .int .i64 0) = v) (ho : ∃ x y, o.op = .lookup 83 x y false ∧ ρ x = .map (some bm) ∧ ρ y = .int .u64 k := by exact ⟨_, _, rfl, by kernel_rfl, by kernel_rfl⟩) : (execOp ρ o).run Tryz.prog w = .ok (.value v) w := by
  obtain ⟨x, y, h, h1, h2⟩ := ho
  subst hv
  simp only [execOp, h, h1, h2, Sem.run_bind, run_lk0 hb hf, Result.andThen_ok, Sem.run_pure]
theorem tmu0 {bm clock : Nat} {es : Array MapEntry} (k : Int) (v : Value) (es' : Array MapEntry) (hb : w.heap[bm]? = some (.map es clock)) (hf : Instr.findNow (.int .u64) (.int .u64 k) es.toList 0 = some none) (he : es.push { key := .int .u64 k, val := v, born := clock } = es') (h : ∀ w1, w1.heap[bm]? = some (.map es' (clock + 1)) → Chg (· = bm) w w1 → GL Tryz.prog n ds ops Q rest l w1) (hg : gd ops l o = some true := by kernel_rfl) (hc : chk n l o none = true := by kernel_rfl) (ho : ∃ x y z, o.op = .mapUpdate 83 x y z ∧ evL l x = .map (some bm) ∧ evL l y = .int .u64 k ∧ evL l z = v := by exact ⟨_, _, _, rfl, by kernel_rfl, by kernel_rfl, by kernel_rfl⟩) : GL Tryz.prog n ds ops Q (o :: rest) l w := by
  obtain ⟨x, y, z, h0, h1, h2, h3⟩ := ho
  subst he
  refine tv _ ?_ (h _ (wset_at hb) (wset_chg _ _)) hg hc
  simp only [execOp, h0, h1, h2, h3, Sem.run_bind, run_mu0 v hb hf, Result.andThen_ok, Sem.run_pure]
theorem tmu1 {bm clock : Nat} {es : Array MapEntry} (k : Int) (u v : Value) (i : Nat) (es' : Array MapEntry) (hb : w.heap[bm]? = some (.map es clock)) (hf : Instr.findNow (.int .u64) (.int .u64 k) es.toList 0 = some (some (i, u))) (hk : (((es[i]?).map (·.key)).getD (.int .u64 k)) = .int .u64 k) (he : (es.modify i fun e => { e with key := .int .u64 k, val := v }) = es') (h : ∀ w1, w1.heap[bm]? = some (.map es' clock) → Chg (· = bm) w w1 → GL Tryz.prog n ds ops Q rest l w1) (hg : gd ops l o = some true := by kernel_rfl) (hc : chk n l o none = true := by kernel_rfl) (ho : ∃ x y z, o.op = .mapUpdate 83 x y z ∧ evL l x = .map (some bm) ∧ evL l y = .int .u64 k ∧ evL l z = v := by exact ⟨_, _, _, rfl, by kernel_rfl, by kernel_rfl, by kernel_rfl⟩) : GL Tryz.prog n ds ops Q (o :: rest) l w := by
  obtain ⟨x, y, z, h0, h1, h2, h3⟩ := ho
  subst he
  refine tv _ ?_ (h _ (wset_at hb) (wset_chg _ _)) hg hc
  simp only [execOp, h0, h1, h2, h3, Sem.run_bind, run_mu1 v u i hb hf hk, Result.andThen_ok, Sem.run_pure]
theorem trg (d : Nat) {bm clock : Nat} {es : Array MapEntry} (hb : w.heap[bm]? = some (.map es clock)) (h : ∀ w1 g, w1.heap[g]? = some (.mapIter (some bm) clock #[] clock) → w.heap.size ≤ g → Below w.heap.size w w1 → GL Tryz.prog n ds ops Q rest ((d, pg g) :: l) w1) (hg : gd ops l o = some true := by kernel_rfl) (hc : chk n l o (some d) = true := by kernel_rfl) (ho : ∃ x, o.op = .range 83 x ∧ evL l x = .map (some bm) := by exact ⟨_, rfl, by kernel_rfl⟩) : GL Tryz.prog n ds ops Q (o :: rest) l w := by
  obtain ⟨x, h0, h1⟩ := ho
  refine tw d (pg w.heap.size) _ ?_ (h _ _ (heap_alloc_new w _) (Nat.le_refl _) (below_alloc w _)) hg hc
  simp only [execOp, h0, h1, Sem.run_bind, run_range_map w _ _ _ bm es clock und_m hb, Result.andThen_ok, Sem.run_pure]
/-- the next entry: none is left, or one that is left comes -/
theorem tnx (d : Nat) {r bm since c0 clock : Nat} {seen : Array Nat} {es : Array MapEntry} (hr : w.heap[r]? = some (.mapIter (some bm) since seen c0)) (hb : w.heap[bm]? = some (.map es clock)) (hold : ∀ x ∈ es.toList, x.born < since) (hsc : since ≤ c0) (h0 : (leftOf es seen).size = 0 → GL Tryz.prog n ds ops Q rest ((d, .tuple #[.bool false]) :: l) w)
    (h1 : ∀ e ∈ (leftOf es seen).toList, ∀ w1, w1.heap[r]? = some (.mapIter (some bm) since (seen.push e.born) clock) → Chg (· = r) w w1 → GL Tryz.prog n ds ops Q rest ((d, .tuple #[.bool true, e.key, e.val]) :: l) w1) (hg : gd ops l o = some true := by kernel_rfl) (hc : chk n l o (some d) = true := by kernel_rfl) (ho : ∃ x, o.op = .next x false ∧ evL l x = .pointer (some ⟨r, 0, none⟩) := by exact ⟨_, rfl, by kernel_rfl⟩) : GL Tryz.prog n ds ops Q (o :: rest) l w := by
  obtain ⟨x, k0, k1⟩ := ho
  rcases run_nx o.type hr hb hold hsc with ⟨e0, hu⟩ | ⟨e, he, w1, hu, a1, a2⟩
  · refine tw d _ _ ?_ (h0 e0) hg hc
    simp only [execOp, k0, k1, Sem.run_bind, hu, Result.andThen_ok, Sem.run_pure]
  · refine tw d _ _ ?_ (h1 e he w1 a1 a2) hg hc
    simp only [execOp, k0, k1, Sem.run_bind, hu, Result.andThen_ok, Sem.run_pure]
theorem run_en {ρ : Operand → Value} {r bm since clock : Nat} {seen : Array Nat} {es : Array MapEntry} (e : MapEntry) (hr : w.heap[r]? = some (.mapIter (some bm) since (seen.push e.born) clock)) (hb : w.heap[bm]? = some (.map es clock)) (he : e ∈ es.toList) (hn : (es.toList.map (·.born)).Nodup) (ho : ∃ x, o.op = .entry x ∧ ρ x = .pointer (some ⟨r, 0, none⟩) := by exact ⟨_, rfl, by kernel_rfl⟩) : (execOp ρ o).run Tryz.prog w = .ok (.value (.tuple #[e.key, e.val])) w := by
  obtain ⟨x, k0, k1⟩ := ho
  simp only [execOp, k0, k1, Sem.run_bind, run_en0 hr hb he hn, Result.andThen_ok, Sem.run_pure]
end
/-- what lies at a place that is no variable -/
structure MapW (w : World) (g : Nat) (o : Obj) : Prop where
  ob : w.heap[g]? = some o
section
variable {w w' : World} {g B n : Nat} {o : Obj} {v : Value} {f : Nat → Int}
theorem MapW.lt (h : MapW w g o) : g < w.heap.size := lt_of_block h.ob
theorem MapW.keep (h : MapW w g o) (b : Below w.heap.size w w') : MapW w' g o := ⟨(b.block g h.lt).trans h.ob⟩
theorem MapW.chg {x : Nat} (h : MapW w g o) (C : Chg (· = x) w w') (hne : g ≠ x) : MapW w' g o := ⟨(C.same g h.lt hne).trans h.ob⟩
theorem MapW.cel {F : Nat → Prop} (h : MapW w g o) (ho : ∀ cs t m, o ≠ .cells cs t m) (C : Chg F w w') (hF : ∀ b, F b → ∃ cs t, Blk w b cs t) : MapW w' g o := ⟨(C.same g h.lt (fun hf => by
  obtain ⟨cs, t, k⟩ := hF g hf
  have := k.blk.symm.trans h.ob
  cases this
  exact ho _ _ _ rfl)).trans h.ob⟩
theorem UB.it (u : UB w B v n f) (I : MapW w g o) (ho : ∀ cs t m, o ≠ .cells cs t m) (C : Chg (· = g) w w') : UB w' B v n f := ⟨u.ex.imp id (fun ⟨b, c, e, h1, h2, h3⟩ => ⟨b, c, e, h1, h2.chg C (fun hb => by
  have hb' : b = g := hb
  subst hb'
  have := h2.blk.symm.trans I.ob
  cases this
  exact ho _ _ _ rfl), h3⟩)⟩
end
section
variable {n : Nat} {ds : List Deferred} {ops : Array Oper} {Q : Exit → Act → World → Prop} {rest : List Oper} {o : Oper} {l : Fr} {w : World} {bm : Nat} {L : List (Int × Int)}
theorem run_lkG {ρ : Operand → Value} (k : Int) (M : MapW w bm (mo L)) (ho : ∃ x y, o.op = .lookup 83 x y false ∧ ρ x = .map (some bm) ∧ ρ y = .int .u64 k := by exact ⟨_, _, rfl, by kernel_rfl, by kernel_rfl⟩) : (execOp ρ o).run Tryz.prog w = .ok (.value (.int .i64 (gv L k))) w := by
  cases e : fnd k L 0 with
  | none =>
    have hf : Instr.findNow (.int .u64) (.int .u64 k) (mE 0 L) 0 = some none := by rw [find_mE, e]; rfl
    have hv : gv L k = 0 := by unfold gv; rw [e]; rfl
    rw [hv]
    exact run_lk k _ M.ob hf rfl ho
  | some p =>
    obtain ⟨j, v⟩ := p
    have hf : Instr.findNow (.int .u64) (.int .u64 k) (mE 0 L) 0 = some (some (j, .int .i64 v)) := by rw [find_mE, e]; rfl
    have hv : gv L k = v := by unfold gv; rw [e]; rfl
    rw [hv]
    exact run_lk k _ M.ob hf rfl ho
theorem tmuG (k x : Int) (M : MapW w bm (mo L)) (h : ∀ w1, MapW w1 bm (mo (ups k x L)) → Chg (· = bm) w w1 → GL Tryz.prog n ds ops Q rest l w1) (hg : gd ops l o = some true := by kernel_rfl) (hc : chk n l o none = true := by kernel_rfl) (ho : ∃ x' y z, o.op = .mapUpdate 83 x' y z ∧ evL l x' = .map (some bm) ∧ evL l y = .int .u64 k ∧ evL l z = .int .i64 x := by exact ⟨_, _, _, rfl, by kernel_rfl, by kernel_rfl, by kernel_rfl⟩) : GL Tryz.prog n ds ops Q (o :: rest) l w := by
  cases e : fnd k L 0 with
  | none =>
    refine tmu0 k (.int .i64 x) _ M.ob (by rw [find_mE, e]; rfl) rfl ?_ hg hc ho
    intro w1 h1 C
    exact h w1 ⟨by rw [h1, ← mo_push e]⟩ C
  | some p =>
    obtain ⟨j, v⟩ := p
    refine tmu1 k (.int .i64 v) (.int .i64 x) j _ M.ob (by rw [find_mE, e]; rfl) ?_ rfl ?_ hg hc ho
    · have := (fnd_ge L 0 j v e).2
      rw [Nat.sub_zero] at this
      rw [List.getElem?_toArray, mE_at, this]
      rfl
    · intro w1 h1 C
      exact h w1 ⟨by rw [h1, ← mo_set e]⟩ C
theorem run_or {ρ : Operand → Value} (x : Int) (hx : x = 0 ∨ x = 1 ∨ x = 2 ∨ x = 3) (ho : ∃ u v, o.op = .binOp .or 3 u v 3 ∧ ρ u = .int .i64 x ∧ ρ v = .int .i64 1 := by exact ⟨_, _, rfl, by kernel_rfl, by kernel_rfl⟩) : (execOp ρ o).run Tryz.prog w = .ok (.value (.int .i64 (or1 x))) w := by
  obtain ⟨u, v, h, h1, h2⟩ := ho
  simp only [execOp, h, h1, h2]
  rcases hx with e | e | e | e <;> subst e <;> kernel_rfl
theorem run_or2 {ρ : Operand → Value} (x : Int) (hx : x = 0 ∨ x = 1 ∨ x = 2 ∨ x = 3) (ho : ∃ u v, o.op = .binOp .or 3 u v 3 ∧ ρ u = .int .i64 x ∧ ρ v = .int .i64 2 := by exact ⟨_, _, rfl, by kernel_rfl, by kernel_rfl⟩) : (execOp ρ o).run Tryz.prog w = .ok (.value (.int .i64 (or2 x))) w := by
  obtain ⟨u, v, h, h1, h2⟩ := ho
  simp only [execOp, h, h1, h2]
  rcases hx with e | e | e | e <;> subst e <;> kernel_rfl
end
theorem run_apU {ρ : Operand → Value} {w w' : World} {o : Oper} {u v r : Value} (hr : (Builtin.append_ #[40, 40] 40 #[u, v]).run Tryz.prog w = .ok r w') (ho : ∃ x y, o.op = .call { callee := .builtin .append, args := #[x, y], argTypes := #[40, 40] } ∧ o.type = 40 ∧ ρ x = u ∧ ρ y = v := by exact ⟨_, _, rfl, rfl, by kernel_rfl, by kernel_rfl⟩) : (execOp ρ o).run Tryz.prog w = .ok (.value r) w' := by
  obtain ⟨x, y, h, ht, h1, h2⟩ := ho
  unfold execOp
  simp only [h, ht, resolve, invoke, builtin, Sem.run_bind, Sem.run_pure, Result.andThen_ok, List.map_toArray, List.map_cons, List.map_nil, h1, h2, hr]
theorem run_ld64 {ρ : Operand → Value} {o : Oper} {w : World} {b off : Nat} {v : Value} (hc : w.cell? ⟨b, off, none⟩ = some v) (ho : ∃ p, o.op = .load 31 p ∧ ρ p = .pointer (some ⟨b, off, none⟩) := by exact ⟨_, rfl, by kernel_rfl⟩) : (execOp ρ o).run Tryz.prog w = .ok (.value v) w := by
  obtain ⟨p, h, hp⟩ := ho
  have : (loadVar 31 ⟨b, off, none⟩).run Tryz.prog w = .ok v w := by go_simp
  simp only [execOp, h, hp]
  simp [Instr.loadAt, Instr.sureAddr, Result.andThen, this]
theorem run_ixa {P : Program} {ρ : Operand → Value} {o : Oper} {w : World} {ao : Option Addr} (sz b off n c k : Nat) (hk : k < n) (hao : 0 < n → ao = some ⟨b, off, none⟩) (ho : ∃ T x y, o.op = .indexAddr T x y ∧ slT P T sz = true ∧ ρ x = .slice ao n c ∧ ρ y = .int .i64 (k : Int) := by exact ⟨_, _, _, rfl, by kernel_rfl, by kernel_rfl, by kernel_rfl⟩) : (execOp ρ o).run P w = .ok (.value (.pointer (some ⟨b, off + k * sz, none⟩))) w := by
  rw [hao (by omega)] at ho
  obtain ⟨T, x, y, h1, h2, h5, h6⟩ := ho
  exact run_ixs sz b off n c k hk ⟨T, x, y, h1, h2, h5, h6⟩
end Pt
end Go.Proofs.YtemkjdanemddpaaGreat
