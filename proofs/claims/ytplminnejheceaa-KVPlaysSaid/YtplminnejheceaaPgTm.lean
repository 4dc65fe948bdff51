/- A map's pages by their keys and values alone. -/
import Derived.Test.YtplminnejheceaaPgTl
namespace Go.Proofs.Ytplminnejheceaa
namespace Pg
abbrev KV := List Int × List Int
def abs (P : List (List En)) : List (List KV) := P.map fun es => es.map En.kl2
def apl (Q : List (List KV)) (k : List Int) : Nat := plq (Q.map fun es => (es.map Prod.fst).headD []) k - 1
/-- is the key there? -/
def ahas (Q : List (List KV)) (k : List Int) : Bool := !Q.isEmpty && thr ((Q.getD (apl Q k) []).map Prod.fst) k
/-- what lies for it -/
def agot (Q : List (List KV)) (k : List Int) : List Int := ((Q.getD (apl Q k) [])[plc ((Q.getD (apl Q k) []).map Prod.fst) k]?.map Prod.snd).getD []
/-- the entry x laid at place q of page i -/
def ains (Q : List (List KV)) (i q : Nat) (x : KV) : List (List KV) :=
  let es := (Q.getD i []).take q ++ [x] ++ (Q.getD i []).drop q
  if 32 < es.length then Q.take i ++ [es.take 16, es.drop 16] ++ Q.drop (i + 1) else Q.set i es
/-- the pages behind a Set -/
def aset (Q : List (List KV)) (k v : List Int) : List (List KV) :=
  if Q = [] then [[(k, v)]]
  else
    let i := apl Q k
    let es := Q.getD i []
    let q := plc (es.map Prod.fst) k
    if thr (es.map Prod.fst) k then Q.set i (es.modify q fun x => (x.1, v)) else ains Q i q (k, v)
def ajnb (Q : List (List KV)) (i : Nat) : Bool := decide (i + 1 < Q.length) && decide ((Q.getD i []).length + (Q.getD (i + 1) []).length ≤ 16)
def ajn (Q : List (List KV)) (i : Nat) : List (List KV) := Q.take i ++ [Q.getD i [] ++ Q.getD (i + 1) []] ++ Q.drop (i + 2)
def arm (Q : List (List KV)) (i q : Nat) : List (List KV) :=
  let es := (Q.getD i []).take q ++ (Q.getD i []).drop (q + 1)
  if es = [] then Q.take i ++ Q.drop (i + 1)
  else
    let Q1 := Q.set i es
    if ajnb Q1 i then ajn Q1 i else if 1 ≤ i ∧ ajnb Q1 (i - 1) then ajn Q1 (i - 1) else Q1
/-- the pages behind a Delete -/
def adel (Q : List (List KV)) (k : List Int) : List (List KV) :=
  if ahas Q k then arm Q (apl Q k) (plc ((Q.getD (apl Q k) []).map Prod.fst) k) else Q
/-- what lies between two bounds -/
def abtw (f t : List Int) (x : KV) : Bool := !decide (Lt x.1 f) && (decide (t = []) || decide (Lt x.1 t))

theorem kl2_fst (es : List En) : (es.map En.kl2).map Prod.fst = kys es := by rw [List.map_map]; rfl
theorem abs_getD (P : List (List En)) (i : Nat) : (abs P).getD i [] = (P.getD i []).map En.kl2 := by
  simp only [abs, List.getD_eq_getElem?_getD, List.getElem?_map]
  cases P[i]? <;> rfl
theorem abs_pgi (P : List (List En)) (k : List Int) : apl (abs P) k = pgi P k := by
  unfold apl pgi abs fks
  rw [List.map_map]
  congr 2
  apply List.map_congr_left
  intro es _
  simp only [Function.comp_apply, kl2_fst]
theorem abs_has (P : List (List En)) (k : List Int) : ahas (abs P) k = has P k := by
  unfold ahas has
  rw [abs_pgi, abs_getD, kl2_fst]
  cases P <;> rfl
theorem abs_got (P : List (List En)) (k : List Int) : agot (abs P) k = got P k := by
  unfold agot got
  rw [abs_pgi, abs_getD, kl2_fst, List.getElem?_map, Option.map_map]
  rfl
theorem map_modify {α β : Type} {f : α → α} {g : α → β} {f' : β → β} (h : ∀ x, g (f x) = f' (g x)) : ∀ (l : List α) (q : Nat), (l.modify q f).map g = (l.map g).modify q f'
  | [], q => by cases q <;> rfl
  | a :: l, 0 => by simp [h]
  | a :: l, q + 1 => by simp [map_modify h l q]
theorem abs_nil {P : List (List En)} : abs P = [] ↔ P = [] := by simp [abs]
theorem abs_set_at (P : List (List En)) (i : Nat) (es : List En) : abs (P.set i es) = (abs P).set i (es.map En.kl2) := by simp [abs, List.map_set]
theorem abs_len (P : List (List En)) : (abs P).length = P.length := by simp [abs]
theorem abs_ins (P : List (List En)) (i q : Nat) (e : En) : abs (insQ P i q e) = ains (abs P) i q (e.kl, e.vl) := by
  have h : (((abs P).getD i []).take q ++ [(e.kl, e.vl)] ++ ((abs P).getD i []).drop q) = ((P.getD i []).take q ++ [e] ++ (P.getD i []).drop q).map En.kl2 := by
    rw [abs_getD]
    simp [List.map_take, List.map_drop, En.kl2]
  unfold ains insQ
  simp only
  rw [h]
  simp only [List.length_map]
  split
  · simp [abs, List.map_take, List.map_drop]
  · rw [abs_set_at]
theorem abs_set (P : List (List En)) (e : En) : abs (setQ P e) = aset (abs P) e.kl e.vl := by
  unfold setQ aset
  by_cases h : P = []
  · subst h; rfl
  rw [if_neg h, if_neg (fun e => h (abs_nil.1 e))]
  simp only
  rw [abs_pgi, abs_getD, kl2_fst]
  split
  · rw [abs_set_at, map_modify (f' := fun x => (x.1, e.vl)) (fun x => rfl)]
  · rw [abs_ins]
theorem abs_jnb (P : List (List En)) (i : Nat) : ajnb (abs P) i = jnb P i := by
  unfold ajnb jnb
  rw [abs_getD, abs_getD, abs_len, List.length_map, List.length_map]
theorem abs_jn (P : List (List En)) (i : Nat) : ajn (abs P) i = abs (jnQ P i) := by
  unfold ajn jnQ
  rw [abs_getD, abs_getD]
  simp [abs, List.map_take, List.map_drop]
theorem abs_del (P : List (List En)) (k : List Int) : abs (delQ P k) = adel (abs P) k := by
  unfold delQ adel
  rw [abs_has]
  split
  · rw [abs_pgi, abs_getD, kl2_fst]
    unfold rmQ arm
    simp only
    rw [abs_getD]
    have h : ∀ q, (((P.getD (pgi P k) []).map En.kl2).take q ++ ((P.getD (pgi P k) []).map En.kl2).drop (q + 1)) = ((P.getD (pgi P k) []).take q ++ (P.getD (pgi P k) []).drop (q + 1)).map En.kl2 := fun q => by
      simp [List.map_take, List.map_drop]
    rw [h, ← abs_set_at, abs_jnb, abs_jnb, abs_jn, abs_jn]
    simp only [List.map_eq_nil_iff]
    split
    · simp [abs, List.map_take, List.map_drop]
    · split
      · rfl
      · split <;> rfl
  · rfl
theorem abs_flat (P : List (List En)) : (abs P).flatten = P.flatten.map En.kl2 := by
  unfold abs
  rw [List.map_flatten]
theorem abs_walk {P : List (List En)} (O : Ord P) (f t : List Int) : (wlk P f t).map En.kl2 = (abs P).flatten.filter (abtw f t) := by
  rw [wlk_flt O, abs_flat, List.filter_map]
  rfl
/-- sizes of pages -/
theorem abs_sizes (P : List (List En)) : (abs P).map List.length = P.map List.length := by
  simp [abs, Function.comp_def]
/-- pages in order -/
def AOrd (Q : List (List KV)) : Prop := ∃ P, abs P = Q ∧ Ord P
theorem AOrd.set {Q : List (List KV)} (h : AOrd Q) (k v : List Int) : AOrd (aset Q k v) := by
  obtain ⟨P, rfl, O⟩ := h
  exact ⟨setQ P ⟨undef, k, undef, v⟩, abs_set P _, O.set _⟩
theorem AOrd.del {Q : List (List KV)} (h : AOrd Q) (k : List Int) : AOrd (adel Q k) := by
  obtain ⟨P, rfl, O⟩ := h
  exact ⟨delQ P k, abs_del P _, O.del _⟩
theorem AOrd.nil : AOrd [] := ⟨[], rfl, ⟨fun _ h => by simp at h, List.Pairwise.nil⟩⟩
theorem AOrd.flat {Q : List (List KV)} (h : AOrd Q) : Q.flatten.Pairwise fun x y => Lt x.1 y.1 := by
  obtain ⟨P, rfl, O⟩ := h
  rw [abs_flat, List.pairwise_map]
  exact O.flat
theorem AOrd.has_iff {Q : List (List KV)} (h : AOrd Q) (k : List Int) : ahas Q k = true ↔ k ∈ Q.flatten.map Prod.fst := by
  obtain ⟨P, rfl, O⟩ := h
  rw [abs_has, Pg.has_iff O, abs_flat, kl2_fst]
theorem AOrd.set_new {Q : List (List KV)} (h : AOrd Q) {k : List Int} (v : List Int) (hn : ahas Q k = false) : ∃ X Y, Q.flatten = X ++ Y ∧ (aset Q k v).flatten = X ++ (k, v) :: Y ∧ (∀ x ∈ X, Lt x.1 k) ∧ (∀ y ∈ Y, Lt k y.1) := by
  obtain ⟨P, rfl, O⟩ := h
  rw [abs_has] at hn
  obtain ⟨X, Y, e1, e2, h1, h2⟩ := set_flat_new O (e := ⟨undef, k, undef, v⟩) hn
  refine ⟨X.map En.kl2, Y.map En.kl2, by rw [abs_flat, e1, List.map_append], ?_, ?_, ?_⟩
  · rw [← abs_set P ⟨undef, k, undef, v⟩, abs_flat, e2]
    simp [En.kl2]
  · intro x hx
    obtain ⟨e, he, rfl⟩ := List.mem_map.1 hx
    exact h1 e he
  · intro x hx
    obtain ⟨e, he, rfl⟩ := List.mem_map.1 hx
    exact h2 e he
theorem AOrd.set_old {Q : List (List KV)} (h : AOrd Q) {k : List Int} (v : List Int) (hn : ahas Q k = true) : ∃ X x Y, Q.flatten = X ++ (k, x) :: Y ∧ (aset Q k v).flatten = X ++ (k, v) :: Y := by
  obtain ⟨P, rfl, O⟩ := h
  rw [abs_has] at hn
  obtain ⟨X, x, Y, e1, hx, e2⟩ := set_flat_old O (e := ⟨undef, k, undef, v⟩) hn
  refine ⟨X.map En.kl2, x.vl, Y.map En.kl2, ?_, ?_⟩
  · rw [abs_flat, e1]
    simp [En.kl2, hx]
  · rw [← abs_set P ⟨undef, k, undef, v⟩, abs_flat, e2]
    simp [En.kl2, hx]
theorem AOrd.del_old {Q : List (List KV)} (h : AOrd Q) {k : List Int} (hn : ahas Q k = true) : ∃ X x Y, Q.flatten = X ++ (k, x) :: Y ∧ (adel Q k).flatten = X ++ Y := by
  obtain ⟨P, rfl, O⟩ := h
  rw [abs_has] at hn
  obtain ⟨X, x, Y, e1, hx, e2⟩ := del_flat O hn
  refine ⟨X.map En.kl2, x.vl, Y.map En.kl2, ?_, ?_⟩
  · rw [abs_flat, e1]
    simp [En.kl2, hx]
  · rw [← abs_del P k, abs_flat, e2]
    simp
theorem adel_none {Q : List (List KV)} {k : List Int} (hn : ahas Q k = false) : adel Q k = Q := by
  unfold adel
  rw [hn]
  rfl
end Pg
end Go.Proofs.Ytplminnejheceaa
