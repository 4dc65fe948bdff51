/- Several texts, joined: KvT, PgMp, KvM, KvO, KvP, KvQ, KvD, KvR, KvS, KvU, KvV. -/
import Derived.Test.YtpoifdokmjhclaaGreatJyg
import Derived.Laws.LoneSync
namespace Go.Proofs.YtpoifdokmjhclaaGreat
namespace Kv
open Pg

abbrev Ents := List KV
/-- rising -/
def Rise (E : Ents) : Prop := E.Pairwise fun x y => Lt x.1 y.1
def look (E : Ents) (k : List Int) : Option (List Int) := (E.find? (fun x => decide (x.1 = k))).map Prod.snd
def put (E : Ents) (k v : List Int) : Ents := E.filter (fun x => decide (Lt x.1 k)) ++ (k, v) :: E.filter (fun x => decide (Lt k x.1))
def rem (E : Ents) (k : List Int) : Ents := E.filter (fun x => decide (¬ x.1 = k))
theorem filter_id {α : Type} {p : α → Bool} {l : List α} (h : ∀ x ∈ l, p x = true) : l.filter p = l := List.filter_eq_self.2 h
theorem filter_no {α : Type} {p : α → Bool} {l : List α} (h : ∀ x ∈ l, p x = false) : l.filter p = [] := List.filter_eq_nil_iff.2 (fun x hx => by rw [h x hx]; simp)
/-- k's place among them -/
structure Cut (k : List Int) (X Y : Ents) : Prop where
  lo : ∀ x ∈ X, Lt x.1 k
  hi : ∀ y ∈ Y, Lt k y.1
theorem Cut.nx {k : List Int} {X Y : Ents} (h : Cut k X Y) : ∀ x ∈ X, ¬ x.1 = k := fun x hx e => by have := h.lo x hx; rw [e] at this; exact lt_irrefl _ this
theorem Cut.ny {k : List Int} {X Y : Ents} (h : Cut k X Y) : ∀ x ∈ Y, ¬ x.1 = k := fun x hx e => by have := h.hi x hx; rw [e] at this; exact lt_irrefl _ this
theorem look_no {k : List Int} {X : Ents} (h : ∀ x ∈ X, ¬ x.1 = k) : look X k = none := by
  unfold look
  rw [List.find?_eq_none.2 (fun x hx => by simp [h x hx])]
  rfl
theorem look_app {k : List Int} {X Y : Ents} (h : ∀ x ∈ X, ¬ x.1 = k) : look (X ++ Y) k = look Y k := by
  unfold look
  rw [List.find?_append, List.find?_eq_none.2 (fun x hx => by simp [h x hx])]
  simp
theorem Cut.look0 {k : List Int} {X Y : Ents} (h : Cut k X Y) : look (X ++ Y) k = none := by rw [look_app h.nx, look_no h.ny]
theorem Cut.look1 {k x : List Int} {X Y : Ents} (h : Cut k X Y) : look (X ++ (k, x) :: Y) k = some x := by
  rw [look_app h.nx]
  simp [look]
theorem Cut.put0 {k v : List Int} {X Y : Ents} (h : Cut k X Y) : put (X ++ Y) k v = X ++ (k, v) :: Y := by
  unfold put
  rw [List.filter_append, List.filter_append, filter_id (l := X) (fun x hx => decide_eq_true (h.lo x hx)), filter_no (l := Y) (fun x hx => decide_eq_false (h.hi x hx).not), filter_no (l := X) (fun x hx => decide_eq_false (h.lo x hx).not), filter_id (l := Y) (fun x hx => decide_eq_true (h.hi x hx))]
  simp
theorem Cut.put1 {k x v : List Int} {X Y : Ents} (h : Cut k X Y) : put (X ++ (k, x) :: Y) k v = X ++ (k, v) :: Y := by
  unfold put
  rw [List.filter_append, List.filter_append, filter_id (l := X) (fun x hx => decide_eq_true (h.lo x hx)), filter_no (l := X) (fun x hx => decide_eq_false (h.lo x hx).not), List.filter_cons, List.filter_cons, filter_no (l := Y) (fun x hx => decide_eq_false (h.hi x hx).not), filter_id (l := Y) (fun x hx => decide_eq_true (h.hi x hx)), decide_eq_false (lt_irrefl k)]
  simp
theorem Cut.rem0 {k : List Int} {X Y : Ents} (h : Cut k X Y) : rem (X ++ Y) k = X ++ Y := by
  unfold rem
  rw [List.filter_append, filter_id (l := X) (fun x hx => decide_eq_true (h.nx x hx)), filter_id (l := Y) (fun x hx => decide_eq_true (h.ny x hx))]
theorem Cut.rem1 {k x : List Int} {X Y : Ents} (h : Cut k X Y) : rem (X ++ (k, x) :: Y) k = X ++ Y := by
  unfold rem
  rw [List.filter_append, filter_id (l := X) (fun x hx => decide_eq_true (h.nx x hx)), List.filter_cons, filter_id (l := Y) (fun x hx => decide_eq_true (h.ny x hx))]
  simp
theorem cut_of {k x : List Int} {X Y : Ents} (h : Rise (X ++ (k, x) :: Y)) : Cut k X Y := by
  unfold Rise at h
  rw [List.pairwise_append, List.pairwise_cons] at h
  exact ⟨fun a ha => h.2.2 a ha (k, x) List.mem_cons_self, fun b hb => h.2.1.1 b hb⟩
/-- every key has its place -/
theorem Rise.cut {E : Ents} (h : Rise E) (k : List Int) : ∃ X Y, Cut k X Y ∧ ((E = X ++ Y ∧ look E k = none) ∨ ∃ x, E = X ++ (k, x) :: Y ∧ look E k = some x) := by
  induction E with
  | nil => exact ⟨[], [], ⟨fun _ h => by simp at h, fun _ h => by simp at h⟩, .inl ⟨rfl, rfl⟩⟩
  | cons a E ih =>
    have h' := h
    unfold Rise at h'
    rw [List.pairwise_cons] at h'
    rcases lt_tri a.1 k with hl | he | hg
    · obtain ⟨X, Y, c, r⟩ := ih h'.2
      have hc : Cut k (a :: X) Y := ⟨fun x hx => by
        rcases List.mem_cons.1 hx with rfl | hx
        · exact hl
        · exact c.lo x hx, c.hi⟩
      refine ⟨a :: X, Y, hc, ?_⟩
      rcases r with ⟨e, _⟩ | ⟨x, e, _⟩
      · subst e; exact .inl ⟨rfl, hc.look0⟩
      · subst e; exact .inr ⟨x, rfl, hc.look1⟩
    · have hc : Cut k [] E := ⟨fun _ h => by simp at h, fun y hy => by rw [← he]; exact h'.1 y hy⟩
      obtain ⟨ak, av⟩ := a
      simp only at he
      subst he
      exact ⟨[], E, hc, .inr ⟨av, rfl, hc.look1⟩⟩
    · have hc : Cut k [] (a :: E) := ⟨fun _ h => by simp at h, fun y hy => by
        rcases List.mem_cons.1 hy with rfl | hy
        · exact hg
        · exact hg.trans (h'.1 y hy)⟩
      exact ⟨[], a :: E, hc, .inl ⟨rfl, hc.look0⟩⟩
/-- what takes a change back: a key, and what lay there -/
abbrev Und := List Int × Option (List Int)
def undo (E : Ents) (u : Und) : Ents := match u.2 with
  | none => rem E u.1
  | some v => put E u.1 v
theorem undo_put {E : Ents} (h : Rise E) (k v : List Int) : undo (put E k v) (k, look E k) = E := by
  obtain ⟨X, Y, c, ⟨rfl, e⟩ | ⟨x, rfl, e⟩⟩ := h.cut k
  · rw [e, c.put0]; exact c.rem1
  · rw [e, c.put1]; exact c.put1
theorem undo_rem {E : Ents} (h : Rise E) (k : List Int) : undo (rem E k) (k, look E k) = E := by
  obtain ⟨X, Y, c, ⟨rfl, e⟩ | ⟨x, rfl, e⟩⟩ := h.cut k
  · rw [e, c.rem0]; exact c.rem0
  · rw [e, c.rem1]; exact c.put0
def undos (U : List Und) (E : Ents) : Ents := U.foldr (fun u E => undo E u) E
theorem undos_app (U V : List Und) (E : Ents) : undos (U ++ V) E = undos U (undos V E) := by simp [undos]
theorem undos_snoc (U : List Und) (u : Und) (E : Ents) : undos (U ++ [u]) E = undos U (undo E u) := by simp [undos]
/-- journals that lead back to what was (the innermost one first) -/
def Back : List (List Und) → List Ents → Ents → Prop
  | [], [], _ => True
  | U :: J, e :: W, E => undos U E = e ∧ Back J W e
  | _, _, _ => False
theorem Back.len : ∀ {J : List (List Und)} {W : List Ents} {E : Ents}, Back J W E → J.length = W.length
  | [], [], _, _ => rfl
  | _ :: _, _ :: _, _, h => by simp [Back.len h.2]
  | [], _ :: _, _, h => h.elim
  | _ :: _, [], _, h => h.elim
/-- all keys of what takes back are short -/
theorem pages_put {Q : List (List KV)} (h : AOrd Q) (k v : List Int) : (aset Q k v).flatten = put Q.flatten k v := by
  cases hh : ahas Q k
  · obtain ⟨X, Y, e1, e2, h1, h2⟩ := h.set_new v hh
    rw [e1, e2, Cut.put0 ⟨h1, h2⟩]
  · obtain ⟨X, x, Y, e1, e2⟩ := h.set_old v hh
    have c := cut_of (by have := h.flat; rw [e1] at this; exact this)
    rw [e1, e2, c.put1]
theorem look_has {Q : List (List KV)} (h : AOrd Q) (k : List Int) : ahas Q k = (look Q.flatten k).isSome := by
  cases hh : ahas Q k
  · obtain ⟨X, Y, e1, _, h1, h2⟩ := h.set_new [] hh
    rw [e1, Cut.look0 ⟨h1, h2⟩]; rfl
  · obtain ⟨X, x, Y, e1, _⟩ := h.set_old [] hh
    have c := cut_of (by have := h.flat; rw [e1] at this; exact this)
    rw [e1, c.look1]; rfl
theorem pages_rem {Q : List (List KV)} (h : AOrd Q) (k : List Int) : (adel Q k).flatten = rem Q.flatten k := by
  cases hh : ahas Q k
  · rw [adel_none hh]
    obtain ⟨X, Y, e1, _, h1, h2⟩ := h.set_new [] hh
    rw [e1, Cut.rem0 ⟨h1, h2⟩]
  · obtain ⟨X, x, Y, e1, e2⟩ := h.del_old hh
    have c := cut_of (by have := h.flat; rw [e1] at this; exact this)
    rw [e1, e2, c.rem1]
theorem got_mem {Q : List (List KV)} {k : List Int} (hh : ahas Q k = true) : (k, agot Q k) ∈ Q.flatten := by
  unfold ahas thr at hh
  simp only [Bool.and_eq_true, Bool.not_eq_true', decide_eq_true_eq] at hh
  obtain ⟨_, h2⟩ := hh
  unfold agot
  rw [List.getElem?_map] at h2
  obtain ⟨x, hx, hk⟩ := Option.map_eq_some_iff.1 h2
  rw [hx]
  simp only [Option.map_some, Option.getD_some]
  have hm := List.mem_of_getElem? hx
  have hp : x = (k, x.2) := by rw [← hk]
  rw [← hp]
  rw [List.getD_eq_getElem?_getD] at hm
  cases hq : Q[apl Q k]? with
  | none => rw [hq] at hm; simp at hm
  | some p => rw [hq] at hm; exact List.mem_flatten.2 ⟨p, List.mem_of_getElem? hq, hm⟩
theorem look_got {Q : List (List KV)} (h : AOrd Q) (k : List Int) : (if ahas Q k then agot Q k else []) = (look Q.flatten k).getD [] := by
  cases hh : ahas Q k
  · have := look_has h k
    rw [hh] at this
    cases hl : look Q.flatten k with
    | none => rfl
    | some x => rw [hl] at this; cases this
  · have hm := got_mem hh
    obtain ⟨X, Y, e⟩ := List.append_of_mem hm
    have c := cut_of (by have := h.flat; rw [e] at this; exact this)
    rw [e, c.look1]; rfl
theorem look_mem {E : Ents} {k x : List Int} (h : look E k = some x) : (k, x) ∈ E := by
  unfold look at h
  obtain ⟨a, ha, rfl⟩ := Option.map_eq_some_iff.1 h
  have h1 := List.mem_of_find?_eq_some ha
  have h2 := List.find?_some ha
  simp only [decide_eq_true_eq] at h2
  rw [← h2]; exact h1
theorem put_len {E : Ents} (h : Rise E) (k v : List Int) : (put E k v).length ≤ E.length + 1 := by
  obtain ⟨X, Y, c, ⟨rfl, _⟩ | ⟨x, rfl, _⟩⟩ := h.cut k
  · rw [c.put0]; simp; omega
  · rw [c.put1]; simp
theorem rem_len {E : Ents} (k : List Int) : (rem E k).length ≤ E.length := List.length_filter_le _ _
theorem undo_len {E : Ents} (h : Rise E) (u : Und) : (undo E u).length ≤ E.length + 1 := by
  unfold undo
  split
  · have := rem_len (E := E) u.1; omega
  · exact put_len h _ _
end Kv
end Go.Proofs.YtpoifdokmjhclaaGreat

namespace Go.Proofs.YtpoifdokmjhclaaGreat
namespace Pg
open Go.RowKit Go.Lib
/-- at g lies a map with the pages Q, of N entries at most -/
structure Mp (w : World) (F D : Nat → Prop) (g : Nat) (Q : List (List KV)) (N : Nat) : Prop where
  ex : ∃ L, abs (ens L) = Q ∧ MapA w F D g L ∧ Ord (ens L) ∧ Shq (ens L) ∧ (ens L).flatten.length ≤ N ∧ ∀ es ∈ ens L, ∀ e ∈ es, e.kl.length ≤ 1000000000 ∧ e.vl.length ≤ 1000000000
theorem flen_ge : ∀ {P : List (List En)}, (∀ es ∈ P, 1 ≤ es.length) → P.length ≤ P.flatten.length
  | [], _ => Nat.le_refl _
  | a :: P, h => by
    have h1 := h a List.mem_cons_self
    have h2 := flen_ge (P := P) fun es he => h es (List.mem_cons_of_mem _ he)
    simp only [List.flatten_cons, List.length_append, List.length_cons]
    omega
theorem Shq.few {L : List Pg} (h : Shq (ens L)) {N : Nat} (hN : (ens L).flatten.length ≤ N) (hb : N ≤ 100000000) : L.length ≤ 100000000 := by
  have h1 := flen_ge fun es he => (h.one es he).1
  have h2 : (ens L).length = L.length := by simp [ens]
  omega
theorem Mp.lt {w : World} {F D : Nat → Prop} {g N : Nat} {Q : List (List KV)} (M : Mp w F D g Q N) {b : Nat} (hb : F b) : b < w.heap.size := by
  obtain ⟨L, _, A, _⟩ := M.ex
  exact A.lt hb
theorem Mp.noU {w : World} {F D : Nat → Prop} {g N : Nat} {Q : List (List KV)} (M : Mp w F D g Q N) {b : Nat} (hb : F b) (cs : List Value) : ¬ Blk w b cs 5 := by
  obtain ⟨L, _, A, _⟩ := M.ex
  exact A.noU hb cs
theorem Mp.keep {w w' : World} {F D : Nat → Prop} {g N : Nat} {Q : List (List KV)} (M : Mp w F D g Q N) (hb : Below w.heap.size w w') : Mp w' F D g Q N := by
  obtain ⟨L, e, A, r⟩ := M.ex
  exact ⟨L, e, A.keep hb, r⟩
theorem Mp.drew {w : World} {F D : Nat → Prop} {g N : Nat} {Q : List (List KV)} (M : Mp w F D g Q N) : Mp w.drew F D g Q N := by
  obtain ⟨L, e, A, r⟩ := M.ex
  exact ⟨L, e, A.drew, r⟩
theorem Mp.same {w w' : World} {F D : Nat → Prop} {g N : Nat} {Q : List (List KV)} (M : Mp w F D g Q N) (h1 : ∀ b, F b → w'.heap[b]? = w.heap[b]?) (h2 : ∀ b, b < w.heap.size → D b → (∃ cs, Blk w b cs 5) → w'.heap[b]? = w.heap[b]?) : Mp w' F D g Q N := by
  obtain ⟨L, e, A, r⟩ := M.ex
  exact ⟨L, e, A.same h1 h2, r⟩
theorem Mp.chg {w w' : World} {F D F' : Nat → Prop} {g N : Nat} {Q : List (List KV)} (M : Mp w F D g Q N) (hc : Chg F' w w') (h1 : ∀ b, F' b → ¬ F b) (h2 : ∀ b, F' b → ∀ cs, ¬ Blk w b cs 5) : Mp w' F D g Q N := by
  obtain ⟨L, e, A, r⟩ := M.ex
  exact ⟨L, e, A.chg hc h1 h2, r⟩
theorem Mp.mono {w : World} {F D D' : Nat → Prop} {g N : Nat} {Q : List (List KV)} (M : Mp w F D g Q N) (hD : ∀ b, b < w.heap.size → D b → D' b) : Mp w F D' g Q N := by
  obtain ⟨L, e, A, r⟩ := M.ex
  exact ⟨L, e, A.mono hD, r⟩
theorem Mp.more {w : World} {F D : Nat → Prop} {g N N' : Nat} {Q : List (List KV)} (M : Mp w F D g Q N) (h : N ≤ N') : Mp w F D g Q N' := by
  obtain ⟨L, e, A, O, S, n, r⟩ := M.ex
  exact ⟨L, e, A, O, S, by omega, r⟩
theorem Mp.ord {w : World} {F D : Nat → Prop} {g N : Nat} {Q : List (List KV)} (M : Mp w F D g Q N) : AOrd Q := by
  obtain ⟨L, e, A, O, _⟩ := M.ex
  exact ⟨_, e, O⟩
theorem Mp.len {w : World} {F D : Nat → Prop} {g N : Nat} {Q : List (List KV)} (M : Mp w F D g Q N) : Q.flatten.length ≤ N := by
  obtain ⟨L, rfl, A, O, S, n, r⟩ := M.ex
  rw [abs_flat, List.length_map]
  exact n
theorem Mp.small {w : World} {F D : Nat → Prop} {g N : Nat} {Q : List (List KV)} (M : Mp w F D g Q N) : ∀ x ∈ Q.flatten, x.1.length ≤ 1000000000 ∧ x.2.length ≤ 1000000000 := by
  obtain ⟨L, rfl, A, O, S, n, r⟩ := M.ex
  intro x hx
  rw [abs_flat] at hx
  obtain ⟨e, he, rfl⟩ := List.mem_map.1 hx
  obtain ⟨es, h1, h2⟩ := List.mem_flatten.1 he
  exact r es h1 e h2
theorem small_flat {P : List (List En)} {p : En → Prop} : (∀ es ∈ P, ∀ e ∈ es, p e) ↔ ∀ e ∈ P.flatten, p e :=
  ⟨fun h e he => by obtain ⟨es, h1, h2⟩ := List.mem_flatten.1 he; exact h es h1 e h2, fun h es he e hee => h e (List.mem_flatten.2 ⟨es, he, hee⟩)⟩
theorem mnew {w : World} : Calls Tryz.prog 85 #[] w fun e w' => e = .returned (.pointer (some ⟨w.heap.size, 0, none⟩)) ∧ Mp w' (· = w.heap.size) (fun _ => False) w.heap.size [] 0 ∧ Below w.heap.size w w' :=
  new_any.mono fun e w' ⟨g, he, hg, A, B⟩ => by
    subst hg
    exact ⟨he, ⟨[], rfl, A, ⟨fun _ h => by simp [ens] at h, List.Pairwise.nil⟩, Shq.nil, Nat.le_refl _, fun _ h => by simp [ens] at h⟩, B⟩
theorem mset {w : World} {F D : Nat → Prop} {g N : Nat} {Q : List (List KV)} {kv vv : Value} {k v : List Int} (M : Mp w F D g Q N) (hk : By w kv k) (hv : By w vv v) (hkl : k.length ≤ 1000000000) (hvl : v.length ≤ 1000000000) (hN : N ≤ 100000000) :
    Calls Tryz.prog 126 #[.pointer (some ⟨g, 0, none⟩), kv, vv] w fun e w' => e = .returned (.bool (!ahas Q k)) ∧ ∃ F', Mp w' F' (fun b => D b ∨ w.heap.size ≤ b) g (aset Q k v) (N + 1) ∧ (∀ b, F' b → F b ∨ w.heap.size ≤ b) ∧ Chg F w w' := by
  obtain ⟨L, rfl, A, O, S, n, r⟩ := M.ex
  refine (set_any A O (fun es he => (S.one es he).2) (S.few n hN) hk hv hkl hvl).mono fun e w' ⟨he, F', L', nk, nv, e1, A', hF, hc⟩ => ?_
  refine ⟨by rw [abs_has]; exact he, F', ⟨L', by rw [e1, abs_set], A', by rw [e1]; exact O.set _, by rw [e1]; exact S.set O _, ?_, ?_⟩, hF, hc⟩
  · rw [e1, len_set O]
    split <;> omega
  · rw [e1]
    rw [small_flat] at r ⊢
    intro x hx
    cases hh : has (ens L) k
    · obtain ⟨X, Y, e2, e3, _⟩ := set_flat_new O (e := ⟨nk, k, nv, v⟩) hh
      rw [e3] at hx
      rw [e2] at r
      rcases List.mem_append.1 hx with h | h
      · exact r x (List.mem_append_left _ h)
      · rcases List.mem_cons.1 h with h | h
        · subst h; exact ⟨hkl, hvl⟩
        · exact r x (List.mem_append_right _ h)
    · obtain ⟨X, y, Y, e2, hy, e3⟩ := set_flat_old O (e := ⟨nk, k, nv, v⟩) hh
      rw [e3] at hx
      rw [e2] at r
      rcases List.mem_append.1 hx with h | h
      · exact r x (List.mem_append_left _ h)
      · rcases List.mem_cons.1 h with h | h
        · subst h; exact ⟨by simp only; rw [hy]; exact hkl, hvl⟩
        · exact r x (List.mem_append_right _ (List.mem_cons_of_mem _ h))
theorem mdel {w : World} {F D : Nat → Prop} {g N : Nat} {Q : List (List KV)} {kv : Value} {k : List Int} (M : Mp w F D g Q N) (hk : By w kv k) (hN : N ≤ 100000000) :
    Calls Tryz.prog 171 #[.pointer (some ⟨g, 0, none⟩), kv] w fun e w' => e = .returned (.bool (ahas Q k)) ∧ ∃ F', Mp w' F' D g (adel Q k) N ∧ (∀ b, F' b → F b ∨ w.heap.size ≤ b) ∧ Chg F w w' := by
  obtain ⟨L, rfl, A, O, S, n, r⟩ := M.ex
  refine (delete_any A O (fun es he => (S.one es he).2) (S.few n hN) hk).mono fun e w' ⟨he, F', L', e1, A', hF, hc⟩ => ?_
  refine ⟨by rw [abs_has]; exact he, F', ⟨L', by rw [e1, abs_del], A', by rw [e1]; exact O.del _, by rw [e1]; exact S.del O _, ?_, ?_⟩, hF, hc⟩
  · rw [e1]
    cases hh : has (ens L) k
    · rw [del_none hh]; exact n
    · obtain ⟨X, x, Y, e2, _, e3⟩ := del_flat O hh
      rw [e2] at n
      rw [e3]
      simp only [List.length_append, List.length_cons] at n ⊢
      omega
  · rw [e1]
    rw [small_flat] at r ⊢
    intro x hx
    cases hh : has (ens L) k
    · rw [del_none hh] at hx; exact r x hx
    · obtain ⟨X, y, Y, e2, _, e3⟩ := del_flat O hh
      rw [e3] at hx
      rw [e2] at r
      rcases List.mem_append.1 hx with h | h
      · exact r x (List.mem_append_left _ h)
      · exact r x (List.mem_append_right _ (List.mem_cons_of_mem _ h))
theorem mget {w : World} {F D : Nat → Prop} {g N : Nat} {Q : List (List KV)} {kv : Value} {k : List Int} (M : Mp w F D g Q N) (hk : By w kv k) (hN : N ≤ 100000000) :
    Calls Tryz.prog 71 #[.pointer (some ⟨g, 0, none⟩), kv] w fun e w' => ∃ v, e = .returned (.tuple #[v, .bool (ahas Q k)]) ∧ OB w' (w.heap.size ≤ ·) v (if ahas Q k then agot Q k else []) ∧ Below w.heap.size w w' := by
  obtain ⟨L, rfl, A, O, S, n, r⟩ := M.ex
  rw [abs_has, abs_got]
  exact get_any A O (fun es he => by have := (S.one es he).2; omega) (S.few n hN) hk fun p hp e he => (r p.es (List.mem_map.2 ⟨p, hp, rfl⟩) e he).2
end Pg
end Go.Proofs.YtpoifdokmjhclaaGreat

namespace Go.Proofs.YtpoifdokmjhclaaGreat
namespace Kv
open Go.RowKit Go.Lib Pg

theorem KF : Kd Tryz.prog 263 1 1 8 .nilFunc := ⟨by kernel_rfl, by kernel_rfl, rfl, by simp [Value.cells, Value.oneCell'], by decide⟩
theorem KJ : Kd Tryz.prog 145 265 1 24 (.agg #[.slice none 0 0]) := ⟨by kernel_rfl, by kernel_rfl, rfl, by simp [Value.cells, Value.oneCell'], by decide⟩
/-- a closure that takes a change back -/
structure CloA (w : World) (V D : Nat → Prop) (g : Nat) (u : Und) (c : Value) : Prop where
  short : u.1.length ≤ 1000000000 ∧ ∀ x, u.2 = some x → x.length ≤ 1000000000
  ex : ∃ s1 s2 kv, V s1 ∧ V s2 ∧ Blk w s1 [.pointer (some ⟨g, 0, none⟩)] 46 ∧ Blk w s2 [kv] 29 ∧ OB w D kv u.1 ∧
    ((u.2 = none ∧ c = .func (.func 205) #[] #[.pointer (some ⟨s1, 0, none⟩), .pointer (some ⟨s2, 0, none⟩)]) ∨
     ∃ s3 vv x, V s3 ∧ Blk w s3 [vv] 29 ∧ OB w D vv x ∧ u.2 = some x ∧ c = .func (.func 206) #[] #[.pointer (some ⟨s1, 0, none⟩), .pointer (some ⟨s2, 0, none⟩), .pointer (some ⟨s3, 0, none⟩)])
/-- what stays where these blocks stay -/
structure Stay (V D : Nat → Prop) (w w' : World) : Prop where
  var : ∀ b cs t, V b → Blk w b cs t → (t = 46 ∨ t = 29) → w'.heap[b]? = w.heap[b]?
  byt : ∀ b, b < w.heap.size → D b → (∃ cs, Blk w b cs 5) → w'.heap[b]? = w.heap[b]?
theorem Stay.ob {V D : Nat → Prop} {w w' : World} (h : Stay V D w w') {v : Value} {l : List Int} (O : OB w D v l) : OB w' D v l :=
  ⟨O.oct, O.ex.imp id (by
    rintro ⟨b, c, e, hd, hR⟩
    exact ⟨b, c, e, hd, hR.same (h.byt b hR.lt hd hR.kind)⟩)⟩
theorem CloA.stay {w w' : World} {V D : Nat → Prop} {g : Nat} {u : Und} {c : Value} (h : CloA w V D g u c) (hs : Stay V D w w') : CloA w' V D g u c := by
  obtain ⟨s1, s2, kv, v1, v2, b1, b2, ok, r⟩ := h.ex
  refine ⟨h.short, s1, s2, kv, v1, v2, b1.same (hs.var _ _ _ v1 b1 (.inl rfl)), b2.same (hs.var _ _ _ v2 b2 (.inr rfl)), hs.ob ok, r.imp id ?_⟩
  rintro ⟨s3, vv, x, v3, b3, ov, e⟩
  exact ⟨s3, vv, x, v3, b3.same (hs.var _ _ _ v3 b3 (.inr rfl)), hs.ob ov, e⟩
theorem CloA.mono {w : World} {V V' D D' : Nat → Prop} {g : Nat} {u : Und} {c : Value} (h : CloA w V D g u c) (hV : ∀ b, V b → V' b) (hD : ∀ b, b < w.heap.size → D b → D' b) : CloA w V' D' g u c := by
  obtain ⟨s1, s2, kv, v1, v2, b1, b2, ok, r⟩ := h.ex
  refine ⟨h.short, s1, s2, kv, hV _ v1, hV _ v2, b1, b2, ok.mono hD, r.imp id ?_⟩
  rintro ⟨s3, vv, x, v3, b3, ov, e⟩
  exact ⟨s3, vv, x, hV _ v3, b3, ov.mono hD, e⟩
theorem CloA.one {w : World} {V D : Nat → Prop} {g : Nat} {u : Und} {c : Value} (h : CloA w V D g u c) : c.oneCell' = true := by
  obtain ⟨s1, s2, kv, v1, v2, b1, b2, ok, ⟨_, rfl⟩ | ⟨s3, vv, x, v3, b3, ov, _, rfl⟩⟩ := h.ex <;> rfl
/-- a list of them -/
def CloL (w : World) (V D : Nat → Prop) (g : Nat) (U : List Und) (cs : List Value) : Prop := cs.length = U.length ∧ ∀ (i : Nat) u c, U[i]? = some u → cs[i]? = some c → CloA w V D g u c
theorem CloL.stay {w w' : World} {V D : Nat → Prop} {g : Nat} {U : List Und} {cs : List Value} (h : CloL w V D g U cs) (hs : Stay V D w w') : CloL w' V D g U cs := ⟨h.1, fun i u c hu hc => (h.2 i u c hu hc).stay hs⟩
theorem CloL.mono {w : World} {V V' D D' : Nat → Prop} {g : Nat} {U : List Und} {cs : List Value} (h : CloL w V D g U cs) (hV : ∀ b, V b → V' b) (hD : ∀ b, b < w.heap.size → D b → D' b) : CloL w V' D' g U cs := ⟨h.1, fun i u c hu hc => (h.2 i u c hu hc).mono hV hD⟩
theorem CloL.app {w : World} {V D : Nat → Prop} {g : Nat} {U U' : List Und} {cs cs' : List Value} (h : CloL w V D g U cs) (h' : CloL w V D g U' cs') : CloL w V D g (U ++ U') (cs ++ cs') := by
  refine ⟨by rw [List.length_append, List.length_append, h.1, h'.1], fun i u c hu hc => ?_⟩
  by_cases hi : i < U.length
  · rw [List.getElem?_append_left hi] at hu
    rw [List.getElem?_append_left (by rw [h.1]; exact hi)] at hc
    exact h.2 i u c hu hc
  · rw [List.getElem?_append_right (by omega)] at hu
    rw [List.getElem?_append_right (by rw [h.1]; omega), h.1] at hc
    exact h'.2 _ u c hu hc
theorem CloL.one {w : World} {V D : Nat → Prop} {g : Nat} {U : List Und} {cs : List Value} (h : CloL w V D g U cs) : ∀ c ∈ cs, c.oneCell' = true := fun c hc => by
  obtain ⟨i, hi⟩ := List.getElem?_of_mem hc
  have hlt := (List.getElem?_eq_some_iff.1 hi).1
  exact (h.2 i (U[i]'(by rw [← h.1]; exact hlt)) c (List.getElem?_eq_getElem _) hi).one
theorem CloL.nil (w : World) (V D : Nat → Prop) (g : Nat) : CloL w V D g [] [] := ⟨rfl, fun i u c h _ => by simp at h⟩
/-- a journal: what takes back, the slice of it, its block -/
structure Jr where
  U : List Und
  v : Value
  o : Option Nat
/-- it lies there -/
def JrA (w : World) (V D : Nat → Prop) (g : Nat) (j : Jr) : Prop := ∃ cs, CloL w V D g j.U cs ∧ ((j.o = none ∧ j.v = .slice none 0 0 ∧ j.U = []) ∨ ∃ b c, j.o = some b ∧ j.v = .slice (some ⟨b, 0, none⟩) j.U.length c ∧ Rw w 1 1 b j.U.length c cs)
theorem JrA.stay {w w' : World} {V D : Nat → Prop} {g : Nat} {j : Jr} (h : JrA w V D g j) (hs : Stay V D w w') (ho : ∀ b, j.o = some b → w'.heap[b]? = w.heap[b]?) : JrA w' V D g j := by
  obtain ⟨cs, hc, r⟩ := h
  refine ⟨cs, hc.stay hs, r.imp id ?_⟩
  rintro ⟨b, c, e1, e2, hR⟩
  exact ⟨b, c, e1, e2, hR.same (ho b e1)⟩
theorem JrA.mono {w : World} {V V' D D' : Nat → Prop} {g : Nat} {j : Jr} (h : JrA w V D g j) (hV : ∀ b, V b → V' b) (hD : ∀ b, b < w.heap.size → D b → D' b) : JrA w V' D' g j := by
  obtain ⟨cs, hc, r⟩ := h
  exact ⟨cs, hc.mono hV hD, r⟩
theorem JrA.kind {w : World} {V D : Nat → Prop} {g : Nat} {j : Jr} (h : JrA w V D g j) {b : Nat} (hb : j.o = some b) : ∃ cs, Blk w b cs 1 := by
  obtain ⟨cs, hc, ⟨e, _⟩ | ⟨b', c, e, _, hR⟩⟩ := h
  · rw [hb] at e; cases e
  · rw [hb] at e; cases e; exact hR.kind
/-- all journals, the innermost one last -/
structure JnA (w : World) (V D : Nat → Prop) (g : Nat) (jv : Value) (T : List Jr) (oj : Option Nat) : Prop where
  row : (oj = none ∧ jv = .slice none 0 0 ∧ T = []) ∨ ∃ b c, oj = some b ∧ jv = .slice (some ⟨b, 0, none⟩) T.length c ∧ Rw w 265 1 b T.length c (T.map Jr.v)
  each : ∀ j ∈ T, JrA w V D g j
  apart : (T.filterMap Jr.o).Nodup
theorem JnA.stay {w w' : World} {V D : Nat → Prop} {g : Nat} {jv : Value} {T : List Jr} {oj : Option Nat} (h : JnA w V D g jv T oj) (hs : Stay V D w w') (ho : ∀ b, oj = some b → w'.heap[b]? = w.heap[b]?) (hb : ∀ j ∈ T, ∀ b, j.o = some b → w'.heap[b]? = w.heap[b]?) : JnA w' V D g jv T oj :=
  ⟨h.row.imp id (by rintro ⟨b, c, e1, e2, hR⟩; exact ⟨b, c, e1, e2, hR.same (ho b e1)⟩), fun j hj => (h.each j hj).stay hs (hb j hj), h.apart⟩
theorem JnA.mono {w : World} {V V' D D' : Nat → Prop} {g : Nat} {jv : Value} {T : List Jr} {oj : Option Nat} (h : JnA w V D g jv T oj) (hV : ∀ b, V b → V' b) (hD : ∀ b, b < w.heap.size → D b → D' b) : JnA w V' D' g jv T oj :=
  ⟨h.row, fun j hj => (h.each j hj).mono hV hD, h.apart⟩
theorem JnA.kind {w : World} {V D : Nat → Prop} {g : Nat} {jv : Value} {T : List Jr} {oj : Option Nat} (h : JnA w V D g jv T oj) {b : Nat} (hb : oj = some b) : ∃ cs, Blk w b cs 265 := by
  rcases h.row with ⟨e, _⟩ | ⟨b', c, e, _, hR⟩
  · rw [hb] at e; cases e
  · rw [hb] at e; cases e; exact hR.kind
def tot (T : List Jr) : Nat := (T.map fun j => j.U.length).sum
/-- which blocks are whose -/
structure Own (w : World) (K F V : Nat → Prop) (g : Nat) (T : List Jr) (oj : Option Nat) : Prop where
  top : K g
  map : ∀ b, F b → K b
  var : ∀ b, V b → K b
  jrn : ∀ b, oj = some b → K b
  bck : ∀ j ∈ T, ∀ b, j.o = some b → K b
  kind : ∀ b, K b → ∃ cs t, Blk w b cs t ∧ t ≠ 5
  ntop : ¬ F g
  nvar : ∀ b, V b → ¬ F b
  njrn : ∀ b, oj = some b → ¬ F b
  nbck : ∀ j ∈ T, ∀ b, j.o = some b → ¬ F b
  vk : ∀ b, V b → ∃ cs t, Blk w b cs t ∧ (t = 46 ∨ t = 29)
/-- the store at g -/
structure SA (w : World) (K D : Nat → Prop) (g : Nat) (E : Ents) (W : List Ents) (n N : Nat) : Prop where
  ex : ∃ F V m Q jv T oj, Blk w g [.pointer (some ⟨m, 0, none⟩), jv, .int .i64 n] 152 ∧ Mp w F D m Q N ∧ Q.flatten = E ∧ JnA w V D g jv T oj ∧ Back (T.reverse.map Jr.U) W E ∧ tot T + E.length ≤ N ∧ T.length ≤ 16 ∧ Own w K F V g T oj
theorem SA.lt {w : World} {K D : Nat → Prop} {g n N : Nat} {E : Ents} {W : List Ents} (h : SA w K D g E W n N) {b : Nat} (hb : K b) : b < w.heap.size := by
  obtain ⟨F, V, m, Q, jv, T, oj, _, _, _, _, _, _, _, O⟩ := h.ex
  obtain ⟨cs, t, h, _⟩ := O.kind b hb
  exact h.lt
theorem SA.top {w : World} {K D : Nat → Prop} {g n N : Nat} {E : Ents} {W : List Ents} (h : SA w K D g E W n N) : K g := by
  obtain ⟨F, V, m, Q, jv, T, oj, _, _, _, _, _, _, _, O⟩ := h.ex
  exact O.top
theorem Own.same {w w' : World} {K F V : Nat → Prop} {g : Nat} {T : List Jr} {oj : Option Nat} (O : Own w K F V g T oj) (h1 : ∀ b, K b → w'.heap[b]? = w.heap[b]?) : Own w' K F V g T oj :=
  ⟨O.top, O.map, O.var, O.jrn, O.bck, fun b hb => by
    obtain ⟨cs, t, hk, ht⟩ := O.kind b hb
    exact ⟨cs, t, hk.same (h1 b hb), ht⟩, O.ntop, O.nvar, O.njrn, O.nbck, fun b hv => by
    obtain ⟨cs, t, hk, ht⟩ := O.vk b hv
    exact ⟨cs, t, hk.same (h1 b (O.var b hv)), ht⟩⟩
/-- what leaves its own blocks and its bytes leaves the store -/
theorem SA.same {w w' : World} {K D : Nat → Prop} {g n N : Nat} {E : Ents} {W : List Ents} (h : SA w K D g E W n N) (h1 : ∀ b, K b → w'.heap[b]? = w.heap[b]?) (h2 : ∀ b, b < w.heap.size → D b → (∃ cs, Blk w b cs 5) → w'.heap[b]? = w.heap[b]?) : SA w' K D g E W n N := by
  obtain ⟨F, V, m, Q, jv, T, oj, hb, hm, he, hj, hk, ht, hl, O⟩ := h.ex
  have hs : Stay V D w w' := ⟨fun b _ _ hv _ _ => h1 b (O.var b hv), h2⟩
  exact ⟨F, V, m, Q, jv, T, oj, hb.same (h1 g O.top), hm.same (fun b hF => h1 b (O.map b hF)) h2, he, hj.stay hs (fun b e => h1 b (O.jrn b e)) (fun j hjm b e => h1 b (O.bck j hjm b e)), hk, ht, hl, O.same h1⟩
theorem SA.keep {w w' : World} {K D : Nat → Prop} {g n N : Nat} {E : Ents} {W : List Ents} (h : SA w K D g E W n N) (hb : Below w.heap.size w w') : SA w' K D g E W n N := h.same (fun b hK => hb.block b (h.lt hK)) (fun b hl _ _ => hb.block b hl)
theorem SA.chg {w w' : World} {K D K' : Nat → Prop} {g n N : Nat} {E : Ents} {W : List Ents} (h : SA w K D g E W n N) (hc : Chg K' w w') (h1 : ∀ b, K' b → ¬ K b) (h2 : ∀ b, K' b → ∀ cs, ¬ Blk w b cs 5) : SA w' K D g E W n N :=
  h.same (fun b hK => hc.same b (h.lt hK) fun f => h1 b f hK) (fun b hl _ hk => hc.same b hl fun f => by obtain ⟨cs, k⟩ := hk; exact h2 b f cs k)
theorem SA.mono {w : World} {K D D' : Nat → Prop} {g n N : Nat} {E : Ents} {W : List Ents} (h : SA w K D g E W n N) (hD : ∀ b, b < w.heap.size → D b → D' b) : SA w K D' g E W n N := by
  obtain ⟨F, V, m, Q, jv, T, oj, hb, hm, he, hj, hk, ht, hl, O⟩ := h.ex
  exact ⟨F, V, m, Q, jv, T, oj, hb, hm.mono hD, he, hj.mono (fun _ h => h) hD, hk, ht, hl, O⟩
theorem SA.more {w : World} {K D : Nat → Prop} {g n N N' : Nat} {E : Ents} {W : List Ents} (h : SA w K D g E W n N) (hN : N ≤ N') : SA w K D g E W n N' := by
  obtain ⟨F, V, m, Q, jv, T, oj, hb, hm, he, hj, hk, ht, hl, O⟩ := h.ex
  exact ⟨F, V, m, Q, jv, T, oj, hb, hm.more hN, he, hj, hk, Nat.le_trans ht hN, hl, O⟩
theorem SA.size {w : World} {K D : Nat → Prop} {g n N : Nat} {E : Ents} {W : List Ents} (h : SA w K D g E W n N) : E.length ≤ N := by
  obtain ⟨F, V, m, Q, jv, T, oj, hb, hm, rfl, _⟩ := h.ex
  exact hm.len
theorem SA.small {w : World} {K D : Nat → Prop} {g n N : Nat} {E : Ents} {W : List Ents} (h : SA w K D g E W n N) : ∀ x ∈ E, x.1.length ≤ 1000000000 ∧ x.2.length ≤ 1000000000 := by
  obtain ⟨F, V, m, Q, jv, T, oj, hb, hm, rfl, _⟩ := h.ex
  exact hm.small
theorem SA.depth {w : World} {K D : Nat → Prop} {g n N : Nat} {E : Ents} {W : List Ents} (h : SA w K D g E W n N) : W.length ≤ 16 := by
  obtain ⟨F, V, m, Q, jv, T, oj, hb, hm, he, hj, hk, ht, hl, O⟩ := h.ex
  have := hk.len
  simp at this
  omega
end Kv
end Go.Proofs.YtpoifdokmjhclaaGreat

namespace Go.Proofs.YtpoifdokmjhclaaGreat
namespace Kv
open Go.RowKit Go.Lib Pg
attribute [local go_sem] Oper.semAt_some
/-- the store's parts -/
structure SX (w : World) (K D F V : Nat → Prop) (g m : Nat) (Q : List (List KV)) (jv : Value) (T : List Jr) (oj : Option Nat) (n N : Nat) : Prop where
  blk : Blk w g [.pointer (some ⟨m, 0, none⟩), jv, .int .i64 n] 152
  map : Mp w F D m Q N
  jn : JnA w V D g jv T oj
  tot : tot T + Q.flatten.length ≤ N
  len : T.length ≤ 16
  own : Own w K F V g T oj
theorem SA.open {w : World} {K D : Nat → Prop} {g n N : Nat} {E : Ents} {W : List Ents} (h : SA w K D g E W n N) : ∃ F V m Q jv T oj, SX w K D F V g m Q jv T oj n N ∧ Q.flatten = E ∧ Back (T.reverse.map Jr.U) W E := by
  obtain ⟨F, V, m, Q, jv, T, oj, hb, hm, he, hj, hk, ht, hl, O⟩ := h.ex
  exact ⟨F, V, m, Q, jv, T, oj, ⟨hb, hm, hj, by rw [he]; exact ht, hl, O⟩, he, hk⟩
theorem SX.shut {w : World} {K D F V : Nat → Prop} {g m : Nat} {Q : List (List KV)} {jv : Value} {T : List Jr} {oj : Option Nat} {n N : Nat} {E : Ents} {W : List Ents} (h : SX w K D F V g m Q jv T oj n N) (he : Q.flatten = E) (hk : Back (T.reverse.map Jr.U) W E) : SA w K D g E W n N :=
  ⟨F, V, m, Q, jv, T, oj, h.blk, h.map, he, h.jn, hk, by have := h.tot; rw [he] at this; exact this, h.len, h.own⟩
theorem stay_of {w w' : World} {V D : Nat → Prop} {x : Nat} {cs : List Value} {t : TypeId} (hx : Blk w x cs t) (h1 : t ≠ 46) (h2 : t ≠ 29) (h3 : t ≠ 5) (hc : Chg (· = x) w w') : Stay V D w w' :=
  ⟨fun b cs' t' _ hb ht => hc.same b hb.lt (fun e => by
    have e' : b = x := e
    subst e'
    have := (hx.eq hb).2
    subst this
    exact ht.elim h1 h2), fun b hl _ hk => hc.same b hl (fun e => by
    have e' : b = x := e
    subst e'
    obtain ⟨cs', k⟩ := hk
    exact h3 (hx.eq k).2)⟩
theorem Own.chg1 {w w' : World} {K D F V : Nat → Prop} {g x : Nat} {T : List Jr} {oj : Option Nat} (O : Own w K F V g T oj) (hs : Stay V D w w') (hc : Chg (· = x) w w') {cs : List Value} {t : TypeId} (hx : Blk w' x cs t) (ht : t ≠ 5) : Own w' K F V g T oj :=
  ⟨O.top, O.map, O.var, O.jrn, O.bck, fun b hb => by
    by_cases e : b = x
    · subst e; exact ⟨cs, t, hx, ht⟩
    · obtain ⟨cs', t', hk, ht'⟩ := O.kind b hb
      exact ⟨cs', t', hk.chg hc e, ht'⟩, O.ntop, O.nvar, O.njrn, O.nbck, fun b hv => by
    obtain ⟨cs, t, hk, ht⟩ := O.vk b hv
    exact ⟨cs, t, hk.same (hs.var b cs t hv hk ht), ht⟩⟩
/-- the store's own block is turned -/
theorem SX.top {w w' : World} {K D F V : Nat → Prop} {g m : Nat} {Q : List (List KV)} {jv : Value} {T : List Jr} {oj : Option Nat} {n n' N : Nat} (h : SX w K D F V g m Q jv T oj n N) (hc : Chg (· = g) w w') (hb : Blk w' g [.pointer (some ⟨m, 0, none⟩), jv, .int .i64 n'] 152) : SX w' K D F V g m Q jv T oj n' N :=
  ⟨hb, h.map.chg hc (fun b e hF => h.own.ntop (by have e' : b = g := e; exact e' ▸ hF)) (fun b e cs k => by
      have e' : b = g := e
      subst e'
      exact absurd (h.blk.eq k).2 (by decide)), h.jn.stay (stay_of h.blk (by decide) (by decide) (by decide) hc)
      (fun b e => by
        obtain ⟨cs, k⟩ := h.jn.kind e
        exact hc.same b k.lt (fun e' => by
          have e'' : b = g := e'
          subst e''
          exact absurd (h.blk.eq k).2 (by decide)))
      (fun j hj b e => by
        obtain ⟨cs, k⟩ := (h.jn.each j hj).kind e
        exact hc.same b k.lt (fun e' => by
          have e'' : b = g := e'
          subst e''
          exact absurd (h.blk.eq k).2 (by decide))), h.tot, h.len, h.own.chg1 (stay_of (D := D) h.blk (by decide) (by decide) (by decide) hc) hc hb (by decide)⟩
theorem SX.keep {w w' : World} {K D F V : Nat → Prop} {g m : Nat} {Q : List (List KV)} {jv : Value} {T : List Jr} {oj : Option Nat} {n N : Nat} (h : SX w K D F V g m Q jv T oj n N) (hb : Below w.heap.size w w') : SX w' K D F V g m Q jv T oj n N := by
  have h1 : ∀ b, K b → w'.heap[b]? = w.heap[b]? := fun b hK => by
    obtain ⟨cs, t, k, _⟩ := h.own.kind b hK
    exact hb.block b k.lt
  exact ⟨h.blk.keep hb, h.map.keep hb, h.jn.stay ⟨fun b _ _ _ k _ => hb.block b k.lt, fun b hl _ _ => hb.block b hl⟩ (fun b e => h1 b (h.own.jrn b e)) (fun j hj b e => h1 b (h.own.bck j hj b e)), h.tot, h.len, h.own.same h1⟩
theorem Mp.fit {w : World} {F D : Nat → Prop} {g N N' : Nat} {Q : List (List KV)} (M : Mp w F D g Q N) (h : Q.flatten.length ≤ N') : Mp w F D g Q N' := by
  obtain ⟨L, e, A, O, S, n, r⟩ := M.ex
  exact ⟨L, e, A, O, S, by rw [← e, abs_flat, List.length_map] at h; exact h, r⟩
theorem run_addOne {w : World} {a : Addr} {x : Int} (hc : w.cell? a = some (.int .i64 x)) (hz : w.frozen? a = false) (h0 : 0 ≤ x) (h1 : x ≤ 4000000000000000000) :
    (callFunc 150 #[.pointer (some a), .int .i64 1]).run Tryz.prog w = .ok (.value (.int .i64 (x + 1))) (w.setCell a (.int .i64 (x + 1))) :=
  run_call_add Tryz.func150 (by kernel_rfl) (by kernel_rfl) (by kernel_rfl) .i64 (by kernel_rfl) hc hz (by
    have e : IntKind.i64.wrap (x + 1) = x + 1 := by rw [IntKind.wrap_i64]; omega
    simp [Op.intArith, e])
set_option maxHeartbeats 1000000 in
set_option maxRecDepth 100000 in
theorem atomAdd {w : World} {g : Nat} {x : Int} (hc : w.cell? ⟨g, 2, none⟩ = some (.int .i64 x)) (hz : w.frozen? ⟨g, 2, none⟩ = false) (h0 : 0 ≤ x) (h1 : x ≤ 4000000000000000000) :
    Calls Tryz.prog 102 #[.pointer (some ⟨g, 2, none⟩), .int .i64 1] w fun e w' => e = .returned (.int .i64 (x + 1)) ∧ w' = w.setCell ⟨g, 2, none⟩ (.int .i64 (x + 1)) := by
  have hr := run_addOne hc hz h0 h1
  go_enter Tryz.func102, Tryz.ntmps102
  go_wp2_with (simp only [hr])
  go_ret
  exact ⟨rfl, rfl⟩
set_option maxHeartbeats 1000000 in
set_option maxRecDepth 100000 in
theorem count_raw {w : World} {g : Nat} {x : Int} (hc : w.cell? ⟨g, 2, none⟩ = some (.int .i64 x)) (hz : w.frozen? ⟨g, 2, none⟩ = false) (h0 : 0 ≤ x) (h1 : x ≤ 4000000000000000000) :
    Calls Tryz.prog 70 #[.pointer (some ⟨g, 0, none⟩)] w fun e w' => e = .returned (.tuple #[]) ∧ w' = w.setCell ⟨g, 2, none⟩ (.int .i64 (x + 1)) := by
  have u := atomAdd hc hz h0 h1
  clear hc hz
  go_enter Tryz.func70, Tryz.ntmps70
  go_wp2_with (go_at_call 102; refine u.mono ?_; rintro e w1 ⟨rfl, rfl⟩)
  go_end0
  exact ⟨rfl, rfl⟩
theorem xcount {w : World} {K D F V : Nat → Prop} {g m : Nat} {Q : List (List KV)} {jv : Value} {T : List Jr} {oj : Option Nat} {n N : Nat} (h : SX w K D F V g m Q jv T oj n N) (hn : n ≤ 4000000000000000000) :
    Calls Tryz.prog 70 #[.pointer (some ⟨g, 0, none⟩)] w fun e w' => e = .returned (.tuple #[]) ∧ SX w' K D F V g m Q jv T oj (n + 1) N ∧ Chg (· = g) w w' := by
  refine (count_raw (h.blk.cell (i := 2) rfl) (h.blk.free 2) (by omega) (by omega)).mono ?_
  rintro e w' ⟨rfl, rfl⟩
  have hc : Chg (· = g) w (w.setCell ⟨g, 2, none⟩ (.int .i64 ((n : Int) + 1))) := (Chg.refl (· = g) w).cell (.inl rfl) _
  refine ⟨rfl, h.top hc ?_, hc⟩
  have := h.blk.setCell (i := 2) (.int .i64 ((n : Int) + 1))
  exact this
set_option maxHeartbeats 1000000 in
set_option maxRecDepth 100000 in
theorem depth_raw {w : World} {g n c : Nat} {ao : Option Addr} {mv nv : Value} (h : Blk w g [mv, .slice ao n c, nv] 152) :
    Calls Tryz.prog 158 #[.pointer (some ⟨g, 0, none⟩)] w fun e w' => e = .returned (.int .i64 n) ∧ w' = w := by
  have c1 := h.cell (i := 1) rfl
  clear h
  go_enter Tryz.func158, Tryz.ntmps158
  go_wp2
  go_ret
  exact ⟨rfl, rfl⟩
theorem JnA.shape {w : World} {V D : Nat → Prop} {g : Nat} {jv : Value} {T : List Jr} {oj : Option Nat} (h : JnA w V D g jv T oj) : ∃ ao c, jv = .slice ao T.length c := by
  rcases h.row with ⟨_, e, rfl⟩ | ⟨b, c, _, e, _⟩
  · exact ⟨none, 0, e⟩
  · exact ⟨_, c, e⟩
theorem xdepth {w : World} {K D F V : Nat → Prop} {g m : Nat} {Q : List (List KV)} {jv : Value} {T : List Jr} {oj : Option Nat} {n N : Nat} (h : SX w K D F V g m Q jv T oj n N) :
    Calls Tryz.prog 158 #[.pointer (some ⟨g, 0, none⟩)] w fun e w' => e = .returned (.int .i64 T.length) ∧ w' = w := by
  obtain ⟨ao, c, e⟩ := h.jn.shape
  have hb := h.blk
  rw [e] at hb
  exact depth_raw hb
set_option maxHeartbeats 1000000 in
set_option maxRecDepth 100000 in
theorem snew {w : World} : Calls Tryz.prog 64 #[] w fun e w' => ∃ g K, e = .returned (.pointer (some ⟨g, 0, none⟩)) ∧ SA w' K (fun _ => False) g [] [] 0 0 ∧ (∀ b, K b → w.heap.size ≤ b) ∧ Below w.heap.size w w' := by
  have u := mnew (w := w)
  go_enter Tryz.func64, Tryz.ntmps64
  go_wp2_with (go_at_call 85; refine u.mono ?_; rintro e w1 ⟨rfl, M, B⟩)
  go_ret
  have hlt := M.lt (b := w.heap.size) rfl
  have al := below_alloc w1 (.cells #[.pointer (some ⟨w.heap.size, 0, none⟩), .slice none 0 0, .int .i64 0] 152)
  have bl := blk_new w1 [.pointer (some ⟨w.heap.size, 0, none⟩), .slice none 0 0, .int .i64 0] 152
  have M2 := M.keep al
  refine ⟨w1.heap.size, fun b => b = w.heap.size ∨ b = w1.heap.size, rfl, ⟨_, fun _ => False, _, _, _, [], none, bl, M2, rfl, ⟨.inl ⟨rfl, rfl, rfl⟩, fun _ h => by simp at h, List.nodup_nil⟩, trivial, by decide, by decide, ?_⟩, fun b hb => by have := B.size; omega, joinB B al⟩
  refine ⟨.inr rfl, fun b hb => .inl hb, fun _ h => h.elim, (fun _ h => by cases h), (fun _ h => by simp at h), fun b hb => ?_, (fun h => by have h' : w1.heap.size = w.heap.size := h; omega), fun _ h => h.elim, (fun _ h => by cases h), (fun _ h => by simp at h), fun _ h => h.elim⟩
  rcases hb with rfl | rfl
  · obtain ⟨L, _, A, _⟩ := M2.ex
    exact A.kind _ rfl
  · exact ⟨_, _, bl, by decide⟩
theorem xget_key {w : World} {K D F V : Nat → Prop} {g m : Nat} {Q : List (List KV)} {jv : Value} {T : List Jr} {oj : Option Nat} {n N : Nat} {kv : Value} {k : List Int} (h : SX w K D F V g m Q jv T oj n N) (hk : By w kv k) (hN : N ≤ 100000000) :
    Calls Tryz.prog 71 #[.pointer (some ⟨m, 0, none⟩), kv] w fun e w' => ∃ v, e = .returned (.tuple #[v, .bool (look Q.flatten k).isSome]) ∧ OB w' (w.heap.size ≤ ·) v ((look Q.flatten k).getD []) ∧ Below w.heap.size w w' := by
  have u := mget h.map hk hN
  rw [look_got h.map.ord, look_has h.map.ord] at u
  exact u
set_option maxHeartbeats 1000000 in
set_option maxRecDepth 100000 in
theorem xholds {w : World} {K D F V : Nat → Prop} {g m : Nat} {Q : List (List KV)} {jv : Value} {T : List Jr} {oj : Option Nat} {n N : Nat} {kv : Value} {k : List Int} (h : SX w K D F V g m Q jv T oj n N) (hk : By w kv k) (hN : N ≤ 100000000) :
    Calls Tryz.prog 138 #[.pointer (some ⟨g, 0, none⟩), kv] w fun e w' => e = .returned (.bool (look Q.flatten k).isSome) ∧ Below w.heap.size w w' := by
  have c0 := h.blk.cell (i := 0) rfl
  have u := xget_key h hk hN
  obtain ⟨ao, c, rfl, -⟩ := id hk.ex
  generalize (look Q.flatten k).isSome = r at *
  generalize (look Q.flatten k).getD [] = L at *
  clear h hk
  go_enter Tryz.func138, Tryz.ntmps138
  go_wp2_with (go_at_call 71; refine u.mono ?_; rintro e w1 ⟨v, rfl, O, B⟩; obtain ⟨a1, c1, rfl, -⟩ := id O.by.ex)
  go_ret
  exact ⟨rfl, B⟩
end Kv
end Go.Proofs.YtpoifdokmjhclaaGreat

namespace Go.Proofs.YtpoifdokmjhclaaGreat
namespace Kv
open Go.RowKit Go.Lib Pg
attribute [local go_sem] Oper.semAt_some
theorem hid3 {p : Prop} (h : p) : Hid p := h
/-- more variables of its own -/
theorem SX.vars {w : World} {K D F V S : Nat → Prop} {g m : Nat} {Q : List (List KV)} {jv : Value} {T : List Jr} {oj : Option Nat} {n N : Nat} (h : SX w K D F V g m Q jv T oj n N) (h1 : ∀ b, S b → ¬ F b) (h2 : ∀ b, S b → ∃ cs t, Blk w b cs t ∧ (t = 46 ∨ t = 29)) {D' : Nat → Prop} (hD : ∀ b, b < w.heap.size → D b → D' b) :
    SX w (fun b => K b ∨ S b) D' F (fun b => V b ∨ S b) g m Q jv T oj n N :=
  ⟨h.blk, h.map.mono hD, h.jn.mono (fun _ => .inl) hD, h.tot, h.len, .inl h.own.top, fun b hb => .inl (h.own.map b hb), fun b hb => hb.imp (h.own.var b) id, fun b hb => .inl (h.own.jrn b hb), fun j hj b hb => .inl (h.own.bck j hj b hb), fun b hb => hb.elim (h.own.kind b) (fun hs => by
    obtain ⟨cs, t, k, e⟩ := h2 b hs
    exact ⟨cs, t, k, by rcases e with e | e <;> subst e <;> decide⟩), h.own.ntop, fun b hb => hb.elim (h.own.nvar b) (h1 b), h.own.njrn, h.own.nbck, fun b hb => hb.elim (h.own.vk b) (h2 b)⟩
/-- its map is turned -/
theorem SX.mapped {w w' : World} {K D D' F F' V : Nat → Prop} {g m : Nat} {Q Q' : List (List KV)} {jv : Value} {T : List Jr} {oj : Option Nat} {n N N' : Nat} (h : SX w K D F V g m Q jv T oj n N) (hN : Kv.tot T + Q'.flatten.length ≤ N') (hM : Mp w' F' D' m Q' N') (hF : ∀ b, F' b → F b ∨ w.heap.size ≤ b) (hD : ∀ b, D b → D' b) (hc : Chg F w w') :
    SX w' (fun b => (K b ∧ ¬ F b) ∨ F' b) D' F' V g m Q' jv T oj n N' := by
  have hK : ∀ b, K b → b < w.heap.size := fun b hb => by obtain ⟨cs, t, k, _⟩ := h.own.kind b hb; exact k.lt
  have no : ∀ b, K b → ¬ F b → ¬ F' b := fun b hb hn hf => by
    rcases hF b hf with h1 | h1
    · exact hn h1
    · have := hK b hb; omega
  have hs : Stay V D w w' := ⟨fun b _ _ hv k _ => hc.same b k.lt (h.own.nvar b hv), fun b hl _ k => hc.same b hl (fun f => by obtain ⟨cs, k⟩ := k; exact h.map.noU f cs k)⟩
  have hj : JnA w' V D g jv T oj := h.jn.stay hs (fun b e => hc.same b (hK b (h.own.jrn b e)) (h.own.njrn b e)) (fun j hj b e => hc.same b (hK b (h.own.bck j hj b e)) (h.own.nbck j hj b e))
  refine ⟨h.blk.chg hc h.own.ntop, hM, hj.mono (fun _ h => h) (fun b _ => hD b), hN, h.len, .inl ⟨h.own.top, h.own.ntop⟩, fun b => .inr, fun b hb => .inl ⟨h.own.var b hb, h.own.nvar b hb⟩, fun b hb => .inl ⟨h.own.jrn b hb, h.own.njrn b hb⟩, fun j hj b hb => .inl ⟨h.own.bck j hj b hb, h.own.nbck j hj b hb⟩, fun b hb => ?_, no g h.own.top h.own.ntop, fun b hb => no b (h.own.var b hb) (h.own.nvar b hb), fun b hb => no b (h.own.jrn b hb) (h.own.njrn b hb), fun j hj b hb => no b (h.own.bck j hj b hb) (h.own.nbck j hj b hb), fun b hv => by
    obtain ⟨cs, t, k, ht⟩ := h.own.vk b hv
    exact ⟨cs, t, k.same (hs.var b cs t hv k ht), ht⟩⟩
  have hMk : ∀ b, F' b → ∃ cs t, Blk w' b cs t ∧ t ≠ 5 := fun b hf => by
    obtain ⟨L, _, A, _⟩ := hM.ex
    exact A.kind b hf
  rcases hb with ⟨hb, hf⟩ | hb
  · obtain ⟨cs, t, k, ht⟩ := h.own.kind b hb
    exact ⟨cs, t, k.chg hc hf, ht⟩
  · exact hMk b hb
theorem ld_st {w : World} {g o : Nat} {v : Value} (c : w.cell? ⟨g, o, none⟩ = some v) : (loadVar 46 ⟨g, o, none⟩).run Tryz.prog w = .ok v w := by go_simp
theorem ld_mp {w : World} {g o : Nat} {v : Value} (c : w.cell? ⟨g, o, none⟩ = some v) : (loadVar 144 ⟨g, o, none⟩).run Tryz.prog w = .ok v w := by go_simp
theorem ld_by {w : World} {g o : Nat} {v : Value} (c : w.cell? ⟨g, o, none⟩ = some v) : (loadVar 29 ⟨g, o, none⟩).run Tryz.prog w = .ok v w := by go_simp
theorem run_ssl {a : Act} {w : World} {o : Oper} (k q : Nat) {g n c : Nat} {u : Value} {ao : Option Addr} (ho : o.op = .store 29 (.tmp k) (.tmp q)) (hp : a.eval (.tmp k) = .pointer (some ⟨g, 0, none⟩)) (hq : a.eval (.tmp q) = .slice ao n c) (hc : w.cell? ⟨g, 0, none⟩ = some u) (hf : w.frozen? ⟨g, 0, none⟩ = false) :
    (execOp a.eval o).run Tryz.prog w = .ok .skip (w.setCell ⟨g, 0, none⟩ (.slice ao n c)) := by
  simp only [execOp, ho, hp, hq]
  go_simp
/-- what the closures read -/
def Rds (g m s1 s2 : Nat) (jv : Value) (n : Int) (kv : Value) (w : World) : Prop := Blk w s1 [.pointer (some ⟨g, 0, none⟩)] 46 ∧ Blk w g [.pointer (some ⟨m, 0, none⟩), jv, .int .i64 n] 152 ∧ Blk w s2 [kv] 29
theorem Rds.keep {g m s1 s2 : Nat} {jv : Value} {n : Int} {kv : Value} {w w' : World} (h : Rds g m s1 s2 jv n kv w) (hb : Below w.heap.size w w') : Rds g m s1 s2 jv n kv w' := ⟨h.1.keep hb, h.2.1.keep hb, h.2.2.keep hb⟩
set_option maxHeartbeats 2000000 in
set_option maxRecDepth 100000 in
theorem clo1_any {w : World} {K D F V : Nat → Prop} {g m s1 s2 : Nat} {Q : List (List KV)} {jv : Value} {T : List Jr} {oj : Option Nat} {n N : Nat} {kv : Value} {k : List Int} (h : SX w K D F V g m Q jv T oj n N) (b1 : Blk w s1 [.pointer (some ⟨g, 0, none⟩)] 46) (b2 : Blk w s2 [kv] 29) (n1 : ¬ F s1) (n2 : ¬ F s2) (hk : By w kv k) (hN : N ≤ 100000000) :
    Calls Tryz.prog 205 #[.pointer (some ⟨s1, 0, none⟩), .pointer (some ⟨s2, 0, none⟩)] w fun e w' => e = .returned (.tuple #[]) ∧ ∃ F', SX w' (fun b => (K b ∧ ¬ F b) ∨ F' b) D F' V g m (adel Q k) jv T oj n N ∧ (∀ b, F' b → F b ∨ w.heap.size ≤ b) ∧ Chg F w w' := by
  have u := mdel h.map.drew hk.drew hN
  have hS : Rds g m s1 s2 jv n kv w.drew := ⟨b1.drew, h.blk.drew, b2.drew⟩
  have HX := hid3 h
  clear h b1 b2 hk
  go_enter Tryz.func205, Tryz.ntmps205
  refine rg_start (S := Rds g m s1 s2 jv n kv) (by kernel_rfl) hS ?_
  refine rg_load 0 (some 2) (.pointer (some ⟨g, 0, none⟩)) 46 0 s1 0 (by kernel_rfl) (by kernel_rfl) (by kernel_rfl) (fun w' h => ld_st (h.1.cell (i := 0) rfl)) (fun _ _ _ h => h) hS ?_
  refine rg_take 1 (some 3) (.pointer (some ⟨g, 0, none⟩)) (by kernel_rfl) (fun _ _ => by kernel_rfl) (fun _ _ _ h => h) hS ?_
  refine rg_take 2 (some 4) (.pointer (some ⟨g, 0, none⟩)) (by kernel_rfl) (fun _ _ => by kernel_rfl) (fun _ _ _ h => h) hS ?_
  refine rg_load 3 (some 5) (.pointer (some ⟨m, 0, none⟩)) 144 4 g 0 (by kernel_rfl) (by kernel_rfl) (by kernel_rfl) (fun w' h => ld_mp (h.2.1.cell (i := 0) rfl)) (fun _ _ _ h => h) hS ?_
  refine rg_load 4 (some 6) kv 29 1 s2 0 (by kernel_rfl) (by kernel_rfl) (by kernel_rfl) (fun w' h => ld_by (h.2.2.cell (i := 0) rfl)) (fun _ _ _ h => h) hS ?_
  refine rg_call 5 (some 7) 171 #[.pointer (some ⟨m, 0, none⟩), kv] (by kernel_rfl) (by kernel_rfl) u ?_
  rintro e' w1 ⟨rfl, F', M', hF, hC⟩
  refine ⟨_, rfl, ⟨hS.1.chg hC n1, hS.2.1.chg hC HX.out.own.ntop, hS.2.2.chg hC n2⟩, ?_⟩
  refine rg_done (by kernel_rfl) ?_
  simp only [Act.put, List.setIfInBounds_toArray, List.set_cons_zero, List.set_cons_succ]
  go_end0
  have hC' : Chg F w w1 := ⟨hC.os, hC.tape, hC.output, hC.size, hC.same⟩
  exact ⟨rfl, F', HX.out.mapped (by have := HX.out.tot; have := rem_len (E := Q.flatten) k; rw [pages_rem HX.out.map.ord]; omega) M' hF (fun _ h => h) hC', hF, hC'⟩
set_option maxHeartbeats 2000000 in
set_option maxRecDepth 100000 in
theorem clo2_any {w : World} {K D F V : Nat → Prop} {g m s1 s2 s3 : Nat} {Q : List (List KV)} {jv : Value} {T : List Jr} {oj : Option Nat} {n N : Nat} {kv vv : Value} {k v : List Int} (h : SX w K D F V g m Q jv T oj n N) (b1 : Blk w s1 [.pointer (some ⟨g, 0, none⟩)] 46) (b2 : Blk w s2 [kv] 29) (b3 : Blk w s3 [vv] 29) (n1 : ¬ F s1) (n2 : ¬ F s2) (n3 : ¬ F s3) (hk : By w kv k) (hv : By w vv v) (hkl : k.length ≤ 1000000000) (hvl : v.length ≤ 1000000000) (hN : N ≤ 100000000) :
    Calls Tryz.prog 206 #[.pointer (some ⟨s1, 0, none⟩), .pointer (some ⟨s2, 0, none⟩), .pointer (some ⟨s3, 0, none⟩)] w fun e w' => e = .returned (.tuple #[]) ∧ ∃ F', SX w' (fun b => (K b ∧ ¬ F b) ∨ F' b) (fun b => D b ∨ w.heap.size ≤ b) F' V g m (aset Q k v) jv T oj n (N + 1) ∧ (∀ b, F' b → F b ∨ w.heap.size ≤ b) ∧ Chg F w w' := by
  have u := mset h.map.drew hk.drew hv.drew hkl hvl hN
  have hS : Rds g m s1 s2 jv n kv w.drew ∧ Blk w.drew s3 [vv] 29 := ⟨⟨b1.drew, h.blk.drew, b2.drew⟩, b3.drew⟩
  have HX := hid3 h
  clear h b1 b2 b3 hk hv
  go_enter Tryz.func206, Tryz.ntmps206
  refine rg_start (S := fun w' => Rds g m s1 s2 jv n kv w' ∧ Blk w' s3 [vv] 29) (by kernel_rfl) hS ?_
  refine rg_load 0 (some 3) (.pointer (some ⟨g, 0, none⟩)) 46 0 s1 0 (by kernel_rfl) (by kernel_rfl) (by kernel_rfl) (fun w' h => ld_st (h.1.1.cell (i := 0) rfl)) (fun _ _ _ h => h) hS ?_
  refine rg_take 1 (some 4) (.pointer (some ⟨g, 0, none⟩)) (by kernel_rfl) (fun _ _ => by kernel_rfl) (fun _ _ _ h => h) hS ?_
  refine rg_take 2 (some 5) (.pointer (some ⟨g, 0, none⟩)) (by kernel_rfl) (fun _ _ => by kernel_rfl) (fun _ _ _ h => h) hS ?_
  refine rg_load 3 (some 6) (.pointer (some ⟨m, 0, none⟩)) 144 5 g 0 (by kernel_rfl) (by kernel_rfl) (by kernel_rfl) (fun w' h => ld_mp (h.1.2.1.cell (i := 0) rfl)) (fun _ _ _ h => h) hS ?_
  refine rg_load 4 (some 7) kv 29 1 s2 0 (by kernel_rfl) (by kernel_rfl) (by kernel_rfl) (fun w' h => ld_by (h.1.2.2.cell (i := 0) rfl)) (fun _ _ _ h => h) hS ?_
  refine rg_load 5 (some 8) vv 29 2 s3 0 (by kernel_rfl) (by kernel_rfl) (by kernel_rfl) (fun w' h => ld_by (h.2.cell (i := 0) rfl)) (fun _ _ _ h => h) hS ?_
  refine rg_call 6 (some 9) 126 #[.pointer (some ⟨m, 0, none⟩), kv, vv] (by kernel_rfl) (by kernel_rfl) u ?_
  rintro e' w1 ⟨rfl, F', M', hF, hC⟩
  refine ⟨_, rfl, ⟨⟨hS.1.1.chg hC n1, hS.1.2.1.chg hC HX.out.own.ntop, hS.1.2.2.chg hC n2⟩, hS.2.chg hC n3⟩, ?_⟩
  refine rg_done (by kernel_rfl) ?_
  simp only [Act.put, List.setIfInBounds_toArray, List.set_cons_zero, List.set_cons_succ]
  go_end0
  have hC' : Chg F w w1 := ⟨hC.os, hC.tape, hC.output, hC.size, hC.same⟩
  exact ⟨rfl, F', HX.out.mapped (by have := HX.out.tot; have := put_len HX.out.map.ord.flat k v; rw [pages_put HX.out.map.ord]; omega) M' hF (fun _ h => .inl h) hC', hF, hC'⟩
/-- a closure of the list is called -/
theorem clo_any {w : World} {K D F V : Nat → Prop} {g m : Nat} {Q : List (List KV)} {jv : Value} {T : List Jr} {oj : Option Nat} {n N : Nat} {u : Und} {c : Value} (h : SX w K D F V g m Q jv T oj n N) (hC : CloA w V D g u c) (hN : N ≤ 100000000) (hR : Kv.tot T + Q.flatten.length + 1 ≤ N) :
    ∃ f cap, c = .func (.func f) #[] cap ∧ Calls Tryz.prog f cap w fun e w' => e = .returned (.tuple #[]) ∧ ∃ F' Q', SX w' (fun b => (K b ∧ ¬ F b) ∨ F' b) (fun b => D b ∨ w.heap.size ≤ b) F' V g m Q' jv T oj n N ∧ Q'.flatten = undo Q.flatten u ∧ (∀ b, F' b → F b ∨ w.heap.size ≤ b) ∧ Chg F w w' := by
  obtain ⟨s1, s2, kv, v1, v2, b1, b2, ok, ⟨e, rfl⟩ | ⟨s3, vv, x, v3, b3, ov, e, rfl⟩⟩ := hC.ex
  · refine ⟨_, _, rfl, (clo1_any h b1 b2 (h.own.nvar _ v1) (h.own.nvar _ v2) ok.by hN).mono ?_⟩
    rintro e' w' ⟨he, F', hX, hF, hc⟩
    refine ⟨he, F', adel Q u.1, ?_, ?_, hF, hc⟩
    · exact ⟨hX.blk, hX.map.mono (fun _ _ h => .inl h), hX.jn.mono (fun _ h => h) (fun _ _ h => .inl h), hX.tot, hX.len, hX.own⟩
    · rw [pages_rem h.map.ord]
      unfold undo
      rw [e]
  · refine ⟨_, _, rfl, (clo2_any h b1 b2 b3 (h.own.nvar _ v1) (h.own.nvar _ v2) (h.own.nvar _ v3) ok.by ov.by hC.short.1 (hC.short.2 x e) hN).mono ?_⟩
    rintro e' w' ⟨he, F', hX, hF, hc⟩
    have hl : Kv.tot T + (aset Q u.1 x).flatten.length ≤ N := by have := put_len h.map.ord.flat u.1 x; rw [pages_put h.map.ord]; omega
    refine ⟨he, F', _, ⟨hX.blk, Mp.fit hX.map (by omega), hX.jn, hl, hX.len, hX.own⟩, ?_, hF, hc⟩
    rw [pages_put h.map.ord]
    unfold undo
    rw [e]
end Kv
end Go.Proofs.YtpoifdokmjhclaaGreat

namespace Go.Proofs.YtpoifdokmjhclaaGreat
namespace Kv
open Go.RowKit Go.Lib Pg
attribute [local go_sem] Oper.semAt_some
theorem ob_off {w w' : World} {x : Nat} {D : Nat → Prop} {v : Value} {l : List Int} {cs : List Value} (hc : Chg (· = x) w w') (hx : Blk w x cs 29) (O : OB w D v l) : OB w' D v l :=
  ⟨O.oct, O.ex.imp id (by
    rintro ⟨b, c, e, hd, hR⟩
    refine ⟨b, c, e, hd, hR.chg hc (fun e' => ?_)⟩
    have e2 : b = x := e'
    subst e2
    obtain ⟨cs', k⟩ := hR.kind
    exact absurd (hx.eq k).2 (by decide))⟩
/-- a closure that takes back what is done to k from now on -/
def Rst (w : World) (g : Nat) (k L : List Int) (there : Bool) (e : Ending) (w' : World) : Prop := ∃ s1 s2 s3 v1 v3, e = .returned (.func (.func (if there then 206 else 205)) #[] (if there then #[.pointer (some ⟨s1, 0, none⟩), .pointer (some ⟨s2, 0, none⟩), .pointer (some ⟨s3, 0, none⟩)] else #[.pointer (some ⟨s1, 0, none⟩), .pointer (some ⟨s2, 0, none⟩)])) ∧
      w.heap.size ≤ s1 ∧ w.heap.size ≤ s2 ∧ w.heap.size ≤ s3 ∧ Blk w' s1 [.pointer (some ⟨g, 0, none⟩)] 46 ∧ Blk w' s2 [v1] 29 ∧ Blk w' s3 [v3] 29 ∧ OB w' (w.heap.size ≤ ·) v1 k ∧ OB w' (w.heap.size ≤ ·) v3 L ∧ Below w.heap.size w w'
set_option maxHeartbeats 4000000 in
set_option maxRecDepth 100000 in
theorem restorer_raw {w : World} {g m : Nat} {jv kv : Value} {n : Int} {k L : List Int} {there : Bool} (hg : Blk w g [.pointer (some ⟨m, 0, none⟩), jv, .int .i64 n] 152) (hk : By w kv k) (hkl : k.length ≤ 1000000000)
    (u : ∀ w' kv', Below w.heap.size w w' → By w' kv' k → Calls Tryz.prog 71 #[.pointer (some ⟨m, 0, none⟩), kv'] w' fun e w'' => ∃ v, e = .returned (.tuple #[v, .bool there]) ∧ OB w'' (w'.heap.size ≤ ·) v L ∧ Below w'.heap.size w' w'') :
    Calls Tryz.prog 160 #[.pointer (some ⟨g, 0, none⟩), kv] w (Rst w g k L there) := by
  obtain ⟨ao, c, rfl, -⟩ := id hk.ex
  have b1 := blk_new w [.pointer (some ⟨g, 0, none⟩)] 46
  have al := below_alloc w (.cells #[.pointer (some ⟨g, 0, none⟩)] 46)
  have as1 : (w.alloc (.cells #[.pointer (some ⟨g, 0, none⟩)] 46)).heap.size = w.heap.size + 1 := by simp
  have t1 := clone_any (hk.keep al) hkl
  have HG := hid3 hg
  have HU := hid3 u
  have glt := hg.lt
  clear u hg
  generalize hln : k.length = n1 at *
  cases there
  · go_enter Tryz.func160, Tryz.ntmps160
    go_wp2_with (go_at_call 104; refine t1.mono ?_; rintro e w1 ⟨v1, rfl, O1, B1⟩; obtain ⟨a1, c1, rfl⟩ : ∃ a1 c1, v1 = .slice a1 k.length c1 := (by obtain ⟨a1, c1, e, _⟩ := O1.by.ex; exact ⟨a1, c1, e⟩))
    rw [hln] at O1
    have aw1 := B1.size
    have al2 := below_alloc w1 (.cells #[.slice a1 n1 c1] 29)
    have hS : Rds g m w.heap.size w1.heap.size jv n (.slice a1 n1 c1) (w1.alloc (.cells #[.slice a1 n1 c1] 29)).drew := ⟨((b1.keep B1).keep al2).drew, (((HG.out.keep al).keep B1).keep al2).drew, (blk_new w1 [.slice a1 n1 c1] 29).drew⟩
    have BX : Below w.heap.size w (w1.alloc (.cells #[.slice a1 n1 c1] 29)).drew := joinB (joinB (joinB al B1) al2) ⟨rfl, rfl, rfl, Nat.le_refl _, fun _ _ => rfl⟩
    have hXs : w1.heap.size < (w1.alloc (.cells #[.slice a1 n1 c1] 29)).drew.heap.size := by show _ < (w1.alloc _).heap.size; simp
    replace O1 := ((O1.mono (D' := (w.heap.size ≤ ·)) (fun b _ h => by omega)).keep al2).keep (w' := (w1.alloc (.cells #[.slice a1 n1 c1] 29)).drew) ⟨rfl, rfl, rfl, Nat.le_refl _, fun _ _ => rfl⟩
    clear t1 al2 b1 al
    clear B1
    refine rg_start (S := Rds g m w.heap.size w1.heap.size jv n (.slice a1 n1 c1)) (by kernel_rfl) hS ?_
    generalize (w1.alloc (.cells #[.slice a1 n1 c1] 29)).drew = X at *
    refine rg_load 0 (some 11) (.pointer (some ⟨g, 0, none⟩)) 46 2 w.heap.size 0 (by kernel_rfl) (by kernel_rfl) (by kernel_rfl) (fun w' h => ld_st (h.1.cell (i := 0) rfl)) (fun _ _ _ h => h) hS ?_
    refine rg_take 1 (some 12) (.pointer (some ⟨g, 0, none⟩)) (by kernel_rfl) (fun _ _ => by kernel_rfl) (fun _ _ _ h => h) hS ?_
    refine rg_take 2 (some 13) (.pointer (some ⟨g, 0, none⟩)) (by kernel_rfl) (fun _ _ => by kernel_rfl) (fun _ _ _ h => h) hS ?_
    refine rg_load 3 (some 14) (.pointer (some ⟨m, 0, none⟩)) 144 13 g 0 (by kernel_rfl) (by kernel_rfl) (by kernel_rfl) (fun w' h => ld_mp (h.2.1.cell (i := 0) rfl)) (fun _ _ _ h => h) hS ?_
    refine rg_load 4 (some 15) (.slice a1 n1 c1) 29 5 w1.heap.size 0 (by kernel_rfl) (by kernel_rfl) (by kernel_rfl) (fun w' h => ld_by (h.2.2.cell (i := 0) rfl)) (fun _ _ _ h => h) hS ?_
    have bA := below_alloc X (.cells #[.slice none 0 0] 29)
    refine rg_ready [5, 9] (by kernel_rfl) (by simp) (ar_call 5 (some 16) 71 #[.pointer (some ⟨m, 0, none⟩), .slice a1 n1 c1] (by kernel_rfl) (by kernel_rfl) (HU.out _ _ BX O1.by) ?_ (ar_val 9 (some 6) (.pointer (some ⟨X.heap.size, 0, none⟩)) (X.alloc (.cells #[.slice none 0 0] 29)) (by kernel_rfl) (by kernel_rfl) (hS.keep bA) ?_ ar_nil))
    · rintro e' y ⟨v3, rfl, O3, B3⟩
      obtain ⟨a3, c3, rfl⟩ : ∃ a3 c3, v3 = .slice a3 L.length c3 := (by obtain ⟨a3, c3, e, _⟩ := O3.by.ex; exact ⟨a3, c3, e⟩)
      refine ⟨_, rfl, hS.keep B3, ?_⟩
      replace hS := hS.keep B3
      replace O1 := O1.keep B3
      generalize L.length = n3 at *
      refine rg_take 6 (some 10) (.tuple #[.slice a3 n3 c3, .bool false]) (by kernel_rfl) (fun _ _ => by kernel_rfl) (fun _ _ _ h => h) hS ?_
      refine rg_take 7 (some 17) (.slice a3 n3 c3) (by kernel_rfl) (fun _ _ => by kernel_rfl) (fun _ _ _ h => h) hS ?_
      refine rg_take 8 (some 18) (.bool false) (by kernel_rfl) (fun _ _ => by kernel_rfl) (fun _ _ _ h => h) hS ?_
      have BW := joinB BX B3
      have hX3 := B3.size
      refine rg_ready [9] (by kernel_rfl) (by simp) (ar_val 9 (some 6) (.pointer (some ⟨y.heap.size, 0, none⟩)) (y.alloc (.cells #[.slice none 0 0] 29)) (by kernel_rfl) (by kernel_rfl) (hS.keep (below_alloc y _)) ?_ ar_nil)
      have bY := below_alloc y (.cells #[.slice none 0 0] 29)
      replace hS := hS.keep bY
      replace O1 := O1.keep bY
      replace O3 := (O3.mono (D' := (w.heap.size ≤ ·)) (fun b _ h => by have h' : X.heap.size ≤ b := h; omega)).keep bY
      have b3 := blk_new y [.slice none 0 0] 29
      replace BW := joinB BW bY
      have hcell := b3.cell (i := 0) rfl
      have hfree := b3.free 0
      have CS : Chg (· = y.heap.size) (y.alloc (.cells #[.slice none 0 0] 29)) ((y.alloc (.cells #[.slice none 0 0] 29)).setCell ⟨y.heap.size, 0, none⟩ (.slice a3 n3 c3)) := (Chg.refl (· = y.heap.size) (y.alloc (.cells #[.slice none 0 0] 29))).cell (.inl rfl) _
      have hS2 : Rds g m w.heap.size w1.heap.size jv n (.slice a1 n1 c1) ((y.alloc (.cells #[.slice none 0 0] 29)).setCell ⟨y.heap.size, 0, none⟩ (.slice a3 n3 c3)) := ⟨hS.1.chg CS (by omega), hS.2.1.chg CS (by omega), hS.2.2.chg CS (by omega)⟩
      refine rg_ready [10] (by kernel_rfl) (by simp) (ar_void 10 ((y.alloc (.cells #[.slice none 0 0] 29)).setCell ⟨y.heap.size, 0, none⟩ (.slice a3 n3 c3)) (by kernel_rfl) (run_ssl 6 17 (by kernel_rfl) (by kernel_rfl) (by kernel_rfl) hcell hfree) hS2 ?_ ar_nil)
      refine rg_take 11 (some 7) (.bool false) (by kernel_rfl) (fun _ _ => by kernel_rfl) (fun _ _ _ h => h) hS2 ?_
      refine rg_done (by kernel_rfl) ?_
      simp only [Act.put, List.setIfInBounds_toArray, List.set_cons_zero, List.set_cons_succ]
      have FIN := hid3 (And.intro (b3.setCell (i := 0) (.slice a3 n3 c3)) (And.intro (ob_off CS b3 O3) (And.intro (ob_off CS b3 O1) (And.intro hS2 (BW.trans (CS.below (B := w.heap.size) (fun b e => by omega) BW.size))))))
      have g3 := hid3 (show w.heap.size ≤ y.heap.size by omega)
      clear hcell hfree CS b3 O3 hS bA O1 BW hS2 HU BX HG
      generalize (y.alloc (.cells #[.slice none 0 0] 29)).setCell ⟨y.heap.size, 0, none⟩ (.slice a3 n3 c3) = Z at *
      go_wp2
      go_ret
      exact ⟨_, _, _, _, _, rfl, Nat.le_refl _, by omega, g3.out, FIN.out.2.2.2.1.1, FIN.out.2.2.2.1.2.2, FIN.out.1, FIN.out.2.2.1, FIN.out.2.1, FIN.out.2.2.2.2⟩
    · replace hS := hS.keep bA
      replace O1 := O1.keep bA
      have BX2 := joinB BX bA
      have b3 := blk_new X [.slice none 0 0] 29
      have hs3 : X.heap.size < (X.alloc (.cells #[.slice none 0 0] 29)).heap.size := by simp
      refine rg_call 5 (some 16) 71 #[.pointer (some ⟨m, 0, none⟩), .slice a1 n1 c1] (by kernel_rfl) (by kernel_rfl) (HU.out _ _ BX2 O1.by) ?_
      rintro e' y ⟨v3, rfl, O3, B3⟩
      obtain ⟨a3, c3, rfl⟩ : ∃ a3 c3, v3 = .slice a3 L.length c3 := (by obtain ⟨a3, c3, e, _⟩ := O3.by.ex; exact ⟨a3, c3, e⟩)
      refine ⟨_, rfl, hS.keep B3, ?_⟩
      replace hS := hS.keep B3
      replace O1 := O1.keep B3
      generalize L.length = n3 at *
      refine rg_take 6 (some 10) (.tuple #[.slice a3 n3 c3, .bool false]) (by kernel_rfl) (fun _ _ => by kernel_rfl) (fun _ _ _ h => h) hS ?_
      refine rg_take 7 (some 17) (.slice a3 n3 c3) (by kernel_rfl) (fun _ _ => by kernel_rfl) (fun _ _ _ h => h) hS ?_
      refine rg_take 8 (some 18) (.bool false) (by kernel_rfl) (fun _ _ => by kernel_rfl) (fun _ _ _ h => h) hS ?_
      have BW := joinB BX2 B3
      replace b3 := b3.keep B3
      replace O3 := O3.mono (D' := (w.heap.size ≤ ·)) (fun b _ h => by have h' : (X.alloc (.cells #[.slice none 0 0] 29)).heap.size ≤ b := h; omega)
      have hcell := b3.cell (i := 0) rfl
      have hfree := b3.free 0
      have CS : Chg (· = X.heap.size) (y) ((y).setCell ⟨X.heap.size, 0, none⟩ (.slice a3 n3 c3)) := (Chg.refl (· = X.heap.size) (y)).cell (.inl rfl) _
      have hS2 : Rds g m w.heap.size w1.heap.size jv n (.slice a1 n1 c1) ((y).setCell ⟨X.heap.size, 0, none⟩ (.slice a3 n3 c3)) := ⟨hS.1.chg CS (by omega), hS.2.1.chg CS (by omega), hS.2.2.chg CS (by omega)⟩
      refine rg_ready [10] (by kernel_rfl) (by simp) (ar_void 10 ((y).setCell ⟨X.heap.size, 0, none⟩ (.slice a3 n3 c3)) (by kernel_rfl) (run_ssl 6 17 (by kernel_rfl) (by kernel_rfl) (by kernel_rfl) hcell hfree) hS2 ?_ ar_nil)
      refine rg_take 11 (some 7) (.bool false) (by kernel_rfl) (fun _ _ => by kernel_rfl) (fun _ _ _ h => h) hS2 ?_
      refine rg_done (by kernel_rfl) ?_
      simp only [Act.put, List.setIfInBounds_toArray, List.set_cons_zero, List.set_cons_succ]
      have FIN := hid3 (And.intro (b3.setCell (i := 0) (.slice a3 n3 c3)) (And.intro (ob_off CS b3 O3) (And.intro (ob_off CS b3 O1) (And.intro hS2 (BW.trans (CS.below (B := w.heap.size) (fun b e => by omega) BW.size))))))
      have g3 := hid3 (show w.heap.size ≤ X.heap.size by omega)
      clear hcell hfree CS b3 O3 hS bA O1 BW hS2 HU BX HG
      generalize (y).setCell ⟨X.heap.size, 0, none⟩ (.slice a3 n3 c3) = Z at *
      go_wp2
      go_ret
      exact ⟨_, _, _, _, _, rfl, Nat.le_refl _, by omega, g3.out, FIN.out.2.2.2.1.1, FIN.out.2.2.2.1.2.2, FIN.out.1, FIN.out.2.2.1, FIN.out.2.1, FIN.out.2.2.2.2⟩
  · go_enter Tryz.func160, Tryz.ntmps160
    go_wp2_with (go_at_call 104; refine t1.mono ?_; rintro e w1 ⟨v1, rfl, O1, B1⟩; obtain ⟨a1, c1, rfl⟩ : ∃ a1 c1, v1 = .slice a1 k.length c1 := (by obtain ⟨a1, c1, e, _⟩ := O1.by.ex; exact ⟨a1, c1, e⟩))
    rw [hln] at O1
    have aw1 := B1.size
    have al2 := below_alloc w1 (.cells #[.slice a1 n1 c1] 29)
    have hS : Rds g m w.heap.size w1.heap.size jv n (.slice a1 n1 c1) (w1.alloc (.cells #[.slice a1 n1 c1] 29)).drew := ⟨((b1.keep B1).keep al2).drew, (((HG.out.keep al).keep B1).keep al2).drew, (blk_new w1 [.slice a1 n1 c1] 29).drew⟩
    have BX : Below w.heap.size w (w1.alloc (.cells #[.slice a1 n1 c1] 29)).drew := joinB (joinB (joinB al B1) al2) ⟨rfl, rfl, rfl, Nat.le_refl _, fun _ _ => rfl⟩
    have hXs : w1.heap.size < (w1.alloc (.cells #[.slice a1 n1 c1] 29)).drew.heap.size := by show _ < (w1.alloc _).heap.size; simp
    replace O1 := ((O1.mono (D' := (w.heap.size ≤ ·)) (fun b _ h => by omega)).keep al2).keep (w' := (w1.alloc (.cells #[.slice a1 n1 c1] 29)).drew) ⟨rfl, rfl, rfl, Nat.le_refl _, fun _ _ => rfl⟩
    clear t1 al2 b1 al
    clear B1
    refine rg_start (S := Rds g m w.heap.size w1.heap.size jv n (.slice a1 n1 c1)) (by kernel_rfl) hS ?_
    generalize (w1.alloc (.cells #[.slice a1 n1 c1] 29)).drew = X at *
    refine rg_load 0 (some 11) (.pointer (some ⟨g, 0, none⟩)) 46 2 w.heap.size 0 (by kernel_rfl) (by kernel_rfl) (by kernel_rfl) (fun w' h => ld_st (h.1.cell (i := 0) rfl)) (fun _ _ _ h => h) hS ?_
    refine rg_take 1 (some 12) (.pointer (some ⟨g, 0, none⟩)) (by kernel_rfl) (fun _ _ => by kernel_rfl) (fun _ _ _ h => h) hS ?_
    refine rg_take 2 (some 13) (.pointer (some ⟨g, 0, none⟩)) (by kernel_rfl) (fun _ _ => by kernel_rfl) (fun _ _ _ h => h) hS ?_
    refine rg_load 3 (some 14) (.pointer (some ⟨m, 0, none⟩)) 144 13 g 0 (by kernel_rfl) (by kernel_rfl) (by kernel_rfl) (fun w' h => ld_mp (h.2.1.cell (i := 0) rfl)) (fun _ _ _ h => h) hS ?_
    refine rg_load 4 (some 15) (.slice a1 n1 c1) 29 5 w1.heap.size 0 (by kernel_rfl) (by kernel_rfl) (by kernel_rfl) (fun w' h => ld_by (h.2.2.cell (i := 0) rfl)) (fun _ _ _ h => h) hS ?_
    have bA := below_alloc X (.cells #[.slice none 0 0] 29)
    refine rg_ready [5, 9] (by kernel_rfl) (by simp) (ar_call 5 (some 16) 71 #[.pointer (some ⟨m, 0, none⟩), .slice a1 n1 c1] (by kernel_rfl) (by kernel_rfl) (HU.out _ _ BX O1.by) ?_ (ar_val 9 (some 6) (.pointer (some ⟨X.heap.size, 0, none⟩)) (X.alloc (.cells #[.slice none 0 0] 29)) (by kernel_rfl) (by kernel_rfl) (hS.keep bA) ?_ ar_nil))
    · rintro e' y ⟨v3, rfl, O3, B3⟩
      obtain ⟨a3, c3, rfl⟩ : ∃ a3 c3, v3 = .slice a3 L.length c3 := (by obtain ⟨a3, c3, e, _⟩ := O3.by.ex; exact ⟨a3, c3, e⟩)
      refine ⟨_, rfl, hS.keep B3, ?_⟩
      replace hS := hS.keep B3
      replace O1 := O1.keep B3
      generalize L.length = n3 at *
      refine rg_take 6 (some 10) (.tuple #[.slice a3 n3 c3, .bool true]) (by kernel_rfl) (fun _ _ => by kernel_rfl) (fun _ _ _ h => h) hS ?_
      refine rg_take 7 (some 17) (.slice a3 n3 c3) (by kernel_rfl) (fun _ _ => by kernel_rfl) (fun _ _ _ h => h) hS ?_
      refine rg_take 8 (some 18) (.bool true) (by kernel_rfl) (fun _ _ => by kernel_rfl) (fun _ _ _ h => h) hS ?_
      have BW := joinB BX B3
      have hX3 := B3.size
      refine rg_ready [9] (by kernel_rfl) (by simp) (ar_val 9 (some 6) (.pointer (some ⟨y.heap.size, 0, none⟩)) (y.alloc (.cells #[.slice none 0 0] 29)) (by kernel_rfl) (by kernel_rfl) (hS.keep (below_alloc y _)) ?_ ar_nil)
      have bY := below_alloc y (.cells #[.slice none 0 0] 29)
      replace hS := hS.keep bY
      replace O1 := O1.keep bY
      replace O3 := (O3.mono (D' := (w.heap.size ≤ ·)) (fun b _ h => by have h' : X.heap.size ≤ b := h; omega)).keep bY
      have b3 := blk_new y [.slice none 0 0] 29
      replace BW := joinB BW bY
      have hcell := b3.cell (i := 0) rfl
      have hfree := b3.free 0
      have CS : Chg (· = y.heap.size) (y.alloc (.cells #[.slice none 0 0] 29)) ((y.alloc (.cells #[.slice none 0 0] 29)).setCell ⟨y.heap.size, 0, none⟩ (.slice a3 n3 c3)) := (Chg.refl (· = y.heap.size) (y.alloc (.cells #[.slice none 0 0] 29))).cell (.inl rfl) _
      have hS2 : Rds g m w.heap.size w1.heap.size jv n (.slice a1 n1 c1) ((y.alloc (.cells #[.slice none 0 0] 29)).setCell ⟨y.heap.size, 0, none⟩ (.slice a3 n3 c3)) := ⟨hS.1.chg CS (by omega), hS.2.1.chg CS (by omega), hS.2.2.chg CS (by omega)⟩
      refine rg_ready [10] (by kernel_rfl) (by simp) (ar_void 10 ((y.alloc (.cells #[.slice none 0 0] 29)).setCell ⟨y.heap.size, 0, none⟩ (.slice a3 n3 c3)) (by kernel_rfl) (run_ssl 6 17 (by kernel_rfl) (by kernel_rfl) (by kernel_rfl) hcell hfree) hS2 ?_ ar_nil)
      refine rg_take 11 (some 7) (.bool true) (by kernel_rfl) (fun _ _ => by kernel_rfl) (fun _ _ _ h => h) hS2 ?_
      refine rg_done (by kernel_rfl) ?_
      simp only [Act.put, List.setIfInBounds_toArray, List.set_cons_zero, List.set_cons_succ]
      have FIN := hid3 (And.intro (b3.setCell (i := 0) (.slice a3 n3 c3)) (And.intro (ob_off CS b3 O3) (And.intro (ob_off CS b3 O1) (And.intro hS2 (BW.trans (CS.below (B := w.heap.size) (fun b e => by omega) BW.size))))))
      have g3 := hid3 (show w.heap.size ≤ y.heap.size by omega)
      clear hcell hfree CS b3 O3 hS bA O1 BW hS2 HU BX HG
      generalize (y.alloc (.cells #[.slice none 0 0] 29)).setCell ⟨y.heap.size, 0, none⟩ (.slice a3 n3 c3) = Z at *
      go_wp2
      go_ret
      exact ⟨_, _, _, _, _, rfl, Nat.le_refl _, by omega, g3.out, FIN.out.2.2.2.1.1, FIN.out.2.2.2.1.2.2, FIN.out.1, FIN.out.2.2.1, FIN.out.2.1, FIN.out.2.2.2.2⟩
    · replace hS := hS.keep bA
      replace O1 := O1.keep bA
      have BX2 := joinB BX bA
      have b3 := blk_new X [.slice none 0 0] 29
      have hs3 : X.heap.size < (X.alloc (.cells #[.slice none 0 0] 29)).heap.size := by simp
      refine rg_call 5 (some 16) 71 #[.pointer (some ⟨m, 0, none⟩), .slice a1 n1 c1] (by kernel_rfl) (by kernel_rfl) (HU.out _ _ BX2 O1.by) ?_
      rintro e' y ⟨v3, rfl, O3, B3⟩
      obtain ⟨a3, c3, rfl⟩ : ∃ a3 c3, v3 = .slice a3 L.length c3 := (by obtain ⟨a3, c3, e, _⟩ := O3.by.ex; exact ⟨a3, c3, e⟩)
      refine ⟨_, rfl, hS.keep B3, ?_⟩
      replace hS := hS.keep B3
      replace O1 := O1.keep B3
      generalize L.length = n3 at *
      refine rg_take 6 (some 10) (.tuple #[.slice a3 n3 c3, .bool true]) (by kernel_rfl) (fun _ _ => by kernel_rfl) (fun _ _ _ h => h) hS ?_
      refine rg_take 7 (some 17) (.slice a3 n3 c3) (by kernel_rfl) (fun _ _ => by kernel_rfl) (fun _ _ _ h => h) hS ?_
      refine rg_take 8 (some 18) (.bool true) (by kernel_rfl) (fun _ _ => by kernel_rfl) (fun _ _ _ h => h) hS ?_
      have BW := joinB BX2 B3
      replace b3 := b3.keep B3
      replace O3 := O3.mono (D' := (w.heap.size ≤ ·)) (fun b _ h => by have h' : (X.alloc (.cells #[.slice none 0 0] 29)).heap.size ≤ b := h; omega)
      have hcell := b3.cell (i := 0) rfl
      have hfree := b3.free 0
      have CS : Chg (· = X.heap.size) (y) ((y).setCell ⟨X.heap.size, 0, none⟩ (.slice a3 n3 c3)) := (Chg.refl (· = X.heap.size) (y)).cell (.inl rfl) _
      have hS2 : Rds g m w.heap.size w1.heap.size jv n (.slice a1 n1 c1) ((y).setCell ⟨X.heap.size, 0, none⟩ (.slice a3 n3 c3)) := ⟨hS.1.chg CS (by omega), hS.2.1.chg CS (by omega), hS.2.2.chg CS (by omega)⟩
      refine rg_ready [10] (by kernel_rfl) (by simp) (ar_void 10 ((y).setCell ⟨X.heap.size, 0, none⟩ (.slice a3 n3 c3)) (by kernel_rfl) (run_ssl 6 17 (by kernel_rfl) (by kernel_rfl) (by kernel_rfl) hcell hfree) hS2 ?_ ar_nil)
      refine rg_take 11 (some 7) (.bool true) (by kernel_rfl) (fun _ _ => by kernel_rfl) (fun _ _ _ h => h) hS2 ?_
      refine rg_done (by kernel_rfl) ?_
      simp only [Act.put, List.setIfInBounds_toArray, List.set_cons_zero, List.set_cons_succ]
      have FIN := hid3 (And.intro (b3.setCell (i := 0) (.slice a3 n3 c3)) (And.intro (ob_off CS b3 O3) (And.intro (ob_off CS b3 O1) (And.intro hS2 (BW.trans (CS.below (B := w.heap.size) (fun b e => by omega) BW.size))))))
      have g3 := hid3 (show w.heap.size ≤ X.heap.size by omega)
      clear hcell hfree CS b3 O3 hS bA O1 BW hS2 HU BX HG
      generalize (y).setCell ⟨X.heap.size, 0, none⟩ (.slice a3 n3 c3) = Z at *
      go_wp2
      go_ret
      exact ⟨_, _, _, _, _, rfl, Nat.le_refl _, by omega, g3.out, FIN.out.2.2.2.1.1, FIN.out.2.2.2.1.2.2, FIN.out.1, FIN.out.2.2.1, FIN.out.2.1, FIN.out.2.2.2.2⟩
end Kv
end Go.Proofs.YtpoifdokmjhclaaGreat

namespace Go.Proofs.YtpoifdokmjhclaaGreat
namespace Kv
open Go.RowKit Go.Lib Pg

section
variable {w : World} {b n c i : Nat} {xs : List Value}
set_option maxHeartbeats 1000000 in
set_option maxRecDepth 100000 in
theorem delJ_mid (R : Rw w 265 1 b n c xs) (hi : i < n) (hne : c ≠ i + 1) (h1 : ∀ v ∈ xs, v.oneCell' = true) :
    Calls Tryz.prog 218 #[.slice (some ⟨b, 0, none⟩) n c, .int .i64 i, .int .i64 (i + 1)] w fun e w' => e = .returned (.slice (some ⟨b, 0, none⟩) (n - 1) c) ∧ Rw w' 265 1 b (n - 1) c (xs.take (i * 1) ++ xs.drop ((i + 1) * 1)) ∧ Chg (· = b) w w' := by
  have hx := R.len
  have hcm := R.le
  simp only [maxLen] at hcm
  have hcm1 := hcm.1
  have hcm2 := hcm.2
  have hdl : (xs.drop ((i + 1) * 1)).length = (n - (i + 1)) * 1 := by rw [List.length_drop, hx]; omega
  obtain ⟨W1, hr1, R1, C1⟩ := app_room KJ 145 (R.drew.front (m := i) (by omega)) ⟨b, i + 1, none⟩ (n - (i + 1)) (c - (i + 1)) (xs.drop ((i + 1) * 1)) hdl
    (fun j v hj => by
      rw [List.getElem?_drop] at hj
      rw [Addr.add_lit]
      exact R.drew.cell (by simpa using hj)) (fun v hv => h1 v (List.mem_of_mem_drop hv)) (by omega)
  rw [show i + (n - (i + 1)) = n - 1 by omega] at R1
  obtain ⟨W2, hr2, R2, C2⟩ := clear_row KJ 0 R1 (n - (n - 1)) (c - (n - 1)) (by omega) (by omega)
  have C3 : Chg (· = b) w W2 := ((Chg.refl _ w).drew.trans C1 (fun _ _ h => h)).trans C2 (fun _ _ h => h)
  obtain ⟨q, hq⟩ : ∃ q, n = i + 1 + q := ⟨n - (i + 1), by omega⟩
  subst hq
  rw [show i + 1 + q - (i + 1) = q by omega] at hr1
  rw [show i + 1 + q - 1 = i + q by omega] at hr2 R2 ⊢
  simp only [Nat.mul_one] at hr2
  have hz2 : ¬ ((i : Int) = (i : Int) + 1) := by omega
  have hin : i ≤ i + 1 + q := by omega
  have hb2 : ¬ (c = i + 1) := hne
  have hb1 : (0 : Int) ≤ (i : Int) + 1 := by omega
  have hic : i ≤ c := by omega
  have htn : ((i : Int) + 1).toNat = i + 1 := by omega
  have hb6 : ¬ (c = i + q) := by omega
  have hb7 : (i : Int) + 1 ≤ ((i + 1 + q : Nat) : Int) := by omega
  have hb8 : i + 1 ≤ i + 1 + q := by omega
  have hb7b : (i : Int) + 1 ≤ (i : Int) + 1 + (q : Int) := by omega
  have hb9 : ((i + 1 + q : Nat) : Int) ≤ (c : Int) := by omega
  clear hcm R R1 C1 C2 hdl h1
  have mixed := mixed
  go_enter Tryz.func218, Tryz.ntmps218
  go_wp2
  go_region_law_o (refine step_app rfl (.tmp 22) (.tmp 25) 145 145 rfl _ _ (by simp [Act.eval, Act.put]) (by simp [Act.eval, Act.put]) hr1 ?_)
  go_wp2
  go_ret
  exact ⟨rfl, R2, C3⟩
set_option maxHeartbeats 1000000 in
set_option maxRecDepth 100000 in
theorem delJ_last (R : Rw w 265 1 b (i + 1) (i + 1) xs) :
    Calls Tryz.prog 218 #[.slice (some ⟨b, 0, none⟩) (i + 1) (i + 1), .int .i64 i, .int .i64 (i + 1)] w fun e w' => e = .returned (.slice (some ⟨b, 0, none⟩) i (i + 1)) ∧ Rw w' 265 1 b i (i + 1) (xs.take (i * 1)) ∧ Chg (· = b) w w' := by
  have hcm := R.le
  simp only [maxLen] at hcm
  have hcm2 := hcm.2
  obtain ⟨W1, hr1, R1, C1⟩ := app_room KJ 145 (R.drew.front (m := i) (by omega)) ⟨b, 0, none⟩ 0 0 [] (by simp) (fun j v hj => by simp at hj) (fun v hv => by simp at hv) (by omega)
  rw [Nat.add_zero] at R1 hr1
  rw [List.append_nil] at R1
  obtain ⟨W2, hr2, R2, C2⟩ := clear_row KJ 0 R1 1 1 (by omega) (by omega)
  have C3 : Chg (· = b) w W2 := ((Chg.refl _ w).drew.trans C1 (fun _ _ h => h)).trans C2 (fun _ _ h => h)
  simp only [Nat.mul_one] at hr2
  have hz2 : ¬ ((i : Int) = (i : Int) + 1) := by omega
  have hin : i ≤ i + 1 := by omega
  have hb1 : (0 : Int) ≤ (i : Int) + 1 := by omega
  have htn : ((i : Int) + 1).toNat = i + 1 := by omega
  have e1 : i + 1 - i = 1 := by omega
  have hii : (i : Int) ≤ (i : Int) + 1 := by omega
  clear hcm R R1 C1 C2
  have mixed := mixed
  go_enter Tryz.func218, Tryz.ntmps218
  go_wp2
  go_region_law_o (refine step_app rfl (.tmp 22) (.tmp 25) 145 145 rfl _ _ (by simp [Act.eval, Act.put]) (by simp [Act.eval, Act.put]) hr1 ?_)
  go_wp2
  go_ret
  exact ⟨rfl, R2, C3⟩
/-- slices.Delete of one element -/
theorem delJ (R : Rw w 265 1 b n c xs) (hi : i < n) (h1 : ∀ v ∈ xs, v.oneCell' = true) :
    Calls Tryz.prog 218 #[.slice (some ⟨b, 0, none⟩) n c, .int .i64 i, .int .i64 (i + 1)] w fun e w' => e = .returned (.slice (some ⟨b, 0, none⟩) (n - 1) c) ∧ Rw w' 265 1 b (n - 1) c (xs.take (i * 1) ++ xs.drop ((i + 1) * 1)) ∧ Chg (· = b) w w' := by
  by_cases h : c = i + 1
  · have hl := R.le
    obtain rfl : n = i + 1 := by omega
    subst h
    refine (delJ_last R).mono ?_
    rintro e w' ⟨rfl, hR, hC⟩
    exact ⟨by simp, hR.to (by rw [List.drop_of_length_le (by rw [R.len]; omega), List.append_nil]), hC⟩
  · exact delJ_mid R hi h h1
end
end Kv
end Go.Proofs.YtpoifdokmjhclaaGreat

namespace Go.Proofs.YtpoifdokmjhclaaGreat
namespace Kv
open Go.RowKit Go.Lib Pg
attribute [local go_sem] Oper.semAt_some
theorem app_void {w : World} (ao : Option Addr) (n c : Nat) (hn : n ≤ c) (bo : Option Addr) (c' : Nat) : (Builtin.append_ #[263, 263] 263 #[.slice ao n c, .slice bo 0 c']).run Tryz.prog w = .ok (.slice ao n c) w := by
  obtain ⟨i, hi, hz, hs, hb⟩ := info_parts KF.inf
  have : (Builtin.firstCells i.size 0 (.slice bo 0 c')).run Tryz.prog w = .ok #[] w := by
    cases bo with
    | none => rfl
    | some a => exact run_firstCells_some w i.size 0 a 0 c' [] (by simp) (fun j v hj => by simp at hj)
  cases ao with
  | none => simp [Builtin.append_, run_underlying KF.und, sizeOf, typeInfo, hi, Builtin.lenOf, this, hn]
  | some a => simp [Builtin.append_, run_underlying KF.und, sizeOf, typeInfo, hi, Builtin.lenOf, this, hn, storeCells]
/-- where a list of closures lies -/
def Lies (w : World) (bv : Value) (cs : List Value) : Prop := (bv = .slice none 0 0 ∧ cs = []) ∨ ∃ a c, bv = .slice (some a) cs.length c ∧ ∀ i x, cs[i]? = some x → w.cell? (a.add i) = some x
theorem app_back {w : World} {V D : Nat → Prop} {g : Nat} {j : Jr} {U' : List Und} {cs' : List Value} {bv : Value} (hj : JrA w V D g j) (hC : CloL w V D g U' cs') (hb : Lies w bv cs') (hlen : j.U.length + U'.length ≤ 1000000000) :
    ∃ v' o' w', (Builtin.append_ #[263, 263] 263 #[j.v, bv]).run Tryz.prog w = .ok v' w' ∧ (∃ ao n c, v' = .slice ao n c) ∧ JrA w' V D g ⟨j.U ++ U', v', o'⟩ ∧ (∀ b, o' = some b → j.o = some b ∨ b = w.heap.size) ∧ Chg (fun b => j.o = some b) w w' := by
  obtain ⟨cs, hc, hr⟩ := hj
  have hlc := hC.1
  by_cases hz : U' = []
  · subst hz
    have hcs : cs' = [] := List.eq_nil_of_length_eq_zero (by rw [hlc]; rfl)
    subst hcs
    obtain ⟨bo, c', rfl⟩ : ∃ bo c', bv = .slice bo 0 c' := by
      rcases hb with ⟨e, _⟩ | ⟨a, c, e, _⟩
      · exact ⟨none, 0, e⟩
      · exact ⟨some a, c, e⟩
    rcases hr with ⟨e1, e2, e3⟩ | ⟨b, c, e1, e2, hR⟩
    · refine ⟨_, j.o, w, by rw [e2]; exact app_void none 0 0 (Nat.le_refl _) bo c', ⟨none, 0, 0, rfl⟩, ⟨cs, by simpa using hc, .inl ⟨e1, rfl, by simpa using e3⟩⟩, fun b h => .inl h, Chg.refl _ _⟩
    · refine ⟨_, j.o, w, by rw [e2]; exact app_void _ _ _ hR.le.1 bo c', ⟨_, _, _, rfl⟩, ⟨cs, by simpa using hc, .inr ⟨b, c, e1, by simp, by simpa using hR⟩⟩, fun b h => .inl h, Chg.refl _ _⟩
  · obtain ⟨a, ca, rfl, hcell⟩ : ∃ a c, bv = .slice (some a) cs'.length c ∧ ∀ i x, cs'[i]? = some x → w.cell? (a.add i) = some x := by
      rcases hb with ⟨_, e⟩ | h
      · rw [e] at hlc; exact absurd (List.eq_nil_of_length_eq_zero hlc.symm) hz
      · exact h
    have hpos : 0 < cs'.length := by rw [hlc]; exact List.length_pos_iff.2 hz
    rcases hr with ⟨e1, e2, e3⟩ | ⟨b, c, e1, e2, hR⟩
    · have hcs : cs = [] := List.eq_nil_of_length_eq_zero (by rw [hc.1, e3]; rfl)
      subst hcs
      obtain ⟨c', W, h1, hR', hB⟩ := app_nil (w := w) KF 263 a cs'.length ca cs' (by simp) hcell hpos (by omega) (by omega)
      refine ⟨_, some w.heap.size, W, by rw [e2]; exact h1, ⟨_, _, _, rfl⟩, ⟨cs', ?_, .inr ⟨_, c', rfl, by rw [e3, hlc]; rfl, by rw [e3]; simpa [hlc] using hR'⟩⟩, fun b h => .inr (by cases h; rfl), Chg.of hB⟩
      rw [e3]
      exact hC.stay ⟨fun b _ _ _ k _ => hB.block b k.lt, fun b hl _ _ => hB.block b hl⟩
    · obtain ⟨b', c', W, h1, hb', hR', hCh⟩ := app_row KF 263 hR a cs'.length ca cs' (by simp) hcell hC.one (by omega) (by omega)
      obtain ⟨cs0, hk0⟩ := hR.kind
      have hst : Stay V D w W := stay_of hk0 (by decide) (by decide) (by decide) hCh
      refine ⟨_, some b', W, by rw [e2]; exact h1, ⟨_, _, _, rfl⟩, ⟨cs ++ cs', (hc.stay hst).app (hC.stay hst), .inr ⟨b', c', rfl, by simp [hlc], by simpa [hlc] using hR'⟩⟩, fun x h => ?_, hCh.mono (fun x _ e => by have e' : x = b := e; rw [e', e1])⟩
      cases h
      rcases hb' with e | e
      · exact .inl (by rw [e1, e])
      · exact .inr e
theorem tot_snoc (T0 : List Jr) (j : Jr) : tot (T0 ++ [j]) = tot T0 + j.U.length := by simp [tot]
theorem nodup_snoc {l : List Nat} {o : Option Nat} : (l ++ o.toList).Nodup ↔ l.Nodup ∧ ∀ b, o = some b → b ∉ l := by
  cases o with
  | none => simp
  | some x => simp [List.nodup_append]; intro _; constructor
              · intro h hx; exact h x hx rfl
              · intro h a ha e; subst e; exact h ha
theorem fm_snoc (T0 : List Jr) (j : Jr) : (T0 ++ [j]).filterMap Jr.o = T0.filterMap Jr.o ++ j.o.toList := by
  rw [List.filterMap_append]
  congr 1
/-- the innermost journal is turned -/
theorem SX.inner {w w2 : World} {K D F V : Nat → Prop} {g m jb : Nat} {Q : List (List KV)} {jv : Value} {T0 : List Jr} {j j' : Jr} {n N N' : Nat} (h : SX w K D F V g m Q jv (T0 ++ [j]) (some jb) n N) (hj : JrA w2 V D g j') (ho : ∀ b, j'.o = some b → j.o = some b ∨ w.heap.size ≤ b) (hN : N ≤ N') (ht : Kv.tot (T0 ++ [j']) + Q.flatten.length ≤ N')
    (hrow : ∃ c, jv = .slice (some ⟨jb, 0, none⟩) (T0 ++ [j]).length c ∧ Rw w2 265 1 jb (T0 ++ [j]).length c ((T0 ++ [j']).map Jr.v)) (hc : Chg (fun b => j.o = some b ∨ b = jb) w w2) :
    SX w2 (fun b => (K b ∧ ¬ j.o = some b) ∨ j'.o = some b) D F V g m Q jv (T0 ++ [j']) (some jb) n N' := by
  have hjm : j ∈ T0 ++ [j] := by simp
  have hx : ∀ b cs t, Blk w b cs t → t ≠ 1 → t ≠ 265 → w2.heap[b]? = w.heap[b]? := fun b cs t k h1 h2 => hc.same b k.lt (fun e => by
    rcases e with e | e
    · obtain ⟨cs', k'⟩ := (h.jn.each j hjm).kind e
      exact h1 (k.eq k').2
    · subst e
      obtain ⟨cs', k'⟩ := h.jn.kind rfl
      exact h2 (k.eq k').2)
  have hnF : ∀ b, (j.o = some b ∨ b = jb) → ¬ F b := fun b e => e.elim (h.own.nbck j hjm b) (fun e => by subst e; exact h.own.njrn _ rfl)
  have hst : Stay V D w w2 := ⟨fun b cs t _ k ht => hx b cs t k (by rcases ht with e | e <;> subst e <;> decide) (by rcases ht with e | e <;> subst e <;> decide), fun b _ _ k => by obtain ⟨cs, k⟩ := k; exact hx b cs _ k (by decide) (by decide)⟩
  have hlt : ∀ t ∈ T0 ++ [j], ∀ b, t.o = some b → b < w.heap.size := fun t ht b e => by obtain ⟨cs, k⟩ := (h.jn.each t ht).kind e; exact k.lt
  have hap := h.jn.apart
  rw [fm_snoc, nodup_snoc] at hap
  refine ⟨⟨by rw [hx g _ _ h.blk (by decide) (by decide)]; exact h.blk.blk⟩, h.map.same (fun b hF => hc.same b (h.map.lt hF) (fun e => hnF b e hF)) (fun b _ _ k => by obtain ⟨cs, k⟩ := k; exact hx b cs _ k (by decide) (by decide)) |>.more hN, ⟨?_, ?_, ?_⟩, ht, by have := h.len; simp at this ⊢; omega, ?_⟩
  · obtain ⟨c, e, hR⟩ := hrow
    exact .inr ⟨jb, c, rfl, by rw [e]; simp, by simpa using hR⟩
  · intro t ht
    rcases List.mem_append.1 ht with h0 | h0
    · refine (h.jn.each t (List.mem_append_left _ h0)).stay hst (fun b e => ?_)
      refine hc.same b (hlt t (List.mem_append_left _ h0) b e) (fun e2 => ?_)
      rcases e2 with e2 | e2
      · exact hap.2 b e2 (List.mem_filterMap.2 ⟨t, h0, e⟩)
      · subst e2
        obtain ⟨cs, k⟩ := (h.jn.each t (List.mem_append_left _ h0)).kind e
        obtain ⟨cs', k'⟩ := h.jn.kind rfl
        exact absurd (k.eq k').2 (by decide)
    · simp at h0; subst h0; exact hj
  · rw [fm_snoc, nodup_snoc]
    refine ⟨hap.1, fun b e hm => ?_⟩
    rcases ho b e with h1 | h1
    · exact hap.2 b h1 hm
    · obtain ⟨t, h2, h3⟩ := List.mem_filterMap.1 hm
      have := hlt t (List.mem_append_left _ h2) b h3
      omega
  · have nj : ∀ b cs t, Blk w b cs t → t ≠ 1 → ¬ j.o = some b := fun b cs t k h1 e => by
      obtain ⟨cs', k'⟩ := (h.jn.each j hjm).kind e
      exact h1 (k.eq k').2
    refine ⟨.inl ⟨h.own.top, nj g _ _ h.blk (by decide)⟩, fun b hb => .inl ⟨h.own.map b hb, fun e => h.own.nbck j hjm b e hb⟩, fun b hb => ?_, fun b hb => ?_, fun t ht b e => ?_, fun b hb => ?_, h.own.ntop, h.own.nvar, h.own.njrn, fun t ht b e => ?_, fun b hv => by
      obtain ⟨cs, t, k, ht⟩ := h.own.vk b hv
      exact ⟨cs, t, k.same (hst.var b cs t hv k ht), ht⟩⟩
    · obtain ⟨cs, t, k, ht⟩ := h.own.vk b hb
      exact .inl ⟨h.own.var b hb, nj b cs t k (by rcases ht with e | e <;> subst e <;> decide)⟩
    · cases hb
      obtain ⟨cs', k'⟩ := h.jn.kind rfl
      exact .inl ⟨h.own.jrn _ rfl, nj _ _ _ k' (by decide)⟩
    · rcases List.mem_append.1 ht with h0 | h0
      · exact .inl ⟨h.own.bck t (List.mem_append_left _ h0) b e, fun e2 => hap.2 b e2 (List.mem_filterMap.2 ⟨t, h0, e⟩)⟩
      · simp at h0; subst h0; exact .inr e
    · rcases hb with ⟨hb, hn⟩ | hb
      · by_cases e : b = jb
        · subst e
          obtain ⟨c, _, hR⟩ := hrow
          obtain ⟨cs, k⟩ := hR.kind
          exact ⟨cs, _, k, by decide⟩
        · obtain ⟨cs, t, k, ht⟩ := h.own.kind b hb
          exact ⟨cs, t, k.chg hc (fun e2 => e2.elim hn e), ht⟩
      · obtain ⟨cs, k⟩ := hj.kind hb
        exact ⟨cs, _, k, by decide⟩
    · rcases List.mem_append.1 ht with h0 | h0
      · exact h.own.nbck t (List.mem_append_left _ h0) b e
      · simp at h0; subst h0
        rcases ho b e with h1 | h1
        · exact h.own.nbck j hjm b h1
        · intro hF
          have := h.map.lt hF
          omega
end Kv
end Go.Proofs.YtpoifdokmjhclaaGreat

namespace Go.Proofs.YtpoifdokmjhclaaGreat
namespace Kv
open Go.RowKit Go.Lib Pg
attribute [local go_sem] Oper.semAt_some
theorem map_set_v (T0 : List Jr) (j j' : Jr) : ((T0 ++ [j]).map Jr.v).set T0.length j'.v = (T0 ++ [j']).map Jr.v := by
  rw [List.map_append, List.map_append, List.set_append_right _ _ (by simp)]
  simp
/-- the rows behind a journal list -/
theorem JnA.last {w : World} {V D : Nat → Prop} {g : Nat} {jv : Value} {T0 : List Jr} {j : Jr} {oj : Option Nat} (h : JnA w V D g jv (T0 ++ [j]) oj) : ∃ jb c, oj = some jb ∧ jv = .slice (some ⟨jb, 0, none⟩) (T0.length + 1) c ∧ Rw w 265 1 jb (T0.length + 1) c ((T0 ++ [j]).map Jr.v) := by
  rcases h.row with ⟨_, _, e⟩ | ⟨b, c, e1, e2, hR⟩
  · exact absurd e (by simp)
  · exact ⟨b, c, e1, by rw [e2]; simp, by simpa using hR⟩
set_option maxHeartbeats 2000000 in
set_option maxRecDepth 100000 in
theorem xnote {w : World} {K D F V : Nat → Prop} {g m : Nat} {Q : List (List KV)} {jv : Value} {T0 : List Jr} {j : Jr} {oj : Option Nat} {n N : Nat} {U' : List Und} {cs' : List Value} {bv : Value} (h : SX w K D F V g m Q jv (T0 ++ [j]) oj n N) (hC : CloL w V D g U' cs') (hb : Lies w bv cs') {N' : Nat} (hN1 : N ≤ N') (hN2 : Kv.tot (T0 ++ [j]) + U'.length + Q.flatten.length ≤ N') (hN3 : N' ≤ 1000000000) :
    Calls Tryz.prog 159 #[.pointer (some ⟨g, 0, none⟩), bv] w fun e w' => e = .returned (.tuple #[]) ∧ ∃ K' j', j'.U = j.U ++ U' ∧ SX w' K' D F V g m Q jv (T0 ++ [j']) oj n N' ∧ (∀ b, K' b → K b ∨ w.heap.size ≤ b) ∧ Chg K w w' := by
  have hlen : j.U.length + U'.length ≤ 1000000000 := by rw [tot_snoc] at hN2; omega
  obtain ⟨jb, c, rfl, rfl, hR⟩ := h.jn.last
  obtain ⟨v', o', w1, hr, ⟨ao, n', c', rfl⟩, hJ, ho, hc1⟩ := app_back (h.jn.each j (by simp)) hC hb hlen
  have hjm : j ∈ T0 ++ [j] := by simp
  have ud := depth_raw h.blk
  have c1 := h.blk.cell (i := 1) rfl
  have hcell := hR.cell (i := T0.length) (v := j.v) (by simp)
  have hjb : ¬ j.o = some jb := fun e => by
    obtain ⟨cs, k⟩ := (h.jn.each j hjm).kind e
    obtain ⟨cs', k'⟩ := hR.kind
    exact absurd (k.eq k').2 (by decide)
  have hR1 := hR.chg hc1 hjb
  have hcell1 := hR1.cell (i := T0.length) (v := j.v) (by simp)
  have hfree1 := hR1.free T0.length
  have hle := hR.le
  have hvs : ∃ a1 n1 c1, j.v = .slice a1 n1 c1 := by
    obtain ⟨cs, _, ⟨_, e, _⟩ | ⟨b, c, _, e, _⟩⟩ := h.jn.each j hjm
    · exact ⟨_, _, _, e⟩
    · exact ⟨_, _, _, e⟩
  obtain ⟨a1, n1, c2, hjv⟩ := hvs
  rw [hjv] at hcell hcell1 hr
  have hbs : ∃ a2 n2 c3, bv = .slice a2 n2 c3 := by
    rcases hb with ⟨e, _⟩ | ⟨a, c, e, _⟩
    · exact ⟨_, _, _, e⟩
    · exact ⟨_, _, _, e⟩
  obtain ⟨a2, n2, c3, hbv⟩ := hbs
  subst hbv
  have hg0 : (0 : Int) < (T0.length : Int) + 1 := by omega
  have hg1 : (T0.length : Int) ≤ 16 := by have := h.len; simp at this; omega
  have FIN : Hid (∃ K' j', j'.U = j.U ++ U' ∧ SX (w1.setCell ⟨jb, T0.length, none⟩ (.slice ao n' c')) K' D F V g m Q (.slice (some ⟨jb, 0, none⟩) (T0.length + 1) c) (T0 ++ [j']) (some jb) n N' ∧ (∀ b, K' b → K b ∨ w.heap.size ≤ b) ∧ Chg K w (w1.setCell ⟨jb, T0.length, none⟩ (.slice ao n' c'))) := by
    have hc2 : Chg (fun b => j.o = some b ∨ b = jb) w (w1.setCell ⟨jb, T0.length, none⟩ (.slice ao n' c')) := (hc1.mono (fun b _ e => .inl e)).cell (.inl (.inr rfl)) _
    obtain ⟨cs, kj⟩ := hR1.kind
    have hJ2 : JrA (w1.setCell ⟨jb, T0.length, none⟩ (.slice ao n' c')) V D g ⟨j.U ++ U', .slice ao n' c', o'⟩ := hJ.stay (stay_of kj (by decide) (by decide) (by decide) ((Chg.refl (· = jb) w1).cell (.inl rfl) _)) (fun b e => by
      have hne : b ≠ jb := fun e2 => by
        subst e2
        obtain ⟨cs', k'⟩ := hJ.kind e
        exact absurd (k'.eq kj).2 (by decide)
      exact Below.heap_setCell _ _ _ _ hne)
    have hS := h.inner (j' := ⟨j.U ++ U', .slice ao n' c', o'⟩) hJ2 (fun b e => (ho b e).imp id (fun e => by omega)) (N' := N') hN1 (by rw [tot_snoc] at hN2 ⊢; simp only [List.length_append]; omega) ⟨c, by simp, by
      have := hR1.set T0.length (by simp) (.slice ao n' c')
      rw [map_set_v T0 j ⟨j.U ++ U', .slice ao n' c', o'⟩] at this
      simpa using this⟩ hc2
    refine ⟨_, _, rfl, hS, fun b hb => ?_, hc2.mono (fun b _ e => ?_)⟩
    · rcases hb with hb | hb
      · exact .inl hb.1
      · rcases ho b hb with e | e
        · exact .inl (h.own.bck j hjm b e)
        · exact .inr (by omega)
    · rcases e with e | e
      · exact h.own.bck j hjm b e
      · subst e; exact h.own.jrn _ rfl
  clear h hC hb hR hR1 hJ ho hc1 hjb hlen
  generalize T0.length = q at *
  go_enter Tryz.func159, Tryz.ntmps159
  go_wp2_with first
    | (go_at_call 158; go_must (refine ud.mono ?_); rintro e y ⟨rfl, hy⟩; replace hy := hy.symm; subst hy)
    | (at_builtin; refine Lib.wpList_append_run _ rfl _ _ _ _ rfl _ _ rfl rfl _ _ hr ?_)
  go_end0
  exact ⟨rfl, FIN.out⟩
end Kv
end Go.Proofs.YtpoifdokmjhclaaGreat

namespace Go.Proofs.YtpoifdokmjhclaaGreat
namespace Kv
open Go.RowKit Go.Lib Pg
attribute [local go_sem] Oper.semAt_some
theorem xrestorer {w : World} {K D F V : Nat → Prop} {g m : Nat} {Q : List (List KV)} {jv : Value} {T : List Jr} {oj : Option Nat} {n N : Nat} {kv : Value} {k : List Int} (h : SX w K D F V g m Q jv T oj n N) (hk : By w kv k) (hkl : k.length ≤ 1000000000) (hN : N ≤ 100000000) :
    Calls Tryz.prog 160 #[.pointer (some ⟨g, 0, none⟩), kv] w fun e w' => ∃ (c : Value) (S : Nat → Prop), e = .returned c ∧ (∃ f cap, c = .func (.func f) #[] cap) ∧ SX w' (fun b => K b ∨ S b) (fun b => D b ∨ w.heap.size ≤ b) F (fun b => V b ∨ S b) g m Q jv T oj n N ∧ CloA w' (fun b => V b ∨ S b) (fun b => D b ∨ w.heap.size ≤ b) g (k, look Q.flatten k) c ∧ (∀ b, S b → w.heap.size ≤ b) ∧ Below w.heap.size w w' := by
  refine (restorer_raw (there := (look Q.flatten k).isSome) (L := (look Q.flatten k).getD []) h.blk hk hkl (fun w' kv' hB hY => (xget_key (h.keep hB) hY hN).mono fun e w'' h => h)).mono ?_
  rintro e w' ⟨s1, s2, s3, v1, v3, rfl, g1, g2, g3, b1, b2, b3, o1, o3, B⟩
  have hX := (h.keep B).vars (S := fun b => b = s1 ∨ b = s2 ∨ b = s3) (fun b hb hF => by have := h.map.lt hF; rcases hb with rfl | rfl | rfl <;> omega) (fun b hb => by
    rcases hb with rfl | rfl | rfl
    · exact ⟨_, _, b1, .inl rfl⟩
    · exact ⟨_, _, b2, .inr rfl⟩
    · exact ⟨_, _, b3, .inr rfl⟩) (D' := fun b => D b ∨ w.heap.size ≤ b) (fun _ _ h => .inl h)
  refine ⟨_, fun b => b = s1 ∨ b = s2 ∨ b = s3, rfl, ⟨_, _, rfl⟩, hX, ⟨⟨hkl, fun x hx => ?_⟩, s1, s2, v1, .inr (.inl rfl), .inr (.inr (.inl rfl)), b1, b2, o1.mono (fun _ _ h => .inr h), ?_⟩, (fun b hb => by rcases hb with rfl | rfl | rfl <;> assumption), B⟩
  · exact (h.map.small _ (look_mem hx)).2
  · cases hl : look Q.flatten k with
    | none => exact .inl ⟨rfl, by simp⟩
    | some x => exact .inr ⟨s3, v3, x, .inr (.inr (.inr rfl)), b3, by rw [hl] at o3; exact o3.mono (fun _ _ h => .inr h), rfl, by simp⟩
set_option maxHeartbeats 2000000 in
set_option maxRecDepth 100000 in
theorem xremember0 {w : World} {K D F V : Nat → Prop} {g m : Nat} {Q : List (List KV)} {jv : Value} {oj : Option Nat} {n N : Nat} {kv : Value} (h : SX w K D F V g m Q jv [] oj n N) :
    Calls Tryz.prog 125 #[.pointer (some ⟨g, 0, none⟩), kv] w fun e w' => e = .returned (.tuple #[]) ∧ w' = w := by
  have ud := xdepth h
  clear h
  go_enter Tryz.func125, Tryz.ntmps125
  go_wp2_with (go_at_call 158; go_must (refine ud.mono ?_); rintro e y ⟨rfl, hy⟩; replace hy := hy.symm; subst hy)
  go_end0
  exact ⟨rfl, rfl⟩
set_option maxHeartbeats 2000000 in
set_option maxRecDepth 100000 in
theorem xremember {w : World} {K D F V : Nat → Prop} {g m : Nat} {Q : List (List KV)} {jv : Value} {T0 : List Jr} {j : Jr} {oj : Option Nat} {n N : Nat} {kv : Value} {k : List Int} (h : SX w K D F V g m Q jv (T0 ++ [j]) oj n N) (hk : By w kv k) (hkl : k.length ≤ 1000000000) (hN : N ≤ 100000000) :
    Calls Tryz.prog 125 #[.pointer (some ⟨g, 0, none⟩), kv] w fun e w' => e = .returned (.tuple #[]) ∧ ∃ K' V' j', j'.U = j.U ++ [(k, look Q.flatten k)] ∧ SX w' K' (fun b => D b ∨ w.heap.size ≤ b) F V' g m Q jv (T0 ++ [j']) oj n (N + 1) ∧ (∀ b, K' b → K b ∨ w.heap.size ≤ b) ∧ Chg K w w' := by
  have ud := xdepth h
  have ur := xrestorer h hk hkl hN
  obtain ⟨ao, c, rfl, -⟩ := id hk.ex
  generalize k.length = kn at *
  have hl : (0 : Int) < ((T0 ++ [j]).length : Int) := by simp
  have HK : Hid (∀ b, K b → b < w.heap.size) := fun b hb => by obtain ⟨cs, t, k, _⟩ := h.own.kind b hb; exact k.lt
  clear h hk
  generalize (T0 ++ [j]).length = tl at *
  go_enter Tryz.func125, Tryz.ntmps125
  go_wp2_with first
    | (go_at_call 158; go_must (refine ud.mono ?_); rintro e y ⟨rfl, hy⟩; replace hy := hy.symm; subst hy)
    | (go_at_call 160; go_must (refine ur.mono ?_); rintro e w1 ⟨cl, S, rfl, ⟨f, cap, rfl⟩, X1, A1, hS, B1⟩; have al := below_alloc w1 (.cells #[.func (.func f) #[] cap] 1); have bl := blk_new w1 [.func (.func f) #[] cap] 1; have CL : CloL (w1.alloc (.cells #[.func (.func f) #[] cap] 1)) (fun b => V b ∨ S b) (fun b => D b ∨ w.heap.size ≤ b) g [(k, look Q.flatten k)] [.func (.func f) #[] cap] := ⟨rfl, (fun i u c hu hc => by (have hi : i = 0 := (by have := (List.getElem?_eq_some_iff.1 hu).1; simp at this; omega)); subst hi; simp at hu hc; subst hu; subst hc; exact A1.stay ⟨fun b _ _ _ k _ => al.block b k.lt, fun b hl _ _ => al.block b hl⟩)⟩; have LI : Lies (w1.alloc (.cells #[.func (.func f) #[] cap] 1)) (.slice (some ⟨w1.heap.size, 0, none⟩) 1 1) [.func (.func f) #[] cap] := .inr ⟨_, 1, rfl, (fun i x hx => by (have hi : i = 0 := (by have := (List.getElem?_eq_some_iff.1 hx).1; simp at this; omega)); subst hi; simp at hx; subst hx; exact bl.cell (i := 0) rfl)⟩; have un := xnote (N' := N + 1) (X1.keep al) CL LI (by omega) (by have := X1.tot; simp only [List.length_cons, List.length_nil]; omega) (by omega); clear X1 A1 CL LI bl ud ur)
    | (go_at_call 159; go_must (refine un.mono ?_); rintro e w2 ⟨rfl, K', j', hj', X2, hK', hC⟩; clear un)
  go_end0
  refine ⟨rfl, K', _, j', hj', X2, fun b hb => ?_, ?_⟩
  · rcases hK' b hb with (h1 | h1) | h1
    · exact .inl h1
    · exact .inr (hS b h1)
    · exact .inr (by have := B1.size; have := al.size; omega)
  · have B2 := joinB B1 al
    exact (Chg.of (F := K) B2).trans hC (fun b hb e => e.elim id (fun e => by have := hS b e; omega))
/-- bytes that a change of K's blocks leaves -/
def BK (w : World) (K : Nat → Prop) (kv : Value) (k : List Int) : Prop := ∀ w', Chg K w w' → By w' kv k
theorem BK.by {w : World} {K : Nat → Prop} {kv : Value} {k : List Int} (h : BK w K kv k) : By w kv k := h w (Chg.refl _ _)
theorem BK.shape {w : World} {K : Nat → Prop} {kv : Value} {k : List Int} (h : BK w K kv k) : ∃ ao c, kv = .slice ao k.length c := by
  obtain ⟨ao, c, e, _⟩ := h.by.ex
  exact ⟨ao, c, e⟩
theorem chgJoin {K : Nat → Prop} {w w1 w2 : World} (h : Chg K w w1) (h' : Chg K w1 w2) : Chg K w w2 := h.trans h' (fun _ _ h => h)
end Kv
end Go.Proofs.YtpoifdokmjhclaaGreat

namespace Go.Proofs.YtpoifdokmjhclaaGreat
namespace Kv
open Go.RowKit Go.Lib Pg
attribute [local go_sem] Oper.semAt_some
theorem back_push {T0 : List Jr} {j j' : Jr} {W : List Ents} {E E' : Ents} {u : Und} (h : Back ((T0 ++ [j]).reverse.map Jr.U) W E) (hj : j'.U = j.U ++ [u]) (hu : undo E' u = E) : Back ((T0 ++ [j']).reverse.map Jr.U) W E' := by
  rw [List.reverse_append] at h ⊢
  simp only [List.reverse_cons, List.reverse_nil, List.nil_append, List.cons_append, List.map_cons] at h ⊢
  cases W with
  | nil => exact h.elim
  | cons e W => exact ⟨by rw [hj, undos_snoc, hu]; exact h.1, h.2⟩
theorem back_nil {W : List Ents} {E E' : Ents} (h : Back [] W E) : Back [] W E' := by
  cases W with
  | nil => trivial
  | cons e W => exact h.elim
/-- what Set says -/
def setE (k v : List Int) : Int := if k.length = 0 ∨ 64 < k.length then 60 else if 4096 < v.length then 61 else 0
/-- what an operation leaves -/
def Ends (w : World) (K D : Nat → Prop) (g : Nat) (E : Ents) (W : List Ents) (n N : Nat) (r : Value) (e : Ending) (w' : World) : Prop := e = .returned r ∧ ∃ K', SA w' K' (fun b => D b ∨ w.heap.size ≤ b) g E W n N ∧ (∀ b, K' b → K b ∨ w.heap.size ≤ b) ∧ Chg K w w'
theorem SX.kg {w : World} {K D F V : Nat → Prop} {g m : Nat} {Q : List (List KV)} {jv : Value} {T : List Jr} {oj : Option Nat} {n N : Nat} (h : SX w K D F V g m Q jv T oj n N) {w' : World} (hc : Chg (· = g) w w') : Chg K w w' := hc.mono (fun b _ e => by have e' : b = g := e; subst e'; exact h.own.top)
set_option maxHeartbeats 2000000 in
set_option maxRecDepth 100000 in
theorem sset_e60a {w : World} {K D : Nat → Prop} {g n N : Nat} {E : Ents} {W : List Ents} {kv vv : Value} {k v : List Int} (h : SA w K D g E W n N) (hk : BK w K kv k) (hv : BK w K vv v) (hn : n ≤ 4000000000000000000) (h0 : k.length = 0) :
    Calls Tryz.prog 86 #[.pointer (some ⟨g, 0, none⟩), kv, vv] w (Ends w K D g E W (n + 1) (N + 2) (.int .i64 60)) := by
  obtain ⟨F, V, m, Q, jv, T, oj, hX, hE, hB⟩ := h.open
  obtain ⟨ao, c, rfl⟩ := hk.shape
  obtain ⟨bo, d, rfl⟩ := hv.shape
  have u := xcount hX hn
  have HX := hid3 hX
  have HE := hid3 hE
  have HB := hid3 hB
  generalize k.length = kn at *
  generalize v.length = vn at *
  have g0 : (kn : Int) = 0 := by omega
  clear hX hE hB h hk hv
  go_enter Tryz.func86, Tryz.ntmps86
  go_wp2_with (go_at_call 70; go_must (refine u.mono ?_); rintro e w1 ⟨rfl, X1, C1⟩)
  go_ret
  exact ⟨rfl, K, (X1.shut HE.out HB.out).more (by omega) |>.mono (fun _ _ h => .inl h), fun b h => .inl h, HX.out.kg C1⟩
set_option maxHeartbeats 2000000 in
set_option maxRecDepth 100000 in
theorem sset_e60b {w : World} {K D : Nat → Prop} {g n N : Nat} {E : Ents} {W : List Ents} {kv vv : Value} {k v : List Int} (h : SA w K D g E W n N) (hk : BK w K kv k) (hv : BK w K vv v) (hn : n ≤ 4000000000000000000) (h0 : ¬ k.length = 0) (h1 : 64 < k.length) :
    Calls Tryz.prog 86 #[.pointer (some ⟨g, 0, none⟩), kv, vv] w (Ends w K D g E W (n + 1) (N + 2) (.int .i64 60)) := by
  obtain ⟨F, V, m, Q, jv, T, oj, hX, hE, hB⟩ := h.open
  obtain ⟨ao, c, rfl⟩ := hk.shape
  obtain ⟨bo, d, rfl⟩ := hv.shape
  have u := xcount hX hn
  have HX := hid3 hX
  have HE := hid3 hE
  have HB := hid3 hB
  generalize k.length = kn at *
  generalize v.length = vn at *
  have g0 : ((kn : Int) = 0) = False := eq_false (by omega)
  have g1 : (64 : Int) < kn := by omega
  clear hX hE hB h hk hv
  go_enter Tryz.func86, Tryz.ntmps86
  go_wp2_with (go_at_call 70; go_must (refine u.mono ?_); rintro e w1 ⟨rfl, X1, C1⟩)
  go_ret
  exact ⟨rfl, K, (X1.shut HE.out HB.out).more (by omega) |>.mono (fun _ _ h => .inl h), fun b h => .inl h, HX.out.kg C1⟩
set_option maxHeartbeats 2000000 in
set_option maxRecDepth 100000 in
theorem sset_e61 {w : World} {K D : Nat → Prop} {g n N : Nat} {E : Ents} {W : List Ents} {kv vv : Value} {k v : List Int} (h : SA w K D g E W n N) (hk : BK w K kv k) (hv : BK w K vv v) (hn : n ≤ 4000000000000000000) (h0 : ¬ k.length = 0) (h1 : ¬ 64 < k.length) (h2 : 4096 < v.length) :
    Calls Tryz.prog 86 #[.pointer (some ⟨g, 0, none⟩), kv, vv] w (Ends w K D g E W (n + 1) (N + 2) (.int .i64 61)) := by
  obtain ⟨F, V, m, Q, jv, T, oj, hX, hE, hB⟩ := h.open
  obtain ⟨ao, c, rfl⟩ := hk.shape
  obtain ⟨bo, d, rfl⟩ := hv.shape
  have u := xcount hX hn
  have HX := hid3 hX
  have HE := hid3 hE
  have HB := hid3 hB
  generalize k.length = kn at *
  generalize v.length = vn at *
  have g0 : ((kn : Int) = 0) = False := eq_false (by omega)
  have g1 : ((64 : Int) < kn) = False := eq_false (by omega)
  have g2 : (4096 : Int) < vn := by omega
  clear hX hE hB h hk hv
  go_enter Tryz.func86, Tryz.ntmps86
  go_wp2_with (go_at_call 70; go_must (refine u.mono ?_); rintro e w1 ⟨rfl, X1, C1⟩)
  go_ret
  exact ⟨rfl, K, (X1.shut HE.out HB.out).more (by omega) |>.mono (fun _ _ h => .inl h), fun b h => .inl h, HX.out.kg C1⟩
set_option maxHeartbeats 4000000 in
set_option maxRecDepth 100000 in
theorem sset_nil {w : World} {K D F V : Nat → Prop} {g m n N : Nat} {Q : List (List KV)} {jv : Value} {oj : Option Nat} {W : List Ents} {kv vv : Value} {k v : List Int} (hX : SX w K D F V g m Q jv [] oj n N) (hB : Back ([].reverse.map Jr.U) W Q.flatten) (hk : BK w K kv k) (hv : BK w K vv v) (hn : n ≤ 4000000000000000000) (hN : N + 2 ≤ 100000000) (h0 : ¬ k.length = 0) (h1 : ¬ 64 < k.length) (h2 : ¬ 4096 < v.length) :
    Calls Tryz.prog 86 #[.pointer (some ⟨g, 0, none⟩), kv, vv] w (Ends w K D g (put Q.flatten k v) W (n + 1) (N + 2) (.int .i64 0)) := by
  obtain ⟨ao, c, rfl⟩ := hk.shape
  obtain ⟨bo, d, rfl⟩ := hv.shape
  have u := xcount hX hn
  have HX := hid3 hX
  have HB := hid3 hB
  have HK := hid3 hk
  have HV := hid3 hv
  have hkl := hid3 (show k.length ≤ 64 by omega)
  have hvl := hid3 (show v.length ≤ 4096 by omega)
  replace hN : N ≤ 99999998 := by omega
  have hN' := hN
  replace hN : N ≤ 100000000 := by omega
  have g0 : ((k.length : Int) = 0) = False := eq_false (by omega)
  have g1 : ((64 : Int) < k.length) = False := eq_false (by omega)
  have g2 : ¬ ((4096 : Int) < v.length) := by omega
  clear hX hB hk hv
  obtain ⟨kn, hkn⟩ : ∃ kn, Hid (k.length = kn) := ⟨_, rfl⟩
  obtain ⟨vn, hvn⟩ : ∃ vn, Hid (v.length = vn) := ⟨_, rfl⟩
  rw [hkn.out] at g0 g1 HK h0 h1 ⊢
  rw [hvn.out] at g2 HV h2 ⊢
  go_enter Tryz.func86, Tryz.ntmps86
  go_wp2_with first
    | (go_at_call 70; go_must (refine u.mono ?_); rintro e w1 ⟨rfl, X1, C1⟩)
    | (go_at_call 125; go_must (refine (xremember0 X1).mono ?_); rintro e y ⟨rfl, hy⟩; replace hy := hy.symm; subst hy; have c0 := X1.blk.cell (i := 0) rfl; have us := mset X1.map (HK.out _ (HX.out.kg C1)) (HV.out _ (HX.out.kg C1)) (by have := hkl.out; omega) (by have := hvl.out; omega) (by omega))
    | (go_at_call 126; go_must (refine us.mono ?_); rintro e w3 ⟨rfl, F', M', hF, hC⟩)
  go_ret
  have X3 := X1.mapped (N' := N + 1) (by have := X1.tot; have := put_len X1.map.ord.flat k v; rw [pages_put X1.map.ord]; omega) M' hF (fun _ h => .inl h) hC
  refine ⟨rfl, _, ((X3.shut (E := put Q.flatten k v) (W := W) (pages_put X1.map.ord k v) (back_nil HB.out)).more (by omega)).mono (fun b _ hb => ?_), fun b hb => ?_, ?_⟩
  · rcases hb with hb | hb
    · exact .inl hb
    · exact .inr (by have := C1.size; omega)
  · rcases hb with ⟨hb, _⟩ | hb
    · exact .inl hb
    · rcases hF b hb with h1 | h1
      · exact .inl (X1.own.map b h1)
      · exact .inr (by have := C1.size; omega)
  · exact chgJoin (HX.out.kg C1) (hC.mono (fun b _ h => X1.own.map b h))
set_option maxHeartbeats 4000000 in
set_option maxRecDepth 100000 in
theorem sset_jrn {w : World} {K D F V : Nat → Prop} {g m n N : Nat} {Q : List (List KV)} {jv : Value} {T0 : List Jr} {j : Jr} {oj : Option Nat} {W : List Ents} {kv vv : Value} {k v : List Int} (hX : SX w K D F V g m Q jv (T0 ++ [j]) oj n N) (hB : Back ((T0 ++ [j]).reverse.map Jr.U) W Q.flatten) (hk : BK w K kv k) (hv : BK w K vv v) (hn : n ≤ 4000000000000000000) (hN : N + 2 ≤ 100000000) (h0 : ¬ k.length = 0) (h1 : ¬ 64 < k.length) (h2 : ¬ 4096 < v.length) :
    Calls Tryz.prog 86 #[.pointer (some ⟨g, 0, none⟩), kv, vv] w (Ends w K D g (put Q.flatten k v) W (n + 1) (N + 2) (.int .i64 0)) := by
  obtain ⟨ao, c, rfl⟩ := hk.shape
  obtain ⟨bo, d, rfl⟩ := hv.shape
  have u := xcount hX hn
  have HX := hid3 hX
  have HB := hid3 hB
  have HK := hid3 hk
  have HV := hid3 hv
  have hkl := hid3 (show k.length ≤ 64 by omega)
  have hvl := hid3 (show v.length ≤ 4096 by omega)
  replace hN : N ≤ 99999998 := by omega
  have hN' := hN
  replace hN : N ≤ 100000000 := by omega
  have g0 : ((k.length : Int) = 0) = False := eq_false (by omega)
  have g1 : ((64 : Int) < k.length) = False := eq_false (by omega)
  have g2 : ¬ ((4096 : Int) < v.length) := by omega
  clear hX hB hk hv
  obtain ⟨kn, hkn⟩ : ∃ kn, Hid (k.length = kn) := ⟨_, rfl⟩
  obtain ⟨vn, hvn⟩ : ∃ vn, Hid (v.length = vn) := ⟨_, rfl⟩
  rw [hkn.out] at g0 g1 HK h0 h1 ⊢
  rw [hvn.out] at g2 HV h2 ⊢
  go_enter Tryz.func86, Tryz.ntmps86
  go_wp2_with first
    | (go_at_call 70; go_must (refine u.mono ?_); rintro e w1 ⟨rfl, X1, C1⟩)
    | (go_at_call 125; go_must (refine (xremember X1 (HK.out _ (HX.out.kg C1)) (by have := hkl.out; omega) hN).mono ?_); rintro e w2 ⟨rfl, K2, V2, j', hj', X2, hK2, C2⟩; have C3 := chgJoin (HX.out.kg C1) C2; have c0 := X2.blk.cell (i := 0) rfl; have us := mset X2.map (HK.out _ C3) (HV.out _ C3) (by have := hkl.out; omega) (by have := hvl.out; omega) (by omega))
    | (go_at_call 126; go_must (refine us.mono ?_); rintro e w3 ⟨rfl, F', M', hF, hC⟩)
  go_ret
  have X3 := X2.mapped (N' := N + 1 + 1) (by have := X2.tot; have := put_len X2.map.ord.flat k v; rw [pages_put X2.map.ord]; omega) M' hF (fun _ h => .inl h) hC
  refine ⟨rfl, _, ((X3.shut (E := put Q.flatten k v) (W := W) (pages_put X2.map.ord k v) (back_push HB.out hj' (undo_put HX.out.map.ord.flat k v))).more (by omega)).mono (fun b _ hb => ?_), fun b hb => ?_, ?_⟩
  · rcases hb with (hb | hb) | hb
    · exact .inl hb
    · exact .inr (by have := C1.size; omega)
    · exact .inr (by have := C3.size; omega)
  · rcases hb with ⟨hb, _⟩ | hb
    · exact (hK2 b hb).imp id (fun h => by have := C1.size; omega)
    · rcases hF b hb with h1 | h1
      · exact (hK2 b (X2.own.map b h1)).imp id (fun h => by have := C1.size; omega)
      · exact .inr (by have := C3.size; omega)
  · exact C3.trans hC (fun b hb h => (hK2 b (X2.own.map b h)).elim id (fun h => by have := C1.size; omega))
theorem sset {w : World} {K D : Nat → Prop} {g n N : Nat} {E : Ents} {W : List Ents} {kv vv : Value} {k v : List Int} (h : SA w K D g E W n N) (hk : BK w K kv k) (hv : BK w K vv v) (hn : n ≤ 4000000000000000000) (hN : N + 2 ≤ 100000000) :
    Calls Tryz.prog 86 #[.pointer (some ⟨g, 0, none⟩), kv, vv] w (Ends w K D g (if setE k v = 0 then put E k v else E) W (n + 1) (N + 2) (.int .i64 (setE k v))) := by
  by_cases h0 : k.length = 0
  · have e : setE k v = 60 := by unfold setE; rw [if_pos (.inl h0)]
    rw [e, if_neg (by decide)]; exact sset_e60a h hk hv hn h0
  · by_cases h1 : 64 < k.length
    · have e : setE k v = 60 := by unfold setE; rw [if_pos (.inr h1)]
      rw [e, if_neg (by decide)]; exact sset_e60b h hk hv hn h0 h1
    · by_cases h2 : 4096 < v.length
      · have e : setE k v = 61 := by unfold setE; rw [if_neg (by omega), if_pos h2]
        rw [e, if_neg (by decide)]; exact sset_e61 h hk hv hn h0 h1 h2
      · have e : setE k v = 0 := by unfold setE; rw [if_neg (by omega), if_neg h2]
        rw [e, if_pos rfl]
        obtain ⟨F, V, m, Q, jv, T, oj, hX, rfl, hB⟩ := h.open
        rcases List.eq_nil_or_concat T with rfl | ⟨T0, j, rfl⟩
        · exact sset_nil hX hB hk hv hn hN h0 h1 h2
        · rw [List.concat_eq_append] at hX hB
          exact sset_jrn hX hB hk hv hn hN h0 h1 h2
end Kv
end Go.Proofs.YtpoifdokmjhclaaGreat
