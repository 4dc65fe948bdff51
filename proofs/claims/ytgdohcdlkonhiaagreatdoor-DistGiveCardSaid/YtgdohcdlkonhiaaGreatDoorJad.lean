/- Several texts, joined: KvT, PgMp, KvM2, KvO2, KvP, KvQ, KvD, KvR2, KvS2, KvU, KvV2. -/
import Derived.Test.YtgdohcdlkonhiaaGreatDoorJac
import Derived.Laws.LoneSync
namespace Go.Proofs.YtgdohcdlkonhiaaGreatDoor
namespace Kv
open Pg

abbrev Ents := List KV
/-- rising -/
def Rise (E : Ents) : Prop := E.Pairwise fun x y => Lt x.1 y.1
def look (E : Ents) (k : List Int) : Option (List Int) := (E.find? (fun x => decide (x.1 = k))).map Prod.snd
def put (E : Ents) (k v : List Int) : Ents := E.filter (fun x => decide (Lt x.1 k)) ++ (k, v) :: E.filter (fun x => decide (Lt k x.1))
def rem (E : Ents) (k : List Int) : Ents := E.filter (fun x => decide (¬ x.1 = k))
theorem filter_id {α : Type} {p : α → Bool} {l : List α} (h : ∀ x ∈ l, p x = true) : l.filter p = l := List.filter_eq_self.2 h
theorem filter_no {α : Type} {p : α → Bool} {l : List α} (h : ∀ x ∈ l, p x = false) : l.filter p = [] := List.filter_eq_nil_iff.2 (fun x hx => by rw [h x hx]; simp)
/-- k's place among them -/
structure Cut (k : List Int) (X Y : Ents) : Prop where
  lo : ∀ x ∈ X, Lt x.1 k
  hi : ∀ y ∈ Y, Lt k y.1
theorem Cut.nx {k : List Int} {X Y : Ents} (h : Cut k X Y) : ∀ x ∈ X, ¬ x.1 = k := fun x hx e => by have := h.lo x hx; rw [e] at this; exact lt_irrefl _ this
theorem Cut.ny {k : List Int} {X Y : Ents} (h : Cut k X Y) : ∀ x ∈ Y, ¬ x.1 = k := fun x hx e => by have := h.hi x hx; rw [e] at this; exact lt_irrefl _ this
theorem look_no {k : List Int} {X : Ents} (h : ∀ x ∈ X, ¬ x.1 = k) : look X k = none := by
  unfold look
  rw [List.find?_eq_none.2 (fun x hx => by simp [h x hx])]
  rfl
theorem look_app {k : List Int} {X Y : Ents} (h : ∀ x ∈ X, ¬ x.1 = k) : look (X ++ Y) k = look Y k := by
  unfold look
  rw [List.find?_append, List.find?_eq_none.2 (fun x hx => by simp [h x hx])]
  simp
theorem Cut.look0 {k : List Int} {X Y : Ents} (h : Cut k X Y) : look (X ++ Y) k = none := by rw [look_app h.nx, look_no h.ny]
theorem Cut.look1 {k x : List Int} {X Y : Ents} (h : Cut k X Y) : look (X ++ (k, x) :: Y) k = some x := by
  rw [look_app h.nx]
  simp [look]
theorem Cut.put0 {k v : List Int} {X Y : Ents} (h : Cut k X Y) : put (X ++ Y) k v = X ++ (k, v) :: Y := by
  unfold put
  rw [List.filter_append, List.filter_append, filter_id (l := X) (fun x hx => decide_eq_true (h.lo x hx)), filter_no (l := Y) (fun x hx => decide_eq_false (h.hi x hx).not), filter_no (l := X) (fun x hx => decide_eq_false (h.lo x hx).not), filter_id (l := Y) (fun x hx => decide_eq_true (h.hi x hx))]
  simp
theorem Cut.put1 {k x v : List Int} {X Y : Ents} (h : Cut k X Y) : put (X ++ (k, x) :: Y) k v = X ++ (k, v) :: Y := by
  unfold put
  rw [List.filter_append, List.filter_append, filter_id (l := X) (fun x hx => decide_eq_true (h.lo x hx)), filter_no (l := X) (fun x hx => decide_eq_false (h.lo x hx).not), List.filter_cons, List.filter_cons, filter_no (l := Y) (fun x hx => decide_eq_false (h.hi x hx).not), filter_id (l := Y) (fun x hx => decide_eq_true (h.hi x hx)), decide_eq_false (lt_irrefl k)]
  simp
theorem Cut.rem0 {k : List Int} {X Y : Ents} (h : Cut k X Y) : rem (X ++ Y) k = X ++ Y := by
  unfold rem
  rw [List.filter_append, filter_id (l := X) (fun x hx => decide_eq_true (h.nx x hx)), filter_id (l := Y) (fun x hx => decide_eq_true (h.ny x hx))]
theorem Cut.rem1 {k x : List Int} {X Y : Ents} (h : Cut k X Y) : rem (X ++ (k, x) :: Y) k = X ++ Y := by
  unfold rem
  rw [List.filter_append, filter_id (l := X) (fun x hx => decide_eq_true (h.nx x hx)), List.filter_cons, filter_id (l := Y) (fun x hx => decide_eq_true (h.ny x hx))]
  simp
theorem cut_of {k x : List Int} {X Y : Ents} (h : Rise (X ++ (k, x) :: Y)) : Cut k X Y := by
  unfold Rise at h
  rw [List.pairwise_append, List.pairwise_cons] at h
  exact ⟨fun a ha => h.2.2 a ha (k, x) List.mem_cons_self, fun b hb => h.2.1.1 b hb⟩
/-- every key has its place -/
theorem Rise.cut {E : Ents} (h : Rise E) (k : List Int) : ∃ X Y, Cut k X Y ∧ ((E = X ++ Y ∧ look E k = none) ∨ ∃ x, E = X ++ (k, x) :: Y ∧ look E k = some x) := by
  induction E with
  | nil => exact ⟨[], [], ⟨fun _ h => by simp at h, fun _ h => by simp at h⟩, .inl ⟨rfl, rfl⟩⟩
  | cons a E ih =>
    have h' := h
    unfold Rise at h'
    rw [List.pairwise_cons] at h'
    rcases lt_tri a.1 k with hl | he | hg
    · obtain ⟨X, Y, c, r⟩ := ih h'.2
      have hc : Cut k (a :: X) Y := ⟨fun x hx => by
        rcases List.mem_cons.1 hx with rfl | hx
        · exact hl
        · exact c.lo x hx, c.hi⟩
      refine ⟨a :: X, Y, hc, ?_⟩
      rcases r with ⟨e, _⟩ | ⟨x, e, _⟩
      · subst e; exact .inl ⟨rfl, hc.look0⟩
      · subst e; exact .inr ⟨x, rfl, hc.look1⟩
    · have hc : Cut k [] E := ⟨fun _ h => by simp at h, fun y hy => by rw [← he]; exact h'.1 y hy⟩
      obtain ⟨ak, av⟩ := a
      simp only at he
      subst he
      exact ⟨[], E, hc, .inr ⟨av, rfl, hc.look1⟩⟩
    · have hc : Cut k [] (a :: E) := ⟨fun _ h => by simp at h, fun y hy => by
        rcases List.mem_cons.1 hy with rfl | hy
        · exact hg
        · exact hg.trans (h'.1 y hy)⟩
      exact ⟨[], a :: E, hc, .inl ⟨rfl, hc.look0⟩⟩
/-- what takes a change back: a key, and what lay there -/
abbrev Und := List Int × Option (List Int)
def undo (E : Ents) (u : Und) : Ents := match u.2 with
  | none => rem E u.1
  | some v => put E u.1 v
def undos (U : List Und) (E : Ents) : Ents := U.foldr (fun u E => undo E u) E
/-- journals that lead back to what was (the innermost one first) -/
def Back : List (List Und) → List Ents → Ents → Prop
  | [], [], _ => True
  | U :: J, e :: W, E => undos U E = e ∧ Back J W e
  | _, _, _ => False
/-- all keys of what takes back are short -/
theorem pages_put {Q : List (List KV)} (h : AOrd Q) (k v : List Int) : (aset Q k v).flatten = put Q.flatten k v := by
  cases hh : ahas Q k
  · obtain ⟨X, Y, e1, e2, h1, h2⟩ := h.set_new v hh
    rw [e1, e2, Cut.put0 ⟨h1, h2⟩]
  · obtain ⟨X, x, Y, e1, e2⟩ := h.set_old v hh
    have c := cut_of (by have := h.flat; rw [e1] at this; exact this)
    rw [e1, e2, c.put1]
theorem look_has {Q : List (List KV)} (h : AOrd Q) (k : List Int) : ahas Q k = (look Q.flatten k).isSome := by
  cases hh : ahas Q k
  · obtain ⟨X, Y, e1, _, h1, h2⟩ := h.set_new [] hh
    rw [e1, Cut.look0 ⟨h1, h2⟩]; rfl
  · obtain ⟨X, x, Y, e1, _⟩ := h.set_old [] hh
    have c := cut_of (by have := h.flat; rw [e1] at this; exact this)
    rw [e1, c.look1]; rfl
theorem pages_rem {Q : List (List KV)} (h : AOrd Q) (k : List Int) : (adel Q k).flatten = rem Q.flatten k := by
  cases hh : ahas Q k
  · rw [adel_none hh]
    obtain ⟨X, Y, e1, _, h1, h2⟩ := h.set_new [] hh
    rw [e1, Cut.rem0 ⟨h1, h2⟩]
  · obtain ⟨X, x, Y, e1, e2⟩ := h.del_old hh
    have c := cut_of (by have := h.flat; rw [e1] at this; exact this)
    rw [e1, e2, c.rem1]
theorem got_mem {Q : List (List KV)} {k : List Int} (hh : ahas Q k = true) : (k, agot Q k) ∈ Q.flatten := by
  unfold ahas thr at hh
  simp only [Bool.and_eq_true, Bool.not_eq_true', decide_eq_true_eq] at hh
  obtain ⟨_, h2⟩ := hh
  unfold agot
  rw [List.getElem?_map] at h2
  obtain ⟨x, hx, hk⟩ := Option.map_eq_some_iff.1 h2
  rw [hx]
  simp only [Option.map_some, Option.getD_some]
  have hm := List.mem_of_getElem? hx
  have hp : x = (k, x.2) := by rw [← hk]
  rw [← hp]
  rw [List.getD_eq_getElem?_getD] at hm
  cases hq : Q[apl Q k]? with
  | none => rw [hq] at hm; simp at hm
  | some p => rw [hq] at hm; exact List.mem_flatten.2 ⟨p, List.mem_of_getElem? hq, hm⟩
theorem look_got {Q : List (List KV)} (h : AOrd Q) (k : List Int) : (if ahas Q k then agot Q k else []) = (look Q.flatten k).getD [] := by
  cases hh : ahas Q k
  · have := look_has h k
    rw [hh] at this
    cases hl : look Q.flatten k with
    | none => rfl
    | some x => rw [hl] at this; cases this
  · have hm := got_mem hh
    obtain ⟨X, Y, e⟩ := List.append_of_mem hm
    have c := cut_of (by have := h.flat; rw [e] at this; exact this)
    rw [e, c.look1]; rfl
theorem look_mem {E : Ents} {k x : List Int} (h : look E k = some x) : (k, x) ∈ E := by
  unfold look at h
  obtain ⟨a, ha, rfl⟩ := Option.map_eq_some_iff.1 h
  have h1 := List.mem_of_find?_eq_some ha
  have h2 := List.find?_some ha
  simp only [decide_eq_true_eq] at h2
  rw [← h2]; exact h1
theorem put_len {E : Ents} (h : Rise E) (k v : List Int) : (put E k v).length ≤ E.length + 1 := by
  obtain ⟨X, Y, c, ⟨rfl, _⟩ | ⟨x, rfl, _⟩⟩ := h.cut k
  · rw [c.put0]; simp; omega
  · rw [c.put1]; simp
theorem rem_len {E : Ents} (k : List Int) : (rem E k).length ≤ E.length := List.length_filter_le _ _
end Kv
end Go.Proofs.YtgdohcdlkonhiaaGreatDoor

namespace Go.Proofs.YtgdohcdlkonhiaaGreatDoor
namespace Pg
open Go.RowKit Go.Lib
/-- at g lies a map with the pages Q, of N entries at most -/
structure Mp (w : World) (F D : Nat → Prop) (g : Nat) (Q : List (List KV)) (N : Nat) : Prop where
  ex : ∃ L, abs (ens L) = Q ∧ MapA w F D g L ∧ Ord (ens L) ∧ Shq (ens L) ∧ (ens L).flatten.length ≤ N ∧ ∀ es ∈ ens L, ∀ e ∈ es, e.kl.length ≤ 1000000000 ∧ e.vl.length ≤ 1000000000
theorem flen_ge : ∀ {P : List (List En)}, (∀ es ∈ P, 1 ≤ es.length) → P.length ≤ P.flatten.length
  | [], _ => Nat.le_refl _
  | a :: P, h => by
    have h1 := h a List.mem_cons_self
    have h2 := flen_ge (P := P) fun es he => h es (List.mem_cons_of_mem _ he)
    simp only [List.flatten_cons, List.length_append, List.length_cons]
    omega
theorem Shq.few {L : List Pg} (h : Shq (ens L)) {N : Nat} (hN : (ens L).flatten.length ≤ N) (hb : N ≤ 100000000) : L.length ≤ 100000000 := by
  have h1 := flen_ge fun es he => (h.one es he).1
  have h2 : (ens L).length = L.length := by simp [ens]
  omega
theorem Mp.lt {w : World} {F D : Nat → Prop} {g N : Nat} {Q : List (List KV)} (M : Mp w F D g Q N) {b : Nat} (hb : F b) : b < w.heap.size := by
  obtain ⟨L, _, A, _⟩ := M.ex
  exact A.lt hb
theorem Mp.noU {w : World} {F D : Nat → Prop} {g N : Nat} {Q : List (List KV)} (M : Mp w F D g Q N) {b : Nat} (hb : F b) (cs : List Value) : ¬ Blk w b cs 5 := by
  obtain ⟨L, _, A, _⟩ := M.ex
  exact A.noU hb cs
theorem Mp.keep {w w' : World} {F D : Nat → Prop} {g N : Nat} {Q : List (List KV)} (M : Mp w F D g Q N) (hb : Below w.heap.size w w') : Mp w' F D g Q N := by
  obtain ⟨L, e, A, r⟩ := M.ex
  exact ⟨L, e, A.keep hb, r⟩
theorem Mp.same {w w' : World} {F D : Nat → Prop} {g N : Nat} {Q : List (List KV)} (M : Mp w F D g Q N) (h1 : ∀ b, F b → w'.heap[b]? = w.heap[b]?) (h2 : ∀ b, b < w.heap.size → D b → (∃ cs, Blk w b cs 5) → w'.heap[b]? = w.heap[b]?) : Mp w' F D g Q N := by
  obtain ⟨L, e, A, r⟩ := M.ex
  exact ⟨L, e, A.same h1 h2, r⟩
theorem Mp.chg {w w' : World} {F D F' : Nat → Prop} {g N : Nat} {Q : List (List KV)} (M : Mp w F D g Q N) (hc : Chg F' w w') (h1 : ∀ b, F' b → ¬ F b) (h2 : ∀ b, F' b → ∀ cs, ¬ Blk w b cs 5) : Mp w' F D g Q N := by
  obtain ⟨L, e, A, r⟩ := M.ex
  exact ⟨L, e, A.chg hc h1 h2, r⟩
theorem Mp.mono {w : World} {F D D' : Nat → Prop} {g N : Nat} {Q : List (List KV)} (M : Mp w F D g Q N) (hD : ∀ b, b < w.heap.size → D b → D' b) : Mp w F D' g Q N := by
  obtain ⟨L, e, A, r⟩ := M.ex
  exact ⟨L, e, A.mono hD, r⟩
theorem Mp.more {w : World} {F D : Nat → Prop} {g N N' : Nat} {Q : List (List KV)} (M : Mp w F D g Q N) (h : N ≤ N') : Mp w F D g Q N' := by
  obtain ⟨L, e, A, O, S, n, r⟩ := M.ex
  exact ⟨L, e, A, O, S, by omega, r⟩
theorem Mp.ord {w : World} {F D : Nat → Prop} {g N : Nat} {Q : List (List KV)} (M : Mp w F D g Q N) : AOrd Q := by
  obtain ⟨L, e, A, O, _⟩ := M.ex
  exact ⟨_, e, O⟩
theorem Mp.len {w : World} {F D : Nat → Prop} {g N : Nat} {Q : List (List KV)} (M : Mp w F D g Q N) : Q.flatten.length ≤ N := by
  obtain ⟨L, rfl, A, O, S, n, r⟩ := M.ex
  rw [abs_flat, List.length_map]
  exact n
theorem Mp.small {w : World} {F D : Nat → Prop} {g N : Nat} {Q : List (List KV)} (M : Mp w F D g Q N) : ∀ x ∈ Q.flatten, x.1.length ≤ 1000000000 ∧ x.2.length ≤ 1000000000 := by
  obtain ⟨L, rfl, A, O, S, n, r⟩ := M.ex
  intro x hx
  rw [abs_flat] at hx
  obtain ⟨e, he, rfl⟩ := List.mem_map.1 hx
  obtain ⟨es, h1, h2⟩ := List.mem_flatten.1 he
  exact r es h1 e h2
theorem small_flat {P : List (List En)} {p : En → Prop} : (∀ es ∈ P, ∀ e ∈ es, p e) ↔ ∀ e ∈ P.flatten, p e :=
  ⟨fun h e he => by obtain ⟨es, h1, h2⟩ := List.mem_flatten.1 he; exact h es h1 e h2, fun h es he e hee => h e (List.mem_flatten.2 ⟨es, he, hee⟩)⟩
theorem mnew {w : World} : Calls Tryz.prog 41 #[] w fun e w' => e = .returned (.pointer (some ⟨w.heap.size, 0, none⟩)) ∧ Mp w' (· = w.heap.size) (fun _ => False) w.heap.size [] 0 ∧ Below w.heap.size w w' :=
  new_any.mono fun e w' ⟨g, he, hg, A, B⟩ => by
    subst hg
    exact ⟨he, ⟨[], rfl, A, ⟨fun _ h => by simp [ens] at h, List.Pairwise.nil⟩, Shq.nil, Nat.le_refl _, fun _ h => by simp [ens] at h⟩, B⟩
theorem mset {w : World} {F D : Nat → Prop} {g N : Nat} {Q : List (List KV)} {kv vv : Value} {k v : List Int} (M : Mp w F D g Q N) (hk : By w kv k) (hv : By w vv v) (hkl : k.length ≤ 1000000000) (hvl : v.length ≤ 1000000000) (hN : N ≤ 100000000) :
    Calls Tryz.prog 50 #[.pointer (some ⟨g, 0, none⟩), kv, vv] w fun e w' => e = .returned (.bool (!ahas Q k)) ∧ ∃ F', Mp w' F' (fun b => D b ∨ w.heap.size ≤ b) g (aset Q k v) (N + 1) ∧ (∀ b, F' b → F b ∨ w.heap.size ≤ b) ∧ Chg F w w' := by
  obtain ⟨L, rfl, A, O, S, n, r⟩ := M.ex
  refine (set_any A O (fun es he => (S.one es he).2) (S.few n hN) hk hv hkl hvl).mono fun e w' ⟨he, F', L', nk, nv, e1, A', hF, hc⟩ => ?_
  refine ⟨by rw [abs_has]; exact he, F', ⟨L', by rw [e1, abs_set], A', by rw [e1]; exact O.set _, by rw [e1]; exact S.set O _, ?_, ?_⟩, hF, hc⟩
  · rw [e1, len_set O]
    split <;> omega
  · rw [e1]
    rw [small_flat] at r ⊢
    intro x hx
    cases hh : has (ens L) k
    · obtain ⟨X, Y, e2, e3, _⟩ := set_flat_new O (e := ⟨nk, k, nv, v⟩) hh
      rw [e3] at hx
      rw [e2] at r
      rcases List.mem_append.1 hx with h | h
      · exact r x (List.mem_append_left _ h)
      · rcases List.mem_cons.1 h with h | h
        · subst h; exact ⟨hkl, hvl⟩
        · exact r x (List.mem_append_right _ h)
    · obtain ⟨X, y, Y, e2, hy, e3⟩ := set_flat_old O (e := ⟨nk, k, nv, v⟩) hh
      rw [e3] at hx
      rw [e2] at r
      rcases List.mem_append.1 hx with h | h
      · exact r x (List.mem_append_left _ h)
      · rcases List.mem_cons.1 h with h | h
        · subst h; exact ⟨by simp only; rw [hy]; exact hkl, hvl⟩
        · exact r x (List.mem_append_right _ (List.mem_cons_of_mem _ h))
theorem mdel {w : World} {F D : Nat → Prop} {g N : Nat} {Q : List (List KV)} {kv : Value} {k : List Int} (M : Mp w F D g Q N) (hk : By w kv k) (hN : N ≤ 100000000) :
    Calls Tryz.prog 160 #[.pointer (some ⟨g, 0, none⟩), kv] w fun e w' => e = .returned (.bool (ahas Q k)) ∧ ∃ F', Mp w' F' D g (adel Q k) N ∧ (∀ b, F' b → F b ∨ w.heap.size ≤ b) ∧ Chg F w w' := by
  obtain ⟨L, rfl, A, O, S, n, r⟩ := M.ex
  refine (delete_any A O (fun es he => (S.one es he).2) (S.few n hN) hk).mono fun e w' ⟨he, F', L', e1, A', hF, hc⟩ => ?_
  refine ⟨by rw [abs_has]; exact he, F', ⟨L', by rw [e1, abs_del], A', by rw [e1]; exact O.del _, by rw [e1]; exact S.del O _, ?_, ?_⟩, hF, hc⟩
  · rw [e1]
    cases hh : has (ens L) k
    · rw [del_none hh]; exact n
    · obtain ⟨X, x, Y, e2, _, e3⟩ := del_flat O hh
      rw [e2] at n
      rw [e3]
      simp only [List.length_append, List.length_cons] at n ⊢
      omega
  · rw [e1]
    rw [small_flat] at r ⊢
    intro x hx
    cases hh : has (ens L) k
    · rw [del_none hh] at hx; exact r x hx
    · obtain ⟨X, y, Y, e2, _, e3⟩ := del_flat O hh
      rw [e3] at hx
      rw [e2] at r
      rcases List.mem_append.1 hx with h | h
      · exact r x (List.mem_append_left _ h)
      · exact r x (List.mem_append_right _ (List.mem_cons_of_mem _ h))
theorem mget {w : World} {F D : Nat → Prop} {g N : Nat} {Q : List (List KV)} {kv : Value} {k : List Int} (M : Mp w F D g Q N) (hk : By w kv k) (hN : N ≤ 100000000) :
    Calls Tryz.prog 150 #[.pointer (some ⟨g, 0, none⟩), kv] w fun e w' => ∃ v, e = .returned (.tuple #[v, .bool (ahas Q k)]) ∧ OB w' (w.heap.size ≤ ·) v (if ahas Q k then agot Q k else []) ∧ Below w.heap.size w w' := by
  obtain ⟨L, rfl, A, O, S, n, r⟩ := M.ex
  rw [abs_has, abs_got]
  exact get_any A O (fun es he => by have := (S.one es he).2; omega) (S.few n hN) hk fun p hp e he => (r p.es (List.mem_map.2 ⟨p, hp, rfl⟩) e he).2
end Pg
end Go.Proofs.YtgdohcdlkonhiaaGreatDoor

namespace Go.Proofs.YtgdohcdlkonhiaaGreatDoor
namespace Kv
open Go.RowKit Go.Lib Pg

/-- a closure that takes a change back -/
structure CloA (w : World) (V D : Nat → Prop) (g : Nat) (u : Und) (c : Value) : Prop where
  short : u.1.length ≤ 1000000000 ∧ ∀ x, u.2 = some x → x.length ≤ 1000000000
  ex : ∃ s1 s2 kv, V s1 ∧ V s2 ∧ Blk w s1 [.pointer (some ⟨g, 0, none⟩)] 40 ∧ Blk w s2 [kv] 42 ∧ OB w D kv u.1 ∧
    ((u.2 = none ∧ c = .func (.func 159) #[] #[.pointer (some ⟨s1, 0, none⟩), .pointer (some ⟨s2, 0, none⟩)]) ∨
     ∃ s3 vv x, V s3 ∧ Blk w s3 [vv] 42 ∧ OB w D vv x ∧ u.2 = some x ∧ c = .func (.func 161) #[] #[.pointer (some ⟨s1, 0, none⟩), .pointer (some ⟨s2, 0, none⟩), .pointer (some ⟨s3, 0, none⟩)])
/-- what stays where these blocks stay -/
structure Stay (V D : Nat → Prop) (w w' : World) : Prop where
  var : ∀ b cs t, V b → Blk w b cs t → (t = 40 ∨ t = 42) → w'.heap[b]? = w.heap[b]?
  byt : ∀ b, b < w.heap.size → D b → (∃ cs, Blk w b cs 5) → w'.heap[b]? = w.heap[b]?
theorem Stay.ob {V D : Nat → Prop} {w w' : World} (h : Stay V D w w') {v : Value} {l : List Int} (O : OB w D v l) : OB w' D v l :=
  ⟨O.oct, O.ex.imp id (by
    rintro ⟨b, c, e, hd, hR⟩
    exact ⟨b, c, e, hd, hR.same (h.byt b hR.lt hd hR.kind)⟩)⟩
theorem CloA.stay {w w' : World} {V D : Nat → Prop} {g : Nat} {u : Und} {c : Value} (h : CloA w V D g u c) (hs : Stay V D w w') : CloA w' V D g u c := by
  obtain ⟨s1, s2, kv, v1, v2, b1, b2, ok, r⟩ := h.ex
  refine ⟨h.short, s1, s2, kv, v1, v2, b1.same (hs.var _ _ _ v1 b1 (.inl rfl)), b2.same (hs.var _ _ _ v2 b2 (.inr rfl)), hs.ob ok, r.imp id ?_⟩
  rintro ⟨s3, vv, x, v3, b3, ov, e⟩
  exact ⟨s3, vv, x, v3, b3.same (hs.var _ _ _ v3 b3 (.inr rfl)), hs.ob ov, e⟩
theorem CloA.mono {w : World} {V V' D D' : Nat → Prop} {g : Nat} {u : Und} {c : Value} (h : CloA w V D g u c) (hV : ∀ b, V b → V' b) (hD : ∀ b, b < w.heap.size → D b → D' b) : CloA w V' D' g u c := by
  obtain ⟨s1, s2, kv, v1, v2, b1, b2, ok, r⟩ := h.ex
  refine ⟨h.short, s1, s2, kv, hV _ v1, hV _ v2, b1, b2, ok.mono hD, r.imp id ?_⟩
  rintro ⟨s3, vv, x, v3, b3, ov, e⟩
  exact ⟨s3, vv, x, hV _ v3, b3, ov.mono hD, e⟩
/-- a list of them -/
def CloL (w : World) (V D : Nat → Prop) (g : Nat) (U : List Und) (cs : List Value) : Prop := cs.length = U.length ∧ ∀ (i : Nat) u c, U[i]? = some u → cs[i]? = some c → CloA w V D g u c
theorem CloL.stay {w w' : World} {V D : Nat → Prop} {g : Nat} {U : List Und} {cs : List Value} (h : CloL w V D g U cs) (hs : Stay V D w w') : CloL w' V D g U cs := ⟨h.1, fun i u c hu hc => (h.2 i u c hu hc).stay hs⟩
theorem CloL.mono {w : World} {V V' D D' : Nat → Prop} {g : Nat} {U : List Und} {cs : List Value} (h : CloL w V D g U cs) (hV : ∀ b, V b → V' b) (hD : ∀ b, b < w.heap.size → D b → D' b) : CloL w V' D' g U cs := ⟨h.1, fun i u c hu hc => (h.2 i u c hu hc).mono hV hD⟩
/-- a journal: what takes back, the slice of it, its block -/
structure Jr where
  U : List Und
  v : Value
  o : Option Nat
/-- it lies there -/
def JrA (w : World) (V D : Nat → Prop) (g : Nat) (j : Jr) : Prop := ∃ cs, CloL w V D g j.U cs ∧ ((j.o = none ∧ j.v = .slice none 0 0 ∧ j.U = []) ∨ ∃ b c, j.o = some b ∧ j.v = .slice (some ⟨b, 0, none⟩) j.U.length c ∧ Rw w 1 1 b j.U.length c cs)
theorem JrA.stay {w w' : World} {V D : Nat → Prop} {g : Nat} {j : Jr} (h : JrA w V D g j) (hs : Stay V D w w') (ho : ∀ b, j.o = some b → w'.heap[b]? = w.heap[b]?) : JrA w' V D g j := by
  obtain ⟨cs, hc, r⟩ := h
  refine ⟨cs, hc.stay hs, r.imp id ?_⟩
  rintro ⟨b, c, e1, e2, hR⟩
  exact ⟨b, c, e1, e2, hR.same (ho b e1)⟩
theorem JrA.mono {w : World} {V V' D D' : Nat → Prop} {g : Nat} {j : Jr} (h : JrA w V D g j) (hV : ∀ b, V b → V' b) (hD : ∀ b, b < w.heap.size → D b → D' b) : JrA w V' D' g j := by
  obtain ⟨cs, hc, r⟩ := h
  exact ⟨cs, hc.mono hV hD, r⟩
theorem JrA.kind {w : World} {V D : Nat → Prop} {g : Nat} {j : Jr} (h : JrA w V D g j) {b : Nat} (hb : j.o = some b) : ∃ cs, Blk w b cs 1 := by
  obtain ⟨cs, hc, ⟨e, _⟩ | ⟨b', c, e, _, hR⟩⟩ := h
  · rw [hb] at e; cases e
  · rw [hb] at e; cases e; exact hR.kind
/-- all journals, the innermost one last -/
structure JnA (w : World) (V D : Nat → Prop) (g : Nat) (jv : Value) (T : List Jr) (oj : Option Nat) : Prop where
  row : (oj = none ∧ jv = .slice none 0 0 ∧ T = []) ∨ ∃ b c, oj = some b ∧ jv = .slice (some ⟨b, 0, none⟩) T.length c ∧ Rw w 249 1 b T.length c (T.map Jr.v)
  each : ∀ j ∈ T, JrA w V D g j
  apart : (T.filterMap Jr.o).Nodup
theorem JnA.stay {w w' : World} {V D : Nat → Prop} {g : Nat} {jv : Value} {T : List Jr} {oj : Option Nat} (h : JnA w V D g jv T oj) (hs : Stay V D w w') (ho : ∀ b, oj = some b → w'.heap[b]? = w.heap[b]?) (hb : ∀ j ∈ T, ∀ b, j.o = some b → w'.heap[b]? = w.heap[b]?) : JnA w' V D g jv T oj :=
  ⟨h.row.imp id (by rintro ⟨b, c, e1, e2, hR⟩; exact ⟨b, c, e1, e2, hR.same (ho b e1)⟩), fun j hj => (h.each j hj).stay hs (hb j hj), h.apart⟩
theorem JnA.mono {w : World} {V V' D D' : Nat → Prop} {g : Nat} {jv : Value} {T : List Jr} {oj : Option Nat} (h : JnA w V D g jv T oj) (hV : ∀ b, V b → V' b) (hD : ∀ b, b < w.heap.size → D b → D' b) : JnA w V' D' g jv T oj :=
  ⟨h.row, fun j hj => (h.each j hj).mono hV hD, h.apart⟩
theorem JnA.kind {w : World} {V D : Nat → Prop} {g : Nat} {jv : Value} {T : List Jr} {oj : Option Nat} (h : JnA w V D g jv T oj) {b : Nat} (hb : oj = some b) : ∃ cs, Blk w b cs 249 := by
  rcases h.row with ⟨e, _⟩ | ⟨b', c, e, _, hR⟩
  · rw [hb] at e; cases e
  · rw [hb] at e; cases e; exact hR.kind
def tot (T : List Jr) : Nat := (T.map fun j => j.U.length).sum
/-- which blocks are whose -/
structure Own (w : World) (K F V : Nat → Prop) (g : Nat) (T : List Jr) (oj : Option Nat) : Prop where
  top : K g
  map : ∀ b, F b → K b
  var : ∀ b, V b → K b
  jrn : ∀ b, oj = some b → K b
  bck : ∀ j ∈ T, ∀ b, j.o = some b → K b
  kind : ∀ b, K b → ∃ cs t, Blk w b cs t ∧ t ≠ 5
  ntop : ¬ F g
  nvar : ∀ b, V b → ¬ F b
  njrn : ∀ b, oj = some b → ¬ F b
  nbck : ∀ j ∈ T, ∀ b, j.o = some b → ¬ F b
  vk : ∀ b, V b → ∃ cs t, Blk w b cs t ∧ (t = 40 ∨ t = 42)
/-- the store at g -/
structure SA (w : World) (K D : Nat → Prop) (g : Nat) (E : Ents) (W : List Ents) (n N : Nat) : Prop where
  ex : ∃ F V m Q jv T oj, Blk w g [.pointer (some ⟨m, 0, none⟩), jv, .int .i64 n] 92 ∧ Mp w F D m Q N ∧ Q.flatten = E ∧ JnA w V D g jv T oj ∧ Back (T.reverse.map Jr.U) W E ∧ tot T + E.length ≤ N ∧ T.length ≤ 0 ∧ Own w K F V g T oj
theorem SA.lt {w : World} {K D : Nat → Prop} {g n N : Nat} {E : Ents} {W : List Ents} (h : SA w K D g E W n N) {b : Nat} (hb : K b) : b < w.heap.size := by
  obtain ⟨F, V, m, Q, jv, T, oj, _, _, _, _, _, _, _, O⟩ := h.ex
  obtain ⟨cs, t, h, _⟩ := O.kind b hb
  exact h.lt
theorem SA.top {w : World} {K D : Nat → Prop} {g n N : Nat} {E : Ents} {W : List Ents} (h : SA w K D g E W n N) : K g := by
  obtain ⟨F, V, m, Q, jv, T, oj, _, _, _, _, _, _, _, O⟩ := h.ex
  exact O.top
theorem Own.same {w w' : World} {K F V : Nat → Prop} {g : Nat} {T : List Jr} {oj : Option Nat} (O : Own w K F V g T oj) (h1 : ∀ b, K b → w'.heap[b]? = w.heap[b]?) : Own w' K F V g T oj :=
  ⟨O.top, O.map, O.var, O.jrn, O.bck, fun b hb => by
    obtain ⟨cs, t, hk, ht⟩ := O.kind b hb
    exact ⟨cs, t, hk.same (h1 b hb), ht⟩, O.ntop, O.nvar, O.njrn, O.nbck, fun b hv => by
    obtain ⟨cs, t, hk, ht⟩ := O.vk b hv
    exact ⟨cs, t, hk.same (h1 b (O.var b hv)), ht⟩⟩
/-- what leaves its own blocks and its bytes leaves the store -/
theorem SA.same {w w' : World} {K D : Nat → Prop} {g n N : Nat} {E : Ents} {W : List Ents} (h : SA w K D g E W n N) (h1 : ∀ b, K b → w'.heap[b]? = w.heap[b]?) (h2 : ∀ b, b < w.heap.size → D b → (∃ cs, Blk w b cs 5) → w'.heap[b]? = w.heap[b]?) : SA w' K D g E W n N := by
  obtain ⟨F, V, m, Q, jv, T, oj, hb, hm, he, hj, hk, ht, hl, O⟩ := h.ex
  have hs : Stay V D w w' := ⟨fun b _ _ hv _ _ => h1 b (O.var b hv), h2⟩
  exact ⟨F, V, m, Q, jv, T, oj, hb.same (h1 g O.top), hm.same (fun b hF => h1 b (O.map b hF)) h2, he, hj.stay hs (fun b e => h1 b (O.jrn b e)) (fun j hjm b e => h1 b (O.bck j hjm b e)), hk, ht, hl, O.same h1⟩
theorem SA.keep {w w' : World} {K D : Nat → Prop} {g n N : Nat} {E : Ents} {W : List Ents} (h : SA w K D g E W n N) (hb : Below w.heap.size w w') : SA w' K D g E W n N := h.same (fun b hK => hb.block b (h.lt hK)) (fun b hl _ _ => hb.block b hl)
theorem SA.chg {w w' : World} {K D K' : Nat → Prop} {g n N : Nat} {E : Ents} {W : List Ents} (h : SA w K D g E W n N) (hc : Chg K' w w') (h1 : ∀ b, K' b → ¬ K b) (h2 : ∀ b, K' b → ∀ cs, ¬ Blk w b cs 5) : SA w' K D g E W n N :=
  h.same (fun b hK => hc.same b (h.lt hK) fun f => h1 b f hK) (fun b hl _ hk => hc.same b hl fun f => by obtain ⟨cs, k⟩ := hk; exact h2 b f cs k)
theorem SA.mono {w : World} {K D D' : Nat → Prop} {g n N : Nat} {E : Ents} {W : List Ents} (h : SA w K D g E W n N) (hD : ∀ b, b < w.heap.size → D b → D' b) : SA w K D' g E W n N := by
  obtain ⟨F, V, m, Q, jv, T, oj, hb, hm, he, hj, hk, ht, hl, O⟩ := h.ex
  exact ⟨F, V, m, Q, jv, T, oj, hb, hm.mono hD, he, hj.mono (fun _ h => h) hD, hk, ht, hl, O⟩
theorem SA.more {w : World} {K D : Nat → Prop} {g n N N' : Nat} {E : Ents} {W : List Ents} (h : SA w K D g E W n N) (hN : N ≤ N') : SA w K D g E W n N' := by
  obtain ⟨F, V, m, Q, jv, T, oj, hb, hm, he, hj, hk, ht, hl, O⟩ := h.ex
  exact ⟨F, V, m, Q, jv, T, oj, hb, hm.more hN, he, hj, hk, Nat.le_trans ht hN, hl, O⟩
theorem SA.size {w : World} {K D : Nat → Prop} {g n N : Nat} {E : Ents} {W : List Ents} (h : SA w K D g E W n N) : E.length ≤ N := by
  obtain ⟨F, V, m, Q, jv, T, oj, hb, hm, rfl, _⟩ := h.ex
  exact hm.len
theorem SA.small {w : World} {K D : Nat → Prop} {g n N : Nat} {E : Ents} {W : List Ents} (h : SA w K D g E W n N) : ∀ x ∈ E, x.1.length ≤ 1000000000 ∧ x.2.length ≤ 1000000000 := by
  obtain ⟨F, V, m, Q, jv, T, oj, hb, hm, rfl, _⟩ := h.ex
  exact hm.small
end Kv
end Go.Proofs.YtgdohcdlkonhiaaGreatDoor

namespace Go.Proofs.YtgdohcdlkonhiaaGreatDoor
namespace Kv
open Go.RowKit Go.Lib Pg
attribute [local go_sem] Oper.semAt_some
/-- the store's parts -/
structure SX (w : World) (K D F V : Nat → Prop) (g m : Nat) (Q : List (List KV)) (jv : Value) (T : List Jr) (oj : Option Nat) (n N : Nat) : Prop where
  blk : Blk w g [.pointer (some ⟨m, 0, none⟩), jv, .int .i64 n] 92
  map : Mp w F D m Q N
  jn : JnA w V D g jv T oj
  tot : tot T + Q.flatten.length ≤ N
  len : T.length ≤ 0
  own : Own w K F V g T oj
theorem SA.open {w : World} {K D : Nat → Prop} {g n N : Nat} {E : Ents} {W : List Ents} (h : SA w K D g E W n N) : ∃ F V m Q jv T oj, SX w K D F V g m Q jv T oj n N ∧ Q.flatten = E ∧ Back (T.reverse.map Jr.U) W E := by
  obtain ⟨F, V, m, Q, jv, T, oj, hb, hm, he, hj, hk, ht, hl, O⟩ := h.ex
  exact ⟨F, V, m, Q, jv, T, oj, ⟨hb, hm, hj, by rw [he]; exact ht, hl, O⟩, he, hk⟩
theorem SX.shut {w : World} {K D F V : Nat → Prop} {g m : Nat} {Q : List (List KV)} {jv : Value} {T : List Jr} {oj : Option Nat} {n N : Nat} {E : Ents} {W : List Ents} (h : SX w K D F V g m Q jv T oj n N) (he : Q.flatten = E) (hk : Back (T.reverse.map Jr.U) W E) : SA w K D g E W n N :=
  ⟨F, V, m, Q, jv, T, oj, h.blk, h.map, he, h.jn, hk, by have := h.tot; rw [he] at this; exact this, h.len, h.own⟩
theorem stay_of {w w' : World} {V D : Nat → Prop} {x : Nat} {cs : List Value} {t : TypeId} (hx : Blk w x cs t) (h1 : t ≠ 40) (h2 : t ≠ 42) (h3 : t ≠ 5) (hc : Chg (· = x) w w') : Stay V D w w' :=
  ⟨fun b cs' t' _ hb ht => hc.same b hb.lt (fun e => by
    have e' : b = x := e
    subst e'
    have := (hx.eq hb).2
    subst this
    exact ht.elim h1 h2), fun b hl _ hk => hc.same b hl (fun e => by
    have e' : b = x := e
    subst e'
    obtain ⟨cs', k⟩ := hk
    exact h3 (hx.eq k).2)⟩
theorem Own.chg1 {w w' : World} {K D F V : Nat → Prop} {g x : Nat} {T : List Jr} {oj : Option Nat} (O : Own w K F V g T oj) (hs : Stay V D w w') (hc : Chg (· = x) w w') {cs : List Value} {t : TypeId} (hx : Blk w' x cs t) (ht : t ≠ 5) : Own w' K F V g T oj :=
  ⟨O.top, O.map, O.var, O.jrn, O.bck, fun b hb => by
    by_cases e : b = x
    · subst e; exact ⟨cs, t, hx, ht⟩
    · obtain ⟨cs', t', hk, ht'⟩ := O.kind b hb
      exact ⟨cs', t', hk.chg hc e, ht'⟩, O.ntop, O.nvar, O.njrn, O.nbck, fun b hv => by
    obtain ⟨cs, t, hk, ht⟩ := O.vk b hv
    exact ⟨cs, t, hk.same (hs.var b cs t hv hk ht), ht⟩⟩
/-- the store's own block is turned -/
theorem SX.top {w w' : World} {K D F V : Nat → Prop} {g m : Nat} {Q : List (List KV)} {jv : Value} {T : List Jr} {oj : Option Nat} {n n' N : Nat} (h : SX w K D F V g m Q jv T oj n N) (hc : Chg (· = g) w w') (hb : Blk w' g [.pointer (some ⟨m, 0, none⟩), jv, .int .i64 n'] 92) : SX w' K D F V g m Q jv T oj n' N :=
  ⟨hb, h.map.chg hc (fun b e hF => h.own.ntop (by have e' : b = g := e; exact e' ▸ hF)) (fun b e cs k => by
      have e' : b = g := e
      subst e'
      exact absurd (h.blk.eq k).2 (by decide)), h.jn.stay (stay_of h.blk (by decide) (by decide) (by decide) hc)
      (fun b e => by
        obtain ⟨cs, k⟩ := h.jn.kind e
        exact hc.same b k.lt (fun e' => by
          have e'' : b = g := e'
          subst e''
          exact absurd (h.blk.eq k).2 (by decide)))
      (fun j hj b e => by
        obtain ⟨cs, k⟩ := (h.jn.each j hj).kind e
        exact hc.same b k.lt (fun e' => by
          have e'' : b = g := e'
          subst e''
          exact absurd (h.blk.eq k).2 (by decide))), h.tot, h.len, h.own.chg1 (stay_of (D := D) h.blk (by decide) (by decide) (by decide) hc) hc hb (by decide)⟩
theorem SX.keep {w w' : World} {K D F V : Nat → Prop} {g m : Nat} {Q : List (List KV)} {jv : Value} {T : List Jr} {oj : Option Nat} {n N : Nat} (h : SX w K D F V g m Q jv T oj n N) (hb : Below w.heap.size w w') : SX w' K D F V g m Q jv T oj n N := by
  have h1 : ∀ b, K b → w'.heap[b]? = w.heap[b]? := fun b hK => by
    obtain ⟨cs, t, k, _⟩ := h.own.kind b hK
    exact hb.block b k.lt
  exact ⟨h.blk.keep hb, h.map.keep hb, h.jn.stay ⟨fun b _ _ _ k _ => hb.block b k.lt, fun b hl _ _ => hb.block b hl⟩ (fun b e => h1 b (h.own.jrn b e)) (fun j hj b e => h1 b (h.own.bck j hj b e)), h.tot, h.len, h.own.same h1⟩
theorem run_addOne {w : World} {a : Addr} {x : Int} (hc : w.cell? a = some (.int .i64 x)) (hz : w.frozen? a = false) (h0 : 0 ≤ x) (h1 : x ≤ 4000000000000000000) :
    (callFunc 158 #[.pointer (some a), .int .i64 1]).run Tryz.prog w = .ok (.value (.int .i64 (x + 1))) (w.setCell a (.int .i64 (x + 1))) :=
  run_call_add Tryz.func158 (by kernel_rfl) (by kernel_rfl) (by kernel_rfl) .i64 (by kernel_rfl) hc hz (by
    have e : IntKind.i64.wrap (x + 1) = x + 1 := by rw [IntKind.wrap_i64]; omega
    simp [Op.intArith, e])
set_option maxHeartbeats 1000000 in
set_option maxRecDepth 100000 in
theorem atomAdd {w : World} {g : Nat} {x : Int} (hc : w.cell? ⟨g, 2, none⟩ = some (.int .i64 x)) (hz : w.frozen? ⟨g, 2, none⟩ = false) (h0 : 0 ≤ x) (h1 : x ≤ 4000000000000000000) :
    Calls Tryz.prog 96 #[.pointer (some ⟨g, 2, none⟩), .int .i64 1] w fun e w' => e = .returned (.int .i64 (x + 1)) ∧ w' = w.setCell ⟨g, 2, none⟩ (.int .i64 (x + 1)) := by
  have hr := run_addOne hc hz h0 h1
  go_enter Tryz.func96, Tryz.ntmps96
  go_wp2_with (simp only [hr])
  go_ret
  exact ⟨rfl, rfl⟩
set_option maxHeartbeats 1000000 in
set_option maxRecDepth 100000 in
theorem count_raw {w : World} {g : Nat} {x : Int} (hc : w.cell? ⟨g, 2, none⟩ = some (.int .i64 x)) (hz : w.frozen? ⟨g, 2, none⟩ = false) (h0 : 0 ≤ x) (h1 : x ≤ 4000000000000000000) :
    Calls Tryz.prog 48 #[.pointer (some ⟨g, 0, none⟩)] w fun e w' => e = .returned (.tuple #[]) ∧ w' = w.setCell ⟨g, 2, none⟩ (.int .i64 (x + 1)) := by
  have u := atomAdd hc hz h0 h1
  clear hc hz
  go_enter Tryz.func48, Tryz.ntmps48
  go_wp2_with (go_at_call 96; refine u.mono ?_; rintro e w1 ⟨rfl, rfl⟩)
  go_end0
  exact ⟨rfl, rfl⟩
theorem xcount {w : World} {K D F V : Nat → Prop} {g m : Nat} {Q : List (List KV)} {jv : Value} {T : List Jr} {oj : Option Nat} {n N : Nat} (h : SX w K D F V g m Q jv T oj n N) (hn : n ≤ 4000000000000000000) :
    Calls Tryz.prog 48 #[.pointer (some ⟨g, 0, none⟩)] w fun e w' => e = .returned (.tuple #[]) ∧ SX w' K D F V g m Q jv T oj (n + 1) N ∧ Chg (· = g) w w' := by
  refine (count_raw (h.blk.cell (i := 2) rfl) (h.blk.free 2) (by omega) (by omega)).mono ?_
  rintro e w' ⟨rfl, rfl⟩
  have hc : Chg (· = g) w (w.setCell ⟨g, 2, none⟩ (.int .i64 ((n : Int) + 1))) := (Chg.refl (· = g) w).cell (.inl rfl) _
  refine ⟨rfl, h.top hc ?_, hc⟩
  have := h.blk.setCell (i := 2) (.int .i64 ((n : Int) + 1))
  exact this
set_option maxHeartbeats 1000000 in
set_option maxRecDepth 100000 in
theorem depth_raw {w : World} {g n c : Nat} {ao : Option Addr} {mv nv : Value} (h : Blk w g [mv, .slice ao n c, nv] 92) :
    Calls Tryz.prog 97 #[.pointer (some ⟨g, 0, none⟩)] w fun e w' => e = .returned (.int .i64 n) ∧ w' = w := by
  have c1 := h.cell (i := 1) rfl
  clear h
  go_enter Tryz.func97, Tryz.ntmps97
  go_wp2
  go_ret
  exact ⟨rfl, rfl⟩
theorem JnA.shape {w : World} {V D : Nat → Prop} {g : Nat} {jv : Value} {T : List Jr} {oj : Option Nat} (h : JnA w V D g jv T oj) : ∃ ao c, jv = .slice ao T.length c := by
  rcases h.row with ⟨_, e, rfl⟩ | ⟨b, c, _, e, _⟩
  · exact ⟨none, 0, e⟩
  · exact ⟨_, c, e⟩
theorem xdepth {w : World} {K D F V : Nat → Prop} {g m : Nat} {Q : List (List KV)} {jv : Value} {T : List Jr} {oj : Option Nat} {n N : Nat} (h : SX w K D F V g m Q jv T oj n N) :
    Calls Tryz.prog 97 #[.pointer (some ⟨g, 0, none⟩)] w fun e w' => e = .returned (.int .i64 T.length) ∧ w' = w := by
  obtain ⟨ao, c, e⟩ := h.jn.shape
  have hb := h.blk
  rw [e] at hb
  exact depth_raw hb
set_option maxHeartbeats 1000000 in
set_option maxRecDepth 100000 in
theorem snew {w : World} : Calls Tryz.prog 13 #[] w fun e w' => ∃ g K, e = .returned (.pointer (some ⟨g, 0, none⟩)) ∧ SA w' K (fun _ => False) g [] [] 0 0 ∧ (∀ b, K b → w.heap.size ≤ b) ∧ Below w.heap.size w w' := by
  have u := mnew (w := w)
  go_enter Tryz.func13, Tryz.ntmps13
  go_wp2_with (go_at_call 41; refine u.mono ?_; rintro e w1 ⟨rfl, M, B⟩)
  go_ret
  have hlt := M.lt (b := w.heap.size) rfl
  have al := below_alloc w1 (.cells #[.pointer (some ⟨w.heap.size, 0, none⟩), .slice none 0 0, .int .i64 0] 92)
  have bl := blk_new w1 [.pointer (some ⟨w.heap.size, 0, none⟩), .slice none 0 0, .int .i64 0] 92
  have M2 := M.keep al
  refine ⟨w1.heap.size, fun b => b = w.heap.size ∨ b = w1.heap.size, rfl, ⟨_, fun _ => False, _, _, _, [], none, bl, M2, rfl, ⟨.inl ⟨rfl, rfl, rfl⟩, fun _ h => by simp at h, List.nodup_nil⟩, trivial, by decide, by decide, ?_⟩, fun b hb => by have := B.size; omega, joinB B al⟩
  refine ⟨.inr rfl, fun b hb => .inl hb, fun _ h => h.elim, (fun _ h => by cases h), (fun _ h => by simp at h), fun b hb => ?_, (fun h => by have h' : w1.heap.size = w.heap.size := h; omega), fun _ h => h.elim, (fun _ h => by cases h), (fun _ h => by simp at h), fun _ h => h.elim⟩
  rcases hb with rfl | rfl
  · obtain ⟨L, _, A, _⟩ := M2.ex
    exact A.kind _ rfl
  · exact ⟨_, _, bl, by decide⟩
theorem xget_key {w : World} {K D F V : Nat → Prop} {g m : Nat} {Q : List (List KV)} {jv : Value} {T : List Jr} {oj : Option Nat} {n N : Nat} {kv : Value} {k : List Int} (h : SX w K D F V g m Q jv T oj n N) (hk : By w kv k) (hN : N ≤ 100000000) :
    Calls Tryz.prog 150 #[.pointer (some ⟨m, 0, none⟩), kv] w fun e w' => ∃ v, e = .returned (.tuple #[v, .bool (look Q.flatten k).isSome]) ∧ OB w' (w.heap.size ≤ ·) v ((look Q.flatten k).getD []) ∧ Below w.heap.size w w' := by
  have u := mget h.map hk hN
  rw [look_got h.map.ord, look_has h.map.ord] at u
  exact u
set_option maxHeartbeats 1000000 in
set_option maxRecDepth 100000 in
theorem xholds {w : World} {K D F V : Nat → Prop} {g m : Nat} {Q : List (List KV)} {jv : Value} {T : List Jr} {oj : Option Nat} {n N : Nat} {kv : Value} {k : List Int} (h : SX w K D F V g m Q jv T oj n N) (hk : By w kv k) (hN : N ≤ 100000000) :
    Calls Tryz.prog 170 #[.pointer (some ⟨g, 0, none⟩), kv] w fun e w' => e = .returned (.bool (look Q.flatten k).isSome) ∧ Below w.heap.size w w' := by
  have c0 := h.blk.cell (i := 0) rfl
  have u := xget_key h hk hN
  obtain ⟨ao, c, rfl, -⟩ := id hk.ex
  generalize (look Q.flatten k).isSome = r at *
  generalize (look Q.flatten k).getD [] = L at *
  clear h hk
  go_enter Tryz.func170, Tryz.ntmps170
  go_wp2_with (go_at_call 150; refine u.mono ?_; rintro e w1 ⟨v, rfl, O, B⟩; obtain ⟨a1, c1, rfl, -⟩ := id O.by.ex)
  go_ret
  exact ⟨rfl, B⟩
end Kv
end Go.Proofs.YtgdohcdlkonhiaaGreatDoor

namespace Go.Proofs.YtgdohcdlkonhiaaGreatDoor
namespace Kv
open Go.RowKit Go.Lib Pg
attribute [local go_sem] Oper.semAt_some
theorem hid3 {p : Prop} (h : p) : Hid p := h
/-- its map is turned -/
theorem SX.mapped {w w' : World} {K D D' F F' V : Nat → Prop} {g m : Nat} {Q Q' : List (List KV)} {jv : Value} {T : List Jr} {oj : Option Nat} {n N N' : Nat} (h : SX w K D F V g m Q jv T oj n N) (hN : Kv.tot T + Q'.flatten.length ≤ N') (hM : Mp w' F' D' m Q' N') (hF : ∀ b, F' b → F b ∨ w.heap.size ≤ b) (hD : ∀ b, D b → D' b) (hc : Chg F w w') :
    SX w' (fun b => (K b ∧ ¬ F b) ∨ F' b) D' F' V g m Q' jv T oj n N' := by
  have hK : ∀ b, K b → b < w.heap.size := fun b hb => by obtain ⟨cs, t, k, _⟩ := h.own.kind b hb; exact k.lt
  have no : ∀ b, K b → ¬ F b → ¬ F' b := fun b hb hn hf => by
    rcases hF b hf with h1 | h1
    · exact hn h1
    · have := hK b hb; omega
  have hs : Stay V D w w' := ⟨fun b _ _ hv k _ => hc.same b k.lt (h.own.nvar b hv), fun b hl _ k => hc.same b hl (fun f => by obtain ⟨cs, k⟩ := k; exact h.map.noU f cs k)⟩
  have hj : JnA w' V D g jv T oj := h.jn.stay hs (fun b e => hc.same b (hK b (h.own.jrn b e)) (h.own.njrn b e)) (fun j hj b e => hc.same b (hK b (h.own.bck j hj b e)) (h.own.nbck j hj b e))
  refine ⟨h.blk.chg hc h.own.ntop, hM, hj.mono (fun _ h => h) (fun b _ => hD b), hN, h.len, .inl ⟨h.own.top, h.own.ntop⟩, fun b => .inr, fun b hb => .inl ⟨h.own.var b hb, h.own.nvar b hb⟩, fun b hb => .inl ⟨h.own.jrn b hb, h.own.njrn b hb⟩, fun j hj b hb => .inl ⟨h.own.bck j hj b hb, h.own.nbck j hj b hb⟩, fun b hb => ?_, no g h.own.top h.own.ntop, fun b hb => no b (h.own.var b hb) (h.own.nvar b hb), fun b hb => no b (h.own.jrn b hb) (h.own.njrn b hb), fun j hj b hb => no b (h.own.bck j hj b hb) (h.own.nbck j hj b hb), fun b hv => by
    obtain ⟨cs, t, k, ht⟩ := h.own.vk b hv
    exact ⟨cs, t, k.same (hs.var b cs t hv k ht), ht⟩⟩
  have hMk : ∀ b, F' b → ∃ cs t, Blk w' b cs t ∧ t ≠ 5 := fun b hf => by
    obtain ⟨L, _, A, _⟩ := hM.ex
    exact A.kind b hf
  rcases hb with ⟨hb, hf⟩ | hb
  · obtain ⟨cs, t, k, ht⟩ := h.own.kind b hb
    exact ⟨cs, t, k.chg hc hf, ht⟩
  · exact hMk b hb
theorem ld_mp {w : World} {g o : Nat} {v : Value} (c : w.cell? ⟨g, o, none⟩ = some v) : (loadVar 83 ⟨g, o, none⟩).run Tryz.prog w = .ok v w := by go_simp
end Kv
end Go.Proofs.YtgdohcdlkonhiaaGreatDoor

namespace Go.Proofs.YtgdohcdlkonhiaaGreatDoor
namespace Kv
open Go.RowKit Go.Lib Pg
attribute [local go_sem] Oper.semAt_some
end Kv
end Go.Proofs.YtgdohcdlkonhiaaGreatDoor

namespace Go.Proofs.YtgdohcdlkonhiaaGreatDoor
namespace Kv
open Go.RowKit Go.Lib Pg

section
variable {w : World} {b n c i : Nat} {xs : List Value}
end
end Kv
end Go.Proofs.YtgdohcdlkonhiaaGreatDoor

namespace Go.Proofs.YtgdohcdlkonhiaaGreatDoor
namespace Kv
open Go.RowKit Go.Lib Pg
attribute [local go_sem] Oper.semAt_some
end Kv
end Go.Proofs.YtgdohcdlkonhiaaGreatDoor

namespace Go.Proofs.YtgdohcdlkonhiaaGreatDoor
namespace Kv
open Go.RowKit Go.Lib Pg
attribute [local go_sem] Oper.semAt_some
end Kv
end Go.Proofs.YtgdohcdlkonhiaaGreatDoor

namespace Go.Proofs.YtgdohcdlkonhiaaGreatDoor
namespace Kv
open Go.RowKit Go.Lib Pg
attribute [local go_sem] Oper.semAt_some
set_option maxHeartbeats 2000000 in
set_option maxRecDepth 100000 in
theorem xremember0 {w : World} {K D F V : Nat → Prop} {g m : Nat} {Q : List (List KV)} {jv : Value} {oj : Option Nat} {n N : Nat} {kv : Value} (h : SX w K D F V g m Q jv [] oj n N) :
    Calls Tryz.prog 49 #[.pointer (some ⟨g, 0, none⟩), kv] w fun e w' => e = .returned (.tuple #[]) ∧ w' = w := by
  have ud := xdepth h
  clear h
  go_enter Tryz.func49, Tryz.ntmps49
  go_wp2_with (go_at_call 97; go_must (refine ud.mono ?_); rintro e y ⟨rfl, hy⟩; replace hy := hy.symm; subst hy)
  go_end0
  exact ⟨rfl, rfl⟩
/-- bytes that a change of K's blocks leaves -/
def BK (w : World) (K : Nat → Prop) (kv : Value) (k : List Int) : Prop := ∀ w', Chg K w w' → By w' kv k
theorem BK.by {w : World} {K : Nat → Prop} {kv : Value} {k : List Int} (h : BK w K kv k) : By w kv k := h w (Chg.refl _ _)
theorem BK.shape {w : World} {K : Nat → Prop} {kv : Value} {k : List Int} (h : BK w K kv k) : ∃ ao c, kv = .slice ao k.length c := by
  obtain ⟨ao, c, e, _⟩ := h.by.ex
  exact ⟨ao, c, e⟩
theorem chgJoin {K : Nat → Prop} {w w1 w2 : World} (h : Chg K w w1) (h' : Chg K w1 w2) : Chg K w w2 := h.trans h' (fun _ _ h => h)
end Kv
end Go.Proofs.YtgdohcdlkonhiaaGreatDoor

namespace Go.Proofs.YtgdohcdlkonhiaaGreatDoor
namespace Kv
open Go.RowKit Go.Lib Pg
attribute [local go_sem] Oper.semAt_some
theorem back_nil {W : List Ents} {E E' : Ents} (h : Back [] W E) : Back [] W E' := by
  cases W with
  | nil => trivial
  | cons e W => exact h.elim
/-- what Set says -/
def setE (k v : List Int) : Int := if k.length = 0 ∨ 64 < k.length then 60 else if 4096 < v.length then 61 else 0
/-- what an operation leaves -/
def Ends (w : World) (K D : Nat → Prop) (g : Nat) (E : Ents) (W : List Ents) (n N : Nat) (r : Value) (e : Ending) (w' : World) : Prop := e = .returned r ∧ ∃ K', SA w' K' (fun b => D b ∨ w.heap.size ≤ b) g E W n N ∧ (∀ b, K' b → K b ∨ w.heap.size ≤ b) ∧ Chg K w w'
theorem SX.kg {w : World} {K D F V : Nat → Prop} {g m : Nat} {Q : List (List KV)} {jv : Value} {T : List Jr} {oj : Option Nat} {n N : Nat} (h : SX w K D F V g m Q jv T oj n N) {w' : World} (hc : Chg (· = g) w w') : Chg K w w' := hc.mono (fun b _ e => by have e' : b = g := e; subst e'; exact h.own.top)
set_option maxHeartbeats 2000000 in
set_option maxRecDepth 100000 in
theorem sset_e60a {w : World} {K D : Nat → Prop} {g n N : Nat} {E : Ents} {W : List Ents} {kv vv : Value} {k v : List Int} (h : SA w K D g E W n N) (hk : BK w K kv k) (hv : BK w K vv v) (hn : n ≤ 4000000000000000000) (h0 : k.length = 0) :
    Calls Tryz.prog 15 #[.pointer (some ⟨g, 0, none⟩), kv, vv] w (Ends w K D g E W (n + 1) (N + 2) (.int .i64 60)) := by
  obtain ⟨F, V, m, Q, jv, T, oj, hX, hE, hB⟩ := h.open
  obtain ⟨ao, c, rfl⟩ := hk.shape
  obtain ⟨bo, d, rfl⟩ := hv.shape
  have u := xcount hX hn
  have HX := hid3 hX
  have HE := hid3 hE
  have HB := hid3 hB
  generalize k.length = kn at *
  generalize v.length = vn at *
  have g0 : (kn : Int) = 0 := by omega
  clear hX hE hB h hk hv
  go_enter Tryz.func15, Tryz.ntmps15
  go_wp2_with (go_at_call 48; go_must (refine u.mono ?_); rintro e w1 ⟨rfl, X1, C1⟩)
  go_ret
  exact ⟨rfl, K, (X1.shut HE.out HB.out).more (by omega) |>.mono (fun _ _ h => .inl h), fun b h => .inl h, HX.out.kg C1⟩
set_option maxHeartbeats 2000000 in
set_option maxRecDepth 100000 in
theorem sset_e60b {w : World} {K D : Nat → Prop} {g n N : Nat} {E : Ents} {W : List Ents} {kv vv : Value} {k v : List Int} (h : SA w K D g E W n N) (hk : BK w K kv k) (hv : BK w K vv v) (hn : n ≤ 4000000000000000000) (h0 : ¬ k.length = 0) (h1 : 64 < k.length) :
    Calls Tryz.prog 15 #[.pointer (some ⟨g, 0, none⟩), kv, vv] w (Ends w K D g E W (n + 1) (N + 2) (.int .i64 60)) := by
  obtain ⟨F, V, m, Q, jv, T, oj, hX, hE, hB⟩ := h.open
  obtain ⟨ao, c, rfl⟩ := hk.shape
  obtain ⟨bo, d, rfl⟩ := hv.shape
  have u := xcount hX hn
  have HX := hid3 hX
  have HE := hid3 hE
  have HB := hid3 hB
  generalize k.length = kn at *
  generalize v.length = vn at *
  have g0 : ((kn : Int) = 0) = False := eq_false (by omega)
  have g1 : (64 : Int) < kn := by omega
  clear hX hE hB h hk hv
  go_enter Tryz.func15, Tryz.ntmps15
  go_wp2_with (go_at_call 48; go_must (refine u.mono ?_); rintro e w1 ⟨rfl, X1, C1⟩)
  go_ret
  exact ⟨rfl, K, (X1.shut HE.out HB.out).more (by omega) |>.mono (fun _ _ h => .inl h), fun b h => .inl h, HX.out.kg C1⟩
set_option maxHeartbeats 2000000 in
set_option maxRecDepth 100000 in
theorem sset_e61 {w : World} {K D : Nat → Prop} {g n N : Nat} {E : Ents} {W : List Ents} {kv vv : Value} {k v : List Int} (h : SA w K D g E W n N) (hk : BK w K kv k) (hv : BK w K vv v) (hn : n ≤ 4000000000000000000) (h0 : ¬ k.length = 0) (h1 : ¬ 64 < k.length) (h2 : 4096 < v.length) :
    Calls Tryz.prog 15 #[.pointer (some ⟨g, 0, none⟩), kv, vv] w (Ends w K D g E W (n + 1) (N + 2) (.int .i64 61)) := by
  obtain ⟨F, V, m, Q, jv, T, oj, hX, hE, hB⟩ := h.open
  obtain ⟨ao, c, rfl⟩ := hk.shape
  obtain ⟨bo, d, rfl⟩ := hv.shape
  have u := xcount hX hn
  have HX := hid3 hX
  have HE := hid3 hE
  have HB := hid3 hB
  generalize k.length = kn at *
  generalize v.length = vn at *
  have g0 : ((kn : Int) = 0) = False := eq_false (by omega)
  have g1 : ((64 : Int) < kn) = False := eq_false (by omega)
  have g2 : (4096 : Int) < vn := by omega
  clear hX hE hB h hk hv
  go_enter Tryz.func15, Tryz.ntmps15
  go_wp2_with (go_at_call 48; go_must (refine u.mono ?_); rintro e w1 ⟨rfl, X1, C1⟩)
  go_ret
  exact ⟨rfl, K, (X1.shut HE.out HB.out).more (by omega) |>.mono (fun _ _ h => .inl h), fun b h => .inl h, HX.out.kg C1⟩
set_option maxHeartbeats 4000000 in
set_option maxRecDepth 100000 in
theorem sset_nil {w : World} {K D F V : Nat → Prop} {g m n N : Nat} {Q : List (List KV)} {jv : Value} {oj : Option Nat} {W : List Ents} {kv vv : Value} {k v : List Int} (hX : SX w K D F V g m Q jv [] oj n N) (hB : Back ([].reverse.map Jr.U) W Q.flatten) (hk : BK w K kv k) (hv : BK w K vv v) (hn : n ≤ 4000000000000000000) (hN : N + 2 ≤ 100000000) (h0 : ¬ k.length = 0) (h1 : ¬ 64 < k.length) (h2 : ¬ 4096 < v.length) :
    Calls Tryz.prog 15 #[.pointer (some ⟨g, 0, none⟩), kv, vv] w (Ends w K D g (put Q.flatten k v) W (n + 1) (N + 2) (.int .i64 0)) := by
  obtain ⟨ao, c, rfl⟩ := hk.shape
  obtain ⟨bo, d, rfl⟩ := hv.shape
  have u := xcount hX hn
  have HX := hid3 hX
  have HB := hid3 hB
  have HK := hid3 hk
  have HV := hid3 hv
  have hkl := hid3 (show k.length ≤ 64 by omega)
  have hvl := hid3 (show v.length ≤ 4096 by omega)
  replace hN : N ≤ 99999998 := by omega
  have hN' := hN
  replace hN : N ≤ 100000000 := by omega
  have g0 : ((k.length : Int) = 0) = False := eq_false (by omega)
  have g1 : ((64 : Int) < k.length) = False := eq_false (by omega)
  have g2 : ¬ ((4096 : Int) < v.length) := by omega
  clear hX hB hk hv
  obtain ⟨kn, hkn⟩ : ∃ kn, Hid (k.length = kn) := ⟨_, rfl⟩
  obtain ⟨vn, hvn⟩ : ∃ vn, Hid (v.length = vn) := ⟨_, rfl⟩
  rw [hkn.out] at g0 g1 HK h0 h1 ⊢
  rw [hvn.out] at g2 HV h2 ⊢
  go_enter Tryz.func15, Tryz.ntmps15
  go_wp2_with first
    | (go_at_call 48; go_must (refine u.mono ?_); rintro e w1 ⟨rfl, X1, C1⟩)
    | (go_at_call 49; go_must (refine (xremember0 X1).mono ?_); rintro e y ⟨rfl, hy⟩; replace hy := hy.symm; subst hy; have c0 := X1.blk.cell (i := 0) rfl; have us := mset X1.map (HK.out _ (HX.out.kg C1)) (HV.out _ (HX.out.kg C1)) (by have := hkl.out; omega) (by have := hvl.out; omega) (by omega))
    | (go_at_call 50; go_must (refine us.mono ?_); rintro e w3 ⟨rfl, F', M', hF, hC⟩)
  go_ret
  have X3 := X1.mapped (N' := N + 1) (by have := X1.tot; have := put_len X1.map.ord.flat k v; rw [pages_put X1.map.ord]; omega) M' hF (fun _ h => .inl h) hC
  refine ⟨rfl, _, ((X3.shut (E := put Q.flatten k v) (W := W) (pages_put X1.map.ord k v) (back_nil HB.out)).more (by omega)).mono (fun b _ hb => ?_), fun b hb => ?_, ?_⟩
  · rcases hb with hb | hb
    · exact .inl hb
    · exact .inr (by have := C1.size; omega)
  · rcases hb with ⟨hb, _⟩ | hb
    · exact .inl hb
    · rcases hF b hb with h1 | h1
      · exact .inl (X1.own.map b h1)
      · exact .inr (by have := C1.size; omega)
  · exact chgJoin (HX.out.kg C1) (hC.mono (fun b _ h => X1.own.map b h))
theorem sset {w : World} {K D : Nat → Prop} {g n N : Nat} {E : Ents} {W : List Ents} {kv vv : Value} {k v : List Int} (h : SA w K D g E W n N) (hk : BK w K kv k) (hv : BK w K vv v) (hn : n ≤ 4000000000000000000) (hN : N + 2 ≤ 100000000) :
    Calls Tryz.prog 15 #[.pointer (some ⟨g, 0, none⟩), kv, vv] w (Ends w K D g (if setE k v = 0 then put E k v else E) W (n + 1) (N + 2) (.int .i64 (setE k v))) := by
  by_cases h0 : k.length = 0
  · have e : setE k v = 60 := by unfold setE; rw [if_pos (.inl h0)]
    rw [e, if_neg (by decide)]; exact sset_e60a h hk hv hn h0
  · by_cases h1 : 64 < k.length
    · have e : setE k v = 60 := by unfold setE; rw [if_pos (.inr h1)]
      rw [e, if_neg (by decide)]; exact sset_e60b h hk hv hn h0 h1
    · by_cases h2 : 4096 < v.length
      · have e : setE k v = 61 := by unfold setE; rw [if_neg (by omega), if_pos h2]
        rw [e, if_neg (by decide)]; exact sset_e61 h hk hv hn h0 h1 h2
      · have e : setE k v = 0 := by unfold setE; rw [if_neg (by omega), if_neg h2]
        rw [e, if_pos rfl]
        obtain ⟨F, V, m, Q, jv, T, oj, hX, rfl, hB⟩ := h.open
        rcases List.eq_nil_or_concat T with rfl | ⟨T0, j, rfl⟩
        · exact sset_nil hX hB hk hv hn hN h0 h1 h2
        · exact absurd hX.len (by simp)
end Kv
end Go.Proofs.YtgdohcdlkonhiaaGreatDoor
