/- A map in memory by its keys and values: what each operation does. -/
import Derived.Test.YtplminnejheceaaPgTm
namespace Go.Proofs.Ytplminnejheceaa
namespace Pg
open Go.RowKit Go.Lib
/-- at g lies a map with the pages Q, of N entries at most -/
structure Mp (w : World) (F D : Nat → Prop) (g : Nat) (Q : List (List KV)) (N : Nat) : Prop where
  ex : ∃ L, abs (ens L) = Q ∧ MapA w F D g L ∧ Ord (ens L) ∧ Shq (ens L) ∧ (ens L).flatten.length ≤ N ∧ ∀ es ∈ ens L, ∀ e ∈ es, e.kl.length ≤ 1000000000 ∧ e.vl.length ≤ 1000000000
theorem flen_ge : ∀ {P : List (List En)}, (∀ es ∈ P, 1 ≤ es.length) → P.length ≤ P.flatten.length
  | [], _ => Nat.le_refl _
  | a :: P, h => by
    have h1 := h a List.mem_cons_self
    have h2 := flen_ge (P := P) fun es he => h es (List.mem_cons_of_mem _ he)
    simp only [List.flatten_cons, List.length_append, List.length_cons]
    omega
theorem Shq.few {L : List Pg} (h : Shq (ens L)) {N : Nat} (hN : (ens L).flatten.length ≤ N) (hb : N ≤ 100000000) : L.length ≤ 100000000 := by
  have h1 := flen_ge fun es he => (h.one es he).1
  have h2 : (ens L).length = L.length := by simp [ens]
  omega
theorem Mp.lt {w : World} {F D : Nat → Prop} {g N : Nat} {Q : List (List KV)} (M : Mp w F D g Q N) {b : Nat} (hb : F b) : b < w.heap.size := by
  obtain ⟨L, _, A, _⟩ := M.ex
  exact A.lt hb
theorem Mp.noU {w : World} {F D : Nat → Prop} {g N : Nat} {Q : List (List KV)} (M : Mp w F D g Q N) {b : Nat} (hb : F b) (cs : List Value) : ¬ Blk w b cs 5 := by
  obtain ⟨L, _, A, _⟩ := M.ex
  exact A.noU hb cs
theorem Mp.keep {w w' : World} {F D : Nat → Prop} {g N : Nat} {Q : List (List KV)} (M : Mp w F D g Q N) (hb : Below w.heap.size w w') : Mp w' F D g Q N := by
  obtain ⟨L, e, A, r⟩ := M.ex
  exact ⟨L, e, A.keep hb, r⟩
theorem Mp.drew {w : World} {F D : Nat → Prop} {g N : Nat} {Q : List (List KV)} (M : Mp w F D g Q N) : Mp w.drew F D g Q N := by
  obtain ⟨L, e, A, r⟩ := M.ex
  exact ⟨L, e, A.drew, r⟩
theorem Mp.same {w w' : World} {F D : Nat → Prop} {g N : Nat} {Q : List (List KV)} (M : Mp w F D g Q N) (h1 : ∀ b, F b → w'.heap[b]? = w.heap[b]?) (h2 : ∀ b, b < w.heap.size → D b → (∃ cs, Blk w b cs 5) → w'.heap[b]? = w.heap[b]?) : Mp w' F D g Q N := by
  obtain ⟨L, e, A, r⟩ := M.ex
  exact ⟨L, e, A.same h1 h2, r⟩
theorem Mp.chg {w w' : World} {F D F' : Nat → Prop} {g N : Nat} {Q : List (List KV)} (M : Mp w F D g Q N) (hc : Chg F' w w') (h1 : ∀ b, F' b → ¬ F b) (h2 : ∀ b, F' b → ∀ cs, ¬ Blk w b cs 5) : Mp w' F D g Q N := by
  obtain ⟨L, e, A, r⟩ := M.ex
  exact ⟨L, e, A.chg hc h1 h2, r⟩
theorem Mp.mono {w : World} {F D D' : Nat → Prop} {g N : Nat} {Q : List (List KV)} (M : Mp w F D g Q N) (hD : ∀ b, b < w.heap.size → D b → D' b) : Mp w F D' g Q N := by
  obtain ⟨L, e, A, r⟩ := M.ex
  exact ⟨L, e, A.mono hD, r⟩
theorem Mp.more {w : World} {F D : Nat → Prop} {g N N' : Nat} {Q : List (List KV)} (M : Mp w F D g Q N) (h : N ≤ N') : Mp w F D g Q N' := by
  obtain ⟨L, e, A, O, S, n, r⟩ := M.ex
  exact ⟨L, e, A, O, S, by omega, r⟩
theorem Mp.ord {w : World} {F D : Nat → Prop} {g N : Nat} {Q : List (List KV)} (M : Mp w F D g Q N) : AOrd Q := by
  obtain ⟨L, e, A, O, _⟩ := M.ex
  exact ⟨_, e, O⟩
theorem Mp.len {w : World} {F D : Nat → Prop} {g N : Nat} {Q : List (List KV)} (M : Mp w F D g Q N) : Q.flatten.length ≤ N := by
  obtain ⟨L, rfl, A, O, S, n, r⟩ := M.ex
  rw [abs_flat, List.length_map]
  exact n
theorem Mp.small {w : World} {F D : Nat → Prop} {g N : Nat} {Q : List (List KV)} (M : Mp w F D g Q N) : ∀ x ∈ Q.flatten, x.1.length ≤ 1000000000 ∧ x.2.length ≤ 1000000000 := by
  obtain ⟨L, rfl, A, O, S, n, r⟩ := M.ex
  intro x hx
  rw [abs_flat] at hx
  obtain ⟨e, he, rfl⟩ := List.mem_map.1 hx
  obtain ⟨es, h1, h2⟩ := List.mem_flatten.1 he
  exact r es h1 e h2
theorem small_flat {P : List (List En)} {p : En → Prop} : (∀ es ∈ P, ∀ e ∈ es, p e) ↔ ∀ e ∈ P.flatten, p e :=
  ⟨fun h e he => by obtain ⟨es, h1, h2⟩ := List.mem_flatten.1 he; exact h es h1 e h2, fun h es he e hee => h e (List.mem_flatten.2 ⟨es, he, hee⟩)⟩
theorem mnew {w : World} : Calls Try.prog 30 #[] w fun e w' => e = .returned (.pointer (some ⟨w.heap.size, 0, none⟩)) ∧ Mp w' (· = w.heap.size) (fun _ => False) w.heap.size [] 0 ∧ Below w.heap.size w w' :=
  new_any.mono fun e w' ⟨g, he, hg, A, B⟩ => by
    subst hg
    exact ⟨he, ⟨[], rfl, A, ⟨fun _ h => by simp [ens] at h, List.Pairwise.nil⟩, Shq.nil, Nat.le_refl _, fun _ h => by simp [ens] at h⟩, B⟩
theorem mset {w : World} {F D : Nat → Prop} {g N : Nat} {Q : List (List KV)} {kv vv : Value} {k v : List Int} (M : Mp w F D g Q N) (hk : By w kv k) (hv : By w vv v) (hkl : k.length ≤ 1000000000) (hvl : v.length ≤ 1000000000) (hN : N ≤ 100000000) :
    Calls Try.prog 47 #[.pointer (some ⟨g, 0, none⟩), kv, vv] w fun e w' => e = .returned (.bool (!ahas Q k)) ∧ ∃ F', Mp w' F' (fun b => D b ∨ w.heap.size ≤ b) g (aset Q k v) (N + 1) ∧ (∀ b, F' b → F b ∨ w.heap.size ≤ b) ∧ Chg F w w' := by
  obtain ⟨L, rfl, A, O, S, n, r⟩ := M.ex
  refine (set_any A O (fun es he => (S.one es he).2) (S.few n hN) hk hv hkl hvl).mono fun e w' ⟨he, F', L', nk, nv, e1, A', hF, hc⟩ => ?_
  refine ⟨by rw [abs_has]; exact he, F', ⟨L', by rw [e1, abs_set], A', by rw [e1]; exact O.set _, by rw [e1]; exact S.set O _, ?_, ?_⟩, hF, hc⟩
  · rw [e1, len_set O]
    split <;> omega
  · rw [e1]
    rw [small_flat] at r ⊢
    intro x hx
    cases hh : has (ens L) k
    · obtain ⟨X, Y, e2, e3, _⟩ := set_flat_new O (e := ⟨nk, k, nv, v⟩) hh
      rw [e3] at hx
      rw [e2] at r
      rcases List.mem_append.1 hx with h | h
      · exact r x (List.mem_append_left _ h)
      · rcases List.mem_cons.1 h with h | h
        · subst h; exact ⟨hkl, hvl⟩
        · exact r x (List.mem_append_right _ h)
    · obtain ⟨X, y, Y, e2, hy, e3⟩ := set_flat_old O (e := ⟨nk, k, nv, v⟩) hh
      rw [e3] at hx
      rw [e2] at r
      rcases List.mem_append.1 hx with h | h
      · exact r x (List.mem_append_left _ h)
      · rcases List.mem_cons.1 h with h | h
        · subst h; exact ⟨by simp only; rw [hy]; exact hkl, hvl⟩
        · exact r x (List.mem_append_right _ (List.mem_cons_of_mem _ h))
theorem mdel {w : World} {F D : Nat → Prop} {g N : Nat} {Q : List (List KV)} {kv : Value} {k : List Int} (M : Mp w F D g Q N) (hk : By w kv k) (hN : N ≤ 100000000) :
    Calls Try.prog 49 #[.pointer (some ⟨g, 0, none⟩), kv] w fun e w' => e = .returned (.bool (ahas Q k)) ∧ ∃ F', Mp w' F' D g (adel Q k) N ∧ (∀ b, F' b → F b ∨ w.heap.size ≤ b) ∧ Chg F w w' := by
  obtain ⟨L, rfl, A, O, S, n, r⟩ := M.ex
  refine (delete_any A O (fun es he => (S.one es he).2) (S.few n hN) hk).mono fun e w' ⟨he, F', L', e1, A', hF, hc⟩ => ?_
  refine ⟨by rw [abs_has]; exact he, F', ⟨L', by rw [e1, abs_del], A', by rw [e1]; exact O.del _, by rw [e1]; exact S.del O _, ?_, ?_⟩, hF, hc⟩
  · rw [e1]
    cases hh : has (ens L) k
    · rw [del_none hh]; exact n
    · obtain ⟨X, x, Y, e2, _, e3⟩ := del_flat O hh
      rw [e2] at n
      rw [e3]
      simp only [List.length_append, List.length_cons] at n ⊢
      omega
  · rw [e1]
    rw [small_flat] at r ⊢
    intro x hx
    cases hh : has (ens L) k
    · rw [del_none hh] at hx; exact r x hx
    · obtain ⟨X, y, Y, e2, _, e3⟩ := del_flat O hh
      rw [e3] at hx
      rw [e2] at r
      rcases List.mem_append.1 hx with h | h
      · exact r x (List.mem_append_left _ h)
      · exact r x (List.mem_append_right _ (List.mem_cons_of_mem _ h))
theorem mget {w : World} {F D : Nat → Prop} {g N : Nat} {Q : List (List KV)} {kv : Value} {k : List Int} (M : Mp w F D g Q N) (hk : By w kv k) (hN : N ≤ 100000000) :
    Calls Try.prog 55 #[.pointer (some ⟨g, 0, none⟩), kv] w fun e w' => ∃ v, e = .returned (.tuple #[v, .bool (ahas Q k)]) ∧ OB w' (w.heap.size ≤ ·) v (if ahas Q k then agot Q k else []) ∧ Below w.heap.size w w' := by
  obtain ⟨L, rfl, A, O, S, n, r⟩ := M.ex
  rw [abs_has, abs_got]
  exact get_any A O (fun es he => by have := (S.one es he).2; omega) (S.few n hN) hk fun p hp e he => (r p.es (List.mem_map.2 ⟨p, hp, rfl⟩) e he).2
theorem abs_ints (P : List (List En)) : ((abs P).map fun es => (es.length : Int)) = P.map fun es => (es.length : Int) := by
  simp [abs, Function.comp_def]
theorem mcopy {w : World} {F D : Nat → Prop} {g N : Nat} {Q : List (List KV)} (M : Mp w F D g Q N) (hN : N ≤ 100000000) :
    Calls Try.prog 31 #[.pointer (some ⟨g, 0, none⟩)] w fun e w' => ∃ g' F', e = .returned (.pointer (some ⟨g', 0, none⟩)) ∧ Mp w' F' D g' Q N ∧ (∀ b, F' b → w.heap.size ≤ b) ∧ Below w.heap.size w w' := by
  obtain ⟨L, rfl, A, O, S, n, r⟩ := M.ex
  refine (copy_any A (fun es he => (S.one es he).2) (S.few n hN)).mono fun e w' ⟨g', F', L', he, e1, A', hF, B⟩ => ?_
  exact ⟨g', F', he, ⟨L', by rw [e1], A', by rw [e1]; exact O, by rw [e1]; exact S, by rw [e1]; exact n, by rw [e1]; exact r⟩, hF, B⟩
end Pg
end Go.Proofs.Ytplminnejheceaa
