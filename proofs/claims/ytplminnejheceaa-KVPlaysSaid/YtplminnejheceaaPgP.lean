/- A map in memory; the page to which a key belongs; find. -/
import Derived.Test.YtplminnejheceaaPgS
namespace Go.Proofs.Ytplminnejheceaa
namespace Pg
open Go.RowKit Go.Lib

/-- the map at block g: its own blocks are F's, its bytes lie in D's -/
structure MapA (w : World) (F D : Nat → Prop) (g : Nat) (L : List Pg) : Prop where
  top : ∃ pv, Blk w g [pv] 86 ∧ F g ∧ ((pv = .slice none 0 0 ∧ L = []) ∨ ∃ G C, pv = .slice (some ⟨G, 0, none⟩) L.length C ∧ F G ∧ Rw w 87 1 G L.length C (L.map Pg.v))
  pages : ∀ p ∈ L, PgA w D p ∧ F p.b
  apart : (L.map Pg.b).Nodup
  kind : ∀ b, F b → ∃ cs t, Blk w b cs t ∧ t ≠ 5
theorem MapA.lt {w : World} {F D : Nat → Prop} {g : Nat} {L : List Pg} (h : MapA w F D g L) {b : Nat} (hb : F b) : b < w.heap.size := by
  obtain ⟨cs, t, h, _⟩ := h.kind b hb
  exact h.lt
/-- what changes no block of the map's own and no list of bytes leaves the map -/
theorem MapA.same {w w' : World} {F D : Nat → Prop} {g : Nat} {L : List Pg} (h : MapA w F D g L) (h1 : ∀ b, F b → w'.heap[b]? = w.heap[b]?) (h2 : ∀ b, b < w.heap.size → D b → (∃ cs, Blk w b cs 5) → w'.heap[b]? = w.heap[b]?) : MapA w' F D g L := by
  obtain ⟨pv, hb, hg, hp⟩ := h.top
  have hob : ∀ {v : Value} {l : List Int}, OB w D v l → OB w' D v l := fun h => ⟨h.oct, h.ex.imp id (by
    rintro ⟨b, c, e, hd, hR⟩
    exact ⟨b, c, e, hd, hR.same (h2 b hR.lt hd hR.kind)⟩)⟩
  refine ⟨⟨pv, hb.same (h1 g hg), hg, hp.imp id ?_⟩, fun p hp => ?_, h.apart, fun b hb => ?_⟩
  · rintro ⟨G, C, e, hG, hR⟩
    exact ⟨G, C, e, hG, hR.same (h1 G hG)⟩
  · obtain ⟨hA, hF⟩ := h.pages p hp
    exact ⟨⟨hA.row.same (h1 _ hF), fun e he => ⟨hob (hA.ents e he).k, hob (hA.ents e he).v⟩⟩, hF⟩
  · obtain ⟨cs, t, hk, ht⟩ := h.kind b hb
    exact ⟨cs, t, hk.same (h1 b hb), ht⟩
theorem MapA.keep {w w' : World} {F D : Nat → Prop} {g : Nat} {L : List Pg} (h : MapA w F D g L) (hb : Below w.heap.size w w') : MapA w' F D g L := h.same (fun b hF => hb.block b (h.lt hF)) (fun b hl _ _ => hb.block b hl)
theorem MapA.drew {w : World} {F D : Nat → Prop} {g : Nat} {L : List Pg} (h : MapA w F D g L) : MapA w.drew F D g L := h.same (fun _ _ => rfl) (fun _ _ _ _ => rfl)
/-- what another map's call changes leaves this one -/
theorem MapA.chg {w w' : World} {F D F' : Nat → Prop} {g : Nat} {L : List Pg} (h : MapA w F D g L) (hc : Chg F' w w') (h1 : ∀ b, F' b → ¬ F b) (h2 : ∀ b, F' b → ∀ cs, ¬ Blk w b cs 5) : MapA w' F D g L :=
  h.same (fun b hF => hc.same b (h.lt hF) fun f => h1 b f hF) (fun b hl _ hk => hc.same b hl fun f => by obtain ⟨cs, k⟩ := hk; exact h2 b f cs k)
theorem MapA.noU {w : World} {F D : Nat → Prop} {g : Nat} {L : List Pg} (h : MapA w F D g L) {b : Nat} (hb : F b) (cs : List Value) : ¬ Blk w b cs 5 := fun k => by
  obtain ⟨cs', t, hk, ht⟩ := h.kind b hb
  exact ht (hk.eq k).2
theorem MapA.mono {w : World} {F D D' : Nat → Prop} {g : Nat} {L : List Pg} (h : MapA w F D g L) (hD : ∀ b, b < w.heap.size → D b → D' b) : MapA w F D' g L :=
  ⟨h.top, fun p hp => ⟨⟨(h.pages p hp).1.row, fun e he => ((h.pages p hp).1.ents e he).mono hD⟩, (h.pages p hp).2⟩, h.apart, h.kind⟩

/-- the pages' entries -/
def ens (L : List Pg) : List (List En) := L.map Pg.es
def fks (P : List (List En)) : List (List Int) := P.map fun es => (kys es).headD []
/-- how many at a list's front aren't above k -/
def plq : List (List Int) → List Int → Nat
  | [], _ => 0
  | x :: l, k => if Lt k x then 0 else plq l k + 1
theorem plq_le : ∀ (l : List (List Int)) (k : List Int), plq l k ≤ l.length
  | [], _ => Nat.le_refl _
  | x :: l, k => by
    rw [plq]
    split
    · simp
    · have := plq_le l k; simp; omega
theorem plq_eq : ∀ {l : List (List Int)} {k : List Int} {i : Nat}, i ≤ l.length → (∀ j x, j < i → l[j]? = some x → ¬ Lt k x) → (∀ x, l[i]? = some x → Lt k x) → plq l k = i
  | [], _, i, h, _, _ => by simp at h; subst h; rfl
  | x :: l, k, 0, _, _, h3 => by rw [plq, if_pos (h3 x rfl)]
  | x :: l, k, i + 1, h1, h2, h3 => by
    rw [plq, if_neg (h2 0 x (by omega) rfl), plq_eq (l := l) (i := i) (by simpa using h1) (fun j y hj hy => h2 (j + 1) y (by omega) (by simpa using hy)) (fun y hy => h3 y (by simpa using hy))]
theorem plq_lt : ∀ {l : List (List Int)} {k : List Int} {j : Nat} {x : List Int}, j < plq l k → l[j]? = some x → ¬ Lt k x
  | [], _, _, _, h, _ => by simp [plq] at h
  | y :: l, k, j, x, h, hx => by
    rw [plq] at h
    split at h
    · omega
    · cases j with
      | zero => simp at hx; subst hx; assumption
      | succ j => exact plq_lt (l := l) (j := j) (by omega) (by simpa using hx)
theorem plq_ge : ∀ {l : List (List Int)} {k : List Int} {x : List Int}, l[plq l k]? = some x → Lt k x
  | [], _, _, h => by simp at h
  | y :: l, k, x, h => by
    rw [plq] at h
    split at h
    · simp at h; subst h; assumption
    · exact plq_ge (l := l) (by simpa using h)
/-- the page to which a key belongs -/
def pgi (P : List (List En)) (k : List Int) : Nat := plq (fks P) k - 1
/-- no page is empty; keys rise, all over -/
structure Ord (P : List (List En)) : Prop where
  full : ∀ es ∈ P, es ≠ []
  rise : Srt (kys P.flatten)
theorem Ord.page {P : List (List En)} (h : Ord P) {i : Nat} {es : List En} (hi : P[i]? = some es) : Srt (kys es) := by
  have hm := List.mem_of_getElem? hi
  have : (kys es).Sublist (kys P.flatten) := (List.sublist_flatten_of_mem hm).map _
  exact h.rise.sublist this
theorem mem_head {es : List En} (h : es ≠ []) : ∃ e l, es = e :: l ∧ (kys es).headD [] = e.kl := by
  cases es with
  | nil => exact absurd rfl h
  | cons e l => exact ⟨e, l, rfl, rfl⟩
theorem Ord.heads : ∀ {P : List (List En)}, Ord P → Srt (fks P)
  | [], _ => List.Pairwise.nil
  | es :: P, h => by
    have h2 : Ord P := ⟨fun x hx => h.full x (List.mem_cons_of_mem _ hx), by
      have := h.rise
      simp only [Srt, kys, List.flatten_cons, List.map_append, List.pairwise_append] at this
      exact this.2.1⟩
    refine List.Pairwise.cons (fun x hx => ?_) (Ord.heads h2)
    obtain ⟨fs, hfs, rfl⟩ := List.mem_map.1 hx
    obtain ⟨e, l, rfl, he⟩ := mem_head (h.full es List.mem_cons_self)
    obtain ⟨f, m, rfl, hf⟩ := mem_head (h2.full fs hfs)
    show Lt e.kl f.kl
    have := h.rise
    simp only [Srt, kys, List.flatten_cons, List.map_append, List.pairwise_append] at this
    exact this.2.2 e.kl (by simp) f.kl (List.mem_map.2 ⟨f, List.mem_flatten.2 ⟨_, hfs, List.mem_cons_self⟩, rfl⟩)
end Pg
end Go.Proofs.Ytplminnejheceaa
