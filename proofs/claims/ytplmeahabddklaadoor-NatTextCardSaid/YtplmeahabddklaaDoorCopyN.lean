/- gleanhelp.Copy: a list of its own memory. -/
import Derived.Test.YtplmeahabddklaaDoorScale
import Derived.Test.YtplmeahabddklaaDoorSmall
import Derived.Test.YtplmeahabddklaaDoorGroups
import Derived.Laws.AppendOwnNone
namespace Go.Proofs.YtplmeahabddklaaDoor
open Go.RowKit Lim

theorem isRow_nil {w : World} {a : Option Addr} {len cap : Nat} {zs : List Int} (h : IsRow w a len cap zs) (e : a = none) : cap = 0 := by
  rcases h with ⟨_, _, h, _⟩ | ⟨x, h, _⟩
  · exact h
  · rw [e] at h; simp at h

set_option maxHeartbeats 1000000 in
set_option maxRecDepth 100000 in
theorem copy_any (ao : Option Addr) (n c b o : Nat) (l : List Int) (w : World) (hl : l.length = n) (hbig : n ≤ 1099511627776) (hnil : ao = none → c = 0) (ha : At w ao b o l) :
    Calls Tryd.prog 11 #[.slice ao n c] w fun e w' => ∃ v, e = .returned v ∧ Mine w' w.heap.size v l ∧ Below w.heap.size w w' := by
  obtain ⟨i0, hi, hz0, hz1, hz2⟩ := info_parts info_u64
  have hown : w.ownsRow w.heap.size 33 1 (.slice none 0 0) 0 [] := World.ownsRow_nil _ _ _ _
  have hge : ∀ g, (Value.slice none 0 0).ownBlock = some g → w.heap.size ≤ g := fun g hg => by
    rcases hown.2 with ⟨h, _⟩ | ⟨g', cap, cur, h, _⟩
    · simp [Value.ownBlock] at hg
    · simp at h
  cases ao with
  | none =>
    have e0 : l = [] := by rcases ha.loc with e | e
                           · exact e
                           · simp at e
    subst e0
    have hn0 : n = 0 := hl.symm
    subst hn0
    have hc0 := hnil rfl
    subst hc0
    go_enter Tryd.func11, Tryd.ntmps11
    go_wp2_with (at_builtin; refine wpList_append_own_none rfl _ _ 23 rfl w.heap.size 33 i0 1 under_nat hi _ _ _ rfl hown rfl ?_)
    go_ret
    exact ⟨_, rfl, hown, Below.refl _ _⟩
  | some x =>
    have hsrc : ∀ j u, (l.map (Value.int .u64))[j]? = some u → w.cell? (x.add j) = some u := by
      intro j u hu
      rw [List.getElem?_map] at hu
      have hj : j < l.length := by
        rcases Nat.lt_or_ge j l.length with hj | hj
        · exact hj
        · rw [List.getElem?_eq_none hj] at hu; simp at hu
      rw [List.getElem?_eq_getElem hj] at hu
      simp at hu
      subst hu
      have hx : x = ⟨b, o, none⟩ := by
        rcases ha.loc with e | e
        · subst e; simp at hj
        · simpa using e
      subst hx
      have := ha.cell j hj
      rw [nth_eq hj] at this
      rw [← this]
      by_cases hj0 : j = 0
      · subst hj0; exact congrArg w.cell? (by simp [Addr.add])
      · exact congrArg w.cell? (by simp [Addr.add, hj0])
    go_enter Tryd.func11, Tryd.ntmps11
    go_wp2_with (at_builtin; refine wpList_append_own _ rfl _ _ 23 rfl w.heap.size 33 i0 (.int .u64 0) 1 8 under_nat hi hz0 hz1 hz2 rfl (by decide) _ _ _ rfl hown x n c (l.map (Value.int .u64)) rfl (by simp [hl]) ?c1 ?c2 ?c3 ?c4 ?c5 ?_)
    case c1 => exact hsrc
    case c2 => exact ints_oneCell _ _
    case c3 => unfold maxLen; omega
    case c4 => omega
    case c5 => exact Nat.le_refl _
    intro v' w1 hown' hgrow _
    go_wp2
    go_ret
    refine ⟨v', rfl, ?_, (Below.refl _ _).grown hgrow (Nat.le_refl _) hge⟩
    unfold Mine
    rw [hl]
    simpa using hown'

theorem two_new (w : World) (u1 u2 : Value) : ∀ j u, [u1, u2][j]? = some u → (w.alloc (.cells #[u1, u2] 33)).cell? ((⟨w.heap.size, 0, none⟩ : Addr).add j) = some u := by
  intro j u hj
  match j, hj with
  | 0, hj =>
    rw [show ((⟨w.heap.size, 0, none⟩ : Addr).add 0) = ⟨w.heap.size, 0, none⟩ from rfl, cell_new]
    simpa using hj
  | 1, hj =>
    rw [show ((⟨w.heap.size, 0, none⟩ : Addr).add 1) = ⟨w.heap.size, 1, none⟩ from by simp [Addr.add], cell_new]
    simpa using hj
theorem mine_row {w : World} {B n : Nat} {v : Value} {l : List Int} (h : Mine w B v l) (hl : l.length = n) : w.ownsRow B 33 1 v n (l.map (Value.int .u64)) := by
  unfold Mine at h; rwa [hl] at h
theorem mine_back {w : World} {B n : Nat} {v : Value} {l : List Int} (hl : l.length = n) (h : w.ownsRow B 33 1 v (n + 2) (l.map (Value.int .u64) ++ [.int .u64 0, .int .u64 0])) : Mine w B v (l ++ [0, 0]) := by
  unfold Mine
  rw [List.length_append, hl, List.map_append]; exact h
theorem val_zz (l : List Int) : val (l ++ [0, 0]) = val l := by rw [val_append]; simp [val]
theorem bitLen_mono {a b : Nat} (h : a ≤ b) : bitLen a ≤ bitLen b := by
  unfold bitLen
  by_cases ha : a = 0
  · simp [ha]
  · have hb : b ≠ 0 := by omega
    rw [if_neg ha, if_neg hb]
    have h1 : a.log2 ≤ b.log2 := (Nat.le_log2 hb).2 (Nat.le_trans (Nat.log2_self_le ha) h)
    omega
end Go.Proofs.YtplmeahabddklaaDoor
