/- Several texts, joined: PgR, PgI, PgD, PgC, PgE, PgT, PgM, PgS, PgP, PgQ, PgU, PgZ, PgV, PgW, PgWe, PgG, PgH, PgJ, PgK, PgL, PgN, PgO, PgRf. -/
import Derived.Test.YtpoifdokmjhclaaGreatJyc
import Derived.Lib.BytesEntry
import Derived.WalkMore
import Derived.Deep.RegionHeld3
import Derived.Deep.RegionWith
import Derived.RangeFuncNested
import Derived.RangeFuncBound
import Derived.RangeFuncCalls
import Derived.RangeFuncLeaves
namespace Go.Proofs.YtpoifdokmjhclaaGreat
namespace Pg
open Go.RowKit Go.Lib

/-- block b holds n elements of k cells each, xs, and room for c -/
structure Rw (w : World) (E : TypeId) (k b n c : Nat) (xs : List Value) : Prop where
  ex : ∃ sp, Blk w b (xs ++ sp) E ∧ xs.length = n * k ∧ (xs ++ sp).length = c * k ∧ n ≤ c ∧ c ≤ maxLen
theorem Rw.lt {w : World} {E : TypeId} {k b n c : Nat} {xs : List Value} (h : Rw w E k b n c xs) : b < w.heap.size := by
  obtain ⟨sp, h, _⟩ := h.ex; exact h.lt
theorem Rw.same {w w' : World} {E : TypeId} {k b n c : Nat} {xs : List Value} (h : Rw w E k b n c xs) (hb : w'.heap[b]? = w.heap[b]?) : Rw w' E k b n c xs := by
  obtain ⟨sp, h, h'⟩ := h.ex; exact ⟨sp, h.same hb, h'⟩
theorem Rw.keep {w w' : World} {E : TypeId} {k b n c : Nat} {xs : List Value} (h : Rw w E k b n c xs) (hb : Below w.heap.size w w') : Rw w' E k b n c xs := h.same (hb.block b h.lt)
theorem Rw.chg {F : Nat → Prop} {w w' : World} {E : TypeId} {k b n c : Nat} {xs : List Value} (h : Rw w E k b n c xs) (hb : Chg F w w') (hg : ¬ F b) : Rw w' E k b n c xs := h.same (hb.same b h.lt hg)
theorem Rw.drew {w : World} {E : TypeId} {k b n c : Nat} {xs : List Value} (h : Rw w E k b n c xs) : Rw w.drew E k b n c xs := h.same rfl
theorem Rw.len {w : World} {E : TypeId} {k b n c : Nat} {xs : List Value} (h : Rw w E k b n c xs) : xs.length = n * k := by
  obtain ⟨sp, h, h', _⟩ := h.ex; exact h'
theorem Rw.le {w : World} {E : TypeId} {k b n c : Nat} {xs : List Value} (h : Rw w E k b n c xs) : n ≤ c ∧ c ≤ maxLen := by
  obtain ⟨sp, h, _, _, h'⟩ := h.ex; exact h'
theorem Rw.cell {w : World} {E : TypeId} {k b n c : Nat} {xs : List Value} (h : Rw w E k b n c xs) {i : Nat} {v : Value} (hi : xs[i]? = some v) : w.cell? ⟨b, i, none⟩ = some v := by
  obtain ⟨sp, h, _⟩ := h.ex
  exact h.cell (by rw [List.getElem?_append_left (List.getElem?_eq_some_iff.1 hi).1]; exact hi)
theorem Rw.free {w : World} {E : TypeId} {k b n c : Nat} {xs : List Value} (h : Rw w E k b n c xs) (i : Nat) : w.frozen? ⟨b, i, none⟩ = false := by
  obtain ⟨sp, h, _⟩ := h.ex; exact h.free i
theorem Rw.kind {w : World} {E : TypeId} {k b n c : Nat} {xs : List Value} (h : Rw w E k b n c xs) : ∃ cs, Blk w b cs E := by
  obtain ⟨sp, h, _⟩ := h.ex; exact ⟨_, h⟩
theorem Rw.set {w : World} {E : TypeId} {k b n c : Nat} {xs : List Value} (h : Rw w E k b n c xs) (i : Nat) (hi : i < xs.length) (v : Value) : Rw (w.setCell ⟨b, i, none⟩ v) E k b n c (xs.set i v) := by
  obtain ⟨sp, h, h1, h2, h3⟩ := h.ex
  refine ⟨sp, ?_, by simpa using h1, by simpa using h2, h3⟩
  have := h.setCell (i := i) v
  rwa [List.set_append_left _ _ hi] at this
theorem blk_rw {w : World} {E : TypeId} {k b n : Nat} {xs : List Value} (h : Blk w b xs E) (hx : xs.length = n * k) (hn : n ≤ maxLen) : Rw w E k b n n xs := ⟨[], by simpa using h, hx, by simpa using hx, Nat.le_refl _, hn⟩
/-- fewer elements of the same block -/
theorem Rw.front {w : World} {E : TypeId} {k b n c : Nat} {xs : List Value} (h : Rw w E k b n c xs) {m : Nat} (hm : m ≤ n) : Rw w E k b m c (xs.take (m * k)) := by
  obtain ⟨sp, h, h1, h2, h3, h4⟩ := h.ex
  have hk : m * k ≤ n * k := Nat.mul_le_mul_right _ hm
  refine ⟨xs.drop (m * k) ++ sp, by rw [← List.append_assoc, List.take_append_drop]; exact h, by rw [List.length_take]; omega, by rw [← List.append_assoc, List.take_append_drop]; exact h2, by omega, h4⟩

/-- more elements of the same block -/
theorem Rw.more {w : World} {E : TypeId} {k b n c : Nat} {xs : List Value} (h : Rw w E k b n c xs) {m : Nat} (hm : n + m ≤ c) : ∃ s, s.length = m * k ∧ Rw w E k b (n + m) c (xs ++ s) := by
  obtain ⟨sp, h, h1, h2, h3, h4⟩ := h.ex
  have h5 : n * k + m * k ≤ c * k := by rw [← Nat.add_mul]; exact Nat.mul_le_mul_right _ hm
  rw [List.length_append] at h2
  refine ⟨sp.take (m * k), by rw [List.length_take]; omega, sp.drop (m * k), ?_, ?_, ?_, hm, h4⟩
  · rw [List.append_assoc, List.take_append_drop]; exact h
  · rw [List.length_append, List.length_take, Nat.add_mul]; omega
  · rw [List.append_assoc, List.take_append_drop, List.length_append]; exact h2
theorem Rw.to {w : World} {E : TypeId} {k b n c : Nat} {xs ys : List Value} (h : Rw w E k b n c xs) (e : xs = ys) : Rw w E k b n c ys := e ▸ h

section
variable {P : Program} {w : World} {T E : TypeId} {k bytes : Nat} {z : Value}
/-- what a slice's type says -/
structure Kd (P : Program) (T E : TypeId) (k bytes : Nat) (z : Value) : Prop where
  und : P.underlying T = some (.slice E)
  inf : (P.info? E).map (fun i => (i.zero, i.size, i.bytes)) = some (some z, k, bytes)
  zs : z.cells.size = k
  z1 : ∀ v ∈ z.cells, v.oneCell' = true
  k0 : 0 < k
theorem Kd.size (h : Kd P T E k bytes z) : (P.info? E).map (·.size) = some k := by
  obtain ⟨i, hi, hz, hs, hb⟩ := info_parts h.inf
  rw [hi]; simp [hs]
theorem Kd.sizeOf (h : Kd P T E k bytes z) (w : World) : (Go.sizeOf E).run P w = .ok k w := by
  obtain ⟨i, hi, hz, hs, hb⟩ := info_parts h.inf
  simp [Go.sizeOf, typeInfo, hi, hs]
theorem Kd.zero (h : Kd P T E k bytes z) (w : World) : (zeroValue E).run P w = .ok z w := by
  obtain ⟨i, hi, hz, hs, hb⟩ := info_parts h.inf
  simp [zeroValue, typeInfo, hi, hz]
theorem new_row (w : World) (E : TypeId) (zc : Array Value) (k n c : Nat) (xs : List Value) (hz : zc.size = k) (hx : xs.length = n * k) (hn : n ≤ c) (hc : c ≤ maxLen) :
    Rw (w.drew.alloc (.cells (xs.toArray ++ Builtin.zeroCells zc (c - n)) E)) E k w.heap.size n c xs :=
  ⟨(Builtin.zeroCells zc (c - n)).toList, ⟨by
    have := (blk_new w.drew (xs ++ (Builtin.zeroCells zc (c - n)).toList) E).blk
    rw [show (xs ++ (Builtin.zeroCells zc (c - n)).toList).toArray = xs.toArray ++ Builtin.zeroCells zc (c - n) by apply Array.ext'; simp] at this ⊢
    exact this⟩, hx, by
    rw [List.length_append, hx, Array.length_toList, size_zeroCells, hz, ← Nat.add_mul]; congr 1; omega, hn, hc⟩
/-- append of m elements that lie at a -/
theorem app_row (H : Kd P T E k bytes z) (ty : TypeId) {b n c : Nat} {xs : List Value} (R : Rw w E k b n c xs) (a : Addr) (m cc : Nat) (news : List Value) (hl : news.length = m * k) (hnews : ∀ j u, news[j]? = some u → w.cell? (a.add j) = some u) (h1 : ∀ u ∈ news, u.oneCell' = true)
    (hbig : (n + m) * bytes ≤ 140737488355328) (hm : n + m ≤ 140737488355328) :
    ∃ b' c' w', (Builtin.append_ #[T, T] ty #[.slice (some ⟨b, 0, none⟩) n c, .slice (some a) m cc]).run P w = .ok (.slice (some ⟨b', 0, none⟩) (n + m) c') w' ∧ (b' = b ∨ b' = w.heap.size) ∧ Rw w' E k b' (n + m) c' (xs ++ news) ∧ Chg (· = b) w w' := by
  obtain ⟨i, hi, hz, hs, hb⟩ := info_parts H.inf
  obtain ⟨sp, hB, hx, hc, hnc, hcm⟩ := R.ex
  subst hs hb
  have hmx : n + m ≤ maxLen := by simp only [maxLen]; omega
  by_cases hroom : n + m ≤ c
  · have hfit : n * i.size + news.length ≤ (xs ++ sp).toArray.size := by
      rw [List.size_toArray, hc, hl, ← Nat.add_mul]; exact Nat.mul_le_mul_right _ hroom
    have hr := run_append_room (P := P) w T ty E i H.und hi b n c (xs ++ sp).toArray hB.blk a m cc news hl hnews h1 hroom hfit
    refine ⟨b, c, _, hr, .inl rfl, ⟨sp.drop news.length, ?_, by rw [List.length_append, hx, hl, Nat.add_mul], ?_, hroom, hcm⟩, (Chg.refl (· = b) w).row (g := b) (.inl rfl) _⟩
    · have := hB.row (xs ++ news ++ sp.drop news.length)
      have e : (xs ++ sp).toArray.toList.take (n * i.size) ++ news ++ (xs ++ sp).toArray.toList.drop (n * i.size + news.length) = xs ++ news ++ sp.drop news.length := by
        rw [show (xs ++ sp).toArray.toList = xs ++ sp from rfl, ← hx, List.take_left, ← List.drop_drop, List.drop_left]
      rw [e]; exact this
    · have h2 : xs.length + sp.length = c * i.size := by rw [← List.length_append]; exact hc
      have h3 : n * i.size + m * i.size ≤ c * i.size := by rw [← Nat.add_mul]; exact Nat.mul_le_mul_right _ hroom
      rw [List.length_append, List.length_append, List.length_drop]; omega
  · have holds : ∀ j u, xs[j]? = some u → w.cell? ((⟨b, 0, none⟩ : Addr).add j) = some u := fun j u hj => by rw [Addr.add_lit, Nat.zero_add]; exact R.cell hj
    have hr := run_append_grow (P := P) w T ty E i z H.und hi hz ⟨b, 0, none⟩ n c xs hx holds a m cc news hl hnews (by omega) (by omega) (growslice_fits (by omega) hbig)
    refine ⟨w.heap.size, _, _, hr, .inr rfl, ?_, (Chg.refl _ w).drew.alloc _⟩
    have := new_row w E z.cells i.size (n + m) (grownCap w (n + m) c E) (xs ++ news) H.zs (by rw [List.length_append, hx, hl, Nat.add_mul]) (grownCap_ge w _ _ _) (grownCap_le_maxLen w _ _ _ hmx)
    simpa using this
theorem app_nil (H : Kd P T E k bytes z) (ty : TypeId) (a : Addr) (m cc : Nat) (news : List Value) (hl : news.length = m * k) (hnews : ∀ j u, news[j]? = some u → w.cell? (a.add j) = some u)
    (h0 : 0 < m) (hbig : m * bytes ≤ 140737488355328) (hm : m ≤ 140737488355328) :
    ∃ c' w', (Builtin.append_ #[T, T] ty #[.slice none 0 0, .slice (some a) m cc]).run P w = .ok (.slice (some ⟨w.heap.size, 0, none⟩) m c') w' ∧ Rw w' E k w.heap.size m c' news ∧ Below w.heap.size w w' := by
  obtain ⟨i, hi, hz, hs, hb⟩ := info_parts H.inf
  subst hs hb
  have hr := run_append_nil (P := P) w T ty E i z H.und hi hz a m cc news hl hnews h0 (by omega) (by omega)
  refine ⟨_, _, hr, ?_, ?_⟩
  · exact new_row w E z.cells i.size m (grownCap w m 0 E) news H.zs hl (grownCap_ge w _ _ _) (grownCap_le_maxLen w _ _ _ (by simp only [maxLen]; omega))
  · exact (Below.refl _ w).trans ⟨rfl, rfl, rfl, by simp, fun b hb => by
      have := (below_alloc w.drew (.cells (news.toArray ++ Builtin.zeroCells z.cells (grownCap w m 0 E - m)) E)).block b hb
      exact this⟩
/-- append of m noughts where there is no room for them -/
theorem app_zeros (H : Kd P T E k bytes z) (tn ty : TypeId) (hn : P.underlying tn = some (.int .i64)) {b n c : Nat} {xs : List Value} (R : Rw w E k b n c xs) (m : Nat) (h0 : 0 < m) (hc : c < n + m) (hbig : (n + m) * bytes ≤ 140737488355328) (hm : n + m ≤ 140737488355328) :
    ∃ c' w', (Builtin.append_ #[T, tn] ty #[.slice (some ⟨b, 0, none⟩) n c, .int .i64 m]).run P w = .ok (.slice (some ⟨w.heap.size, 0, none⟩) (n + m) c') w' ∧ Rw w' E k w.heap.size (n + m) c' (xs ++ (Builtin.zeroCells z.cells m).toList) ∧ Below w.heap.size w w' := by
  obtain ⟨i, hi, hz, hs, hb⟩ := info_parts H.inf
  have hx := R.len
  subst hs hb
  have hold : (Builtin.firstCells i.size n (.slice (some ⟨b, 0, none⟩) n c)).run P w.drew = .ok xs.toArray w.drew :=
    run_firstCells_some w.drew i.size n ⟨b, 0, none⟩ n c xs hx (fun j v hj => by rw [Addr.add_lit, Nat.zero_add]; exact R.cell hj)
  have hm' : m * i.bytes ≤ (n + m) * i.bytes := Nat.mul_le_mul_right _ (by omega)
  have hr := run_append_grow_zeros w T tn ty E i z .i64 .i64 H.und hn hi hz (some ⟨b, 0, none⟩) n c xs hold m h0 H.k0 hc (by omega) (by omega) (growslice_fits hc hbig)
  refine ⟨_, _, hr, ?_, ?_⟩
  · have := new_row w E z.cells i.size (n + m) (grownCap w (n + m) c E) (xs ++ (Builtin.zeroCells z.cells m).toList) H.zs (by rw [List.length_append, hx, Array.length_toList, size_zeroCells, H.zs, Nat.add_mul]) (grownCap_ge w _ _ _) (grownCap_le_maxLen w _ _ _ (by simp only [maxLen]; omega))
    rw [show (xs ++ (Builtin.zeroCells z.cells m).toList).toArray = xs.toArray ++ Builtin.zeroCells z.cells m by apply Array.ext'; simp] at this
    exact this
  · exact ⟨rfl, rfl, rfl, by simp, fun b hb => (below_alloc w.drew (.cells (xs.toArray ++ Builtin.zeroCells z.cells m ++ Builtin.zeroCells z.cells (grownCap w (n + m) c E - (n + m))) E)).block b hb⟩
theorem app_zeros_nil (H : Kd P T E k bytes z) (tn ty : TypeId) (hn : P.underlying tn = some (.int .i64)) (m : Nat) (h0 : 0 < m) (hbig : m * bytes ≤ 140737488355328) (hm : m ≤ 140737488355328) :
    ∃ c' w', (Builtin.append_ #[T, tn] ty #[.slice none 0 0, .int .i64 m]).run P w = .ok (.slice (some ⟨w.heap.size, 0, none⟩) m c') w' ∧ Rw w' E k w.heap.size m c' (Builtin.zeroCells z.cells m).toList ∧ Below w.heap.size w w' := by
  obtain ⟨i, hi, hz, hs, hb⟩ := info_parts H.inf
  subst hs hb
  have hr := run_append_nil_zeros w T tn ty E i z .i64 .i64 H.und hn hi hz m h0 H.k0 (by omega) (by omega)
  refine ⟨_, _, hr, ?_, ?_⟩
  · have := new_row w E z.cells i.size m (grownCap w m 0 E) (Builtin.zeroCells z.cells m).toList H.zs (by rw [Array.length_toList, size_zeroCells, H.zs]) (grownCap_ge w _ _ _) (grownCap_le_maxLen w _ _ _ (by simp only [maxLen]; omega))
    simpa using this
  · exact ⟨rfl, rfl, rfl, by simp, fun b hb => (below_alloc w.drew (.cells (Builtin.zeroCells z.cells m ++ Builtin.zeroCells z.cells (grownCap w m 0 E - m)) E)).block b hb⟩
/-- copy into a stretch of a row -/
theorem copy_row (H : Kd P T E k bytes z) (ty : TypeId) {g n c : Nat} {xs : List Value} (R : Rw w E k g n c xs) (o dLen dCap : Nat) (a : Addr) (sLen sCap : Nat) (cs : List Value) (m : Nat) (hm : Nat.min sLen dLen = m) (hn : cs.length = m * k)
    (hsrc : ∀ j v, cs[j]? = some v → w.cell? (a.add j) = some v) (hfit : o + cs.length ≤ xs.length) (h1 : ∀ v ∈ cs, v.oneCell' = true) :
    ∃ w', (Builtin.copy_ #[T, T] ty #[.slice (some ⟨g, o, none⟩) dLen dCap, .slice (some a) sLen sCap]).run P w = .ok (goInt m) w' ∧ Rw w' E k g n c (splice xs o cs) ∧ Chg (· = g) w w' := by
  obtain ⟨sp, hB, hx, hc, hnc, hcm⟩ := R.ex
  have hr := run_copyK (P := P) w T T ty E k g o dLen dCap a sLen sCap (xs ++ sp) cs E H.und H.size hB m hm hn hsrc (by rw [List.length_append]; omega) h1
  have e : splice (xs ++ sp) o cs = splice xs o cs ++ sp := by
    rw [splice_def, splice_def, List.take_append_of_le_length (by omega), List.drop_append_of_le_length (by omega), List.append_assoc, List.append_assoc, List.append_assoc]
  have hl := length_splice xs o cs hfit
  refine ⟨_, hr, ⟨sp, by rw [e]; exact hB.row _, by rw [hl]; exact hx, by rw [List.length_append, hl, ← List.length_append]; exact hc, hnc, hcm⟩, (Chg.refl (· = g) w).row (g := g) (.inl rfl) _⟩
/-- append where there is room: in place -/
theorem app_room (H : Kd P T E k bytes z) (ty : TypeId) {b n c : Nat} {xs : List Value} (R : Rw w E k b n c xs) (a : Addr) (m cc : Nat) (news : List Value) (hl : news.length = m * k) (hnews : ∀ j u, news[j]? = some u → w.cell? (a.add j) = some u) (h1 : ∀ u ∈ news, u.oneCell' = true) (hroom : n + m ≤ c) :
    ∃ w', (Builtin.append_ #[T, T] ty #[.slice (some ⟨b, 0, none⟩) n c, .slice (some a) m cc]).run P w = .ok (.slice (some ⟨b, 0, none⟩) (n + m) c) w' ∧ Rw w' E k b (n + m) c (xs ++ news) ∧ Chg (· = b) w w' := by
  obtain ⟨i, hi, hz, hs, hb⟩ := info_parts H.inf
  obtain ⟨sp, hB, hx, hc, hnc, hcm⟩ := R.ex
  subst hs hb
  have hfit : n * i.size + news.length ≤ (xs ++ sp).toArray.size := by
    rw [List.size_toArray, hc, hl, ← Nat.add_mul]; exact Nat.mul_le_mul_right _ hroom
  have hr := run_append_room (P := P) w T ty E i H.und hi b n c (xs ++ sp).toArray hB.blk a m cc news hl hnews h1 hroom hfit
  refine ⟨_, hr, ⟨sp.drop news.length, ?_, by rw [List.length_append, hx, hl, Nat.add_mul], ?_, hroom, hcm⟩, (Chg.refl (· = b) w).row (g := b) (.inl rfl) _⟩
  · have := hB.row (xs ++ news ++ sp.drop news.length)
    have e : (xs ++ sp).toArray.toList.take (n * i.size) ++ news ++ (xs ++ sp).toArray.toList.drop (n * i.size + news.length) = xs ++ news ++ sp.drop news.length := by
      rw [show (xs ++ sp).toArray.toList = xs ++ sp from rfl, ← hx, List.take_left, ← List.drop_drop, List.drop_left]
    rw [e]; exact this
  · have h2 : xs.length + sp.length = c * i.size := by rw [← List.length_append]; exact hc
    have h3 : n * i.size + m * i.size ≤ c * i.size := by rw [← Nat.add_mul]; exact Nat.mul_le_mul_right _ hroom
    rw [List.length_append, List.length_append, List.length_drop]; omega
/-- clear behind a row's elements -/
theorem clear_row (H : Kd P T E k bytes z) (ty : TypeId) {g n c : Nat} {xs : List Value} (R : Rw w E k g n c xs) (m cc : Nat) (hm : 0 < m) (hroom : n + m ≤ c) :
    ∃ w', (Builtin.clear_ #[T] ty #[.slice (some ⟨g, n * k, none⟩) m cc]).run P w = .ok (.tuple #[]) w' ∧ Rw w' E k g n c xs ∧ Chg (· = g) w w' := by
  obtain ⟨sp, hB, hx, hc, hnc, hcm⟩ := R.ex
  have h3 : n * k + m * k ≤ c * k := by rw [← Nat.add_mul]; exact Nat.mul_le_mul_right _ hroom
  have hr := run_clearK (P := P) w T ty E z k g (n * k) m cc (xs ++ sp) E H.und H.zero H.zs H.z1 hB hm H.k0 (by omega)
  have e : splice (xs ++ sp) (n * k) (Builtin.zeroCells z.cells m).toList = xs ++ ((Builtin.zeroCells z.cells m).toList ++ sp.drop (Builtin.zeroCells z.cells m).toList.length) := by
    rw [splice_def, ← hx, List.take_left, ← List.drop_drop, List.drop_left, List.append_assoc]
  have hl : ((Builtin.zeroCells z.cells m).toList).length = m * k := by rw [Array.length_toList, size_zeroCells, H.zs]
  refine ⟨_, hr, ⟨_, by rw [e]; exact hB.row _, hx, ?_, hnc, hcm⟩, (Chg.refl (· = g) w).row (g := g) (.inl rfl) _⟩
  rw [List.length_append] at hc ⊢
  rw [List.length_append, List.length_drop, hl]
  omega
end
end Pg
end Go.Proofs.YtpoifdokmjhclaaGreat

namespace Go.Proofs.YtpoifdokmjhclaaGreat
namespace Pg
open Go.RowKit Go.Lib
theorem KE : Kd Tryz.prog 198 197 2 48 (.agg #[.slice none 0 0, .slice none 0 0]) := ⟨by kernel_rfl, by kernel_rfl, rfl, by simp [Value.cells, Value.oneCell'], by decide⟩
theorem KP : Kd Tryz.prog 199 198 1 24 (.slice none 0 0) := ⟨by kernel_rfl, by kernel_rfl, rfl, by simp [Value.cells, Value.oneCell'], by decide⟩
theorem under_int : Tryz.prog.underlying 3 = some (.int .i64) := by kernel_rfl
theorem mixed : Tryz.prog.follows .mixedOrders = true := by kernel_rfl

section
variable {w : World} {b n c i vb : Nat} {xs : List Value} {e1 e2 : Value}
set_option maxHeartbeats 1000000 in
set_option maxRecDepth 100000 in
theorem insE_end (R : Rw w 197 2 b n c xs) (hV : Blk w vb [e1, e2] 197) (hn : n ≤ 1000000000) (h2 : ∀ v ∈ [e1, e2], v.oneCell' = true) :
    Calls Tryz.prog 207 #[.slice (some ⟨b, 0, none⟩) n c, .int .i64 n, .slice (some ⟨vb, 0, none⟩) 1 1] w fun e w' => ∃ b' c', e = .returned (.slice (some ⟨b', 0, none⟩) (n + 1) c') ∧ (b' = b ∨ w.heap.size ≤ b') ∧ Rw w' 197 2 b' (n + 1) c' (xs ++ [e1, e2]) ∧ Chg (· = b) w w' := by
  obtain ⟨b', c', W, hr, hb', hR, hC⟩ := app_row KE 198 R ⟨vb, 0, none⟩ 1 1 [e1, e2] rfl (fun j u hj => by rw [Addr.add_lit, Nat.zero_add]; exact hV.cell hj) h2 (by omega) (by omega)
  have hcm := R.le
  simp only [maxLen] at hcm
  have hcm1 := hcm.1
  have hcm2 := hcm.2
  clear hcm R hV h2
  go_enter Tryz.func207, Tryz.ntmps207
  go_wp2_with (at_builtin; refine Lib.wpList_append_run _ rfl _ _ _ _ rfl _ _ rfl rfl _ _ hr ?_)
  all_goals (
    go_ret
    exact ⟨b', c', rfl, hb'.imp id (fun e => by omega), hR, hC⟩)
set_option maxHeartbeats 1000000 in
set_option maxRecDepth 100000 in
theorem insE_nil (hV : Blk w vb [e1, e2] 197) :
    Calls Tryz.prog 207 #[.slice none 0 0, .int .i64 0, .slice (some ⟨vb, 0, none⟩) 1 1] w fun e w' => ∃ c', e = .returned (.slice (some ⟨w.heap.size, 0, none⟩) 1 c') ∧ Rw w' 197 2 w.heap.size 1 c' [e1, e2] ∧ Below w.heap.size w w' := by
  obtain ⟨c', W, hr, hR, hC⟩ := app_nil (w := w) KE 198 ⟨vb, 0, none⟩ 1 1 [e1, e2] rfl (fun j u hj => by rw [Addr.add_lit, Nat.zero_add]; exact hV.cell hj) (by decide) (by decide) (by decide)
  clear hV
  go_enter Tryz.func207, Tryz.ntmps207
  go_wp2_with (at_builtin; refine Lib.wpList_append_run _ rfl _ _ _ _ rfl _ _ rfl rfl _ _ hr ?_)
  go_ret
  exact ⟨c', rfl, hR, hC⟩
set_option maxHeartbeats 1000000 in
set_option maxRecDepth 100000 in
theorem insE_shift (R : Rw w 197 2 b n c xs) (hV : Blk w vb [e1, e2] 197) (hvb : vb ≠ b) (hi : i < n) (hroom : n + 1 ≤ c) (h1 : ∀ v ∈ xs, v.oneCell' = true) (h2 : ∀ v ∈ [e1, e2], v.oneCell' = true) :
    Calls Tryz.prog 207 #[.slice (some ⟨b, 0, none⟩) n c, .int .i64 i, .slice (some ⟨vb, 0, none⟩) 1 1] w fun e w' => e = .returned (.slice (some ⟨b, 0, none⟩) (n + 1) c) ∧ Rw w' 197 2 b (n + 1) c (xs.take (i * 2) ++ [e1, e2] ++ xs.drop (i * 2)) ∧ Chg (· = b) w w' := by
  have hx := R.len
  have hcm := R.le
  simp only [maxLen] at hcm
  have hcm1 := hcm.1
  have hcm2 := hcm.2
  have hcd : ∃ cs, Blk w b cs 197 ∧ cs.length = c * 2 := by
    obtain ⟨sp, h, _, h', _⟩ := R.ex
    exact ⟨_, h, h'⟩
  have hov : ∀ (lb cb : Nat), (callFunc 252 #[.slice (some ⟨vb, 0, none⟩) 1 1, .slice (some ⟨b, (i + 1) * 2, none⟩) lb cb]).run Tryz.prog w = .ok (.value (.bool false)) w := fun lb cb => by
    obtain ⟨cs, h, hl⟩ := hcd
    rw [run_callFunc_extern Tryz.func252 (by kernel_rfl) (by kernel_rfl) (by kernel_rfl) (e := Extern.SlicesOverlaps.overlaps #[198, 198] #[4]) (by kernel_rfl),
      Lib.run_overlaps_apart w 198 4 197 KE.und 2 KE.sizeOf ⟨vb, 0, none⟩ ⟨b, (i + 1) * 2, none⟩ 1 1 lb cb hvb 197 197 2 (c * 2) (by simp [World.shape?, hV.blk]) (by simp [World.shape?, h.blk]; simpa using hl) (by omega) (hV.free _) (hV.free _)]
    rfl
  have hdl : (xs.drop (i * 2)).length = (n - i) * 2 := by rw [List.length_drop, hx]; omega
  obtain ⟨s, hs, R'⟩ := R.drew.more (m := 1) hroom
  obtain ⟨W1, hr1, R1, C1⟩ := copy_row (w := w.drew) KE 3 R' ((i + 1) * 2) (n - i) (c - (i + 1)) ⟨b, i * 2, none⟩ (n + 1 - i) (c - i) (xs.drop (i * 2)) (n - i) (by simp only [Nat.min_def]; split <;> omega) hdl
    (fun j v hj => by
      rw [List.getElem?_drop] at hj
      rw [Addr.add_lit]
      exact R.cell (w := w) (by simpa using hj)) (by rw [hdl, R'.len]; omega) (fun v hv => h1 v (List.mem_of_mem_drop hv))
  have hV1 : Blk W1 vb [e1, e2] 197 := hV.drew.chg C1 hvb
  obtain ⟨W2, hr2, R2, C2⟩ := copy_row (w := W1) KE 3 R1 (i * 2) (n + 1 - i) (c - i) ⟨vb, 0, none⟩ 1 1 [e1, e2] 1 (by simp only [Nat.min_def]; split <;> omega) rfl
    (fun j v hj => by rw [Addr.add_lit, Nat.zero_add]; exact hV1.cell hj) (by rw [R1.len]; simp; omega) h2
  have hfin : splice (splice (xs ++ s) ((i + 1) * 2) (xs.drop (i * 2))) (i * 2) [e1, e2] = xs.take (i * 2) ++ [e1, e2] ++ xs.drop (i * 2) := by
    have h := shift_eq xs s [e1, e2] (i * 2) (by omega) (by simp [hs])
    have q0 : s.drop ([e1, e2] : List Value).length = [] := List.drop_of_length_le (by simp [hs])
    rw [q0, List.append_nil] at h
    simpa [Nat.add_mul] using h
  have R3 := R2.to hfin
  have C3 : Chg (· = b) w W2 := ((Chg.refl _ w).drew.trans C1 (fun _ _ h => h)).trans C2 (fun _ _ h => h)
  have hz2 : ¬ ((i : Int) = (n : Int)) := by omega
  have hw1 : IntKind.i64.wrap ((i : Int) + 1) = (i : Int) + 1 := by rw [IntKind.wrap_i64]; omega
  have hb1 : (0 : Int) ≤ (i : Int) + 1 := by omega
  have hin : i ≤ n := by omega
  have htn : ((i : Int) + 1).toNat = i + 1 := by omega
  have hb2 : ¬ (c = i + 1) := by omega
  have hb3 : (i : Int) ≤ (n : Int) + 1 := by omega
  have hb4 : ¬ (c = i) := by omega
  clear hcm R hcd R' R1 R2 C1 C2 hfin hV hV1 hs hdl h1 h2
  have mixed := mixed
  go_enter Tryz.func207, Tryz.ntmps207
  go_wp2_with (simp only [hov])
  go_region
  go_wp2
  go_ret
  exact ⟨rfl, R3, C3⟩
set_option maxHeartbeats 1000000 in
set_option maxRecDepth 100000 in
theorem insE_grow (R : Rw w 197 2 b n c xs) (hV : Blk w vb [e1, e2] 197) (hi : i < n) (hroom : c < n + 1) (hn : n ≤ 1000000000) (h1 : ∀ v ∈ xs, v.oneCell' = true) (h2 : ∀ v ∈ [e1, e2], v.oneCell' = true) :
    Calls Tryz.prog 207 #[.slice (some ⟨b, 0, none⟩) n c, .int .i64 i, .slice (some ⟨vb, 0, none⟩) 1 1] w fun e w' => ∃ c', e = .returned (.slice (some ⟨w.heap.size, 0, none⟩) (n + 1) c') ∧ Rw w' 197 2 w.heap.size (n + 1) c' (xs.take (i * 2) ++ [e1, e2] ++ xs.drop (i * 2)) ∧ Below w.heap.size w w' := by
  have hx := R.len
  have hcm := R.le
  simp only [maxLen] at hcm
  have hcm1 := hcm.1
  have hcm2 := hcm.2
  have hblt := R.lt
  have hvlt := hV.lt
  obtain ⟨c', W1, hr1, R1, B1⟩ := app_zeros KE 3 198 under_int (R.front (m := i) (by omega)) (n + 1 - i) (by omega) (by omega) (by omega) (by omega)
  rw [show ((n + 1 - i : Nat) : Int) = (n : Int) + 1 - (i : Int) by omega, show i + (n + 1 - i) = n + 1 by omega] at hr1
  rw [show i + (n + 1 - i) = n + 1 by omega] at R1
  have hcx := R1.le
  simp only [maxLen] at hcx
  have hcx1 := hcx.1
  have hcx2 := hcx.2
  have hV1 : Blk W1 vb [e1, e2] 197 := hV.keep B1
  obtain ⟨W2, hr2, R2, C2⟩ := copy_row (w := W1) KE 3 R1 (i * 2) (n + 1 - i) (c' - i) ⟨vb, 0, none⟩ 1 1 [e1, e2] 1 (by simp only [Nat.min_def]; split <;> omega) rfl
    (fun j v hj => by rw [Addr.add_lit, Nat.zero_add]; exact hV1.cell hj) (by rw [R1.len]; simp; omega) h2
  have hdl : (xs.drop (i * 2)).length = (n - i) * 2 := by rw [List.length_drop, hx]; omega
  have Rb : Rw W2.drew 197 2 b n c xs := ((R.keep B1).chg C2 (by show ¬ b = w.heap.size; omega)).drew
  obtain ⟨W3, hr3, R3, C3⟩ := copy_row (w := W2.drew) KE 3 R2.drew ((i + 1) * 2) (n - i) (c' - (i + 1)) ⟨b, i * 2, none⟩ (n - i) (c - i) (xs.drop (i * 2)) (n - i) (by simp) hdl
    (fun j v hj => by
      rw [List.getElem?_drop] at hj
      rw [Addr.add_lit]
      exact Rb.cell (by simpa using hj)) (by rw [hdl, R2.len]; omega) (fun v hv => h1 v (List.mem_of_mem_drop hv))
  have hfin : splice (splice (xs.take (i * 2) ++ (Builtin.zeroCells (.agg #[.slice none 0 0, .slice none 0 0] : Value).cells (n + 1 - i)).toList) (i * 2) [e1, e2]) ((i + 1) * 2) (xs.drop (i * 2)) = xs.take (i * 2) ++ [e1, e2] ++ xs.drop (i * 2) := by
    have hA : (xs.take (i * 2)).length = i * 2 := by rw [List.length_take, hx]; omega
    generalize hZ : (Builtin.zeroCells (.agg #[.slice none 0 0, .slice none 0 0] : Value).cells (n + 1 - i)).toList = Z
    have hZl : Z.length = (n + 1 - i) * 2 := by rw [← hZ, Array.length_toList, size_zeroCells]; rfl
    have q1 : xs.take (i * 2) ++ Z = xs.take (i * 2) ++ Z.take 2 ++ Z.drop 2 := by rw [List.append_assoc, List.take_append_drop]
    rw [q1, splice_at _ (Z.take 2) [e1, e2] _ _ hA (by rw [List.length_take]; simp; omega)]
    have q2 := splice_at (xs.take (i * 2) ++ [e1, e2]) (Z.drop 2) (xs.drop (i * 2)) [] ((i + 1) * 2) (by rw [List.length_append, hA]; simp <;> omega) (by rw [List.length_drop, hZl, hdl]; omega)
    simpa using q2
  have R4 := R3.to hfin
  have hBl : Below w.heap.size w W3 := by
    have k2 : Below w.heap.size W1 W2 := C2.below (fun b hb => by omega) (B1.size)
    have k3 : Below w.heap.size W2.drew W3 := C3.below (fun b hb => by omega) (by have := B1.size; have := C2.size; show w.heap.size ≤ W2.heap.size; omega)
    exact (B1.trans k2).trans ((⟨rfl, rfl, rfl, Nat.le_refl _, fun _ _ => rfl⟩ : Below w.heap.size W2 W2.drew).trans k3)
  have hz2 : ¬ ((i : Int) = (n : Int)) := by omega
  have hw1 : IntKind.i64.wrap ((i : Int) + 1) = (i : Int) + 1 := by rw [IntKind.wrap_i64]; omega
  have hb1 : (0 : Int) ≤ (i : Int) + 1 := by omega
  have hin : i ≤ n := by omega
  have htn : ((i : Int) + 1).toNat = i + 1 := by omega
  have hb2 : ¬ (c' = i + 1) := by omega
  have hb2' : i + 1 ≤ n + 1 := by omega
  have hb3 : (i : Int) ≤ (n : Int) + 1 := by omega
  have hb4 : ¬ (c' = i) := by omega
  have hb5 : ¬ (c = i) := by omega
  clear hcm hcx R R1 R2 R3 Rb C2 C3 B1 hfin hV hV1 hdl h1 h2
  have mixed := mixed
  go_enter Tryz.func207, Tryz.ntmps207
  go_wp2_with (at_builtin; refine Lib.wpList_append_run _ rfl _ _ _ _ rfl _ _ rfl rfl _ _ hr1 ?_)
  go_region
  go_wp2
  go_ret
  exact ⟨c', rfl, R4, hBl⟩
/-- slices.Insert of one element -/
theorem insE (R : Rw w 197 2 b n c xs) (hV : Blk w vb [e1, e2] 197) (hvb : vb ≠ b) (hi : i ≤ n) (hn : n ≤ 1000000000) (h1 : ∀ v ∈ xs, v.oneCell' = true) (h2 : ∀ v ∈ [e1, e2], v.oneCell' = true) :
    Calls Tryz.prog 207 #[.slice (some ⟨b, 0, none⟩) n c, .int .i64 i, .slice (some ⟨vb, 0, none⟩) 1 1] w fun e w' => ∃ b' c', e = .returned (.slice (some ⟨b', 0, none⟩) (n + 1) c') ∧ (b' = b ∨ w.heap.size ≤ b') ∧ Rw w' 197 2 b' (n + 1) c' (xs.take (i * 2) ++ [e1, e2] ++ xs.drop (i * 2)) ∧ Chg (· = b) w w' := by
  by_cases h : i = n
  · subst h
    refine (insE_end R hV hn h2).mono ?_
    rintro e w' ⟨b', c', rfl, hb, hR, hC⟩
    exact ⟨b', c', rfl, hb, hR.to (by rw [List.take_of_length_le (by rw [R.len]; omega), List.drop_of_length_le (by rw [R.len]; omega), List.append_nil]), hC⟩
  · by_cases hr : n + 1 ≤ c
    · refine (insE_shift R hV hvb (by omega) hr h1 h2).mono ?_
      rintro e w' ⟨rfl, hR, hC⟩
      exact ⟨b, c, rfl, .inl rfl, hR, hC⟩
    · refine (insE_grow R hV (by omega) (by omega) hn h1 h2).mono ?_
      rintro e w' ⟨c', rfl, hR, hC⟩
      exact ⟨_, c', rfl, .inr (Nat.le_refl _), hR, Chg.of hC⟩
end

section
variable {w : World} {b n c i vb : Nat} {xs : List Value} {e1 : Value}
set_option maxHeartbeats 1000000 in
set_option maxRecDepth 100000 in
theorem insP_end (R : Rw w 198 1 b n c xs) (hV : Blk w vb [e1] 198) (hn : n ≤ 1000000000) (h2 : ∀ v ∈ [e1], v.oneCell' = true) :
    Calls Tryz.prog 255 #[.slice (some ⟨b, 0, none⟩) n c, .int .i64 n, .slice (some ⟨vb, 0, none⟩) 1 1] w fun e w' => ∃ b' c', e = .returned (.slice (some ⟨b', 0, none⟩) (n + 1) c') ∧ (b' = b ∨ w.heap.size ≤ b') ∧ Rw w' 198 1 b' (n + 1) c' (xs ++ [e1]) ∧ Chg (· = b) w w' := by
  obtain ⟨b', c', W, hr, hb', hR, hC⟩ := app_row KP 199 R ⟨vb, 0, none⟩ 1 1 [e1] rfl (fun j u hj => by rw [Addr.add_lit, Nat.zero_add]; exact hV.cell hj) h2 (by omega) (by omega)
  have hcm := R.le
  simp only [maxLen] at hcm
  have hcm1 := hcm.1
  have hcm2 := hcm.2
  clear hcm R hV h2
  go_enter Tryz.func255, Tryz.ntmps255
  go_wp2_with (at_builtin; refine Lib.wpList_append_run _ rfl _ _ _ _ rfl _ _ rfl rfl _ _ hr ?_)
  all_goals (
    go_ret
    exact ⟨b', c', rfl, hb'.imp id (fun e => by omega), hR, hC⟩)
set_option maxHeartbeats 1000000 in
set_option maxRecDepth 100000 in
theorem insP_shift (R : Rw w 198 1 b n c xs) (hV : Blk w vb [e1] 198) (hvb : vb ≠ b) (hi : i < n) (hroom : n + 1 ≤ c) (h1 : ∀ v ∈ xs, v.oneCell' = true) (h2 : ∀ v ∈ [e1], v.oneCell' = true) :
    Calls Tryz.prog 255 #[.slice (some ⟨b, 0, none⟩) n c, .int .i64 i, .slice (some ⟨vb, 0, none⟩) 1 1] w fun e w' => e = .returned (.slice (some ⟨b, 0, none⟩) (n + 1) c) ∧ Rw w' 198 1 b (n + 1) c (xs.take (i * 1) ++ [e1] ++ xs.drop (i * 1)) ∧ Chg (· = b) w w' := by
  have hx := R.len
  have hcm := R.le
  simp only [maxLen] at hcm
  have hcm1 := hcm.1
  have hcm2 := hcm.2
  have hcd : ∃ cs, Blk w b cs 198 ∧ cs.length = c * 1 := by
    obtain ⟨sp, h, _, h', _⟩ := R.ex
    exact ⟨_, h, h'⟩
  have hov : ∀ (lb cb : Nat), (callFunc 311 #[.slice (some ⟨vb, 0, none⟩) 1 1, .slice (some ⟨b, i + 1, none⟩) lb cb]).run Tryz.prog w = .ok (.value (.bool false)) w := fun lb cb => by
    obtain ⟨cs, h, hl⟩ := hcd
    rw [run_callFunc_extern Tryz.func311 (by kernel_rfl) (by kernel_rfl) (by kernel_rfl) (e := Extern.SlicesOverlaps.overlaps #[199, 199] #[4]) (by kernel_rfl),
      Lib.run_overlaps_apart w 199 4 198 KP.und 1 KP.sizeOf ⟨vb, 0, none⟩ ⟨b, i + 1, none⟩ 1 1 lb cb hvb 198 198 1 (c * 1) (by simp [World.shape?, hV.blk]) (by simp [World.shape?, h.blk]; simpa using hl) (by omega) (hV.free _) (hV.free _)]
    rfl
  have hdl : (xs.drop (i * 1)).length = (n - i) * 1 := by rw [List.length_drop, hx]; omega
  obtain ⟨s, hs, R'⟩ := R.drew.more (m := 1) hroom
  obtain ⟨W1, hr1, R1, C1⟩ := copy_row (w := w.drew) KP 3 R' (i + 1) (n - i) (c - (i + 1)) ⟨b, i, none⟩ (n + 1 - i) (c - i) (xs.drop (i * 1)) (n - i) (by simp only [Nat.min_def]; split <;> omega) hdl
    (fun j v hj => by
      rw [List.getElem?_drop] at hj
      rw [Addr.add_lit]
      exact R.cell (w := w) (by simpa using hj)) (by rw [hdl, R'.len]; omega) (fun v hv => h1 v (List.mem_of_mem_drop hv))
  have hV1 : Blk W1 vb [e1] 198 := hV.drew.chg C1 hvb
  obtain ⟨W2, hr2, R2, C2⟩ := copy_row (w := W1) KP 3 R1 (i) (n + 1 - i) (c - i) ⟨vb, 0, none⟩ 1 1 [e1] 1 (by simp only [Nat.min_def]; split <;> omega) rfl
    (fun j v hj => by rw [Addr.add_lit, Nat.zero_add]; exact hV1.cell hj) (by rw [R1.len]; simp; omega) h2
  have hfin : splice (splice (xs ++ s) (i + 1) (xs.drop (i * 1))) (i) [e1] = xs.take (i * 1) ++ [e1] ++ xs.drop (i * 1) := by
    have h := shift_eq xs s [e1] (i * 1) (by omega) (by simp [hs])
    have q0 : s.drop ([e1] : List Value).length = [] := List.drop_of_length_le (by simp [hs])
    rw [q0, List.append_nil] at h
    simpa [Nat.add_mul] using h
  have R3 := R2.to hfin
  have C3 : Chg (· = b) w W2 := ((Chg.refl _ w).drew.trans C1 (fun _ _ h => h)).trans C2 (fun _ _ h => h)
  have hz2 : ¬ ((i : Int) = (n : Int)) := by omega
  have hw1 : IntKind.i64.wrap ((i : Int) + 1) = (i : Int) + 1 := by rw [IntKind.wrap_i64]; omega
  have hb1 : (0 : Int) ≤ (i : Int) + 1 := by omega
  have hin : i ≤ n := by omega
  have htn : ((i : Int) + 1).toNat = i + 1 := by omega
  have hb2 : ¬ (c = i + 1) := by omega
  have hb3 : (i : Int) ≤ (n : Int) + 1 := by omega
  have hb4 : ¬ (c = i) := by omega
  clear hcm R hcd R' R1 R2 C1 C2 hfin hV hV1 hs hdl h1 h2
  have mixed := mixed
  go_enter Tryz.func255, Tryz.ntmps255
  go_wp2_with (simp only [hov])
  go_region
  go_wp2
  go_ret
  exact ⟨rfl, R3, C3⟩
set_option maxHeartbeats 1000000 in
set_option maxRecDepth 100000 in
theorem insP_grow (R : Rw w 198 1 b n c xs) (hV : Blk w vb [e1] 198) (hi : i < n) (hroom : c < n + 1) (hn : n ≤ 1000000000) (h1 : ∀ v ∈ xs, v.oneCell' = true) (h2 : ∀ v ∈ [e1], v.oneCell' = true) :
    Calls Tryz.prog 255 #[.slice (some ⟨b, 0, none⟩) n c, .int .i64 i, .slice (some ⟨vb, 0, none⟩) 1 1] w fun e w' => ∃ c', e = .returned (.slice (some ⟨w.heap.size, 0, none⟩) (n + 1) c') ∧ Rw w' 198 1 w.heap.size (n + 1) c' (xs.take (i * 1) ++ [e1] ++ xs.drop (i * 1)) ∧ Below w.heap.size w w' := by
  have hx := R.len
  have hcm := R.le
  simp only [maxLen] at hcm
  have hcm1 := hcm.1
  have hcm2 := hcm.2
  have hblt := R.lt
  have hvlt := hV.lt
  obtain ⟨c', W1, hr1, R1, B1⟩ := app_zeros KP 3 199 under_int (R.front (m := i) (by omega)) (n + 1 - i) (by omega) (by omega) (by omega) (by omega)
  rw [show ((n + 1 - i : Nat) : Int) = (n : Int) + 1 - (i : Int) by omega, show i + (n + 1 - i) = n + 1 by omega] at hr1
  rw [show i + (n + 1 - i) = n + 1 by omega] at R1
  have hcx := R1.le
  simp only [maxLen] at hcx
  have hcx1 := hcx.1
  have hcx2 := hcx.2
  have hV1 : Blk W1 vb [e1] 198 := hV.keep B1
  obtain ⟨W2, hr2, R2, C2⟩ := copy_row (w := W1) KP 3 R1 (i) (n + 1 - i) (c' - i) ⟨vb, 0, none⟩ 1 1 [e1] 1 (by simp only [Nat.min_def]; split <;> omega) rfl
    (fun j v hj => by rw [Addr.add_lit, Nat.zero_add]; exact hV1.cell hj) (by rw [R1.len]; simp; omega) h2
  have hdl : (xs.drop (i * 1)).length = (n - i) * 1 := by rw [List.length_drop, hx]; omega
  have Rb : Rw W2.drew 198 1 b n c xs := ((R.keep B1).chg C2 (by show ¬ b = w.heap.size; omega)).drew
  obtain ⟨W3, hr3, R3, C3⟩ := copy_row (w := W2.drew) KP 3 R2.drew (i + 1) (n - i) (c' - (i + 1)) ⟨b, i, none⟩ (n - i) (c - i) (xs.drop (i * 1)) (n - i) (by simp) hdl
    (fun j v hj => by
      rw [List.getElem?_drop] at hj
      rw [Addr.add_lit]
      exact Rb.cell (by simpa using hj)) (by rw [hdl, R2.len]; omega) (fun v hv => h1 v (List.mem_of_mem_drop hv))
  have hfin : splice (splice (xs.take (i * 1) ++ (Builtin.zeroCells (.slice none 0 0 : Value).cells (n + 1 - i)).toList) (i) [e1]) (i + 1) (xs.drop (i * 1)) = xs.take (i * 1) ++ [e1] ++ xs.drop (i * 1) := by
    have hA : (xs.take (i * 1)).length = i := by rw [List.length_take, hx]; omega
    generalize hZ : (Builtin.zeroCells (.slice none 0 0 : Value).cells (n + 1 - i)).toList = Z
    have hZl : Z.length = (n + 1 - i) * 1 := by rw [← hZ, Array.length_toList, size_zeroCells]; rfl
    have q1 : xs.take (i * 1) ++ Z = xs.take (i * 1) ++ Z.take 1 ++ Z.drop 1 := by rw [List.append_assoc, List.take_append_drop]
    rw [q1, splice_at _ (Z.take 1) [e1] _ _ hA (by rw [List.length_take]; simp; omega)]
    have q2 := splice_at (xs.take (i * 1) ++ [e1]) (Z.drop 1) (xs.drop (i * 1)) [] (i + 1) (by rw [List.length_append, hA]; simp <;> omega) (by rw [List.length_drop, hZl, hdl]; omega)
    simpa using q2
  have R4 := R3.to hfin
  have hBl : Below w.heap.size w W3 := by
    have k2 : Below w.heap.size W1 W2 := C2.below (fun b hb => by omega) (B1.size)
    have k3 : Below w.heap.size W2.drew W3 := C3.below (fun b hb => by omega) (by have := B1.size; have := C2.size; show w.heap.size ≤ W2.heap.size; omega)
    exact (B1.trans k2).trans ((⟨rfl, rfl, rfl, Nat.le_refl _, fun _ _ => rfl⟩ : Below w.heap.size W2 W2.drew).trans k3)
  have hz2 : ¬ ((i : Int) = (n : Int)) := by omega
  have hw1 : IntKind.i64.wrap ((i : Int) + 1) = (i : Int) + 1 := by rw [IntKind.wrap_i64]; omega
  have hb1 : (0 : Int) ≤ (i : Int) + 1 := by omega
  have hin : i ≤ n := by omega
  have htn : ((i : Int) + 1).toNat = i + 1 := by omega
  have hb2 : ¬ (c' = i + 1) := by omega
  have hb2' : i + 1 ≤ n + 1 := by omega
  have hb3 : (i : Int) ≤ (n : Int) + 1 := by omega
  have hb4 : ¬ (c' = i) := by omega
  have hb5 : ¬ (c = i) := by omega
  clear hcm hcx R R1 R2 R3 Rb C2 C3 B1 hfin hV hV1 hdl h1 h2
  have mixed := mixed
  go_enter Tryz.func255, Tryz.ntmps255
  go_wp2_with (at_builtin; refine Lib.wpList_append_run _ rfl _ _ _ _ rfl _ _ rfl rfl _ _ hr1 ?_)
  go_region
  go_wp2
  go_ret
  exact ⟨c', rfl, R4, hBl⟩
/-- slices.Insert of one element -/
theorem insP (R : Rw w 198 1 b n c xs) (hV : Blk w vb [e1] 198) (hvb : vb ≠ b) (hi : i ≤ n) (hn : n ≤ 1000000000) (h1 : ∀ v ∈ xs, v.oneCell' = true) (h2 : ∀ v ∈ [e1], v.oneCell' = true) :
    Calls Tryz.prog 255 #[.slice (some ⟨b, 0, none⟩) n c, .int .i64 i, .slice (some ⟨vb, 0, none⟩) 1 1] w fun e w' => ∃ b' c', e = .returned (.slice (some ⟨b', 0, none⟩) (n + 1) c') ∧ (b' = b ∨ w.heap.size ≤ b') ∧ Rw w' 198 1 b' (n + 1) c' (xs.take (i * 1) ++ [e1] ++ xs.drop (i * 1)) ∧ Chg (· = b) w w' := by
  by_cases h : i = n
  · subst h
    refine (insP_end R hV hn h2).mono ?_
    rintro e w' ⟨b', c', rfl, hb, hR, hC⟩
    exact ⟨b', c', rfl, hb, hR.to (by rw [List.take_of_length_le (by rw [R.len]; omega), List.drop_of_length_le (by rw [R.len]; omega), List.append_nil]), hC⟩
  · by_cases hr : n + 1 ≤ c
    · refine (insP_shift R hV hvb (by omega) hr h1 h2).mono ?_
      rintro e w' ⟨rfl, hR, hC⟩
      exact ⟨b, c, rfl, .inl rfl, hR, hC⟩
    · refine (insP_grow R hV (by omega) (by omega) hn h1 h2).mono ?_
      rintro e w' ⟨c', rfl, hR, hC⟩
      exact ⟨_, c', rfl, .inr (Nat.le_refl _), hR, Chg.of hC⟩
end
end Pg
end Go.Proofs.YtpoifdokmjhclaaGreat

namespace Go.Proofs.YtpoifdokmjhclaaGreat
namespace Pg
open Go.RowKit Go.Lib

section
variable {w : World} {b n c i : Nat} {xs : List Value}
set_option maxHeartbeats 1000000 in
set_option maxRecDepth 100000 in
theorem delE_mid (R : Rw w 197 2 b n c xs) (hi : i < n) (hne : c ≠ i + 1) (h1 : ∀ v ∈ xs, v.oneCell' = true) :
    Calls Tryz.prog 258 #[.slice (some ⟨b, 0, none⟩) n c, .int .i64 i, .int .i64 (i + 1)] w fun e w' => e = .returned (.slice (some ⟨b, 0, none⟩) (n - 1) c) ∧ Rw w' 197 2 b (n - 1) c (xs.take (i * 2) ++ xs.drop ((i + 1) * 2)) ∧ Chg (· = b) w w' := by
  have hx := R.len
  have hcm := R.le
  simp only [maxLen] at hcm
  have hcm1 := hcm.1
  have hcm2 := hcm.2
  have hdl : (xs.drop ((i + 1) * 2)).length = (n - (i + 1)) * 2 := by rw [List.length_drop, hx]; omega
  obtain ⟨W1, hr1, R1, C1⟩ := app_room KE 198 (R.drew.front (m := i) (by omega)) ⟨b, (i + 1) * 2, none⟩ (n - (i + 1)) (c - (i + 1)) (xs.drop ((i + 1) * 2)) hdl
    (fun j v hj => by
      rw [List.getElem?_drop] at hj
      rw [Addr.add_lit]
      exact R.drew.cell (by simpa using hj)) (fun v hv => h1 v (List.mem_of_mem_drop hv)) (by omega)
  rw [show i + (n - (i + 1)) = n - 1 by omega] at R1
  obtain ⟨W2, hr2, R2, C2⟩ := clear_row KE 0 R1 (n - (n - 1)) (c - (n - 1)) (by omega) (by omega)
  have C3 : Chg (· = b) w W2 := ((Chg.refl _ w).drew.trans C1 (fun _ _ h => h)).trans C2 (fun _ _ h => h)
  obtain ⟨q, hq⟩ : ∃ q, n = i + 1 + q := ⟨n - (i + 1), by omega⟩
  subst hq
  rw [show i + 1 + q - (i + 1) = q by omega] at hr1
  rw [show i + 1 + q - 1 = i + q by omega] at hr2 R2 ⊢
  have hz2 : ¬ ((i : Int) = (i : Int) + 1) := by omega
  have hin : i ≤ i + 1 + q := by omega
  have hb2 : ¬ (c = i + 1) := hne
  have hb1 : (0 : Int) ≤ (i : Int) + 1 := by omega
  have hic : i ≤ c := by omega
  have htn : ((i : Int) + 1).toNat = i + 1 := by omega
  have hb6 : ¬ (c = i + q) := by omega
  have hb7 : (i : Int) + 1 ≤ ((i + 1 + q : Nat) : Int) := by omega
  have hb8 : i + 1 ≤ i + 1 + q := by omega
  have hb7b : (i : Int) + 1 ≤ (i : Int) + 1 + (q : Int) := by omega
  have hb9 : ((i + 1 + q : Nat) : Int) ≤ (c : Int) := by omega
  clear hcm R R1 C1 C2 hdl h1
  have mixed := mixed
  go_enter Tryz.func258, Tryz.ntmps258
  go_wp2
  go_region_law_o (refine step_app rfl (.tmp 22) (.tmp 25) 198 198 rfl _ _ (by simp [Act.eval, Act.put]) (by simp [Act.eval, Act.put]) hr1 ?_)
  go_wp2
  go_ret
  exact ⟨rfl, R2, C3⟩
set_option maxHeartbeats 1000000 in
set_option maxRecDepth 100000 in
theorem delE_last (R : Rw w 197 2 b (i + 1) (i + 1) xs) :
    Calls Tryz.prog 258 #[.slice (some ⟨b, 0, none⟩) (i + 1) (i + 1), .int .i64 i, .int .i64 (i + 1)] w fun e w' => e = .returned (.slice (some ⟨b, 0, none⟩) i (i + 1)) ∧ Rw w' 197 2 b i (i + 1) (xs.take (i * 2)) ∧ Chg (· = b) w w' := by
  have hcm := R.le
  simp only [maxLen] at hcm
  have hcm2 := hcm.2
  obtain ⟨W1, hr1, R1, C1⟩ := app_room KE 198 (R.drew.front (m := i) (by omega)) ⟨b, 0, none⟩ 0 0 [] (by simp) (fun j v hj => by simp at hj) (fun v hv => by simp at hv) (by omega)
  rw [Nat.add_zero] at R1 hr1
  rw [List.append_nil] at R1
  obtain ⟨W2, hr2, R2, C2⟩ := clear_row KE 0 R1 1 1 (by omega) (by omega)
  have C3 : Chg (· = b) w W2 := ((Chg.refl _ w).drew.trans C1 (fun _ _ h => h)).trans C2 (fun _ _ h => h)
  have hz2 : ¬ ((i : Int) = (i : Int) + 1) := by omega
  have hin : i ≤ i + 1 := by omega
  have hb1 : (0 : Int) ≤ (i : Int) + 1 := by omega
  have htn : ((i : Int) + 1).toNat = i + 1 := by omega
  have e1 : i + 1 - i = 1 := by omega
  have hii : (i : Int) ≤ (i : Int) + 1 := by omega
  clear hcm R R1 C1 C2
  have mixed := mixed
  go_enter Tryz.func258, Tryz.ntmps258
  go_wp2
  go_region_law_o (refine step_app rfl (.tmp 22) (.tmp 25) 198 198 rfl _ _ (by simp [Act.eval, Act.put]) (by simp [Act.eval, Act.put]) hr1 ?_)
  go_wp2
  go_ret
  exact ⟨rfl, R2, C3⟩
/-- slices.Delete of one element -/
theorem delE (R : Rw w 197 2 b n c xs) (hi : i < n) (h1 : ∀ v ∈ xs, v.oneCell' = true) :
    Calls Tryz.prog 258 #[.slice (some ⟨b, 0, none⟩) n c, .int .i64 i, .int .i64 (i + 1)] w fun e w' => e = .returned (.slice (some ⟨b, 0, none⟩) (n - 1) c) ∧ Rw w' 197 2 b (n - 1) c (xs.take (i * 2) ++ xs.drop ((i + 1) * 2)) ∧ Chg (· = b) w w' := by
  by_cases h : c = i + 1
  · have hl := R.le
    obtain rfl : n = i + 1 := by omega
    subst h
    refine (delE_last R).mono ?_
    rintro e w' ⟨rfl, hR, hC⟩
    exact ⟨by simp, hR.to (by rw [List.drop_of_length_le (by rw [R.len]; omega), List.append_nil]), hC⟩
  · exact delE_mid R hi h h1
end

section
variable {w : World} {b n c i : Nat} {xs : List Value}
set_option maxHeartbeats 1000000 in
set_option maxRecDepth 100000 in
theorem delP_mid (R : Rw w 198 1 b n c xs) (hi : i < n) (hne : c ≠ i + 1) (h1 : ∀ v ∈ xs, v.oneCell' = true) :
    Calls Tryz.prog 259 #[.slice (some ⟨b, 0, none⟩) n c, .int .i64 i, .int .i64 (i + 1)] w fun e w' => e = .returned (.slice (some ⟨b, 0, none⟩) (n - 1) c) ∧ Rw w' 198 1 b (n - 1) c (xs.take (i * 1) ++ xs.drop ((i + 1) * 1)) ∧ Chg (· = b) w w' := by
  have hx := R.len
  have hcm := R.le
  simp only [maxLen] at hcm
  have hcm1 := hcm.1
  have hcm2 := hcm.2
  have hdl : (xs.drop ((i + 1) * 1)).length = (n - (i + 1)) * 1 := by rw [List.length_drop, hx]; omega
  obtain ⟨W1, hr1, R1, C1⟩ := app_room KP 199 (R.drew.front (m := i) (by omega)) ⟨b, i + 1, none⟩ (n - (i + 1)) (c - (i + 1)) (xs.drop ((i + 1) * 1)) hdl
    (fun j v hj => by
      rw [List.getElem?_drop] at hj
      rw [Addr.add_lit]
      exact R.drew.cell (by simpa using hj)) (fun v hv => h1 v (List.mem_of_mem_drop hv)) (by omega)
  rw [show i + (n - (i + 1)) = n - 1 by omega] at R1
  obtain ⟨W2, hr2, R2, C2⟩ := clear_row KP 0 R1 (n - (n - 1)) (c - (n - 1)) (by omega) (by omega)
  have C3 : Chg (· = b) w W2 := ((Chg.refl _ w).drew.trans C1 (fun _ _ h => h)).trans C2 (fun _ _ h => h)
  obtain ⟨q, hq⟩ : ∃ q, n = i + 1 + q := ⟨n - (i + 1), by omega⟩
  subst hq
  rw [show i + 1 + q - (i + 1) = q by omega] at hr1
  rw [show i + 1 + q - 1 = i + q by omega] at hr2 R2 ⊢
  simp only [Nat.mul_one] at hr2
  have hz2 : ¬ ((i : Int) = (i : Int) + 1) := by omega
  have hin : i ≤ i + 1 + q := by omega
  have hb2 : ¬ (c = i + 1) := hne
  have hb1 : (0 : Int) ≤ (i : Int) + 1 := by omega
  have hic : i ≤ c := by omega
  have htn : ((i : Int) + 1).toNat = i + 1 := by omega
  have hb6 : ¬ (c = i + q) := by omega
  have hb7 : (i : Int) + 1 ≤ ((i + 1 + q : Nat) : Int) := by omega
  have hb8 : i + 1 ≤ i + 1 + q := by omega
  have hb7b : (i : Int) + 1 ≤ (i : Int) + 1 + (q : Int) := by omega
  have hb9 : ((i + 1 + q : Nat) : Int) ≤ (c : Int) := by omega
  clear hcm R R1 C1 C2 hdl h1
  have mixed := mixed
  go_enter Tryz.func259, Tryz.ntmps259
  go_wp2
  go_region_law_o (refine step_app rfl (.tmp 22) (.tmp 25) 199 199 rfl _ _ (by simp [Act.eval, Act.put]) (by simp [Act.eval, Act.put]) hr1 ?_)
  go_wp2
  go_ret
  exact ⟨rfl, R2, C3⟩
set_option maxHeartbeats 1000000 in
set_option maxRecDepth 100000 in
theorem delP_last (R : Rw w 198 1 b (i + 1) (i + 1) xs) :
    Calls Tryz.prog 259 #[.slice (some ⟨b, 0, none⟩) (i + 1) (i + 1), .int .i64 i, .int .i64 (i + 1)] w fun e w' => e = .returned (.slice (some ⟨b, 0, none⟩) i (i + 1)) ∧ Rw w' 198 1 b i (i + 1) (xs.take (i * 1)) ∧ Chg (· = b) w w' := by
  have hcm := R.le
  simp only [maxLen] at hcm
  have hcm2 := hcm.2
  obtain ⟨W1, hr1, R1, C1⟩ := app_room KP 199 (R.drew.front (m := i) (by omega)) ⟨b, 0, none⟩ 0 0 [] (by simp) (fun j v hj => by simp at hj) (fun v hv => by simp at hv) (by omega)
  rw [Nat.add_zero] at R1 hr1
  rw [List.append_nil] at R1
  obtain ⟨W2, hr2, R2, C2⟩ := clear_row KP 0 R1 1 1 (by omega) (by omega)
  have C3 : Chg (· = b) w W2 := ((Chg.refl _ w).drew.trans C1 (fun _ _ h => h)).trans C2 (fun _ _ h => h)
  simp only [Nat.mul_one] at hr2
  have hz2 : ¬ ((i : Int) = (i : Int) + 1) := by omega
  have hin : i ≤ i + 1 := by omega
  have hb1 : (0 : Int) ≤ (i : Int) + 1 := by omega
  have htn : ((i : Int) + 1).toNat = i + 1 := by omega
  have e1 : i + 1 - i = 1 := by omega
  have hii : (i : Int) ≤ (i : Int) + 1 := by omega
  clear hcm R R1 C1 C2
  have mixed := mixed
  go_enter Tryz.func259, Tryz.ntmps259
  go_wp2
  go_region_law_o (refine step_app rfl (.tmp 22) (.tmp 25) 199 199 rfl _ _ (by simp [Act.eval, Act.put]) (by simp [Act.eval, Act.put]) hr1 ?_)
  go_wp2
  go_ret
  exact ⟨rfl, R2, C3⟩
/-- slices.Delete of one element -/
theorem delP (R : Rw w 198 1 b n c xs) (hi : i < n) (h1 : ∀ v ∈ xs, v.oneCell' = true) :
    Calls Tryz.prog 259 #[.slice (some ⟨b, 0, none⟩) n c, .int .i64 i, .int .i64 (i + 1)] w fun e w' => e = .returned (.slice (some ⟨b, 0, none⟩) (n - 1) c) ∧ Rw w' 198 1 b (n - 1) c (xs.take (i * 1) ++ xs.drop ((i + 1) * 1)) ∧ Chg (· = b) w w' := by
  by_cases h : c = i + 1
  · have hl := R.le
    obtain rfl : n = i + 1 := by omega
    subst h
    refine (delP_last R).mono ?_
    rintro e w' ⟨rfl, hR, hC⟩
    exact ⟨by simp, hR.to (by rw [List.drop_of_length_le (by rw [R.len]; omega), List.append_nil]), hC⟩
  · exact delP_mid R hi h h1
end
end Pg
end Go.Proofs.YtpoifdokmjhclaaGreat

namespace Go.Proofs.YtpoifdokmjhclaaGreat
namespace Pg
open Go.RowKit Go.Lib

abbrev Oct (l : List Int) : Prop := ∀ x ∈ l, 0 ≤ x ∧ x < 256
/-- the slice v holds the bytes l -/
structure By (w : World) (v : Value) (l : List Int) : Prop where
  ex : ∃ ao c, v = .slice ao l.length c ∧ l.length ≤ c ∧ c ≤ 9223372036854775807 ∧ (ao = none → c = 0) ∧ Oct l ∧ (l = [] ∨ ∃ b o, ao = some ⟨b, o, none⟩ ∧ b < w.heap.size ∧ ∀ i x, l[i]? = some x → w.cell? ⟨b, o + i, none⟩ = some (.int .u8 x))
theorem By.keep {w w' : World} {v : Value} {l : List Int} (h : By w v l) (hb : Below w.heap.size w w') : By w' v l := by
  obtain ⟨ao, c, h1, h2, h3, h4, h5, h6⟩ := h.ex
  refine ⟨ao, c, h1, h2, h3, h4, h5, h6.imp id ?_⟩
  rintro ⟨b, o, e, hlt, hc⟩
  exact ⟨b, o, e, Nat.lt_of_lt_of_le hlt hb.size, fun i x hi => by rw [hb.cell (p := ⟨b, o + i, none⟩) hlt]; exact hc i x hi⟩
theorem By.drew {w : World} {v : Value} {l : List Int} (h : By w v l) : By w.drew v l := h.keep ⟨rfl, rfl, rfl, Nat.le_refl _, fun _ _ => rfl⟩
theorem By.oct {w : World} {v : Value} {l : List Int} (h : By w v l) : Oct l := by
  obtain ⟨ao, c, h1, h2, h3, h4, h5, h6⟩ := h.ex; exact h5
theorem By.nil (w : World) : By w (.slice none 0 0) [] := ⟨none, 0, rfl, by decide, by decide, fun _ => rfl, fun _ h => by simp at h, .inl rfl⟩
/-- v holds the bytes l in a block of its own, which is one of D -/
structure OB (w : World) (D : Nat → Prop) (v : Value) (l : List Int) : Prop where
  oct : Oct l
  ex : (v = .slice none 0 0 ∧ l = []) ∨ ∃ b c, v = .slice (some ⟨b, 0, none⟩) l.length c ∧ D b ∧ Rw w 5 1 b l.length c (l.map (Value.int .u8))
theorem OB.by {w : World} {D : Nat → Prop} {v : Value} {l : List Int} (h : OB w D v l) : By w v l := by
  rcases h.ex with ⟨rfl, rfl⟩ | ⟨b, c, rfl, hd, hR⟩
  · exact By.nil w
  · have hl := hR.le
    simp only [maxLen] at hl
    exact ⟨_, c, rfl, by omega, by omega, (fun e => by cases e), h.oct, .inr ⟨b, 0, rfl, hR.lt, fun i x hi => by rw [Nat.zero_add]; exact hR.cell (by simp [hi])⟩⟩
theorem OB.mono {w : World} {D D' : Nat → Prop} {v : Value} {l : List Int} (h : OB w D v l) (hD : ∀ b, b < w.heap.size → D b → D' b) : OB w D' v l := by
  refine ⟨h.oct, h.ex.imp id ?_⟩
  rintro ⟨b, c, e, hd, hR⟩
  exact ⟨b, c, e, hD b hR.lt hd, hR⟩
theorem OB.same {w w' : World} {D : Nat → Prop} {v : Value} {l : List Int} (h : OB w D v l) (hD : ∀ b, b < w.heap.size → D b → w'.heap[b]? = w.heap[b]?) : OB w' D v l := by
  refine ⟨h.oct, h.ex.imp id ?_⟩
  rintro ⟨b, c, e, hd, hR⟩
  exact ⟨b, c, e, hd, hR.same (hD b hR.lt hd)⟩
theorem OB.keep {w w' : World} {D : Nat → Prop} {v : Value} {l : List Int} (h : OB w D v l) (hb : Below w.heap.size w w') : OB w' D v l := h.same fun b hb' _ => hb.block b hb'
theorem OB.one {w : World} {D : Nat → Prop} {v : Value} {l : List Int} (h : OB w D v l) : v.oneCell' = true := by
  rcases h.ex with ⟨rfl, rfl⟩ | ⟨b, c, rfl, hd, hR⟩ <;> rfl

/-- the order of bytes -/
def cmpB : List Int → List Int → Int
  | [], [] => 0
  | [], _ :: _ => -1
  | _ :: _, [] => 1
  | x :: a, y :: b => if x < y then -1 else if y < x then 1 else cmpB a b
theorem u8_lt {x y : Int} (hx : 0 ≤ x ∧ x < 256) (hy : 0 ≤ y ∧ y < 256) : (UInt8.ofNat x.toNat < UInt8.ofNat y.toNat) ↔ x < y := by
  rw [UInt8.lt_iff_toNat_lt, UInt8.toNat_ofNat_of_lt' (by show x.toNat < 256; omega), UInt8.toNat_ofNat_of_lt' (by show y.toNat < 256; omega)]
  omega
theorem compare_cmpB : ∀ (l l' : List Int), Oct l → Oct l' → compareBytes (bytesOf l) (bytesOf l') = cmpB l l'
  | [], [], _, _ => rfl
  | [], _ :: _, _, _ => rfl
  | _ :: _, [], _, _ => rfl
  | x :: a, y :: b, h, h' => by
    have ih := compare_cmpB a b (fun z hz => h z (List.mem_cons_of_mem _ hz)) (fun z hz => h' z (List.mem_cons_of_mem _ hz))
    have hx := h x List.mem_cons_self
    have hy := h' y List.mem_cons_self
    show (if UInt8.ofNat x.toNat < UInt8.ofNat y.toNat then _ else if UInt8.ofNat y.toNat < UInt8.ofNat x.toNat then _ else compareBytes (bytesOf a) (bytesOf b)) = _
    rw [cmpB]
    simp only [u8_lt hx hy, u8_lt hy hx, ih]
theorem run_bytesOf {P : Program} {w : World} {v : Value} {l : List Int} (h : By w v l) : (Extern.Bytes.bytesOf v).run P w = .ok ⟨(bytesOf l).toArray⟩ w := by
  obtain ⟨ao, c, rfl, h2, h3, h4, h5, h6⟩ := h.ex
  cases ao with
  | none =>
    have : l = [] := List.eq_nil_of_length_eq_zero (by have := h4 rfl; omega)
    subst this
    rfl
  | some a =>
    rcases h6 with rfl | ⟨b, o, e, hlt, hc⟩
    · rfl
    · cases e
      have := run_loadBytesX (P := P) w l ⟨b, o, none⟩ .empty (fun j x hj => by rw [Addr.add_lit]; exact hc j x hj)
      show (Extern.Bytes.loadBytes ⟨b, o, none⟩ l.length .empty).run P w = _
      rw [this]
      congr 1
      apply ByteArray.ext
      simp
set_option maxHeartbeats 1000000 in
set_option maxRecDepth 100000 in
theorem compare_any {w : World} {v v' : Value} {l l' : List Int} (h : By w v l) (h' : By w v' l') :
    Calls Tryz.prog 200 #[v, v'] w fun e w' => e = .returned (.int .i64 (cmpB l l')) ∧ w' = w := by
  have hr : (callFunc 250 #[v, v']).run Tryz.prog w = .ok (.value (.int .i64 (cmpB l l'))) w := by
    rw [run_callFunc_extern Tryz.func250 (by kernel_rfl) (by kernel_rfl) (by kernel_rfl) (e := Extern.BytealgCompare.compare) (by kernel_rfl)]
    have : (Extern.BytealgCompare.compare #[v, v']).run Tryz.prog w = .ok (.int .i64 (cmpB l l')) w := by
      change Sem.run Tryz.prog (do pure (goInt (Extern.BytealgCompare.cmp (← Extern.Bytes.bytesOf v) (← Extern.Bytes.bytesOf v')))) w = _
      simp only [Sem.run_bind, run_bytesOf h, run_bytesOf h', Sem.run_pure, Result.andThen]
      rw [cmp_eq, compare_cmpB l l' h.oct h'.oct]
      rfl
    rw [this]; rfl
  clear h h'
  generalize cmpB l l' = x at *
  go_enter Tryz.func200, Tryz.ntmps200
  go_wp2_with (simp only [hr])
  go_ret
  exact ⟨rfl, rfl⟩
theorem KB : Kd Tryz.prog 29 5 1 1 (.int .u8 0) := ⟨by kernel_rfl, by kernel_rfl, rfl, by simp [Value.cells, Value.oneCell'], by decide⟩
theorem blk_cell {w : World} {a : Addr} {v : Value} (h : w.cell? a = some v) (o : Obj) : (w.alloc o).cell? a = some v := by
  have hlt : a.block < w.heap.size := by
    unfold World.cell? at h
    cases hh : w.heap[a.block]? with
    | none => simp [hh] at h
    | some ob => exact lt_of_block hh
  rw [(below_alloc w o).cell hlt]; exact h
theorem map_u8 (l : List Int) : ∀ v ∈ l.map (Value.int .u8), v.oneCell' = true := by
  intro v hv
  obtain ⟨x, _, rfl⟩ := List.mem_map.1 hv
  rfl
set_option maxHeartbeats 1000000 in
set_option maxRecDepth 100000 in
/-- bytes.Clone -/
theorem clone_any {w : World} {v : Value} {l : List Int} (h : By w v l) (hbig : l.length ≤ 1000000000) :
    Calls Tryz.prog 104 #[v] w fun e w' => ∃ v', e = .returned v' ∧ OB w' (w.heap.size ≤ ·) v' l ∧ Below w.heap.size w w' := by
  have ho := h.oct
  obtain ⟨ao, c, rfl, h2, h3, h4, h5, h6⟩ := h.ex
  cases ao with
  | none =>
    have hl : l = [] := List.eq_nil_of_length_eq_zero (by have := h4 rfl; omega)
    subst hl
    have hnil := fun (w : World) (a : Option Addr) (n c : Nat) => Go.Lib.run_eql_slice_nil (P := Tryz.prog) w 29 _ a n c 0 0 KB.und
    go_enter Tryz.func104, Tryz.ntmps104
    go_wp2
    go_ret
    exact ⟨_, rfl, ⟨ho, .inl ⟨rfl, rfl⟩⟩, Below.refl _ _⟩
  | some a =>
    have R0 : Rw (w.alloc (.cells #[] 5)) 5 1 w.heap.size 0 0 [] := blk_rw (blk_new w [] _) rfl (by decide)
    have hc0 : ∀ j u, (l.map (Value.int .u8))[j]? = some u → (w.alloc (.cells #[] 5)).cell? (a.add j) = some u := fun j u hj => by
      rcases h6 with rfl | ⟨b, o, e, hlt, hc⟩
      · simp at hj
      · cases e
        rw [List.getElem?_map] at hj
        obtain ⟨x, hx, rfl⟩ := Option.map_eq_some_iff.1 hj
        exact blk_cell (by rw [Addr.add_lit]; exact hc j x hx) _
    obtain ⟨b', c', W, hr, hb', hR, hC⟩ := app_row KB 29 R0 a l.length c (l.map (Value.int .u8)) (by simp) hc0 (map_u8 l) (by omega) (by omega)
    rw [Nat.zero_add] at hr hR
    have hB : Below w.heap.size w W := (below_alloc w (.cells #[] 5)).trans (hC.below (fun b hb => by omega) (below_alloc w _).size)
    have hb2 : w.heap.size ≤ b' := by rcases hb' with e | e; omega; rw [World.size_alloc] at e; omega
    have hF : OB W (w.heap.size ≤ ·) (.slice (some ⟨b', 0, none⟩) l.length c') l := ⟨ho, .inr ⟨b', c', rfl, hb2, hR.to (by simp)⟩⟩
    clear R0 hc0 h6 h hR hC h5 hb'
    have hnil := fun (w : World) (a : Option Addr) (n c : Nat) => Go.Lib.run_eql_slice_nil (P := Tryz.prog) w 29 _ a n c 0 0 KB.und
    go_enter Tryz.func104, Tryz.ntmps104
    go_wp2_with (at_builtin; refine Lib.wpList_append_run _ rfl _ _ _ _ rfl _ _ rfl rfl _ _ hr ?_)
    go_ret
    exact ⟨_, rfl, hF, hB⟩
set_option maxHeartbeats 1000000 in
set_option maxRecDepth 100000 in
/-- slices.Clone of entries that lie at a -/
theorem cloneE {w : World} {a : Addr} {n c : Nat} {xs : List Value} (hn : n ≤ 1000000000) (hx : xs.length = n * 2) (hc : ∀ j v, xs[j]? = some v → w.cell? (a.add j) = some v) (h1 : ∀ v ∈ xs, v.oneCell' = true) :
    Calls Tryz.prog 254 #[.slice (some a) n c] w fun e w' => ∃ b' c', e = .returned (.slice (some ⟨b', 0, none⟩) n c') ∧ w.heap.size ≤ b' ∧ Rw w' 197 2 b' n c' xs ∧ Below w.heap.size w w' := by
  have R0 : Rw (w.alloc (.cells #[] 197)) 197 2 w.heap.size 0 0 [] := blk_rw (blk_new w [] _) rfl (by decide)
  obtain ⟨b', c', W, hr, hb', hR, hC⟩ := app_row KE 198 R0 a n c xs hx (fun j v hj => blk_cell (hc j v hj) _) h1 (by omega) (by omega)
  rw [Nat.zero_add] at hr hR
  rw [List.nil_append] at hR
  have hB : Below w.heap.size w W := (below_alloc w (.cells #[] 197)).trans (hC.below (fun b hb => by omega) (below_alloc w _).size)
  have hb2 : w.heap.size ≤ b' := by rcases hb' with e | e; omega; rw [World.size_alloc] at e; omega
  clear R0 hc h1 hC hb'
  have hnil := fun (w : World) (a : Option Addr) (n c : Nat) => Go.Lib.run_eql_slice_nil (P := Tryz.prog) w 198 _ a n c 0 0 KE.und
  go_enter Tryz.func254, Tryz.ntmps254
  go_wp2_with (at_builtin; refine Lib.wpList_append_run _ rfl _ _ _ _ rfl _ _ rfl rfl _ _ hr ?_)
  go_ret
  exact ⟨b', c', rfl, hb2, hR, hB⟩
set_option maxHeartbeats 1000000 in
set_option maxRecDepth 100000 in
/-- slices.Grow of nothing -/
theorem growE {w : World} {n : Nat} (h0 : 0 < n) (hn : n ≤ 1000000000) :
    Calls Tryz.prog 354 #[.slice none 0 0, .int .i64 n] w fun e w' => ∃ b' c', e = .returned (.slice (some ⟨b', 0, none⟩) 0 c') ∧ w.heap.size ≤ b' ∧ Rw w' 197 2 b' 0 c' [] ∧ Below w.heap.size w w' := by
  obtain ⟨c', W, hr, hR, hB⟩ := app_zeros_nil (w := w) KE 3 198 under_int n h0 (by omega) (by omega)
  have hR0 : Rw W 197 2 w.heap.size 0 c' [] := (hR.front (m := 0) (by omega)).to (by simp)
  have hn0 : ¬ ((n : Int) < 0) := by omega
  have hn1 : (0 : Int) < n := by omega
  clear hR
  go_enter Tryz.func354, Tryz.ntmps354
  go_wp2_with (at_builtin; refine Lib.wpList_append_run _ rfl _ _ _ _ rfl _ _ rfl rfl _ _ hr ?_)
  go_ret
  exact ⟨_, c', rfl, Nat.le_refl _, hR0, hB⟩
end Pg
end Go.Proofs.YtpoifdokmjhclaaGreat

namespace Go.Proofs.YtpoifdokmjhclaaGreat
namespace Pg
open Go.RowKit Go.Lib
set_option maxHeartbeats 2000000 in
set_option maxRecDepth 100000 in
theorem concatE {w : World} {vb b1 n1 c1 b2 n2 c2 : Nat} {xs ys : List Value} (hV : Blk w vb [.slice (some ⟨b1, 0, none⟩) n1 c1, .slice (some ⟨b2, 0, none⟩) n2 c2] 198)
    (R1 : Rw w 197 2 b1 n1 c1 xs) (R2 : Rw w 197 2 b2 n2 c2 ys) (h0 : 0 < n1 + n2) (hn1 : n1 ≤ 1000000) (hn2 : n2 ≤ 1000000) (h1 : ∀ v ∈ xs, v.oneCell' = true) (h2 : ∀ v ∈ ys, v.oneCell' = true) :
    Calls Tryz.prog 313 #[.slice (some ⟨vb, 0, none⟩) 2 2] w fun e w' => ∃ b' c', e = .returned (.slice (some ⟨b', 0, none⟩) (n1 + n2) c') ∧ w.heap.size ≤ b' ∧ Rw w' 197 2 b' (n1 + n2) c' (xs ++ ys) ∧ Below w.heap.size w w' := by
  have tG := growE (w := w) (n := n1 + n2) h0 (by omega)
  rw [show ((n1 + n2 : Nat) : Int) = (n1 : Int) + (n2 : Int) by omega] at tG
  have q0 := hV.cell (i := 0) rfl
  have q1 := hV.cell (i := 1) rfl
  go_enter Tryz.func313, Tryz.ntmps313
  go_wp2
  go_loopw [3, 11] (fun ts ti wr => wr = w ∧ ((ti = .int .i64 0 ∧ ts = .int .i64 0) ∨ (ti = .int .i64 1 ∧ ts = .int .i64 n1) ∨ (ti = .int .i64 2 ∧ ts = .int .i64 (n1 + n2)))) (fun _ ti _ => 2 - (intOf ti).toNat)
  case atStart => exact ⟨rfl, .inl ⟨rfl, rfl⟩⟩
  case round =>
    obtain ⟨rfl, ⟨rfl, rfl⟩ | ⟨rfl, rfl⟩ | ⟨rfl, rfl⟩⟩ := hrel
    · have hz : ¬ ((n1 : Int) < 0) := by omega
      go_wp2
      go_roundw
      case rel => exact ⟨trivial, .inr (.inl ⟨rfl, rfl⟩)⟩
      case measure => simp [intOf]
    · have hz : ¬ ((n1 : Int) + (n2 : Int) < 0) := by omega
      go_wp2
      go_roundw
      case rel => exact ⟨trivial, .inr (.inr ⟨rfl, rfl⟩)⟩
      case measure => simp [intOf]
    · rename World => W0
      go_wp2_with (go_at_call 354; refine tG.mono ?_; rintro e w1 ⟨b, c, rfl, hb, hR, hB⟩)
      clear tG
      have q0' := (hV.keep hB).cell (i := 0) rfl
      have q1' := (hV.keep hB).cell (i := 1) rfl
      have hBB := hB
      clear hB q0 q1
      go_loopw [6, 27] (fun ts ti wv => Below W0.heap.size W0 wv ∧ ∃ b c, W0.heap.size ≤ b ∧ ((ti = .int .i64 0 ∧ ts = .slice (some ⟨b, 0, none⟩) 0 c ∧ Rw wv 197 2 b 0 c []) ∨ (ti = .int .i64 1 ∧ ts = .slice (some ⟨b, 0, none⟩) n1 c ∧ Rw wv 197 2 b n1 c xs) ∨ (ti = .int .i64 2 ∧ ts = .slice (some ⟨b, 0, none⟩) (n1 + n2) c ∧ Rw wv 197 2 b (n1 + n2) c (xs ++ ys)))) (fun _ ti _ => 2 - (intOf ti).toNat)
      case atStart => exact ⟨hBB, b, c, hb, .inl ⟨rfl, rfl, hR⟩⟩
      case round =>
        clear hR hBB hb q0' q1'
        obtain ⟨hBl, b, c, hb, ⟨rfl, rfl, hR⟩ | ⟨rfl, rfl, hR⟩ | ⟨rfl, rfl, hR⟩⟩ := hrel
        · have q0 := (hV.keep hBl).cell (i := 0) rfl
          have S := R1.keep hBl
          obtain ⟨b', c', W, hr, hb', hR', hC⟩ := app_row KE 198 hR ⟨b1, 0, none⟩ n1 c1 xs R1.len (fun j u hj => by rw [Addr.add_lit, Nat.zero_add]; exact S.cell hj) h1 (by omega) (by omega)
          rw [Nat.zero_add] at hr hR'
          have hB2 : Below W0.heap.size W0 W := hBl.trans (hC.below (fun x hx => by omega) hBl.size)
          have hb2 : W0.heap.size ≤ b' := by
            have := hBl.size
            rcases hb' with e | e <;> omega
          clear hC hb' hR S
          go_wp2_with (at_builtin; refine Lib.wpList_append_run _ rfl _ _ _ _ rfl _ _ rfl rfl _ _ hr ?_)
          go_roundw
          case rel => exact ⟨hB2, b', c', hb2, .inr (.inl ⟨rfl, rfl, hR'⟩)⟩
          case measure => simp [intOf]
        · have q1 := (hV.keep hBl).cell (i := 1) rfl
          have S := R2.keep hBl
          obtain ⟨b', c', W, hr, hb', hR', hC⟩ := app_row KE 198 hR ⟨b2, 0, none⟩ n2 c2 ys R2.len (fun j u hj => by rw [Addr.add_lit, Nat.zero_add]; exact S.cell hj) h2 (by omega) (by omega)
          have hB2 : Below W0.heap.size W0 W := hBl.trans (hC.below (fun x hx => by omega) hBl.size)
          have hb2 : W0.heap.size ≤ b' := by
            have := hBl.size
            rcases hb' with e | e <;> omega
          clear hC hb' hR S
          go_wp2_with (at_builtin; refine Lib.wpList_append_run _ rfl _ _ _ _ rfl _ _ rfl rfl _ _ hr ?_)
          go_roundw
          case rel => exact ⟨hB2, b', c', hb2, .inr (.inr ⟨rfl, rfl, hR'⟩)⟩
          case measure => simp [intOf]
        · go_wp2
          go_ret
          exact ⟨b, c, rfl, hb, hR, hBl⟩
end Pg
end Go.Proofs.YtpoifdokmjhclaaGreat

namespace Go.Proofs.YtpoifdokmjhclaaGreat
namespace Pg

theorem cmpB_cases : ∀ (a b : List Int), cmpB a b = -1 ∨ cmpB a b = 0 ∨ cmpB a b = 1
  | [], [] => .inr (.inl rfl)
  | [], _ :: _ => .inl rfl
  | _ :: _, [] => .inr (.inr rfl)
  | x :: a, y :: b => by
    rw [cmpB]
    split
    · exact .inl rfl
    · split
      · exact .inr (.inr rfl)
      · exact cmpB_cases a b
theorem cmpB_refl : ∀ (a : List Int), cmpB a a = 0
  | [] => rfl
  | x :: a => by rw [cmpB, if_neg (by omega), if_neg (by omega)]; exact cmpB_refl a
theorem cmpB_eq : ∀ {a b : List Int}, cmpB a b = 0 → a = b
  | [], [], _ => rfl
  | [], _ :: _, h => by simp [cmpB] at h
  | _ :: _, [], h => by simp [cmpB] at h
  | x :: a, y :: b, h => by
    rw [cmpB] at h
    split at h
    · omega
    · split at h
      · omega
      · rw [cmpB_eq h, show x = y by omega]
theorem cmpB_swap : ∀ (a b : List Int), cmpB b a = - cmpB a b
  | [], [] => rfl
  | [], _ :: _ => rfl
  | _ :: _, [] => rfl
  | x :: a, y :: b => by
    rw [cmpB, cmpB]
    by_cases h1 : x < y
    · rw [if_neg (by omega), if_pos h1, if_pos h1]; rfl
    · by_cases h2 : y < x
      · rw [if_pos h2, if_neg h1, if_pos h2]
      · rw [if_neg h2, if_neg h1, if_neg h1, if_neg h2]; exact cmpB_swap a b
/-- a stands ahead of b -/
abbrev Lt (a b : List Int) : Prop := cmpB a b = -1
theorem Lt.trans : ∀ {a b c : List Int}, Lt a b → Lt b c → Lt a c
  | [], [], _, h, _ => by simp [Lt, cmpB] at h
  | [], _ :: _, [], _, h => by simp [Lt, cmpB] at h
  | [], _ :: _, _ :: _, _, _ => rfl
  | _ :: _, [], _, h, _ => by simp [Lt, cmpB] at h
  | _ :: _, _ :: _, [], _, h => by simp [Lt, cmpB] at h
  | x :: a, y :: b, z :: c, h, h' => by
    simp only [Lt] at h h' ⊢
    rw [cmpB] at h h' ⊢
    by_cases h1 : x < z
    · rw [if_pos h1]
    · rw [if_neg h1]
      split at h
      · split at h'
        · omega
        · split at h'
          · omega
          · omega
      · split at h
        · omega
        · split at h'
          · omega
          · split at h'
            · omega
            · rw [if_neg (by omega)]; exact Lt.trans (a := a) (b := b) (c := c) h h'
theorem lt_irrefl (a : List Int) : ¬ Lt a a := by simp [Lt, cmpB_refl]
theorem Lt.not {a b : List Int} (h : Lt a b) : ¬ Lt b a := fun h' => lt_irrefl a (h.trans h')
theorem lt_tri (a b : List Int) : Lt a b ∨ a = b ∨ Lt b a := by
  rcases cmpB_cases a b with h | h | h
  · exact .inl h
  · exact .inr (.inl (cmpB_eq h))
  · exact .inr (.inr (by simp only [Lt]; rw [cmpB_swap, h]))
theorem cmpB_lt {a b : List Int} (h : Lt a b) : cmpB a b = -1 := h
theorem cmpB_gt {a b : List Int} (h : Lt b a) : cmpB a b = 1 := by rw [cmpB_swap, cmpB_lt h]; rfl
theorem not_lt {a b : List Int} : ¬ Lt a b ↔ a = b ∨ Lt b a := by
  constructor
  · intro h
    rcases lt_tri a b with k | k | k
    · exact absurd k h
    · exact .inl k
    · exact .inr k
  · rintro (h | h)
    · subst h; exact lt_irrefl a
    · exact h.not
theorem Lt.of_le {a b c : List Int} (h : Lt a b) (h' : ¬ Lt c b) : Lt a c := by
  rcases not_lt.1 h' with k | k
  · subst k; exact h
  · exact h.trans k
/-- how many at a list's front are ahead of k -/
def plc : List (List Int) → List Int → Nat
  | [], _ => 0
  | x :: l, k => if Lt x k then plc l k + 1 else 0
theorem plc_le : ∀ (l : List (List Int)) (k : List Int), plc l k ≤ l.length
  | [], _ => Nat.le_refl _
  | x :: l, k => by
    rw [plc]
    split
    · have := plc_le l k; simp; omega
    · simp
theorem plc_eq : ∀ {l : List (List Int)} {k : List Int} {i : Nat}, i ≤ l.length → (∀ j x, j < i → l[j]? = some x → Lt x k) → (∀ x, l[i]? = some x → ¬ Lt x k) → plc l k = i
  | [], _, i, h, _, _ => by simp at h; subst h; rfl
  | x :: l, k, 0, _, _, h3 => by rw [plc, if_neg (h3 x rfl)]
  | x :: l, k, i + 1, h1, h2, h3 => by
    rw [plc, if_pos (h2 0 x (by omega) rfl), plc_eq (l := l) (i := i) (by simpa using h1) (fun j y hj hy => h2 (j + 1) y (by omega) (by simpa using hy)) (fun y hy => h3 y (by simpa using hy))]
theorem plc_lt : ∀ {l : List (List Int)} {k : List Int} {j : Nat} {x : List Int}, j < plc l k → l[j]? = some x → Lt x k
  | [], _, _, _, h, _ => by simp [plc] at h
  | y :: l, k, j, x, h, hx => by
    rw [plc] at h
    split at h
    · cases j with
      | zero => simp at hx; subst hx; assumption
      | succ j => exact plc_lt (l := l) (j := j) (by omega) (by simpa using hx)
    · omega
theorem plc_ge : ∀ {l : List (List Int)} {k : List Int} {x : List Int}, l[plc l k]? = some x → ¬ Lt x k
  | [], _, _, h => by simp at h
  | y :: l, k, x, h => by
    rw [plc] at h
    split at h
    · exact plc_ge (l := l) (by simpa using h)
    · simp at h; subst h; assumption
/-- rising -/
def Srt (l : List (List Int)) : Prop := l.Pairwise Lt
theorem Srt.get {l : List (List Int)} (h : Srt l) {i j : Nat} {x y : List Int} (hij : i < j) (hi : l[i]? = some x) (hj : l[j]? = some y) : Lt x y := by
  obtain ⟨h1, rfl⟩ := List.getElem?_eq_some_iff.1 hi
  obtain ⟨h2, rfl⟩ := List.getElem?_eq_some_iff.1 hj
  exact List.pairwise_iff_getElem.1 h i j h1 h2 hij
/-- is k there, at its place? -/
def thr (l : List (List Int)) (k : List Int) : Bool := decide (l[plc l k]? = some k)
theorem thr_iff {l : List (List Int)} (h : Srt l) {k : List Int} : thr l k = true ↔ k ∈ l := by
  simp only [thr, decide_eq_true_eq]
  constructor
  · intro e; exact List.mem_of_getElem? e
  · intro e
    obtain ⟨j, hj⟩ := List.getElem?_of_mem e
    have : plc l k = j := plc_eq (by have := (List.getElem?_eq_some_iff.1 hj).1; omega) (fun i x hi hx => h.get hi hx hj) (fun x hx => by rw [hj] at hx; cases hx; exact lt_irrefl k)
    rw [this]; exact hj
end Pg
end Go.Proofs.YtpoifdokmjhclaaGreat

namespace Go.Proofs.YtpoifdokmjhclaaGreat
namespace Pg
open Go.RowKit Go.Lib

/-- an entry: its two values, and the bytes that they hold -/
structure En where
  kv : Value
  kl : List Int
  vv : Value
  vl : List Int
structure EnA (w : World) (D : Nat → Prop) (e : En) : Prop where
  k : OB w D e.kv e.kl
  v : OB w D e.vv e.vl
theorem EnA.keep {w w' : World} {D : Nat → Prop} {e : En} (h : EnA w D e) (hb : Below w.heap.size w w') : EnA w' D e := ⟨h.k.keep hb, h.v.keep hb⟩
theorem EnA.mono {w : World} {D D' : Nat → Prop} {e : En} (h : EnA w D e) (hD : ∀ b, b < w.heap.size → D b → D' b) : EnA w D' e := ⟨h.k.mono hD, h.v.mono hD⟩
/-- the cells of entries -/
def flat : List En → List Value
  | [] => []
  | e :: l => e.kv :: e.vv :: flat l
theorem flat_len : ∀ (l : List En), (flat l).length = l.length * 2
  | [] => rfl
  | e :: l => by simp [flat, flat_len l]; omega
theorem flat_append : ∀ (a b : List En), flat (a ++ b) = flat a ++ flat b
  | [], b => rfl
  | e :: a, b => by simp [flat, flat_append a b]
theorem flat_k : ∀ {l : List En} {i : Nat} {e : En}, l[i]? = some e → (flat l)[i * 2]? = some e.kv
  | [], _, _, h => by simp at h
  | x :: l, 0, e, h => by simp at h; subst h; rfl
  | x :: l, i + 1, e, h => by
    rw [show (i + 1) * 2 = i * 2 + 1 + 1 by omega, flat, List.getElem?_cons_succ, List.getElem?_cons_succ]
    exact flat_k (l := l) (by simpa using h)
theorem flat_v : ∀ {l : List En} {i : Nat} {e : En}, l[i]? = some e → (flat l)[i * 2 + 1]? = some e.vv
  | [], _, _, h => by simp at h
  | x :: l, 0, e, h => by simp at h; subst h; rfl
  | x :: l, i + 1, e, h => by
    rw [show (i + 1) * 2 + 1 = i * 2 + 1 + 1 + 1 by omega, flat, List.getElem?_cons_succ, List.getElem?_cons_succ]
    exact flat_v (l := l) (by simpa using h)
theorem flat_take : ∀ (l : List En) (i : Nat), (flat l).take (i * 2) = flat (l.take i)
  | [], i => by simp [flat]
  | x :: l, 0 => by simp [flat]
  | x :: l, i + 1 => by
    rw [show (i + 1) * 2 = i * 2 + 1 + 1 by omega, flat, List.take_succ_cons, List.take_succ_cons, flat_take l i, List.take_succ_cons, flat]
theorem flat_drop : ∀ (l : List En) (i : Nat), (flat l).drop (i * 2) = flat (l.drop i)
  | [], i => by simp [flat]
  | x :: l, 0 => by simp
  | x :: l, i + 1 => by
    rw [show (i + 1) * 2 = i * 2 + 1 + 1 by omega, flat, List.drop_succ_cons, List.drop_succ_cons, flat_drop l i, List.drop_succ_cons]
theorem flat_one {w : World} {D : Nat → Prop} : ∀ {l : List En}, (∀ e ∈ l, EnA w D e) → ∀ v ∈ flat l, v.oneCell' = true
  | [], _, v, h => by simp [flat] at h
  | x :: l, h, v, hv => by
    have hx := h x List.mem_cons_self
    rcases List.mem_cons.1 hv with rfl | hv
    · exact hx.k.one
    · rcases List.mem_cons.1 hv with rfl | hv
      · exact hx.v.one
      · exact flat_one (l := l) (fun e he => h e (List.mem_cons_of_mem _ he)) v hv
theorem flat_set_v : ∀ {l : List En} {i : Nat} {e : En} (u : Value) (ul : List Int), l[i]? = some e → (flat l).set (i * 2 + 1) u = flat (l.set i { e with vv := u, vl := ul })
  | [], _, _, _, _, h => by simp at h
  | x :: l, 0, e, u, ul, h => by simp at h; subst h; simp [flat]
  | x :: l, i + 1, e, u, ul, h => by
    rw [show (i + 1) * 2 + 1 = i * 2 + 1 + 1 + 1 by omega, flat, List.set_cons_succ, List.set_cons_succ, flat_set_v (l := l) u ul (by simpa using h), List.set_cons_succ, flat]
/-- keys -/
def kys (l : List En) : List (List Int) := l.map En.kl

/-- a page: its block, how many entries it has room for, and its entries -/
structure Pg where
  b : Nat
  c : Nat
  es : List En
def Pg.v (p : Pg) : Value := .slice (some ⟨p.b, 0, none⟩) p.es.length p.c
/-- a page in memory -/
structure PgA (w : World) (D : Nat → Prop) (p : Pg) : Prop where
  row : Rw w 197 2 p.b p.es.length p.c (flat p.es)
  ents : ∀ e ∈ p.es, EnA w D e
theorem PgA.keep {w w' : World} {D : Nat → Prop} {p : Pg} (h : PgA w D p) (hb : Below w.heap.size w w') : PgA w' D p := ⟨h.row.keep hb, fun e he => (h.ents e he).keep hb⟩
theorem PgA.one {w : World} {D : Nat → Prop} {p : Pg} (h : PgA w D p) : ∀ v ∈ flat p.es, v.oneCell' = true := flat_one h.ents

set_option maxHeartbeats 1000000 in
set_option maxRecDepth 100000 in
/-- an entry's key held against another -/
theorem cmpE {w : World} {kv vv v : Value} {l l' : List Int} (h : By w kv l) (h' : By w v l') :
    Calls Tryz.prog 202 #[.agg #[kv, vv], v] w fun e w' => e = .returned (.int .i64 (cmpB l l')) ∧ Below w.heap.size w w' := by
  have hb := below_alloc w (.cells #[kv, vv] 197)
  have tC := compare_any (h.keep hb) (h'.keep hb)
  have B := blk_new w [kv, vv] 197
  have q0 := B.cell (i := 0) rfl
  clear h h' B
  generalize cmpB l l' = x at *
  go_enter Tryz.func202, Tryz.ntmps202
  go_wp2_with (go_at_call 200; refine tC.mono ?_; rintro e w1 ⟨rfl, rfl⟩)
  go_ret
  exact ⟨rfl, hb⟩
end Pg
end Go.Proofs.YtpoifdokmjhclaaGreat

namespace Go.Proofs.YtpoifdokmjhclaaGreat
namespace Pg
open Go.RowKit Go.Lib
set_option maxHeartbeats 2000000 in
set_option maxRecDepth 100000 in
theorem bsE {w : World} {D : Nat → Prop} {p : Pg} {v : Value} {k : List Int} (A : PgA w D p) (S : Srt (kys p.es)) (h : By w v k) (hn : p.es.length ≤ 1000000) :
    Calls Tryz.prog 201 #[p.v, v, .func (.func 202) #[] #[]] w fun e w' => e = .returned (.tuple #[.int .i64 (plc (kys p.es) k), .bool (thr (kys p.es) k)]) ∧ Below w.heap.size w w' := by
  obtain ⟨b, c, es⟩ := p
  simp only [Pg.v] at *
  have hcm := A.row.le
  simp only [maxLen] at hcm
  have hcm1 := hcm.1
  have hcm2 := hcm.2
  obtain ⟨n, hnn⟩ : ∃ n, es.length = n := ⟨_, rfl⟩
  rw [hnn] at hn hcm1 ⊢
  go_enter Tryz.func201, Tryz.ntmps201
  go_wp2
  go_loopw [9, 10] (fun ti tj wr => ∃ i j : Nat, ti = .int .i64 i ∧ tj = .int .i64 j ∧ i ≤ j ∧ j ≤ n ∧ Hid (∀ q x, q < i → (kys es)[q]? = some x → Lt x k) ∧ Hid (∀ q x, j ≤ q → (kys es)[q]? = some x → ¬ Lt x k) ∧ Below w.heap.size w wr) (fun ti tj _ => (intOf tj).toNat - (intOf ti).toNat)
  case atStart => exact ⟨0, n, rfl, rfl, Nat.zero_le _, Nat.le_refl _, fun q x hq => by omega, fun q x hq hx => by
    have := (List.getElem?_eq_some_iff.1 hx).1
    simp [kys] at this
    omega, Below.refl _ _⟩
  case round =>
    obtain ⟨i, j, rfl, rfl, hij, hjn, H1, H2, hB⟩ := hrel
    by_cases hlt : i < j
    · obtain ⟨m, hm⟩ : ∃ m, m = (i + j) / 2 := ⟨_, rfl⟩
      have hm1 : i ≤ m := by omega
      have hm2 : m < j := by omega
      obtain ⟨e, he⟩ : ∃ e, es[m]? = some e := ⟨es[m], List.getElem?_eq_getElem (by omega)⟩
      have A' := A.keep hB
      have q0 := A'.row.cell (flat_k he)
      have q1 := A'.row.cell (flat_v he)
      have hw0 : IntKind.i64.wrap ((i : Int) + (j : Int)) = (i : Int) + (j : Int) := by rw [IntKind.wrap_i64]; omega
      have hm0 : ((i : Int) + (j : Int)) / 2 < n := by omega
      have hm3 : (0 : Int) ≤ ((i : Int) + (j : Int)) / 2 := by omega
      have hwm : IntKind.i64.wrap (((i : Int) + (j : Int)) / 2) = ((i : Int) + (j : Int)) / 2 := by rw [IntKind.wrap_i64]; omega
      have tC := cmpE (vv := e.vv) ((A'.ents e (List.mem_of_getElem? he)).k.by) (h.keep hB)
      have hk : (kys es)[m]? = some e.kl := by simp [kys, he]
      rw [hm] at q0 q1
      have HM : Hid (m = (i + j) / 2) := hm
      clear A' hm
      by_cases hc : Lt e.kl k
      · rw [cmpB_lt hc] at tC
        go_wp2_with (go_at_call 202; refine tC.mono ?_; rintro e' w1 ⟨rfl, hB1⟩)
        go_roundw
        case rel => exact ⟨m + 1, j, by have := HM.out; congr 1; omega, rfl, by omega, hjn, fun q x hq hx => by
          by_cases hqm : q = m
          · subst hqm; rw [hk] at hx; cases hx; exact hc
          · exact S.get (by omega) hx hk |>.trans hc, H2.out, joinB hB hB1⟩
        case measure => have := HM.out; simp [intOf]; omega
      · have hx0 : ¬ (cmpB e.kl k < 0) := by
          rcases cmpB_cases e.kl k with q | q | q
          · exact absurd q hc
          · rw [q]; decide
          · rw [q]; decide
        generalize cmpB e.kl k = x at tC hx0
        go_wp2_with (go_at_call 202; refine tC.mono ?_; rintro e' w1 ⟨rfl, hB1⟩)
        go_roundw
        case rel => exact ⟨i, m, rfl, by have := HM.out; congr 1; omega, by omega, by omega, H1.out, fun q x hq hx => by
          by_cases hqm : q = m
          · subst hqm; rw [hk] at hx; cases hx; exact hc
          · intro hxk
            exact hc ((S.get (by omega) hk hx).trans hxk), joinB hB hB1⟩
        case measure => have := HM.out; simp [intOf]; omega
    · have hie : i = j := by omega
      subst hie
      have hp : Hid (plc (kys es) k = i) := plc_eq (by simp [kys]; omega) (fun q x hq hx => H1.out q x hq hx) (fun x hx => H2.out i x (Nat.le_refl _) hx)
      have A' := A.keep hB
      by_cases hin : i < n
      · obtain ⟨e, he⟩ : ∃ e, es[i]? = some e := ⟨es[i], List.getElem?_eq_getElem (by omega)⟩
        have q0 := A'.row.cell (flat_k he)
        have q1 := A'.row.cell (flat_v he)
        have hk : (kys es)[i]? = some e.kl := by simp [kys, he]
        have tC := cmpE (vv := e.vv) ((A'.ents e (List.mem_of_getElem? he)).k.by) (h.keep hB)
        have hT : Hid (thr (kys es) k = (cmpB e.kl k == 0)) := by
          show _ = _
          unfold thr
          rw [hp.out, hk]
          by_cases q : e.kl = k
          · subst q; simp [cmpB_refl]
          · have : cmpB e.kl k ≠ 0 := fun z => q (cmpB_eq z)
            simp [q, this]
        have hin0 : (i : Int) < n := by omega
        generalize cmpB e.kl k = x at tC hT
        clear A'
        go_wp2_with (go_at_call 202; refine tC.mono ?_; rintro e' w1 ⟨rfl, hB1⟩)
        all_goals (
          go_ret2
          refine ⟨?_, joinB hB hB1⟩
          rw [hT.out, hp.out]
          rfl)
      · have hT : Hid (thr (kys es) k = false) := by
          show _ = _
          unfold thr
          rw [hp.out, List.getElem?_eq_none (by simp [kys]; omega)]
          rfl
        have hin0 : ¬ ((i : Int) < n) := by omega
        go_wp2
        go_ret2
        refine ⟨?_, hB⟩
        rw [hT.out, hp.out]
        rfl
set_option maxHeartbeats 1000000 in
set_option maxRecDepth 100000 in
theorem placeOf_any {w : World} {D : Nat → Prop} {p : Pg} {v : Value} {k : List Int} (A : PgA w D p) (S : Srt (kys p.es)) (h : By w v k) (hn : p.es.length ≤ 1000000) :
    Calls Tryz.prog 152 #[p.v, v] w fun e w' => e = .returned (.tuple #[.int .i64 (plc (kys p.es) k), .bool (thr (kys p.es) k)]) ∧ Below w.heap.size w w' := by
  have t := bsE A S h hn
  generalize plc (kys p.es) k = x at *
  generalize thr (kys p.es) k = y at *
  simp only [Pg.v] at *
  clear A S h
  go_enter Tryz.func152, Tryz.ntmps152
  go_wp2_with (go_at_call 201; refine t.mono ?_; rintro e' w1 ⟨rfl, hB1⟩)
  go_ret2
  exact ⟨rfl, hB1⟩
end Pg
end Go.Proofs.YtpoifdokmjhclaaGreat

namespace Go.Proofs.YtpoifdokmjhclaaGreat
namespace Pg
open Go.RowKit Go.Lib

/-- the map at block g: its own blocks are F's, its bytes lie in D's -/
structure MapA (w : World) (F D : Nat → Prop) (g : Nat) (L : List Pg) : Prop where
  top : ∃ pv, Blk w g [pv] 201 ∧ F g ∧ ((pv = .slice none 0 0 ∧ L = []) ∨ ∃ G C, pv = .slice (some ⟨G, 0, none⟩) L.length C ∧ F G ∧ Rw w 198 1 G L.length C (L.map Pg.v))
  pages : ∀ p ∈ L, PgA w D p ∧ F p.b
  apart : (L.map Pg.b).Nodup
  kind : ∀ b, F b → ∃ cs t, Blk w b cs t ∧ t ≠ 5
theorem MapA.lt {w : World} {F D : Nat → Prop} {g : Nat} {L : List Pg} (h : MapA w F D g L) {b : Nat} (hb : F b) : b < w.heap.size := by
  obtain ⟨cs, t, h, _⟩ := h.kind b hb
  exact h.lt
/-- what changes no block of the map's own and no list of bytes leaves the map -/
theorem MapA.same {w w' : World} {F D : Nat → Prop} {g : Nat} {L : List Pg} (h : MapA w F D g L) (h1 : ∀ b, F b → w'.heap[b]? = w.heap[b]?) (h2 : ∀ b, b < w.heap.size → D b → (∃ cs, Blk w b cs 5) → w'.heap[b]? = w.heap[b]?) : MapA w' F D g L := by
  obtain ⟨pv, hb, hg, hp⟩ := h.top
  have hob : ∀ {v : Value} {l : List Int}, OB w D v l → OB w' D v l := fun h => ⟨h.oct, h.ex.imp id (by
    rintro ⟨b, c, e, hd, hR⟩
    exact ⟨b, c, e, hd, hR.same (h2 b hR.lt hd hR.kind)⟩)⟩
  refine ⟨⟨pv, hb.same (h1 g hg), hg, hp.imp id ?_⟩, fun p hp => ?_, h.apart, fun b hb => ?_⟩
  · rintro ⟨G, C, e, hG, hR⟩
    exact ⟨G, C, e, hG, hR.same (h1 G hG)⟩
  · obtain ⟨hA, hF⟩ := h.pages p hp
    exact ⟨⟨hA.row.same (h1 _ hF), fun e he => ⟨hob (hA.ents e he).k, hob (hA.ents e he).v⟩⟩, hF⟩
  · obtain ⟨cs, t, hk, ht⟩ := h.kind b hb
    exact ⟨cs, t, hk.same (h1 b hb), ht⟩
theorem MapA.keep {w w' : World} {F D : Nat → Prop} {g : Nat} {L : List Pg} (h : MapA w F D g L) (hb : Below w.heap.size w w') : MapA w' F D g L := h.same (fun b hF => hb.block b (h.lt hF)) (fun b hl _ _ => hb.block b hl)
theorem MapA.drew {w : World} {F D : Nat → Prop} {g : Nat} {L : List Pg} (h : MapA w F D g L) : MapA w.drew F D g L := h.same (fun _ _ => rfl) (fun _ _ _ _ => rfl)
/-- what another map's call changes leaves this one -/
theorem MapA.chg {w w' : World} {F D F' : Nat → Prop} {g : Nat} {L : List Pg} (h : MapA w F D g L) (hc : Chg F' w w') (h1 : ∀ b, F' b → ¬ F b) (h2 : ∀ b, F' b → ∀ cs, ¬ Blk w b cs 5) : MapA w' F D g L :=
  h.same (fun b hF => hc.same b (h.lt hF) fun f => h1 b f hF) (fun b hl _ hk => hc.same b hl fun f => by obtain ⟨cs, k⟩ := hk; exact h2 b f cs k)
theorem MapA.noU {w : World} {F D : Nat → Prop} {g : Nat} {L : List Pg} (h : MapA w F D g L) {b : Nat} (hb : F b) (cs : List Value) : ¬ Blk w b cs 5 := fun k => by
  obtain ⟨cs', t, hk, ht⟩ := h.kind b hb
  exact ht (hk.eq k).2
theorem MapA.mono {w : World} {F D D' : Nat → Prop} {g : Nat} {L : List Pg} (h : MapA w F D g L) (hD : ∀ b, b < w.heap.size → D b → D' b) : MapA w F D' g L :=
  ⟨h.top, fun p hp => ⟨⟨(h.pages p hp).1.row, fun e he => ((h.pages p hp).1.ents e he).mono hD⟩, (h.pages p hp).2⟩, h.apart, h.kind⟩

/-- the pages' entries -/
def ens (L : List Pg) : List (List En) := L.map Pg.es
def fks (P : List (List En)) : List (List Int) := P.map fun es => (kys es).headD []
/-- how many at a list's front aren't above k -/
def plq : List (List Int) → List Int → Nat
  | [], _ => 0
  | x :: l, k => if Lt k x then 0 else plq l k + 1
theorem plq_le : ∀ (l : List (List Int)) (k : List Int), plq l k ≤ l.length
  | [], _ => Nat.le_refl _
  | x :: l, k => by
    rw [plq]
    split
    · simp
    · have := plq_le l k; simp; omega
theorem plq_eq : ∀ {l : List (List Int)} {k : List Int} {i : Nat}, i ≤ l.length → (∀ j x, j < i → l[j]? = some x → ¬ Lt k x) → (∀ x, l[i]? = some x → Lt k x) → plq l k = i
  | [], _, i, h, _, _ => by simp at h; subst h; rfl
  | x :: l, k, 0, _, _, h3 => by rw [plq, if_pos (h3 x rfl)]
  | x :: l, k, i + 1, h1, h2, h3 => by
    rw [plq, if_neg (h2 0 x (by omega) rfl), plq_eq (l := l) (i := i) (by simpa using h1) (fun j y hj hy => h2 (j + 1) y (by omega) (by simpa using hy)) (fun y hy => h3 y (by simpa using hy))]
theorem plq_lt : ∀ {l : List (List Int)} {k : List Int} {j : Nat} {x : List Int}, j < plq l k → l[j]? = some x → ¬ Lt k x
  | [], _, _, _, h, _ => by simp [plq] at h
  | y :: l, k, j, x, h, hx => by
    rw [plq] at h
    split at h
    · omega
    · cases j with
      | zero => simp at hx; subst hx; assumption
      | succ j => exact plq_lt (l := l) (j := j) (by omega) (by simpa using hx)
theorem plq_ge : ∀ {l : List (List Int)} {k : List Int} {x : List Int}, l[plq l k]? = some x → Lt k x
  | [], _, _, h => by simp at h
  | y :: l, k, x, h => by
    rw [plq] at h
    split at h
    · simp at h; subst h; assumption
    · exact plq_ge (l := l) (by simpa using h)
/-- the page to which a key belongs -/
def pgi (P : List (List En)) (k : List Int) : Nat := plq (fks P) k - 1
/-- no page is empty; keys rise, all over -/
structure Ord (P : List (List En)) : Prop where
  full : ∀ es ∈ P, es ≠ []
  rise : Srt (kys P.flatten)
theorem Ord.page {P : List (List En)} (h : Ord P) {i : Nat} {es : List En} (hi : P[i]? = some es) : Srt (kys es) := by
  have hm := List.mem_of_getElem? hi
  have : (kys es).Sublist (kys P.flatten) := (List.sublist_flatten_of_mem hm).map _
  exact h.rise.sublist this
theorem mem_head {es : List En} (h : es ≠ []) : ∃ e l, es = e :: l ∧ (kys es).headD [] = e.kl := by
  cases es with
  | nil => exact absurd rfl h
  | cons e l => exact ⟨e, l, rfl, rfl⟩
theorem Ord.heads : ∀ {P : List (List En)}, Ord P → Srt (fks P)
  | [], _ => List.Pairwise.nil
  | es :: P, h => by
    have h2 : Ord P := ⟨fun x hx => h.full x (List.mem_cons_of_mem _ hx), by
      have := h.rise
      simp only [Srt, kys, List.flatten_cons, List.map_append, List.pairwise_append] at this
      exact this.2.1⟩
    refine List.Pairwise.cons (fun x hx => ?_) (Ord.heads h2)
    obtain ⟨fs, hfs, rfl⟩ := List.mem_map.1 hx
    obtain ⟨e, l, rfl, he⟩ := mem_head (h.full es List.mem_cons_self)
    obtain ⟨f, m, rfl, hf⟩ := mem_head (h2.full fs hfs)
    show Lt e.kl f.kl
    have := h.rise
    simp only [Srt, kys, List.flatten_cons, List.map_append, List.pairwise_append] at this
    exact this.2.2 e.kl (by simp) f.kl (List.mem_map.2 ⟨f, List.mem_flatten.2 ⟨_, hfs, List.mem_cons_self⟩, rfl⟩)
end Pg
end Go.Proofs.YtpoifdokmjhclaaGreat

namespace Go.Proofs.YtpoifdokmjhclaaGreat
namespace Pg
open Go.RowKit Go.Lib

theorem ens_get {L : List Pg} {i : Nat} {p : Pg} (h : L[i]? = some p) : (ens L)[i]? = some p.es := by simp [ens, h]
theorem fks_get {L : List Pg} {i : Nat} {p : Pg} (h : L[i]? = some p) : (fks (ens L))[i]? = some ((kys p.es).headD []) := by simp [ens, fks, h]
/-- a page's first key -/
theorem MapA.head {w : World} {F D : Nat → Prop} {g : Nat} {L : List Pg} (A : MapA w F D g L) (O : Ord (ens L)) {i : Nat} {p : Pg} (h : L[i]? = some p) : ∃ kv, w.cell? ⟨p.b, 0, none⟩ = some kv ∧ By w kv ((kys p.es).headD []) := by
  have hp := List.mem_of_getElem? h
  have hm : p.es ∈ ens L := List.mem_map.2 ⟨p, hp, rfl⟩
  obtain ⟨e, l, he, hk⟩ := mem_head (O.full _ hm)
  obtain ⟨hA, _⟩ := A.pages p hp
  have q := hA.row.cell (i := 0) (v := e.kv) (by rw [he]; rfl)
  exact ⟨e.kv, q, by rw [hk]; exact (hA.ents e (by rw [he]; exact List.mem_cons_self)).k.by⟩
theorem MapA.rd {w : World} {F D : Nat → Prop} {g : Nat} {L : List Pg} (A : MapA w F D g L) : ∃ ao c, w.cell? ⟨g, 0, none⟩ = some (.slice ao L.length c) ∧ L.length ≤ c ∧ c ≤ 9223372036854775807 ∧ (∀ i p, L[i]? = some p → ∃ G, ao = some ⟨G, 0, none⟩ ∧ w.cell? ⟨G, i, none⟩ = some p.v) := by
  obtain ⟨pv, hb, hg, ⟨rfl, rfl⟩ | ⟨G, C, rfl, hG, hR⟩⟩ := A.top
  · exact ⟨_, _, hb.cell (i := 0) rfl, by decide, by decide, fun i p h => by simp at h⟩
  · have hl := hR.le
    simp only [maxLen] at hl
    exact ⟨_, C, hb.cell (i := 0) rfl, by omega, by omega, fun i p h => ⟨G, rfl, hR.cell (by simp [h])⟩⟩
set_option maxHeartbeats 2000000 in
set_option maxRecDepth 100000 in
theorem pageOf_any {w : World} {F D : Nat → Prop} {g : Nat} {L : List Pg} {v : Value} {k : List Int} (A : MapA w F D g L) (O : Ord (ens L)) (h : By w v k) (hn : L.length ≤ 1000000000) :
    Calls Tryz.prog 151 #[.pointer (some ⟨g, 0, none⟩), v] w fun e w' => e = .returned (.int .i64 (pgi (ens L) k)) ∧ Below w.heap.size w w' := by
  obtain ⟨ao, c, hc, hc1, hc2, hat⟩ := A.rd
  have hHs := O.heads
  obtain ⟨ks, hks⟩ : ∃ ks, Hid (fks (ens L) = ks) := ⟨_, rfl⟩
  rw [hks.out] at hHs
  obtain ⟨n, hnn⟩ : ∃ n, Hid (L.length = n) := ⟨_, rfl⟩
  rw [hnn.out] at hc hc1 hn
  have hkl : ks.length = n := by rw [← hks.out, ← hnn.out]; simp [fks, ens]
  have hbe : Below w.heap.size w w.drew := ⟨rfl, rfl, rfl, Nat.le_refl _, fun _ _ => rfl⟩
  have hcd : w.drew.cell? ⟨g, 0, none⟩ = some (.slice ao n c) := hc
  have hfin : ∀ (i : Nat), i ≤ n → (∀ q x, q < i → ks[q]? = some x → ¬ Lt k x) → (∀ q x, i ≤ q → ks[q]? = some x → Lt k x) → pgi (ens L) k = i - 1 := fun i hi h1 h2 => by
    unfold pgi
    rw [hks.out, plq_eq (i := i) (by omega) (fun j x hj hx => h1 j x hj hx) (fun x hx => h2 i x (Nat.le_refl _) hx)]
  have hfin : Hid _ := hfin
  have mixed := mixed
  go_enter Tryz.func151, Tryz.ntmps151
  go_wp2
  go_step3
  go_wp2
  go_region
  go_wp2
  go_step3
  go_wp2
  go_loopw [5, 6] (fun ti tj wr => ∃ i j : Nat, ti = .int .i64 i ∧ tj = .int .i64 j ∧ i ≤ j ∧ j ≤ n ∧ Hid (∀ q x, q < i → ks[q]? = some x → ¬ Lt k x) ∧ Hid (∀ q x, j ≤ q → ks[q]? = some x → Lt k x) ∧ Below w.heap.size w wr) (fun ti tj _ => (intOf tj).toNat - (intOf ti).toNat)
  case atStart => exact ⟨0, n, rfl, rfl, Nat.zero_le _, Nat.le_refl _, fun q x hq => by omega, fun q x hq hx => by
    have := (List.getElem?_eq_some_iff.1 hx).1
    omega, hbe⟩
  case round =>
    obtain ⟨i, j, rfl, rfl, hij, hjn, H1, H2, hB⟩ := hrel
    by_cases hlt : i < j
    · obtain ⟨m, hm⟩ : ∃ m, m = i + (j - i) / 2 := ⟨_, rfl⟩
      have hm1 : i ≤ m := by omega
      have hm2 : m < j := by omega
      obtain ⟨p, hp⟩ : ∃ p, L[m]? = some p := ⟨L[m]'(by have := hnn.out; omega), List.getElem?_eq_getElem _⟩
      have A' := A.keep hB
      have c0 : wr.cell? ⟨g, 0, none⟩ = some (.slice ao n c) := by
        rw [hB.cell (p := ⟨g, 0, none⟩) (by obtain ⟨_, hb, _⟩ := A.top; exact hb.lt)]; exact hc
      obtain ⟨G, rfl, cG⟩ := hat m p hp
      have cG' : wr.cell? ⟨G, m, none⟩ = some p.v := by
        rw [hB.cell (p := ⟨G, m, none⟩) (cell_lt cG)]; exact cG
      obtain ⟨kv, cK, bK⟩ := A'.head O hp
      have hkm : ks[m]? = some ((kys p.es).headD []) := by rw [← hks.out]; exact fks_get hp
      have hpe : 0 < p.es.length := by
        have := O.full p.es (List.mem_map.2 ⟨p, List.mem_of_getElem? hp, rfl⟩)
        exact List.length_pos_iff.2 this
      simp only [Pg.v] at cG'
      rw [hm] at cG'
      have tC := compare_any bK (h.keep hB)
      generalize (kys p.es).headD [] = kp at *
      have HM : Hid (m = i + (j - i) / 2) := hm
      have hz0 : (0 : Int) ≤ (i : Int) + ((j : Int) - (i : Int)) / 2 := by omega
      have hz1 : (i : Int) + ((j : Int) - (i : Int)) / 2 < n := by omega
      have hz2 : ((i : Int) + ((j : Int) - (i : Int)) / 2).toNat = i + (j - i) / 2 := by omega
      generalize p.es.length = pn at *
      clear A' hm bK
      rcases lt_tri kp k with hc | hc | hc
      · rw [cmpB_lt hc] at tC
        go_wp2_with (go_at_call 200; refine tC.mono ?_; rintro e' w1 ⟨rfl, rfl⟩)
        go_roundw
        case rel => exact ⟨m + 1, j, by have := HM.out; congr 1; omega, rfl, by omega, hjn, fun q x hq hx => by
          by_cases hqm : q = m
          · subst hqm; rw [hkm] at hx; cases hx; exact hc.not
          · exact ((hHs.get (by omega) hx hkm).trans hc).not, H2.out, hB⟩
        case measure => have := HM.out; simp [intOf]; omega
      · have hF := hfin.out (m + 1) (by omega) (fun q x hq hx => by
          subst hc
          by_cases hqm : q = m
          · subst hqm; rw [hkm] at hx; cases hx; exact lt_irrefl _
          · exact (hHs.get (by omega) hx hkm).not) (fun q x hq hx => by subst hc; exact hHs.get (by omega) hkm hx)
        have HF : Hid (pgi (ens L) k = m) := by show _ = _; rw [hF]; omega
        have HC : Hid (kp = k) := hc
        rw [hc, cmpB_refl] at tC
        have hx0 : (i : Int) + ((j : Int) - (i : Int)) / 2 + 1 - 1 = (i : Int) + ((j : Int) - (i : Int)) / 2 := by omega
        have hx1 : ¬ ((i : Int) + ((j : Int) - (i : Int)) / 2 < 0) := by omega
        clear hF hc
        go_wp2_with (go_at_call 200; refine tC.mono ?_; rintro e' w1 ⟨rfl, rfl⟩)
        simp only [Exit.noGoto_ret]
        go_ret
        refine ⟨?_, hB⟩
        rw [HF.out]
        have := HM.out
        show Ending.returned (Value.int .i64 ((i : Int) + ((j : Int) - (i : Int)) / 2)) = _
        rw [show (i : Int) + ((j : Int) - (i : Int)) / 2 = (m : Int) by omega]
      · rw [cmpB_gt hc] at tC
        go_wp2_with (go_at_call 200; refine tC.mono ?_; rintro e' w1 ⟨rfl, rfl⟩)
        go_roundw
        case rel => exact ⟨i, m, rfl, by have := HM.out; congr 1; omega, by omega, by omega, H1.out, fun q x hq hx => by
          by_cases hqm : q = m
          · subst hqm; rw [hkm] at hx; cases hx; exact hc
          · exact hc.trans (hHs.get (by omega) hkm hx), hB⟩
        case measure => have := HM.out; simp [intOf]; omega
    · have hie : i = j := by omega
      subst hie
      have HF : Hid (pgi (ens L) k = i - 1) := hfin.out i (by omega) H1.out H2.out
      by_cases hi0 : i = 0
      · subst hi0
        go_wp2
        try simp only [Exit.noGoto_ret]
        go_ret
        refine ⟨?_, hB⟩
        rw [HF.out]
        rfl
      · have hx1 : ¬ ((i : Int) - 1 < 0) := by omega
        have hx2 : (0 : Int) ≤ (i : Int) - 1 := by omega
        go_wp2
        try simp only [Exit.noGoto_ret]
        go_ret
        refine ⟨?_, hB⟩
        rw [HF.out]
        show Ending.returned (Value.int .i64 ((i : Int) - 1)) = _
        rw [show (i : Int) - 1 = ((i - 1 : Nat) : Int) by omega]
theorem pgi_lt {P : List (List En)} (h : P ≠ []) (k : List Int) : pgi P k < P.length := by
  have h1 := plq_le (fks P) k
  have h2 : 0 < P.length := List.length_pos_iff.2 h
  simp only [fks, List.length_map] at h1
  unfold pgi fks
  omega
set_option maxHeartbeats 1000000 in
set_option maxRecDepth 100000 in
theorem find_nil {w : World} {F D : Nat → Prop} {g : Nat} {v : Value} (A : MapA w F D g []) :
    Calls Tryz.prog 103 #[.pointer (some ⟨g, 0, none⟩), v] w fun e w' => e = .returned (.tuple #[.int .i64 0, .int .i64 0, .bool false]) ∧ w' = w := by
  obtain ⟨ao, c, hc, hc1, hc2, hat⟩ := A.rd
  simp only [List.length_nil] at hc
  clear A hat
  go_enter Tryz.func103, Tryz.ntmps103
  go_wp2
  go_ret3
  exact ⟨rfl, rfl⟩
set_option maxHeartbeats 1000000 in
set_option maxRecDepth 100000 in
theorem find_at {w : World} {F D : Nat → Prop} {g : Nat} {L : List Pg} {p : Pg} {v : Value} {k : List Int} (A : MapA w F D g L) (O : Ord (ens L)) (h : By w v k) (hn : L.length ≤ 1000000000) (hp : L[pgi (ens L) k]? = some p) (hs : p.es.length ≤ 1000000) :
    Calls Tryz.prog 103 #[.pointer (some ⟨g, 0, none⟩), v] w fun e w' => e = .returned (.tuple #[.int .i64 (pgi (ens L) k), .int .i64 (plc (kys p.es) k), .bool (thr (kys p.es) k)]) ∧ Below w.heap.size w w' := by
  have tP := pageOf_any A O h hn
  have hlt := (List.getElem?_eq_some_iff.1 hp).1
  have hpm := List.mem_of_getElem? hp
  have tF : ∀ w', Below w.heap.size w w' → Calls Tryz.prog 152 #[p.v, v] w' fun e w'' => e = .returned (.tuple #[.int .i64 (plc (kys p.es) k), .bool (thr (kys p.es) k)]) ∧ Below w'.heap.size w' w'' := fun w' hb =>
    placeOf_any ((A.pages p hpm).1.keep hb) (O.page (ens_get hp)) (h.keep hb) hs
  obtain ⟨ao, c, hc, hc1, hc2, hat⟩ := A.rd
  obtain ⟨G, rfl, cG⟩ := hat _ p hp
  have hgl := cell_lt hc
  have hGl := cell_lt cG
  generalize pgi (ens L) k = i at *
  generalize plc (kys p.es) k = x at *
  generalize thr (kys p.es) k = y at *
  obtain ⟨n, hnn⟩ : ∃ n, L.length = n := ⟨_, rfl⟩
  rw [hnn] at hc hc1 hlt
  have hz0 : ¬ ((n : Int) = 0) := by omega
  have hz1 : (i : Int) < n := by omega
  simp only [Pg.v] at *
  clear A O h hat hp hpm
  go_enter Tryz.func103, Tryz.ntmps103
  go_wp2_with (first | (go_at_call 151; refine tP.mono ?_; rintro e' w1 ⟨rfl, hB1⟩; have c1 : w1.cell? ⟨g, 0, none⟩ = some (.slice (some ⟨G, 0, none⟩) n c) := (hB1.cell (p := ⟨g, 0, none⟩) hgl).trans hc; have c2 : w1.cell? ⟨G, i, none⟩ = some (.slice (some ⟨p.b, 0, none⟩) p.es.length p.c) := (hB1.cell (p := ⟨G, i, none⟩) hGl).trans cG; have tF1 := tF w1 hB1; clear tP tF) | (go_at_call 152; refine tF1.mono ?_; rintro e' w2 ⟨rfl, hB2⟩))
  go_ret3
  exact ⟨rfl, joinB hB1 hB2⟩
end Pg
end Go.Proofs.YtpoifdokmjhclaaGreat

namespace Go.Proofs.YtpoifdokmjhclaaGreat
namespace Pg
open Go.RowKit Go.Lib

theorem MapA.opn {w : World} {F D : Nat → Prop} {g : Nat} {L : List Pg} (A : MapA w F D g L) (h : L ≠ []) : ∃ G C, Blk w g [.slice (some ⟨G, 0, none⟩) L.length C] 201 ∧ F g ∧ F G ∧ Rw w 198 1 G L.length C (L.map Pg.v) := by
  obtain ⟨pv, hb, hg, ⟨rfl, rfl⟩ | ⟨G, C, rfl, hG, hR⟩⟩ := A.top
  · exact absurd rfl h
  · exact ⟨G, C, hb, hg, hG, hR⟩
theorem blk_ne {w : World} {a b : Nat} {cs ds : List Value} {t u : TypeId} (h : Blk w a cs t) (h' : Blk w b ds u) (ht : t ≠ u) : a ≠ b := fun e => by subst e; exact ht (h.eq h').2
theorem PgA.ne_map {w : World} {D : Nat → Prop} {p : Pg} (h : PgA w D p) {g : Nat} {cs : List Value} (hg : Blk w g cs 201) : p.b ≠ g := by
  obtain ⟨ds, k⟩ := h.row.kind
  exact blk_ne k hg (by decide)
theorem PgA.ne_row {w : World} {D : Nat → Prop} {p : Pg} (h : PgA w D p) {G n c : Nat} {xs : List Value} (hG : Rw w 198 1 G n c xs) : p.b ≠ G := by
  obtain ⟨ds, k⟩ := h.row.kind
  obtain ⟨es, k'⟩ := hG.kind
  exact blk_ne k k' (by decide)
theorem Rw.ne_map {w : World} {G n c : Nat} {xs : List Value} (hG : Rw w 198 1 G n c xs) {g : Nat} {cs : List Value} (hg : Blk w g cs 201) : G ≠ g := by
  obtain ⟨es, k'⟩ := hG.kind
  exact blk_ne k' hg (by decide)
theorem nodup_lt {L : List Pg} (h : (L.map Pg.b).Nodup) {i j : Nat} {p q : Pg} (hi : L[i]? = some p) (hj : L[j]? = some q) (hij : i < j) : p.b ≠ q.b := by
  obtain ⟨l1, e1⟩ := List.getElem?_eq_some_iff.1 hi
  obtain ⟨l2, e2⟩ := List.getElem?_eq_some_iff.1 hj
  have := List.pairwise_iff_getElem.1 h i j (by simpa using l1) (by simpa using l2) hij
  simpa [e1, e2] using this
theorem nodup_ne {L : List Pg} (h : (L.map Pg.b).Nodup) {i j : Nat} {p q : Pg} (hi : L[i]? = some p) (hj : L[j]? = some q) (hij : i ≠ j) : p.b ≠ q.b := by
  rcases Nat.lt_or_gt_of_ne hij with k | k
  · exact nodup_lt h hi hj k
  · exact (nodup_lt h hj hi k).symm
theorem nodup_of {L : List Pg} (h : ∀ (i j : Nat) (p q : Pg), L[i]? = some p → L[j]? = some q → i < j → p.b ≠ q.b) : (L.map Pg.b).Nodup := by
  refine List.pairwise_iff_getElem.2 fun i j h1 h2 hij => ?_
  have l1 : i < L.length := by simpa using h1
  have l2 : j < L.length := by simpa using h2
  simpa using h i j _ _ (List.getElem?_eq_getElem l1) (List.getElem?_eq_getElem l2) hij
/-- bytes stay where no list of bytes is changed -/
theorem EnA.off {w w' : World} {D : Nat → Prop} {e : En} (h : EnA w D e) (h2 : ∀ b, b < w.heap.size → (∃ cs, Blk w b cs 5) → w'.heap[b]? = w.heap[b]?) : EnA w' D e := by
  have hob : ∀ {v : Value} {l : List Int}, OB w D v l → OB w' D v l := fun h => ⟨h.oct, h.ex.imp id (by
    rintro ⟨b, c, e, hd, hR⟩
    exact ⟨b, c, e, hd, hR.same (h2 b hR.lt hR.kind)⟩)⟩
  exact ⟨hob h.k, hob h.v⟩
/-- a page put anew -/
theorem MapA.put {w w1 : World} {F D D' : Nat → Prop} {g G C i : Nat} {L : List Pg} {p p' : Pg} (A : MapA w F D g L) (hg : Blk w g [.slice (some ⟨G, 0, none⟩) L.length C] 201) (hFg : F g) (hFG : F G) (hR : Rw w 198 1 G L.length C (L.map Pg.v))
    (hi : L[i]? = some p) (hC : Chg (· = p.b) w w1) (hb : p'.b = p.b ∨ w.heap.size ≤ p'.b) (hA : PgA w1 D' p') (hD : ∀ b, b < w.heap.size → D b → D' b) :
    MapA (w1.setCell ⟨G, i, none⟩ p'.v) (fun x => (F x ∧ x ≠ p.b) ∨ x = p'.b) D' g (L.set i p') ∧ Chg F w (w1.setCell ⟨G, i, none⟩ p'.v) := by
  have hil := (List.getElem?_eq_some_iff.1 hi).1
  have hp := A.pages p (List.mem_of_getElem? hi)
  have n1 := hp.1.ne_map hg
  have n2 := hp.1.ne_row hR
  have n3 := hR.ne_map hg
  have hg1 : Blk w1 g _ _ := hg.chg hC (fun e => n1 e.symm)
  have hR1 := hR.chg hC (fun e => n2 e.symm)
  have hR2 := hR1.set i (by simpa using hil) p'.v
  have n4 : p'.b ≠ G := hA.ne_row hR1
  have hC2 : Chg F w (w1.setCell ⟨G, i, none⟩ p'.v) := (hC.mono (F' := F) (fun b _ e => by subst e; exact hp.2)).cell (.inl hFG) _
  have hu8 : ∀ b, b < w.heap.size → (∃ cs, Blk w b cs 5) → (w1.setCell ⟨G, i, none⟩ p'.v).heap[b]? = w.heap[b]? := fun b hb hk => by
    obtain ⟨cs, k⟩ := hk
    exact hC2.same b hb fun f => A.noU f cs k
  have hset : ∀ b, b ≠ G → (w1.setCell ⟨G, i, none⟩ p'.v).heap[b]? = w1.heap[b]? := fun b hb => Below.heap_setCell w1 _ _ b hb
  refine ⟨⟨⟨_, hg1.off (fun e => n3 e.symm) _, .inl ⟨hFg, fun e => n1 e.symm⟩, .inr ⟨G, C, ?_, .inl ⟨hFG, fun e => n2 e.symm⟩, ?_⟩⟩, fun q hq => ?_, nodup_of fun x y a b hx hy hxy => ?_, fun b hb => ?_⟩, hC2⟩
  · rw [List.length_set]
  · rw [List.length_set]
    refine hR2.to ?_
    rw [List.map_set]
  · obtain ⟨j, hj⟩ := List.getElem?_of_mem hq
    rw [List.getElem?_set] at hj
    by_cases e : i = j
    · subst e
      rw [if_pos rfl, if_pos hil] at hj
      cases hj
      refine ⟨⟨hA.row.same (hset _ n4), fun e he => (hA.ents e he).off fun b _ hk => ?_⟩, .inr rfl⟩
      obtain ⟨cs, k⟩ := hk
      obtain ⟨ds, k'⟩ := hR1.kind
      exact hset b (blk_ne k k' (by decide))
    · rw [if_neg e] at hj
      have hqm := A.pages q (List.mem_of_getElem? hj)
      have hne : q.b ≠ p.b := fun e' => nodup_ne A.apart hi hj e e'.symm
      exact ⟨⟨(hqm.1.row.chg hC hne).same (hset _ (hqm.1.ne_row hR)), fun e he => ((hqm.1.ents e he).mono hD).off hu8⟩, .inl ⟨hqm.2, hne⟩⟩
  · have key : ∀ (y : Nat) (b : Pg), y ≠ i → L[y]? = some b → p'.b ≠ b.b := fun y b hy hb' => by
      rcases hb with e | e
      · rw [e]; exact nodup_ne A.apart hi hb' (fun e' => hy e'.symm)
      · have := (A.pages b (List.mem_of_getElem? hb')).1.row.lt
        omega
    rw [List.getElem?_set] at hx hy
    by_cases e : i = x
    · subst e
      rw [if_pos rfl, if_pos hil] at hx
      cases hx
      rw [if_neg (by omega)] at hy
      exact key y b (by omega) hy
    · rw [if_neg e] at hx
      by_cases e' : i = y
      · subst e'
        rw [if_pos rfl, if_pos hil] at hy
        cases hy
        exact (key x a (by omega) hx).symm
      · rw [if_neg e'] at hy
        exact nodup_lt A.apart hx hy hxy
  · by_cases e : b = p'.b
    · subst e
      obtain ⟨cs, k⟩ := hA.row.kind
      exact ⟨cs, _, k.same (hset _ n4), by decide⟩
    · obtain ⟨hF, e2⟩ := hb.resolve_right e
      obtain ⟨cs, t, k, ht⟩ := A.kind b hF
      by_cases e1 : b = G
      · subst e1
        obtain ⟨ds, k'⟩ := hR2.kind
        exact ⟨ds, _, k', by decide⟩
      · exact ⟨cs, t, (k.chg hC e2).same (hset b e1), ht⟩
/-- the list of pages put anew -/
theorem mapA_swap {w w1 : World} {F D : Nat → Prop} {g G G' C' n : Nat} {c0 : Value} {L' : List Pg} (hP : ∀ p ∈ L', PgA w D p ∧ F p.b) (hap : (L'.map Pg.b).Nodup) (hk : ∀ b, F b → ∃ cs t, Blk w b cs t ∧ t ≠ 5) (hg : Blk w g [c0] 201) (hFg : F g) (hFG : F G) (hgG : G ≠ g) (hC : Chg (· = G) w w1) (hnG : ∀ p ∈ L', p.b ≠ G) (hn : L'.length = n)
    (hR : Rw w1 198 1 G' n C' (L'.map Pg.v)) :
    MapA (w1.setCell ⟨g, 0, none⟩ (.slice (some ⟨G', 0, none⟩) n C')) (fun x => (F x ∧ x ≠ G) ∨ x = G') D g L' ∧ Chg F w (w1.setCell ⟨g, 0, none⟩ (.slice (some ⟨G', 0, none⟩) n C')) := by
  subst hn
  have hg1 : Blk w1 g [c0] 201 := hg.chg hC (fun e => hgG e.symm)
  have hg2 := hg1.setCell (i := 0) (.slice (some ⟨G', 0, none⟩) L'.length C')
  have hne : G' ≠ g := hR.ne_map hg1
  have hset : ∀ b, b ≠ g → (w1.setCell ⟨g, 0, none⟩ (.slice (some ⟨G', 0, none⟩) L'.length C')).heap[b]? = w1.heap[b]? := fun b hb => Below.heap_setCell w1 _ _ b hb
  have hC2 : Chg F w (w1.setCell ⟨g, 0, none⟩ (.slice (some ⟨G', 0, none⟩) L'.length C')) := (hC.mono (F' := F) (fun b _ e => by subst e; exact hFG)).cell (.inl hFg) _
  have hu8 : ∀ b, b < w.heap.size → (∃ cs, Blk w b cs 5) → (w1.setCell ⟨g, 0, none⟩ (.slice (some ⟨G', 0, none⟩) L'.length C')).heap[b]? = w.heap[b]? := fun b hb hkk => by
    obtain ⟨cs, k⟩ := hkk
    exact hC2.same b hb fun f => by
      obtain ⟨cs', t, hk', ht⟩ := hk b f
      exact ht (hk'.eq k).2
  refine ⟨⟨⟨_, hg2, .inl ⟨hFg, fun e => hgG e.symm⟩, .inr ⟨G', C', rfl, .inr rfl, hR.same (hset _ hne)⟩⟩, fun q hq => ?_, hap, fun b hb => ?_⟩, hC2⟩
  · have hqm := hP q hq
    exact ⟨⟨(hqm.1.row.chg hC (hnG q hq)).same (hset _ (hqm.1.ne_map hg)), fun e he => (hqm.1.ents e he).off hu8⟩, .inl ⟨hqm.2, hnG q hq⟩⟩
  · by_cases e : b = G'
    · subst e
      obtain ⟨ds, k⟩ := hR.kind
      exact ⟨ds, _, k.same (hset _ hne), by decide⟩
    · obtain ⟨hF, e2⟩ := hb.resolve_right e
      obtain ⟨ds, t, k, ht⟩ := hk b hF
      by_cases e1 : b = g
      · subst e1
        exact ⟨_, _, hg2, by decide⟩
      · exact ⟨ds, t, (k.chg hC e2).same (hset b e1), ht⟩
theorem pv_one (L : List Pg) : ∀ v ∈ L.map Pg.v, v.oneCell' = true := fun v hv => by
  obtain ⟨p, _, rfl⟩ := List.mem_map.1 hv
  rfl
end Pg
end Go.Proofs.YtpoifdokmjhclaaGreat

namespace Go.Proofs.YtpoifdokmjhclaaGreat
namespace Pg
open Go.RowKit Go.Lib
section
variable {ops : Array Oper} {Q : Exit → Act → World → Prop} {S : World → Prop} {fuel : Nat} {listed : Array Bool} {a : Act} {w : World}

/-- operation i may be taken first, is wanted, and writes d -/
def rgChk (ops : Array Oper) (listed : Array Bool) (a : Act) (i : Nat) (d : Option Tmp) : Bool :=
  Region.noSelect ops && Region.free .any ops listed i && (Region.ready .any ops listed).contains i && decide (i < ops.size) && Region.wanted (ops.getD i default) (yielded ops a.tmps) && decide ((ops.getD i default).dst = d)
/-- operation i may be taken first, is passed over by its guard, and would write d -/
def rgNot (ops : Array Oper) (listed : Array Bool) (a : Act) (i : Nat) (d : Option Tmp) : Bool :=
  Region.noSelect ops && Region.free .any ops listed i && (Region.ready .any ops listed).contains i && decide (i < ops.size) && !Region.wanted (ops.getD i default) (yielded ops a.tmps) && decide ((ops.getD i default).dst = d)
/-- operation i alone may come up, is wanted, and writes d -/
def rgLone (ops : Array Oper) (listed : Array Bool) (a : Act) (i : Nat) (d : Option Tmp) : Bool :=
  decide (Region.ready .any ops listed = [i]) && decide (i < ops.size) && Region.wanted (ops.getD i default) (yielded ops a.tmps) && decide ((ops.getD i default).dst = d)
theorem at_getD {i : Nat} (h : i < ops.size) : ops[i]? = some (ops.getD i default) := by
  simp [Array.getD, h]
theorem rg_take (i : Nat) (d : Option Tmp) (v : Value) (hc : rgChk ops listed a i d = true) (hy : ∀ w', S w' → (execOp a.eval (ops.getD i default)).run Tryz.prog w' = .ok (.value v) w')
    (hQ : ∀ c a w, Q (.panic c) (a.put d v) w → Q (.panic c) a w) (hS : S w)
    (h : wpAnyH Tryz.prog .any ops Q S fuel (listed.setIfInBounds i true) (a.put d v) w) : wpAnyH Tryz.prog .any ops Q S (fuel + 1) listed a w := by
  simp only [rgChk, Bool.and_eq_true, decide_eq_true_eq] at hc
  obtain ⟨⟨⟨⟨⟨h1, h2⟩, h3⟩, h4⟩, h5⟩, h6⟩ := hc
  subst h6
  exact wpAnyH_take (at_getD h4) h1 h2 h3 hQ (.inl ⟨h5, hy⟩) hS h
theorem rg_eq (i : Nat) (d : Option Tmp) (v v' : Value) (hv : v = v') (hc : rgChk ops listed a i d = true) (hy : ∀ w', S w' → (execOp a.eval (ops.getD i default)).run Tryz.prog w' = .ok (.value v) w')
    (hQ : ∀ c a w, Q (.panic c) (a.put d v') w → Q (.panic c) a w) (hS : S w)
    (h : wpAnyH Tryz.prog .any ops Q S fuel (listed.setIfInBounds i true) (a.put d v') w) : wpAnyH Tryz.prog .any ops Q S (fuel + 1) listed a w := by
  subst hv
  exact rg_take i d v hc hy hQ hS h
theorem rg_skip (i : Nat) (d : Option Tmp) (hc : rgNot ops listed a i d = true) (hQ : ∀ c a w, Q (.panic c) (a.put d undef) w → Q (.panic c) a w) (hS : S w)
    (h : wpAnyH Tryz.prog .any ops Q S fuel (listed.setIfInBounds i true) (a.put d undef) w) : wpAnyH Tryz.prog .any ops Q S (fuel + 1) listed a w := by
  simp only [rgNot, Bool.and_eq_true, decide_eq_true_eq, Bool.not_eq_true'] at hc
  obtain ⟨⟨⟨⟨⟨h1, h2⟩, h3⟩, h4⟩, h5⟩, h6⟩ := hc
  subst h6
  exact wpAnyH_take (at_getD h4) h1 h2 h3 hQ (.inr ⟨h5, rfl⟩) hS h
theorem rg_load (i : Nat) (d : Option Tmp) (v : Value) (T : TypeId) (k g o : Nat) (hc : rgChk ops listed a i d = true) (ho : (ops.getD i default).op = .load T (.tmp k)) (hp : a.eval (.tmp k) = .pointer (some ⟨g, o, none⟩))
    (hl : ∀ w', S w' → (loadVar T ⟨g, o, none⟩).run Tryz.prog w' = .ok v w')
    (hQ : ∀ c a w, Q (.panic c) (a.put d v) w → Q (.panic c) a w) (hS : S w)
    (h : wpAnyH Tryz.prog .any ops Q S fuel (listed.setIfInBounds i true) (a.put d v) w) : wpAnyH Tryz.prog .any ops Q S (fuel + 1) listed a w :=
  rg_take i d v hc (fun w' hS' => by
    have := hl w' hS'
    simp only [execOp, ho, hp]
    simp [Instr.loadAt, Instr.sureAddr, Result.andThen, this]) hQ hS h
theorem rg_call (i : Nat) (d : Option Tmp) (f : FuncId) (args : Array Value) {Qc : Ending → World → Prop} (hc : rgLone ops listed a i d = true) (hrun : (execOp a.eval (ops.getD i default)).run Tryz.prog w = .ok (.enter f args) w)
    (hcall : Calls Tryz.prog f args w Qc) (hk : ∀ e w', Qc e w' → ∃ v, e = .returned v ∧ S w' ∧ wpAnyH Tryz.prog .any ops Q S fuel (listed.setIfInBounds i true) (a.put d v) w') :
    wpAnyH Tryz.prog .any ops Q S (fuel + 1) listed a w := by
  simp only [rgLone, Bool.and_eq_true, decide_eq_true_eq] at hc
  obtain ⟨⟨⟨h3, h4⟩, h5⟩, h6⟩ := hc
  subst h6
  refine wpAnyH_all h3 (by simp) fun j hj => ?_
  obtain rfl : j = i := by simpa using hj
  refine wpOp_step (at_getD h4) fun K hK => ?_
  rw [if_pos h5]
  unfold Oper.wp
  rw [hrun]
  refine hcall.mono fun e w' he => ?_
  obtain ⟨v, rfl, hS', hw⟩ := hk e w' he
  exact hK _ _ ⟨hS', hw⟩
theorem rg_done (hr : Region.ready .any ops listed = []) (h : Q .normal a w) : wpAnyH Tryz.prog .any ops Q S fuel listed a w := wpAnyH_done hr h fuel
theorem rg_start {id : Nat} (hm : Tryz.prog.follows .mixedOrders = true) (hS : S w.drew) (h : wpAnyH Tryz.prog .any ops Q S ops.size (Array.replicate ops.size false) a w.drew) : (Code.region id ops true).wp Tryz.prog Q a w :=
  wp_region_held_drew hm hS fun _ => h
end
/-- the frame with these slots put -/
def putAll (a : Act) : List (Option Tmp × Value) → Act
  | [] => a
  | p :: l => putAll (a.put p.1 p.2) l
section
variable {ops : Array Oper} {Q : Exit → Act → World → Prop} {S : World → Prop} {fuel : Nat} {listed : Array Bool} {a : Act} {w : World}
theorem rg_mid {X : Type} {id : Nat} {K : Act → World → Prop} {Q' : Exit → Act → World → Prop} (upd : X → List (Option Tmp × Value)) (F : X → World → Prop) (S : World → Prop) (hm : Tryz.prog.follows .mixedOrders = true) (hS : S w.drew)
    (h1 : wpAnyH Tryz.prog .any ops (Exit.then (fun a' w' => ∃ x, a' = putAll a (upd x) ∧ F x w') (fun _ _ _ => False)) S ops.size (Array.replicate ops.size false) a w.drew)
    (h2 : ∀ x w', F x w' → K (putAll a (upd x)) w') : (Code.region id ops true).wp Tryz.prog (Exit.then K Q') a w :=
  Code.wp_mono (fun e a' w' h => by
    cases e <;> first
      | (obtain ⟨x, rfl, hF⟩ := h; exact h2 x w' hF)
      | exact h.elim) (wp_region_held_drew (S := S) hm hS fun _ => h1)
def rgWant (ops : Array Oper) (a : Act) (i : Nat) (d : Option Tmp) : Bool :=
  decide (i < ops.size) && Region.wanted (ops.getD i default) (yielded ops a.tmps) && decide ((ops.getD i default).dst = d)
theorem rg_ready (rs : List Nat) (hr : Region.ready .any ops listed = rs) (hne : rs ≠ []) (h : AllReadyH Tryz.prog .any ops Q S fuel listed a w rs) : wpAnyH Tryz.prog .any ops Q S (fuel + 1) listed a w := wpAnyH_ready hr hne h
theorem ar_nil : AllReadyH Tryz.prog .any ops Q S fuel listed a w [] := AllReadyH.nil
theorem ar_call {rs : List Nat} (i : Nat) (d : Option Tmp) (f : FuncId) (args : Array Value) {Qc : Ending → World → Prop} (hc : rgWant ops a i d = true) (hrun : (execOp a.eval (ops.getD i default)).run Tryz.prog w = .ok (.enter f args) w)
    (hcall : Calls Tryz.prog f args w Qc) (hk : ∀ e w', Qc e w' → ∃ v, e = .returned v ∧ S w' ∧ wpAnyH Tryz.prog .any ops Q S fuel (listed.setIfInBounds i true) (a.put d v) w')
    (hs : AllReadyH Tryz.prog .any ops Q S fuel listed a w rs) : AllReadyH Tryz.prog .any ops Q S fuel listed a w (i :: rs) := by
  simp only [rgWant, Bool.and_eq_true, decide_eq_true_eq] at hc
  obtain ⟨⟨h4, h5⟩, h6⟩ := hc
  subst h6
  refine AllReadyH.cons (at_getD h4) (fun K hK => ?_) hs
  rw [if_pos h5]
  unfold Oper.wp
  rw [hrun]
  refine hcall.mono fun e w' he => ?_
  obtain ⟨v, rfl, hS', hw⟩ := hk e w' he
  exact hK.out _ _ hS' fun _ => hw
theorem ar_val {rs : List Nat} (i : Nat) (d : Option Tmp) (v : Value) (w1 : World) (hc : rgWant ops a i d = true) (hrun : (execOp a.eval (ops.getD i default)).run Tryz.prog w = .ok (.value v) w1)
    (hS1 : S w1) (h : wpAnyH Tryz.prog .any ops Q S fuel (listed.setIfInBounds i true) (a.put d v) w1)
    (hs : AllReadyH Tryz.prog .any ops Q S fuel listed a w rs) : AllReadyH Tryz.prog .any ops Q S fuel listed a w (i :: rs) := by
  simp only [rgWant, Bool.and_eq_true, decide_eq_true_eq] at hc
  obtain ⟨⟨h4, h5⟩, h6⟩ := hc
  subst h6
  refine AllReadyH.cons (at_getD h4) (fun K hK => ?_) hs
  rw [if_pos h5]
  unfold Oper.wp
  rw [hrun]
  show K (a.put (ops.getD i default).dst v) w1
  exact hK.out _ _ hS1 fun _ => h
theorem ar_void {rs : List Nat} (i : Nat) (w1 : World) (hc : rgWant ops a i none = true) (hrun : (execOp a.eval (ops.getD i default)).run Tryz.prog w = .ok .skip w1)
    (hS1 : S w1) (h : wpAnyH Tryz.prog .any ops Q S fuel (listed.setIfInBounds i true) (a.put none undef) w1)
    (hs : AllReadyH Tryz.prog .any ops Q S fuel listed a w rs) : AllReadyH Tryz.prog .any ops Q S fuel listed a w (i :: rs) := by
  simp only [rgWant, Bool.and_eq_true, decide_eq_true_eq] at hc
  obtain ⟨⟨h4, h5⟩, h6⟩ := hc
  refine AllReadyH.cons (at_getD h4) (fun K hK => ?_) hs
  rw [if_pos h5]
  unfold Oper.wp
  rw [hrun]
  show K (a.put (ops.getD i default).dst undef) w1
  rw [h6]
  exact hK.out _ _ hS1 fun _ => h
end
theorem run_ix {a : Act} {w : World} {op : Oper} {T : TypeId} {x y k n c b : Nat} (ho : op.op = .indexAddr T (.tmp x) (.tmp y)) (hT : Tryz.prog.underlying T = some (.slice 198)) (hx : a.eval (.tmp x) = .slice (some ⟨b, 0, none⟩) n c) {z : Int} (hy : a.eval (.tmp y) = .int .i64 z) (hz : z = (k : Int)) (hk : k < n) : (execOp a.eval op).run Tryz.prog w = .ok (.value (.pointer (some ⟨b, k, none⟩))) w := by
  subst hz
  have h1 : (k : Int) < n := by omega
  have h2 : ¬ ((k : Int) < 0) := by omega
  obtain ⟨i0, hi, hz0, hs0, hb0⟩ := info_parts (P := Tryz.prog) (show (Tryz.prog.info? 198).map (fun i => (i.zero, i.size, i.bytes)) = some (some (.slice none 0 0), 1, 24) by kernel_rfl)
  simp only [execOp, ho, hx, hy]
  go_simp
theorem ld_pp {w : World} {g o : Nat} {v : Value} (c : w.cell? ⟨g, o, none⟩ = some v) : (loadVar 199 ⟨g, o, none⟩).run Tryz.prog w = .ok v w := by go_simp
theorem ld_p {w : World} {g o : Nat} {v : Value} (c : w.cell? ⟨g, o, none⟩ = some v) : (loadVar 198 ⟨g, o, none⟩).run Tryz.prog w = .ok v w := by go_simp
theorem ld_e {w : World} {g : Nat} {v u : Value} (c : w.cell? ⟨g, 0, none⟩ = some v) (d : w.cell? ⟨g, 1, none⟩ = some u) : (loadVar 197 ⟨g, 0, none⟩).run Tryz.prog w = .ok (.agg #[v, u]) w := by go_simp
theorem run_lp {a : Act} {w : World} {o : Oper} {T : TypeId} (k : Nat) {g off : Nat} {v : Value} (ho : o.op = .load T (.tmp k)) (hp : a.eval (.tmp k) = .pointer (some ⟨g, off, none⟩)) (hl : (loadVar T ⟨g, off, none⟩).run Tryz.prog w = .ok v w) : (execOp a.eval o).run Tryz.prog w = .ok (.value v) w := by
  simp only [execOp, ho, hp]
  simp [Instr.loadAt, Instr.sureAddr, Result.andThen, hl]
theorem run_sp {a : Act} {w : World} {o : Oper} (k q : Nat) {g off n c : Nat} {u : Value} {ao : Option Addr} (ho : o.op = .store 198 (.tmp k) (.tmp q)) (hp : a.eval (.tmp k) = .pointer (some ⟨g, off, none⟩)) (hq : a.eval (.tmp q) = .slice ao n c) (hc : w.cell? ⟨g, off, none⟩ = some u) (hf : w.frozen? ⟨g, off, none⟩ = false) :
    (execOp a.eval o).run Tryz.prog w = .ok .skip (w.setCell ⟨g, off, none⟩ (.slice ao n c)) := by
  simp only [execOp, ho, hp, hq]
  go_simp
theorem run_bs {a : Act} {w : World} {o : Oper} {k : Nat} {kv vv : Value} (ho : o.op = .buildSlice 198 1 #[(0, .tmp k)]) (hk : a.eval (.tmp k) = .agg #[kv, vv]) : (execOp a.eval o).run Tryz.prog w = .ok (.value (.slice (some ⟨w.heap.size, 0, none⟩) 1 1)) (w.alloc (.cells #[kv, vv] 197)) := by
  have hk' : a.tmps[k]?.getD undef = .agg #[kv, vv] := by simpa [Act.eval] using hk
  simp only [execOp, ho]
  go_simp
theorem run_bs2 {a : Act} {w : World} {o : Oper} {x y : Nat} {ao bo : Option Addr} {n c m d : Nat} (ho : o.op = .buildSlice 199 2 #[(0, .tmp x), (1, .tmp y)]) (hx : a.eval (.tmp x) = .slice ao n c) (hy : a.eval (.tmp y) = .slice bo m d) : (execOp a.eval o).run Tryz.prog w = .ok (.value (.slice (some ⟨w.heap.size, 0, none⟩) 2 2)) (w.alloc (.cells #[.slice ao n c, .slice bo m d] 198)) := by
  have hx' : a.tmps[x]?.getD undef = .slice ao n c := by simpa [Act.eval] using hx
  have hy' : a.tmps[y]?.getD undef = .slice bo m d := by simpa [Act.eval] using hy
  simp only [execOp, ho]
  go_simp
end Pg
end Go.Proofs.YtpoifdokmjhclaaGreat

namespace Go.Proofs.YtpoifdokmjhclaaGreat
namespace Pg
open Go.RowKit Go.Lib

theorem enA_all {w : World} {D : Nat → Prop} {p : Pg} (h : PgA w D p) {es : List En} (hs : ∀ e ∈ es, e ∈ p.es) : ∀ e ∈ es, EnA w D e := fun e he => h.ents e (hs e he)
theorem belowD (w : World) : Below w.heap.size w w.drew := ⟨rfl, rfl, rfl, Nat.le_refl _, fun _ _ => rfl⟩
theorem cell_off {w : World} {g G i j : Nat} {v u : Value} (h : g ≠ G) (hc : w.cell? ⟨g, j, none⟩ = some u) : (w.setCell ⟨G, i, none⟩ v).cell? ⟨g, j, none⟩ = some u := by
  rw [World.cell?_of_block (w := w) (a := ⟨g, j, none⟩) (Below.heap_setCell w _ v g h)]; exact hc
theorem set_two {α : Type} (L : List α) (i : Nat) (a b : α) (h : i < L.length) : (L.set i a).take (i + 1) ++ [b] ++ (L.set i a).drop (i + 1) = L.take i ++ [a, b] ++ L.drop (i + 1) := by
  have e1 : (L.set i a).take (i + 1) = L.take i ++ [a] := by
    rw [List.take_add_one, List.take_set_of_le (Nat.le_refl _), List.getElem?_set_self h]; rfl
  rw [e1, List.drop_set_of_lt (by omega)]
  simp
theorem split_end {w W2 w3 w5 : World} {F F2 D : Nat → Prop} {g G n m C i b2 c2 G5 C5 : Nat} {L : List Pg} {q1 : Pg} {es : List En} {c0 : Value} (A2 : MapA W2 F2 D g (L.set i q1)) (hF2 : ∀ b, F2 b → F b ∨ w.heap.size ≤ b) (C2 : Chg F w W2) (hgx : Blk W2 g [.slice (some ⟨G, 0, none⟩) (L.set i q1).length C] 201) (hg3 : Blk w3 g [c0] 201) (hFg : F2 g) (hFG : F2 G)
    (hR2 : Rw W2 198 1 G (L.set i q1).length C ((L.set i q1).map Pg.v)) (hgG : g ≠ G) (hil : i < L.length) (hq1 : q1.es = es.take 16) (hdl : (es.drop 16).length = m - 16) (hnn : L.length = n) (B3 : Below W2.drew.heap.size W2.drew w3) (hb2 : W2.drew.heap.size ≤ b2)
    (R3 : Rw w3 197 2 b2 (m - 16) c2 (flat (es.drop 16))) (E0 : ∀ e ∈ es, EnA W2.drew D e) (hb5 : G5 = G ∨ w3.heap.size + 1 ≤ G5)
    (R5 : Rw w5 198 1 G5 (n + 1) C5 (((L.set i q1).map Pg.v).take (i + 1) ++ [.slice (some ⟨b2, 0, none⟩) (m - 16) c2] ++ ((L.set i q1).map Pg.v).drop (i + 1))) (C5' : Chg (· = G) (w3.alloc (.cells #[.slice (some ⟨b2, 0, none⟩) (m - 16) c2] 198)) w5) :
    ∃ F' p1 p2, Ending.returned (.tuple #[]) = Ending.returned (.tuple #[]) ∧ p1.es = es.take 16 ∧ p2.es = es.drop 16 ∧ MapA (w5.setCell ⟨g, 0, none⟩ (.slice (some ⟨G5, 0, none⟩) (n + 1) C5)) F' D g (L.take i ++ [p1, p2] ++ L.drop (i + 1)) ∧ (∀ b, F' b → F b ∨ w.heap.size ≤ b) ∧ Chg F w (w5.setCell ⟨g, 0, none⟩ (.slice (some ⟨G5, 0, none⟩) (n + 1) C5)) := by
  obtain ⟨W4, hW4⟩ : ∃ W4, W4 = w3.alloc (.cells #[.slice (some ⟨b2, 0, none⟩) (m - 16) c2] 198) := ⟨_, rfl⟩
  have B4 : Below W2.heap.size W2 W4 := by rw [hW4]; exact joinB (joinB (belowD W2) B3) (below_alloc w3 _)
  have B34 : Below w3.heap.size w3 W4 := by rw [hW4]; exact below_alloc w3 _
  rw [← hW4] at C5'
  have A4 := A2.keep B4
  have hP2 : PgA W4 D ⟨b2, c2, es.drop 16⟩ := by
    refine ⟨?_, fun e he => ((E0 e (List.mem_of_mem_drop he)).keep B3).keep B34⟩
    show Rw W4 _ 2 b2 (es.drop 16).length c2 _
    rw [hdl]; exact R3.keep B34
  have hb2' : W2.heap.size ≤ b2 := hb2
  have hv2 : (⟨b2, c2, es.drop 16⟩ : Pg).v = .slice (some ⟨b2, 0, none⟩) (m - 16) c2 := by simp only [Pg.v]; rw [hdl]
  have hL' : ∀ p ∈ (L.set i q1).take (i + 1) ++ [(⟨b2, c2, es.drop 16⟩ : Pg)] ++ (L.set i q1).drop (i + 1), p ∈ L.set i q1 ∨ p = ⟨b2, c2, es.drop 16⟩ := fun p hp => by
    rcases List.mem_append.1 hp with h | h
    · rcases List.mem_append.1 h with h | h
      · exact .inl (List.mem_of_mem_take h)
      · exact .inr (by simpa using h)
    · exact .inl (List.mem_of_mem_drop h)
  have hlen : ((L.set i q1).take (i + 1) ++ [(⟨b2, c2, es.drop 16⟩ : Pg)] ++ (L.set i q1).drop (i + 1)).length = n + 1 := by
    simp; omega
  have hold : ∀ p ∈ L.set i q1, p.b ≠ b2 := fun p hp => by
    have := (A2.pages p hp).1.row.lt
    omega
  obtain ⟨A5, C6⟩ := mapA_swap (w := W4) (w1 := w5) (F := fun x => F2 x ∨ x = b2) (D := D) (g := g) (G := G) (G' := G5) (C' := C5) (n := n + 1) (L' := (L.set i q1).take (i + 1) ++ [(⟨b2, c2, es.drop 16⟩ : Pg)] ++ (L.set i q1).drop (i + 1))
    (fun p hp => by
      rcases hL' p hp with h | rfl
      · exact ⟨(A4.pages p h).1, .inl (A4.pages p h).2⟩
      · exact ⟨hP2, .inr rfl⟩)
    (by
      have hn := A2.apart
      have e : (L.set i q1).map Pg.b = ((L.set i q1).take (i + 1)).map Pg.b ++ ((L.set i q1).drop (i + 1)).map Pg.b := by rw [← List.map_append, List.take_append_drop]
      rw [e] at hn
      have h2 : ∀ x ∈ ((L.set i q1).take (i + 1)).map Pg.b, x ≠ b2 := fun x hx => by
        obtain ⟨p, hp, rfl⟩ := List.mem_map.1 hx
        exact hold p (List.mem_of_mem_take hp)
      have h3 : ∀ x ∈ ((L.set i q1).drop (i + 1)).map Pg.b, x ≠ b2 := fun x hx => by
        obtain ⟨p, hp, rfl⟩ := List.mem_map.1 hx
        exact hold p (List.mem_of_mem_drop hp)
      simp only [List.map_append, List.map_cons, List.map_nil]
      rw [List.nodup_append] at hn
      rw [List.append_assoc, List.nodup_append]
      refine ⟨hn.1, ?_, ?_⟩
      · rw [List.singleton_append, List.nodup_cons]
        exact ⟨fun h => h3 b2 h rfl, hn.2.1⟩
      · intro a ha b hb
        rcases List.mem_append.1 hb with hb | hb
        · simp at hb; subst hb; exact h2 a ha
        · exact hn.2.2 a ha b hb)
    (fun b hb => by
      rcases hb with h | rfl
      · exact A4.kind b h
      · obtain ⟨ds, k⟩ := hP2.row.kind
        exact ⟨ds, _, k, by decide⟩)
    (hg3.keep B34) (.inl hFg) (.inl hFG) (fun e => hgG e.symm) C5'
    (fun p hp => by
      rcases hL' p hp with h | rfl
      · exact (A4.pages p h).1.ne_row (hR2.keep B4)
      · exact hP2.ne_row (hR2.keep B4)) hlen
    (by simpa [List.map_take, List.map_drop, hv2] using R5)
  rw [set_two L i q1 _ hil] at A5
  refine ⟨_, q1, ⟨b2, c2, es.drop 16⟩, rfl, hq1, rfl, A5, fun b hb => ?_, (C2.trans (Chg.of (F := F) B4) (fun _ _ h => h)).trans C6 fun b hb h => ?_⟩
  · rcases hb with ⟨h | rfl, _⟩ | rfl
    · exact hF2 b h
    · exact .inr (by have := C2.size; omega)
    · rcases hb5 with rfl | h
      · exact hF2 _ hFG
      · have h3 := B3.size
        have h2 := C2.size
        have : W2.drew.heap.size = W2.heap.size := rfl
        exact .inr (by omega)
  · rcases h with h | rfl
    · exact (hF2 b h).resolve_right (by omega)
    · have := C2.size; omega
theorem cell_far {w : World} {G i j : Nat} {v u : Value} (h : j ≠ i) (hc : w.cell? ⟨G, j, none⟩ = some u) : (w.setCell ⟨G, i, none⟩ v).cell? ⟨G, j, none⟩ = some u := by
  have hlt := cell_lt hc
  simp only [World.cell?, World.setCell, Array.getElem?_modify, if_true] at hc ⊢
  cases hh : w.heap[G]? with
  | none => rw [hh] at hc; simp at hc
  | some ob =>
    rw [hh] at hc
    cases ob with
    | cells c e f =>
      simp at hc ⊢
      rw [Array.getElem?_setIfInBounds, if_neg (by omega)]; exact hc
    | _ => simp at hc
set_option maxHeartbeats 4000000 in
set_option maxRecDepth 100000 in
theorem split_any {w : World} {F D : Nat → Prop} {g i : Nat} {L : List Pg} {p : Pg} (A : MapA w F D g L) (hi : L[i]? = some p) (h1 : 17 ≤ p.es.length) (h2 : p.es.length ≤ 1000) (hn : L.length ≤ 100000000) :
    Calls Tryz.prog 208 #[.pointer (some ⟨g, 0, none⟩), .int .i64 i] w fun e w' => ∃ F' p1 p2, e = .returned (.tuple #[]) ∧ p1.es = p.es.take 16 ∧ p2.es = p.es.drop 16 ∧ MapA w' F' D g (L.take i ++ [p1, p2] ++ L.drop (i + 1)) ∧ (∀ b, F' b → F b ∨ w.heap.size ≤ b) ∧ Chg F w w' := by
  have hil := (List.getElem?_eq_some_iff.1 hi).1
  have hL : L ≠ [] := fun e => by subst e; simp at hil
  obtain ⟨G, C, hg, hFg, hFG, hR⟩ := A.opn hL
  have hp := A.pages p (List.mem_of_getElem? hi)
  have cg := hg.cell (i := 0) rfl
  have cG := hR.cell (i := i) (v := p.v) (by simp [hi])
  have hpc := hp.1.row.le
  have hCC := hR.le
  simp only [maxLen] at hpc hCC
  have cgd : w.drew.cell? ⟨g, 0, none⟩ = some (.slice (some ⟨G, 0, none⟩) L.length C) := cg
  have t1 := cloneE (w := w.drew) (a := ⟨p.b, 0, none⟩) (n := 16) (c := p.c) (xs := flat (p.es.take 16)) (by decide) (by rw [flat_len, List.length_take]; omega) (fun j v hj => by
    rw [Addr.add_lit, Nat.zero_add]
    have : (flat p.es)[j]? = some v := by
      rw [← flat_take, List.getElem?_take] at hj
      split at hj
      · exact hj
      · cases hj
    exact hp.1.row.drew.cell this) (flat_one (enA_all hp.1 fun e he => List.mem_of_mem_take he))
  obtain ⟨n, hnn⟩ : ∃ n, Hid (L.length = n) := ⟨_, rfl⟩
  obtain ⟨m, hmm⟩ : ∃ m, Hid (p.es.length = m) := ⟨_, rfl⟩
  simp only [Pg.v] at cG
  rw [hnn.out] at cg cgd
  rw [hmm.out] at cG
  have z1 : (i : Int) < n := by have := hnn.out; omega
  have z2 : m ≤ p.c := by have := hmm.out; omega
  have z3 : p.c ≤ 9223372036854775807 := by omega
  have z4 : 17 ≤ m := by have := hmm.out; omega
  have z5 : 16 ≤ p.c := by omega
  have z6 : (16 : Int) ≤ (p.c : Int) := by omega
  have hgG : g ≠ G := fun e => hR.ne_map hg e.symm
  have mixed := mixed
  go_enter Tryz.func208, Tryz.ntmps208
  go_wp2
  go_region_held3 (fun w' => w'.cell? ⟨g, 0, none⟩ = some (.slice (some ⟨G, 0, none⟩) n C)) (first | assumption | exact cell_off hgG (by assumption))
    (first
    | (go_at_call 254; refine t1.mono ?_; rintro e' w1 ⟨b1, c1, rfl, hb1, R1, B1⟩; have cg1 : w1.cell? ⟨g, 0, none⟩ = some (.slice (some ⟨G, 0, none⟩) n C) := (B1.cell (p := ⟨g, 0, none⟩) (cell_lt cgd)).trans cgd; have cG1 : w1.cell? ⟨G, i, none⟩ = some (.slice (some ⟨p.b, 0, none⟩) m p.c) := (B1.cell (p := ⟨G, i, none⟩) (cell_lt (w := w.drew) cG)).trans cG; have fG1 : w1.frozen? ⟨G, i, none⟩ = false := (hR.drew.keep B1).free i))
  -- the first half is laid
  obtain ⟨q1, hq1⟩ : ∃ q1 : Pg, Hid (q1 = ⟨b1, c1, p.es.take 16⟩) := ⟨_, rfl⟩
  have hq1l : (p.es.take 16).length = 16 := by rw [List.length_take]; omega
  have hq1v : q1.v = .slice (some ⟨b1, 0, none⟩) 16 c1 := by rw [hq1.out]; simp only [Pg.v]; rw [hq1l]
  have hPA1 : PgA w1 D q1 := by
    rw [hq1.out]
    refine ⟨?_, fun e he => ((hp.1.ents e (List.mem_of_mem_take he)).keep (belowD w)).keep B1⟩
    show Rw w1 _ 2 b1 (p.es.take 16).length c1 _
    rw [hq1l]; exact R1
  obtain ⟨A2, C2⟩ := A.put (p' := q1) (D' := D) hg hFg hFG hR hi (Chg.of (joinB (belowD w) B1)) (.inr (by rw [hq1.out]; exact hb1)) hPA1 (fun _ _ h => h)
  rw [hq1v] at A2 C2
  have R0 : Rw (w1.setCell ⟨G, i, none⟩ (.slice (some ⟨b1, 0, none⟩) 16 c1)) 197 2 p.b p.es.length p.c (flat p.es) := ((hp.1.row.keep (belowD w)).keep B1).same (Below.heap_setCell w1 _ _ _ (hp.1.ne_row hR))
  have E0 : ∀ e ∈ p.es, EnA (w1.setCell ⟨G, i, none⟩ (.slice (some ⟨b1, 0, none⟩) 16 c1)) D e := fun e he => (((hp.1.ents e he).keep (belowD w)).keep B1).off fun b hb hk => by
    obtain ⟨cs, k⟩ := hk
    obtain ⟨ds, k'⟩ := (hR.drew.keep B1).kind
    exact Below.heap_setCell w1 _ _ b (blk_ne k k' (by decide))
  have hw1l : w.heap.size ≤ (w1.setCell ⟨G, i, none⟩ (.slice (some ⟨b1, 0, none⟩) 16 c1)).heap.size := C2.size
  have hb1q : q1.b = b1 := by rw [hq1.out]
  have hq1e : q1.es = p.es.take 16 := by rw [hq1.out]
  have hgb2 := (hg.drew.keep B1).off hgG (i := i) (.slice (some ⟨b1, 0, none⟩) 16 c1)
  have hF2 : ∀ b, ((F b ∧ b ≠ p.b) ∨ b = q1.b) → F b ∨ w.heap.size ≤ b := fun b h => h.imp (fun h => h.1) (fun h => by rw [h, hb1q]; exact hb1)
  generalize (w1.setCell ⟨G, i, none⟩ (.slice (some ⟨b1, 0, none⟩) 16 c1)) = W2 at *
  generalize hF2d : (fun x => (F x ∧ x ≠ p.b) ∨ x = q1.b) = F2 at A2
  obtain ⟨G2, D2, hg2, hFg2, hFG2, hR2⟩ := A2.opn (by simp [hL])
  obtain ⟨rfl, rfl⟩ : G2 = G ∧ D2 = C := by
    have := (hg2.eq hgb2).1
    simp at this
    exact ⟨this.1, this.2⟩
  have hF2' : ∀ b, F2 b → F b ∨ w.heap.size ≤ b := fun b h => hF2 b (by rw [← hF2d] at h; exact h)
  have cg2 : W2.cell? ⟨g, 0, none⟩ = some (.slice (some ⟨G2, 0, none⟩) n D2) := by
    have := hgb2.cell (i := 0) rfl
    rwa [hnn.out] at this
  have cg2d : W2.drew.cell? ⟨g, 0, none⟩ = some (.slice (some ⟨G2, 0, none⟩) n D2) := cg2
  have hdl : (p.es.drop 16).length = m - 16 := by rw [List.length_drop, hmm.out]
  have t2 := cloneE (w := W2.drew) (a := ⟨p.b, 32, none⟩) (n := m - 16) (c := p.c - 16) (xs := flat (p.es.drop 16)) (by have := hmm.out; omega) (by rw [flat_len, hdl]) (fun j v hj => by
    rw [Addr.add_lit]
    have : (flat p.es)[32 + j]? = some v := by
      rw [← flat_drop, List.getElem?_drop] at hj
      exact hj
    exact R0.drew.cell this) (flat_one (w := W2) (D := D) (fun e he => E0 e (List.mem_of_mem_drop he)))
  have zz1 : IntKind.i64.wrap ((i : Int) + 1) = (i : Int) + 1 := by rw [IntKind.wrap_i64]; have := hnn.out; omega
  have zz2 : ¬ (p.c = 16) := by omega
  have zz3 : (16 : Int) ≤ m := by omega
  have t3 : ∀ (w3 : World) (b2 c2 : Nat), Below W2.drew.heap.size W2.drew w3 → Calls Tryz.prog 255 #[.slice (some ⟨G2, 0, none⟩) n D2, .int .i64 ((i : Int) + 1), .slice (some ⟨w3.heap.size, 0, none⟩) 1 1] (w3.alloc (.cells #[.slice (some ⟨b2, 0, none⟩) (m - 16) c2] 198)) fun e w' => ∃ b' c', e = .returned (.slice (some ⟨b', 0, none⟩) (n + 1) c') ∧ (b' = G2 ∨ w3.heap.size + 1 ≤ b') ∧ Rw w' 198 1 b' (n + 1) c' (((L.set i q1).map Pg.v).take (i + 1) ++ [.slice (some ⟨b2, 0, none⟩) (m - 16) c2] ++ ((L.set i q1).map Pg.v).drop (i + 1)) ∧ Chg (· = G2) (w3.alloc (.cells #[.slice (some ⟨b2, 0, none⟩) (m - 16) c2] 198)) w' := fun w3 b2 c2 B3 => by
    have hk := (hR2.drew.keep B3).keep (below_alloc w3 (.cells #[.slice (some ⟨b2, 0, none⟩) (m - 16) c2] 198))
    rw [List.length_set, hnn.out] at hk
    have hGl : G2 < w3.heap.size := (hR2.drew.keep B3).lt
    have := insP (i := i + 1) hk (blk_new w3 [.slice (some ⟨b2, 0, none⟩) (m - 16) c2] 198) (by omega) (by have := hnn.out; omega) (by have := hnn.out; omega) (pv_one _) (by simp [Value.oneCell'])
    rw [World.size_alloc] at this
    simpa using this
  go_wp2
  go_region_with (first
    | (go_at_call 254; refine t2.mono ?_; rintro e' w3 ⟨b2, c2, rfl, hb2, R3, B3⟩; have cg3 : w3.cell? ⟨g, 0, none⟩ = some (.slice (some ⟨G2, 0, none⟩) n D2) := (B3.cell (p := ⟨g, 0, none⟩) (cell_lt cg2d)).trans cg2d; have cg3' := blk_cell cg3 (.cells #[.slice (some ⟨b2, 0, none⟩) (m - 16) c2] 198))
    | (go_at_call 255; refine (t3 w3 b2 c2 B3).mono ?_; rintro e' w5 ⟨G5, C5, rfl, hb5, R5, C5'⟩; have cg5 : w5.cell? ⟨g, 0, none⟩ = some (.slice (some ⟨G2, 0, none⟩) n D2) := (World.cell?_of_block (w := w3.alloc (.cells #[.slice (some ⟨b2, 0, none⟩) (m - 16) c2] 198)) (a := ⟨g, 0, none⟩) (C5'.same g (cell_lt cg3') hgG)).trans cg3'; have fg5 : w5.frozen? ⟨g, 0, none⟩ = false := (((hgb2.drew.keep B3).keep (below_alloc w3 _)).chg C5' hgG).free 0))
  all_goals go_wp2
  all_goals go_end0
  all_goals exact split_end A2 hF2' C2 hg2 (hgb2.drew.keep B3) hFg2 hFG2 hR2 hgG hil hq1e hdl hnn.out B3 hb2 R3 (fun e he => (E0 e he).keep (belowD W2)) hb5 R5 C5'
end Pg
end Go.Proofs.YtpoifdokmjhclaaGreat

namespace Go.Proofs.YtpoifdokmjhclaaGreat
namespace Pg
open Go.RowKit Go.Lib

/-- an entry laid into page i at place q -/
def insQ (P : List (List En)) (i q : Nat) (e : En) : List (List En) :=
  let es := (P.getD i []).take q ++ [e] ++ (P.getD i []).drop q
  if 32 < es.length then P.take i ++ [es.take 16, es.drop 16] ++ P.drop (i + 1) else P.set i es
theorem ens_set (L : List Pg) (i : Nat) (p : Pg) : ens (L.set i p) = (ens L).set i p.es := by simp [ens, List.map_set]
theorem ens_getD {L : List Pg} {i : Nat} {p : Pg} (h : L[i]? = some p) : (ens L).getD i [] = p.es := by simp [ens, h]
theorem ins_flat (es : List En) (q : Nat) (e : En) : (flat es).take (q * 2) ++ [e.kv, e.vv] ++ (flat es).drop (q * 2) = flat (es.take q ++ [e] ++ es.drop q) := by
  rw [flat_take, flat_drop, flat_append, flat_append]; rfl
set_option maxHeartbeats 4000000 in
set_option maxRecDepth 100000 in
theorem insert_any {w : World} {F D : Nat → Prop} {g i q : Nat} {L : List Pg} {p : Pg} {e : En} (A : MapA w F D g L) (hi : L[i]? = some p) (hq : q ≤ p.es.length) (h2 : p.es.length ≤ 32) (hn : L.length ≤ 100000000) (hE : EnA w D e) :
    Calls Tryz.prog 161 #[.pointer (some ⟨g, 0, none⟩), .int .i64 i, .int .i64 q, .agg #[e.kv, e.vv]] w fun e' w' => ∃ F' L', e' = .returned (.tuple #[]) ∧ ens L' = insQ (ens L) i q e ∧ MapA w' F' D g L' ∧ (∀ b, F' b → F b ∨ w.heap.size ≤ b) ∧ Chg F w w' := by
  have hil := (List.getElem?_eq_some_iff.1 hi).1
  have hL : L ≠ [] := fun e => by subst e; simp at hil
  obtain ⟨kv, kl, vv, vl⟩ := e
  obtain ⟨w0, hw0⟩ : ∃ w0, Hid (w0 = w.alloc (.cells #[kv, vv] 197)) := ⟨_, rfl⟩
  have B0 : Below w.heap.size w w0 := by rw [hw0.out]; exact below_alloc w _
  have X0 : Blk w0 w.heap.size [kv, vv] 197 := by rw [hw0.out]; exact blk_new w [kv, vv] _
  have A0 := A.keep B0
  obtain ⟨G, C, hg, hFg, hFG, hR⟩ := A0.opn hL
  have hp := A0.pages p (List.mem_of_getElem? hi)
  have cg := hg.cell (i := 0) rfl
  have cG := hR.cell (i := i) (v := p.v) (by simp [hi])
  have x0 := X0.cell (i := 0) rfl
  have x1 := X0.cell (i := 1) rfl
  have hpc := hp.1.row.le
  have hCC := hR.le
  simp only [maxLen] at hpc hCC
  obtain ⟨n, hnn⟩ : ∃ n, Hid (L.length = n) := ⟨_, rfl⟩
  obtain ⟨m, hmm⟩ : ∃ m, Hid (p.es.length = m) := ⟨_, rfl⟩
  simp only [Pg.v] at cG
  rw [hnn.out] at cg
  rw [hmm.out] at cG
  have z0 : ¬ ((n : Int) = 0) := by have := hnn.out; omega
  have z1 : (i : Int) < n := by have := hnn.out; omega
  have cgd : w0.drew.cell? ⟨g, 0, none⟩ = some (.slice (some ⟨G, 0, none⟩) n C) := cg
  have x0d : w0.drew.cell? ⟨w.heap.size, 0, none⟩ = some kv := x0
  have x1d : w0.drew.cell? ⟨w.heap.size, 1, none⟩ = some vv := x1
  have cGd : w0.drew.cell? ⟨G, i, none⟩ = some (.slice (some ⟨p.b, 0, none⟩) m p.c) := cG
  have hgG : g ≠ G := fun e => hR.ne_map hg e.symm
  have hxG : w.heap.size ≠ G := by have := A.lt hFG; omega
  -- the world with the variadic list
  obtain ⟨w1, hw1⟩ : ∃ w1, Hid (w1 = w0.drew.alloc (.cells #[kv, vv] 197)) := ⟨_, rfl⟩
  have B1 : Below w0.heap.size w0 w1 := by rw [hw1.out]; exact joinB (belowD w0) (below_alloc w0.drew _)
  have hs0 : w0.heap.size = w.heap.size + 1 := by rw [hw0.out]; simp
  have V1 : Blk w1 w0.heap.size [kv, vv] 197 := by rw [hw1.out]; exact blk_new w0.drew [kv, vv] _
  have t1 := insE (i := q) (hp.1.row.keep B1) V1 (by have := hp.1.row.lt; omega) hq (by omega) hp.1.one (by have := hE.k.one; have := hE.v.one; simp_all)
  rw [hmm.out] at t1
  have hcg1 : w1.cell? ⟨g, 0, none⟩ = some (.slice (some ⟨G, 0, none⟩) n C) := (B1.cell (p := ⟨g, 0, none⟩) (cell_lt cg)).trans cg
  have hx01 : w1.cell? ⟨w.heap.size, 0, none⟩ = some kv := (B1.cell (p := ⟨w.heap.size, 0, none⟩) (cell_lt x0)).trans x0
  have hx11 : w1.cell? ⟨w.heap.size, 1, none⟩ = some vv := (B1.cell (p := ⟨w.heap.size, 1, none⟩) (cell_lt x1)).trans x1
  have hcG1 : w1.cell? ⟨G, i, none⟩ = some (.slice (some ⟨p.b, 0, none⟩) m p.c) := (B1.cell (p := ⟨G, i, none⟩) (cell_lt cG)).trans cG
  have ng : g ≠ p.b := fun e => hp.1.ne_map hg e.symm
  have nG : G ≠ p.b := fun e => hp.1.ne_row hR e.symm
  have nx : w.heap.size ≠ p.b := by have := A.lt hp.2; omega
  have mixed := mixed
  have hin : i < n := by have := hnn.out; omega
  go_enter Tryz.func161, Tryz.ntmps161
  have cgw := cg
  rw [hw0.out] at cgw
  go_wp2
  rw [← hw0.out]
  have hS1 := (show _ ∧ _ ∧ _ from ⟨hcg1, hx01, hx11⟩)
  have hcG1' := hcG1
  rw [hw1.out] at hS1 hcG1' t1
  -- REGION 3
  have hpp : Tryz.prog.underlying 199 = some (.slice 198) := by kernel_rfl
  refine rg_mid (X := Nat × Nat) (fun x => [(some 23, .pointer (some ⟨g, 0, none⟩)), (some 24, .pointer (some ⟨g, 0, none⟩)), (some 25, .pointer (some ⟨g, 0, none⟩)), (some 26, .slice (some ⟨G, 0, none⟩) n C), (some 27, .int .i64 i), (some 28, .pointer (some ⟨g, 0, none⟩)), (some 29, .pointer (some ⟨g, 0, none⟩)), (some 30, .pointer (some ⟨g, 0, none⟩)), (some 31, .slice (some ⟨G, 0, none⟩) n C), (some 32, .int .i64 i), (some 33, .pointer (some ⟨G, i, none⟩)), (some 34, .slice (some ⟨p.b, 0, none⟩) m p.c), (some 35, .int .i64 q), (some 36, .agg #[kv, vv]), (some 37, .slice (some ⟨w0.heap.size, 0, none⟩) 1 1), (some 38, .slice (some ⟨x.1, 0, none⟩) (m + 1) x.2), (some 39, .pointer (some ⟨G, i, none⟩))]) (fun x w' => ∃ w2, w' = w2.setCell ⟨G, i, none⟩ (.slice (some ⟨x.1, 0, none⟩) (m + 1) x.2) ∧ (x.1 = p.b ∨ w1.heap.size ≤ x.1) ∧ Rw w2 197 2 x.1 (m + 1) x.2 ((flat p.es).take (q * 2) ++ [kv, vv] ++ (flat p.es).drop (q * 2)) ∧ Chg (· = p.b) w1 w2) (fun w' => w'.cell? ⟨g, 0, none⟩ = some (.slice (some ⟨G, 0, none⟩) n C) ∧ w'.cell? ⟨w.heap.size, 0, none⟩ = some kv ∧ w'.cell? ⟨w.heap.size, 1, none⟩ = some vv) (by kernel_rfl) ⟨cgd, x0d, x1d⟩ ?_ ?_
  · have hS := (show _ ∧ _ ∧ _ from ⟨cgd, x0d, x1d⟩)
    refine rg_take 0 (some 23) (.pointer (some ⟨g, 0, none⟩)) (by kernel_rfl) (fun _ _ => by kernel_rfl) (fun _ _ _ h => h) hS ?_
    refine rg_take 1 (some 24) (.pointer (some ⟨g, 0, none⟩)) (by kernel_rfl) (fun _ _ => by kernel_rfl) (fun _ _ _ h => h) hS ?_
    refine rg_take 2 (some 25) (.pointer (some ⟨g, 0, none⟩)) (by kernel_rfl) (fun _ _ => by kernel_rfl) (fun _ _ _ h => h) hS ?_
    refine rg_load 3 (some 26) (.slice (some ⟨G, 0, none⟩) n C) 199 25 (g) (0) (by kernel_rfl) (by kernel_rfl) (by kernel_rfl) (fun w' h => ld_pp h.1) (fun _ _ _ h => h) hS ?_
    refine rg_take 4 (some 27) (.int .i64 i) (by kernel_rfl) (fun _ _ => by kernel_rfl) (fun _ _ _ h => h) hS ?_
    refine rg_take 5 (some 28) (.pointer (some ⟨g, 0, none⟩)) (by kernel_rfl) (fun _ _ => by kernel_rfl) (fun _ _ _ h => h) hS ?_
    refine rg_take 6 (some 29) (.pointer (some ⟨g, 0, none⟩)) (by kernel_rfl) (fun _ _ => by kernel_rfl) (fun _ _ _ h => h) hS ?_
    refine rg_take 7 (some 30) (.pointer (some ⟨g, 0, none⟩)) (by kernel_rfl) (fun _ _ => by kernel_rfl) (fun _ _ _ h => h) hS ?_
    refine rg_load 8 (some 31) (.slice (some ⟨G, 0, none⟩) n C) 199 30 (g) (0) (by kernel_rfl) (by kernel_rfl) (by kernel_rfl) (fun w' h => ld_pp h.1) (fun _ _ _ h => h) hS ?_
    refine rg_take 9 (some 32) (.int .i64 i) (by kernel_rfl) (fun _ _ => by kernel_rfl) (fun _ _ _ h => h) hS ?_
    refine rg_take 10 (some 33) (.pointer (some ⟨G, i, none⟩)) (by kernel_rfl) (fun _ _ => run_ix (x := 31) (y := 32) (n := n) (c := C) (by kernel_rfl) hpp (by kernel_rfl) (by kernel_rfl) (rfl) (hin)) (fun _ _ _ h => h) hS ?_
    refine rg_take 12 (some 35) (.int .i64 q) (by kernel_rfl) (fun _ _ => by kernel_rfl) (fun _ _ _ h => h) hS ?_
    refine rg_load 13 (some 36) (.agg #[kv, vv]) 197 7 (w.heap.size) (0) (by kernel_rfl) (by kernel_rfl) (by kernel_rfl) (fun w' h => ld_e h.2.1 h.2.2) (fun _ _ _ h => h) hS ?_
    refine rg_ready [11, 14] (by kernel_rfl) (by simp) ?_
    refine ar_val 11 (some 34) (.slice (some ⟨p.b, 0, none⟩) m p.c) _ (by kernel_rfl) (run_lp 33 (by kernel_rfl) (by kernel_rfl) (ld_p cGd)) hS ?_ (ar_val 14 (some 37) (.slice (some ⟨w0.heap.size, 0, none⟩) 1 1) _ (by kernel_rfl) (run_bs (k := 36) (by kernel_rfl) (by kernel_rfl)) hS1 ?_ ar_nil)
    · refine rg_ready [14] (by kernel_rfl) (by simp) ?_
      refine ar_val 14 (some 37) (.slice (some ⟨w0.heap.size, 0, none⟩) 1 1) _ (by kernel_rfl) (run_bs (k := 36) (by kernel_rfl) (by kernel_rfl)) hS1 ?_ ar_nil
      refine rg_call 15 (some 38) 207 #[.slice (some ⟨p.b, 0, none⟩) m p.c, .int .i64 q, .slice (some ⟨w0.heap.size, 0, none⟩) 1 1] (by kernel_rfl) (by kernel_rfl) t1 ?_
      rintro e' w2 ⟨b2, c2, rfl, hb2, R2, C2⟩
      rw [← hw1.out] at C2 hb2
      have cg2 : w2.cell? ⟨g, 0, none⟩ = _ := (World.cell?_of_block (a := ⟨g, 0, none⟩) (C2.same g (cell_lt hcg1) ng)).trans hcg1
      have x02 : w2.cell? ⟨w.heap.size, 0, none⟩ = _ := (World.cell?_of_block (a := ⟨w.heap.size, 0, none⟩) (C2.same _ (cell_lt hx01) nx)).trans hx01
      have x12 : w2.cell? ⟨w.heap.size, 1, none⟩ = _ := (World.cell?_of_block (a := ⟨w.heap.size, 1, none⟩) (C2.same _ (cell_lt hx11) nx)).trans hx11
      have cG2 : w2.cell? ⟨G, i, none⟩ = _ := (World.cell?_of_block (a := ⟨G, i, none⟩) (C2.same _ (cell_lt hcG1) nG)).trans hcG1
      have fG2 : w2.frozen? ⟨G, i, none⟩ = false := ((hR.keep B1).chg C2 nG).free i
      refine ⟨_, rfl, ⟨cg2, x02, x12⟩, ?_⟩
      replace hS := (show _ ∧ _ ∧ _ from ⟨cg2, x02, x12⟩)
      refine rg_take 16 (some 39) (.pointer (some ⟨G, i, none⟩)) (by kernel_rfl) (fun _ _ => run_ix (x := 26) (y := 27) (n := n) (c := C) (by kernel_rfl) hpp (by kernel_rfl) (by kernel_rfl) (rfl) (hin)) (fun _ _ _ h => h) hS ?_
      refine rg_ready [17] (by kernel_rfl) (by simp) ?_
      refine ar_void 17 (w2.setCell ⟨G, i, none⟩ (.slice (some ⟨b2, 0, none⟩) (m + 1) c2)) (by kernel_rfl) (run_sp 39 38 (by kernel_rfl) (by kernel_rfl) (by kernel_rfl) cG2 fG2) ⟨cell_off hgG cg2, cell_off hxG x02, cell_off hxG x12⟩ ?_ ar_nil
      refine rg_done (by kernel_rfl) ?_
      exact ⟨(b2, c2), by kernel_rfl, w2, rfl, hb2, R2, C2⟩
    · refine rg_ready [11] (by kernel_rfl) (by simp) ?_
      refine ar_val 11 (some 34) (.slice (some ⟨p.b, 0, none⟩) m p.c) _ (by kernel_rfl) (run_lp 33 (by kernel_rfl) (by kernel_rfl) (ld_p hcG1')) hS1 ?_ ar_nil
      refine rg_call 15 (some 38) 207 #[.slice (some ⟨p.b, 0, none⟩) m p.c, .int .i64 q, .slice (some ⟨w0.heap.size, 0, none⟩) 1 1] (by kernel_rfl) (by kernel_rfl) t1 ?_
      rintro e' w2 ⟨b2, c2, rfl, hb2, R2, C2⟩
      rw [← hw1.out] at C2 hb2
      have cg2 : w2.cell? ⟨g, 0, none⟩ = _ := (World.cell?_of_block (a := ⟨g, 0, none⟩) (C2.same g (cell_lt hcg1) ng)).trans hcg1
      have x02 : w2.cell? ⟨w.heap.size, 0, none⟩ = _ := (World.cell?_of_block (a := ⟨w.heap.size, 0, none⟩) (C2.same _ (cell_lt hx01) nx)).trans hx01
      have x12 : w2.cell? ⟨w.heap.size, 1, none⟩ = _ := (World.cell?_of_block (a := ⟨w.heap.size, 1, none⟩) (C2.same _ (cell_lt hx11) nx)).trans hx11
      have cG2 : w2.cell? ⟨G, i, none⟩ = _ := (World.cell?_of_block (a := ⟨G, i, none⟩) (C2.same _ (cell_lt hcG1) nG)).trans hcG1
      have fG2 : w2.frozen? ⟨G, i, none⟩ = false := ((hR.keep B1).chg C2 nG).free i
      refine ⟨_, rfl, ⟨cg2, x02, x12⟩, ?_⟩
      replace hS := (show _ ∧ _ ∧ _ from ⟨cg2, x02, x12⟩)
      refine rg_take 16 (some 39) (.pointer (some ⟨G, i, none⟩)) (by kernel_rfl) (fun _ _ => run_ix (x := 26) (y := 27) (n := n) (c := C) (by kernel_rfl) hpp (by kernel_rfl) (by kernel_rfl) (rfl) (hin)) (fun _ _ _ h => h) hS ?_
      refine rg_ready [17] (by kernel_rfl) (by simp) ?_
      refine ar_void 17 (w2.setCell ⟨G, i, none⟩ (.slice (some ⟨b2, 0, none⟩) (m + 1) c2)) (by kernel_rfl) (run_sp 39 38 (by kernel_rfl) (by kernel_rfl) (by kernel_rfl) cG2 fG2) ⟨cell_off hgG cg2, cell_off hxG x02, cell_off hxG x12⟩ ?_ ar_nil
      refine rg_done (by kernel_rfl) ?_
      exact ⟨(b2, c2), by kernel_rfl, w2, rfl, hb2, R2, C2⟩
  -- BEHIND IT
  rintro ⟨b2, c2⟩ w' ⟨w2, rfl, hb2, R2, C2⟩
  dsimp only at hb2 R2
  simp only [putAll, Act.put, List.setIfInBounds_toArray, List.set_cons_zero, List.set_cons_succ]
  have cg2 : w2.cell? ⟨g, 0, none⟩ = _ := (World.cell?_of_block (a := ⟨g, 0, none⟩) (C2.same g (cell_lt hcg1) ng)).trans hcg1
  have cG2 : w2.cell? ⟨G, i, none⟩ = _ := (World.cell?_of_block (a := ⟨G, i, none⟩) (C2.same _ (by exact (hR.keep B1).lt) nG)).trans hcG1
  have C02 : Chg (· = p.b) w0 w2 := (Chg.of (F := (· = p.b)) B1).trans C2 (fun _ _ h => h)
  obtain ⟨p', hp'⟩ : ∃ p' : Pg, Hid (p' = ⟨b2, c2, p.es.take q ++ [(⟨kv, kl, vv, vl⟩ : En)] ++ p.es.drop q⟩) := ⟨_, rfl⟩
  have hlen : (p.es.take q ++ [(⟨kv, kl, vv, vl⟩ : En)] ++ p.es.drop q).length = m + 1 := by have := hmm.out; simp; omega
  have hoff : ∀ e, EnA w D e → EnA w2 D e := fun e he => ((he.keep B0).keep B1).off fun b hb hk => C2.same b hb fun f => by
    subst f
    obtain ⟨cs, k⟩ := hk
    obtain ⟨ds, k'⟩ := (hp.1.row.keep B1).kind
    exact blk_ne k k' (by decide) rfl
  have hA' : PgA w2 D p' := by
    rw [hp'.out]
    refine ⟨?_, fun e he => ?_⟩
    · show Rw w2 _ 2 b2 (p.es.take q ++ [(⟨kv, kl, vv, vl⟩ : En)] ++ p.es.drop q).length c2 _
      rw [hlen]; exact R2.to (ins_flat p.es q ⟨kv, kl, vv, vl⟩)
    · rcases List.mem_append.1 he with h | h
      · rcases List.mem_append.1 h with h | h
        · exact hoff e ((A.pages p (List.mem_of_getElem? hi)).1.ents e (List.mem_of_mem_take h))
        · simp at h; subst h; exact hoff _ hE
      · exact hoff e ((A.pages p (List.mem_of_getElem? hi)).1.ents e (List.mem_of_mem_drop h))
  have hv' : p'.v = .slice (some ⟨b2, 0, none⟩) (m + 1) c2 := by rw [hp'.out]; simp only [Pg.v]; rw [hlen]
  have hb' : p'.b = b2 := by rw [hp'.out]
  have he' : p'.es = p.es.take q ++ [⟨kv, kl, vv, vl⟩] ++ p.es.drop q := by rw [hp'.out]
  obtain ⟨A3, C3⟩ := A0.put (p' := p') (D' := D) hg hFg hFG hR hi C02 (by rw [hb']; exact hb2.imp id (fun h => Nat.le_trans B1.size h)) hA' (fun _ _ h => h)
  rw [hv', hb'] at A3
  rw [hv'] at C3
  have C03 := (Chg.of (F := F) B0).trans C3 (fun _ _ h => h)
  have hF3 : ∀ b, ((F b ∧ b ≠ p.b) ∨ b = b2) → F b ∨ w.heap.size ≤ b := fun b h => by
    have h0 := B0.size
    have h1 := B1.size
    rcases h with h | h
    · exact .inl h.1
    · subst h
      rcases hb2 with h | h
      · rw [h]; exact .inl hp.2
      · exact .inr (by omega)
  have cg3 : (w2.setCell ⟨G, i, none⟩ (.slice (some ⟨b2, 0, none⟩) (m + 1) c2)).cell? ⟨g, 0, none⟩ = some (.slice (some ⟨G, 0, none⟩) n C) := cell_off hgG cg2
  have cG3 : (w2.setCell ⟨G, i, none⟩ (.slice (some ⟨b2, 0, none⟩) (m + 1) c2)).cell? ⟨G, i, none⟩ = some (.slice (some ⟨b2, 0, none⟩) (m + 1) c2) := World.cell?_setCell_same' _ _ _ (by rw [cG2]; rfl)
  generalize (w2.setCell ⟨G, i, none⟩ (.slice (some ⟨b2, 0, none⟩) (m + 1) c2)) = W3 at *
  generalize hF3d : (fun x => (F x ∧ x ≠ p.b) ∨ x = b2) = F3 at A3
  have hF3' : ∀ b, F3 b → F b ∨ w.heap.size ≤ b := fun b h => hF3 b (by rw [← hF3d] at h; exact h)
  have hi3 : (L.set i p')[i]? = some p' := by rw [List.getElem?_set_self hil]
  by_cases hbig : 32 < m + 1
  · have hbi : (32 : Int) < (m : Int) + 1 := by omega
    have t5 := split_any A3 hi3 (by rw [he', hlen]; omega) (by rw [he', hlen]; have := hmm.out; omega) (by rw [List.length_set]; exact hn)
    go_wp2_with (go_at_call 208; refine t5.mono ?_; rintro e' w6 ⟨F6, p1, p2, rfl, e1, e2, A6, hF6, C6⟩)
    go_end0
    refine ⟨F6, _, rfl, ?_, A6, fun b hb => ?_, C03.trans C6 fun b hb h => (hF3' b h).resolve_right (by omega)⟩
    · unfold insQ
      rw [ens_getD hi, ← he', if_pos (by rw [he', hlen]; exact hbig)]
      simp only [ens, List.map_append, List.map_take, List.map_drop, List.map_cons, List.map_nil, List.map_set, e1, e2]
      rw [List.take_set_of_le (Nat.le_refl _), List.drop_set_of_lt (by omega)]
    · rcases hF6 b hb with h | h
      · exact hF3' b h
      · exact .inr (by have := C03.size; omega)
  · have hbi : ¬ ((32 : Int) < (m : Int) + 1) := by omega
    go_wp2
    go_end0
    refine ⟨rfl, F3, _, ?_, A3, hF3', C03⟩
    unfold insQ
    rw [ens_getD hi, ← he', if_neg (by rw [he', hlen]; exact hbig), ens_set]
end Pg
end Go.Proofs.YtpoifdokmjhclaaGreat

namespace Go.Proofs.YtpoifdokmjhclaaGreat
namespace Pg
open Go.RowKit Go.Lib
/-- a page without memory is added to a list of pages -/
theorem app_page {w : World} {F D : Nat → Prop} {g : Nat} (A : MapA w F D g []) {pv : Value} (hpv : w.cell? ⟨g, 0, none⟩ = some pv) {w1 : World} (B1 : Below w.heap.size w w1) {vb : Nat} (V : Blk w1 vb [.slice none 0 0] 198) :
    ∃ b' c' w', (Builtin.append_ #[199, 199] 199 #[pv, .slice (some ⟨vb, 0, none⟩) 1 1]).run Tryz.prog w1 = .ok (.slice (some ⟨b', 0, none⟩) 1 c') w' ∧ (F b' ∨ w.heap.size ≤ b') ∧ Rw w' 198 1 b' 1 c' [.slice none 0 0] ∧ Chg F w1 w' ∧ b' ≠ g ∧ (∀ b cs, Blk w1 b cs 201 ∨ Blk w1 b cs 197 → Blk w' b cs 201 ∨ Blk w' b cs 197) ∧ (Blk w g [pv] 201 ∧ F g ∧ Blk w' g [pv] 201) := by
  obtain ⟨pv', hb, hg, h⟩ := A.top
  have e := hb.cell (i := 0) rfl
  rw [hpv] at e
  cases e
  have hb1 := hb.keep B1
  rcases h with ⟨rfl, _⟩ | ⟨G, C, rfl, hG, hR⟩
  · obtain ⟨c', W, hr, hR', hC⟩ := app_nil (w := w1) KP 199 ⟨vb, 0, none⟩ 1 1 [.slice none 0 0] rfl (fun j u hj => by rw [Addr.add_lit, Nat.zero_add]; exact V.cell hj) (by decide) (by decide) (by decide)
    refine ⟨_, c', W, hr, .inr B1.size, hR', Chg.of hC, ?_, fun b cs h => h.imp (fun k => k.keep hC) (fun k => k.keep hC), hb, hg, hb1.keep hC⟩
    have := hb1.lt
    omega
  · have hR1 := hR.keep B1
    obtain ⟨b', c', W, hr, hb', hR', hC⟩ := app_row KP 199 hR1 ⟨vb, 0, none⟩ 1 1 [.slice none 0 0] rfl (fun j u hj => by rw [Addr.add_lit, Nat.zero_add]; exact V.cell hj) (by simp [Value.oneCell']) (by simp) (by simp)
    have hnG : ∀ b cs, Blk w1 b cs 201 ∨ Blk w1 b cs 197 → b ≠ G := fun b cs h => by
      obtain ⟨ds, k'⟩ := hR1.kind
      rcases h with k | k
      · exact blk_ne k k' (by decide)
      · exact blk_ne k k' (by decide)
    have hgG := hnG g _ (.inl hb1)
    refine ⟨b', c', W, hr, ?_, hR', hC.mono (fun b _ e => by subst e; exact hG), ?_, fun b cs h => h.imp (fun k => k.chg hC (hnG b cs h)) (fun k => k.chg hC (hnG b cs h)), hb, hg, hb1.chg hC hgG⟩
    · rcases hb' with h | h
      · rw [h]; exact .inl hG
      · rw [h]; exact .inr B1.size
    · rcases hb' with h | h
      · rw [h]; exact fun e => hgG e.symm
      · have := hb1.lt; omega
set_option maxHeartbeats 4000000 in
set_option maxRecDepth 100000 in
theorem insert_empty {w : World} {F D : Nat → Prop} {g : Nat} {e : En} (A : MapA w F D g []) (hE : EnA w D e) :
    Calls Tryz.prog 161 #[.pointer (some ⟨g, 0, none⟩), .int .i64 0, .int .i64 0, .agg #[e.kv, e.vv]] w fun e' w' => ∃ F' L', e' = .returned (.tuple #[]) ∧ ens L' = [[e]] ∧ MapA w' F' D g L' ∧ (∀ b, F' b → F b ∨ w.heap.size ≤ b) ∧ Chg F w w' := by
  obtain ⟨kv, kl, vv, vl⟩ := e
  have B0 := below_alloc w (.cells #[kv, vv] 197)
  have X0 := blk_new w [kv, vv] 197
  obtain ⟨ao, c, hc, hc1, hc2, hat⟩ := A.rd
  simp only [List.length_nil] at hc hc1
  have hgl := cell_lt hc
  obtain ⟨w1, hw1⟩ : ∃ w1, Hid (w1 = (w.alloc (.cells #[kv, vv] 197)).alloc (.cells #[.slice none 0 0] 198)) := ⟨_, rfl⟩
  have B1 : Below w.heap.size w w1 := by rw [hw1.out]; exact joinB B0 (below_alloc _ _)
  have V1 : Blk w1 (w.heap.size + 1) [.slice none 0 0] 198 := by
    have := blk_new (w.alloc (.cells #[kv, vv] 197)) [.slice none 0 0] 198
    rw [World.size_alloc] at this
    rw [hw1.out]; exact this
  have X1 : Blk w1 w.heap.size [kv, vv] 197 := by rw [hw1.out]; exact X0.keep (below_alloc _ _)
  obtain ⟨G, C, w2, hr, hFG, R2, C2, hGg, hkp, hgb, hFg, hg2⟩ := app_page A hc B1 V1
  have X2 : Blk w2 w.heap.size [kv, vv] 197 := X1.chg C2 (fun f => by have := A.lt f; omega)
  have hg3 := hg2.setCell (i := 0) (.slice (some ⟨G, 0, none⟩) 1 C)
  have R3 : Rw (w2.setCell ⟨g, 0, none⟩ (.slice (some ⟨G, 0, none⟩) 1 C)) 198 1 G 1 C [.slice none 0 0] := R2.same (Below.heap_setCell w2 _ _ _ hGg)
  have X3 : Blk (w2.setCell ⟨g, 0, none⟩ (.slice (some ⟨G, 0, none⟩) 1 C)) w.heap.size [kv, vv] 197 := X2.off (by omega) _
  have hoff3 : ∀ e, EnA w D e → EnA (w2.setCell ⟨g, 0, none⟩ (.slice (some ⟨G, 0, none⟩) 1 C)) D e := fun e he => (he.keep B1).off fun b hb hk => by
    obtain ⟨cs, k⟩ := hk
    have n1 : b ≠ g := blk_ne k (hgb.keep B1) (by decide)
    rw [Below.heap_setCell w2 _ _ b n1]
    refine C2.same b hb fun f => A.noU f cs ?_
    exact ⟨by rw [← B1.block b (A.lt f)]; exact k.blk⟩
  have c2g := hg2.cell (i := 0) rfl
  have f2g := hg2.free 0
  have hsz3 : w.heap.size + 1 + 1 ≤ (w2.setCell ⟨g, 0, none⟩ (.slice (some ⟨G, 0, none⟩) 1 C)).heap.size := by
    have h1 := C2.size
    have h2 : w1.heap.size = w.heap.size + 1 + 1 := by rw [hw1.out]; simp
    have h3 : (w2.setCell ⟨g, 0, none⟩ (.slice (some ⟨G, 0, none⟩) 1 C)).heap.size = w2.heap.size := by simp [World.setCell]
    omega
  have C03 : Chg F w (w2.setCell ⟨g, 0, none⟩ (.slice (some ⟨G, 0, none⟩) 1 C)) := ((Chg.of (F := F) B1).trans C2 (fun _ _ h => h)).cell (.inl hFg) _
  have mixed := mixed
  obtain rfl := hw1.out
  clear hw1
  go_enter Tryz.func161, Tryz.ntmps161
  go_wp2_with (at_builtin; refine Lib.wpList_append_run _ rfl _ _ _ _ rfl _ _ rfl rfl _ _ hr ?_)
  generalize (w2.setCell ⟨g, 0, none⟩ (.slice (some ⟨G, 0, none⟩) 1 C)) = W3 at *
  have cg3 : W3.cell? ⟨g, 0, none⟩ = some (.slice (some ⟨G, 0, none⟩) 1 C) := hg3.cell (i := 0) rfl
  have x03 := X3.cell (i := 0) rfl
  have x13 := X3.cell (i := 1) rfl
  have cG3 := R3.cell (i := 0) rfl
  obtain ⟨W4, hW4⟩ : ∃ W4, Hid (W4 = W3.drew.alloc (.cells #[kv, vv] 197)) := ⟨_, rfl⟩
  have B4 : Below W3.heap.size W3 W4 := by rw [hW4.out]; exact joinB (belowD W3) (below_alloc W3.drew _)
  have V4 : Blk W4 W3.heap.size [kv, vv] 197 := by rw [hW4.out]; exact blk_new W3.drew [kv, vv] _
  have hs4 : W4.heap.size = W3.heap.size + 1 := by rw [hW4.out]; simp
  have t1 : Calls Tryz.prog 207 #[.slice none 0 0, .int .i64 0, .slice (some ⟨W3.heap.size, 0, none⟩) 1 1] W4 fun e w' => ∃ b2 c2, e = .returned (.slice (some ⟨b2, 0, none⟩) 1 c2) ∧ b2 = W3.heap.size + 1 ∧ Rw w' 197 2 b2 1 c2 [kv, vv] ∧ Below W4.heap.size W4 w' := (insE_nil V4).mono (by
    rintro e w' ⟨c', rfl, h1, h2⟩
    exact ⟨_, c', rfl, hs4, h1, h2⟩)
  have hcg1 : W4.cell? ⟨g, 0, none⟩ = _ := (B4.cell (p := ⟨g, 0, none⟩) (cell_lt cg3)).trans cg3
  have hx01 : W4.cell? ⟨w.heap.size, 0, none⟩ = _ := (B4.cell (p := ⟨w.heap.size, 0, none⟩) (cell_lt x03)).trans x03
  have hx11 : W4.cell? ⟨w.heap.size, 1, none⟩ = _ := (B4.cell (p := ⟨w.heap.size, 1, none⟩) (cell_lt x13)).trans x13
  have hcG1 : W4.cell? ⟨G, 0, none⟩ = _ := (B4.cell (p := ⟨G, 0, none⟩) (cell_lt cG3)).trans cG3
  have cgd : W3.drew.cell? ⟨g, 0, none⟩ = _ := cg3
  have x0d : W3.drew.cell? ⟨w.heap.size, 0, none⟩ = _ := x03
  have x1d : W3.drew.cell? ⟨w.heap.size, 1, none⟩ = _ := x13
  have cGd : W3.drew.cell? ⟨G, 0, none⟩ = _ := cG3
  have hgG : g ≠ G := fun e => hGg e.symm
  have hxG : w.heap.size ≠ G := fun e => by
    obtain ⟨ds, k⟩ := R3.kind
    exact blk_ne X3 k (by decide) e
  have hin : 0 < 1 := by decide
  have hS1 := (show _ ∧ _ ∧ _ from ⟨hcg1, hx01, hx11⟩)
  have hcG1' := hcG1
  rw [hW4.out] at hS1 hcG1' t1
  -- REGION 3
  have hpp : Tryz.prog.underlying 199 = some (.slice 198) := by kernel_rfl
  refine rg_mid (X := Nat × Nat) (fun x => [(some 23, .pointer (some ⟨g, 0, none⟩)), (some 24, .pointer (some ⟨g, 0, none⟩)), (some 25, .pointer (some ⟨g, 0, none⟩)), (some 26, .slice (some ⟨G, 0, none⟩) 1 C), (some 27, .int .i64 0), (some 28, .pointer (some ⟨g, 0, none⟩)), (some 29, .pointer (some ⟨g, 0, none⟩)), (some 30, .pointer (some ⟨g, 0, none⟩)), (some 31, .slice (some ⟨G, 0, none⟩) 1 C), (some 32, .int .i64 0), (some 33, .pointer (some ⟨G, 0, none⟩)), (some 34, .slice none 0 0), (some 35, .int .i64 0), (some 36, .agg #[kv, vv]), (some 37, .slice (some ⟨W3.heap.size, 0, none⟩) 1 1), (some 38, .slice (some ⟨x.1, 0, none⟩) 1 x.2), (some 39, .pointer (some ⟨G, 0, none⟩))]) (fun x w' => ∃ w2, w' = w2.setCell ⟨G, 0, none⟩ (.slice (some ⟨x.1, 0, none⟩) 1 x.2) ∧ x.1 = W3.heap.size + 1 ∧ Rw w2 197 2 x.1 1 x.2 [kv, vv] ∧ Below W4.heap.size W4 w2) (fun w' => w'.cell? ⟨g, 0, none⟩ = some (.slice (some ⟨G, 0, none⟩) 1 C) ∧ w'.cell? ⟨w.heap.size, 0, none⟩ = some kv ∧ w'.cell? ⟨w.heap.size, 1, none⟩ = some vv) (by kernel_rfl) ⟨cgd, x0d, x1d⟩ ?_ ?_
  · have hS := (show _ ∧ _ ∧ _ from ⟨cgd, x0d, x1d⟩)
    refine rg_take 0 (some 23) (.pointer (some ⟨g, 0, none⟩)) (by kernel_rfl) (fun _ _ => by kernel_rfl) (fun _ _ _ h => h) hS ?_
    refine rg_take 1 (some 24) (.pointer (some ⟨g, 0, none⟩)) (by kernel_rfl) (fun _ _ => by kernel_rfl) (fun _ _ _ h => h) hS ?_
    refine rg_take 2 (some 25) (.pointer (some ⟨g, 0, none⟩)) (by kernel_rfl) (fun _ _ => by kernel_rfl) (fun _ _ _ h => h) hS ?_
    refine rg_load 3 (some 26) (.slice (some ⟨G, 0, none⟩) 1 C) 199 25 (g) (0) (by kernel_rfl) (by kernel_rfl) (by kernel_rfl) (fun w' h => ld_pp h.1) (fun _ _ _ h => h) hS ?_
    refine rg_take 4 (some 27) (.int .i64 0) (by kernel_rfl) (fun _ _ => by kernel_rfl) (fun _ _ _ h => h) hS ?_
    refine rg_take 5 (some 28) (.pointer (some ⟨g, 0, none⟩)) (by kernel_rfl) (fun _ _ => by kernel_rfl) (fun _ _ _ h => h) hS ?_
    refine rg_take 6 (some 29) (.pointer (some ⟨g, 0, none⟩)) (by kernel_rfl) (fun _ _ => by kernel_rfl) (fun _ _ _ h => h) hS ?_
    refine rg_take 7 (some 30) (.pointer (some ⟨g, 0, none⟩)) (by kernel_rfl) (fun _ _ => by kernel_rfl) (fun _ _ _ h => h) hS ?_
    refine rg_load 8 (some 31) (.slice (some ⟨G, 0, none⟩) 1 C) 199 30 (g) (0) (by kernel_rfl) (by kernel_rfl) (by kernel_rfl) (fun w' h => ld_pp h.1) (fun _ _ _ h => h) hS ?_
    refine rg_take 9 (some 32) (.int .i64 0) (by kernel_rfl) (fun _ _ => by kernel_rfl) (fun _ _ _ h => h) hS ?_
    refine rg_take 10 (some 33) (.pointer (some ⟨G, 0, none⟩)) (by kernel_rfl) (fun _ _ => run_ix (x := 31) (y := 32) (n := 1) (c := C) (by kernel_rfl) hpp (by kernel_rfl) (by kernel_rfl) (rfl) (hin)) (fun _ _ _ h => h) hS ?_
    refine rg_take 12 (some 35) (.int .i64 0) (by kernel_rfl) (fun _ _ => by kernel_rfl) (fun _ _ _ h => h) hS ?_
    refine rg_load 13 (some 36) (.agg #[kv, vv]) 197 7 (w.heap.size) (0) (by kernel_rfl) (by kernel_rfl) (by kernel_rfl) (fun w' h => ld_e h.2.1 h.2.2) (fun _ _ _ h => h) hS ?_
    refine rg_ready [11, 14] (by kernel_rfl) (by simp) ?_
    refine ar_val 11 (some 34) (.slice none 0 0) _ (by kernel_rfl) (run_lp 33 (by kernel_rfl) (by kernel_rfl) (ld_p cGd)) hS ?_ (ar_val 14 (some 37) (.slice (some ⟨W3.heap.size, 0, none⟩) 1 1) _ (by kernel_rfl) (run_bs (k := 36) (by kernel_rfl) (by kernel_rfl)) hS1 ?_ ar_nil)
    · refine rg_ready [14] (by kernel_rfl) (by simp) ?_
      refine ar_val 14 (some 37) (.slice (some ⟨W3.heap.size, 0, none⟩) 1 1) _ (by kernel_rfl) (run_bs (k := 36) (by kernel_rfl) (by kernel_rfl)) hS1 ?_ ar_nil
      refine rg_call 15 (some 38) 207 #[.slice none 0 0, .int .i64 0, .slice (some ⟨W3.heap.size, 0, none⟩) 1 1] (by kernel_rfl) (by kernel_rfl) t1 ?_
      rintro e' w2 ⟨b2, c2, rfl, hb2, R2, C2⟩
      rw [← hW4.out] at C2
      have cg2 : w2.cell? ⟨g, 0, none⟩ = _ := (C2.cell (p := ⟨g, 0, none⟩) (cell_lt hcg1)).trans hcg1
      have x02 : w2.cell? ⟨w.heap.size, 0, none⟩ = _ := (C2.cell (p := ⟨w.heap.size, 0, none⟩) (cell_lt hx01)).trans hx01
      have x12 : w2.cell? ⟨w.heap.size, 1, none⟩ = _ := (C2.cell (p := ⟨w.heap.size, 1, none⟩) (cell_lt hx11)).trans hx11
      have cG2 : w2.cell? ⟨G, 0, none⟩ = _ := (C2.cell (p := ⟨G, 0, none⟩) (cell_lt hcG1)).trans hcG1
      have fG2 : w2.frozen? ⟨G, 0, none⟩ = false := ((R3.keep B4).keep C2).free 0
      refine ⟨_, rfl, ⟨cg2, x02, x12⟩, ?_⟩
      replace hS := (show _ ∧ _ ∧ _ from ⟨cg2, x02, x12⟩)
      refine rg_take 16 (some 39) (.pointer (some ⟨G, 0, none⟩)) (by kernel_rfl) (fun _ _ => run_ix (x := 26) (y := 27) (n := 1) (c := C) (by kernel_rfl) hpp (by kernel_rfl) (by kernel_rfl) (rfl) (hin)) (fun _ _ _ h => h) hS ?_
      refine rg_ready [17] (by kernel_rfl) (by simp) ?_
      refine ar_void 17 (w2.setCell ⟨G, 0, none⟩ (.slice (some ⟨b2, 0, none⟩) 1 c2)) (by kernel_rfl) (run_sp 39 38 (by kernel_rfl) (by kernel_rfl) (by kernel_rfl) cG2 fG2) ⟨cell_off hgG cg2, cell_off hxG x02, cell_off hxG x12⟩ ?_ ar_nil
      refine rg_done (by kernel_rfl) ?_
      exact ⟨(b2, c2), by kernel_rfl, w2, rfl, hb2, R2, C2⟩
    · refine rg_ready [11] (by kernel_rfl) (by simp) ?_
      refine ar_val 11 (some 34) (.slice none 0 0) _ (by kernel_rfl) (run_lp 33 (by kernel_rfl) (by kernel_rfl) (ld_p hcG1')) hS1 ?_ ar_nil
      refine rg_call 15 (some 38) 207 #[.slice none 0 0, .int .i64 0, .slice (some ⟨W3.heap.size, 0, none⟩) 1 1] (by kernel_rfl) (by kernel_rfl) t1 ?_
      rintro e' w2 ⟨b2, c2, rfl, hb2, R2, C2⟩
      rw [← hW4.out] at C2
      have cg2 : w2.cell? ⟨g, 0, none⟩ = _ := (C2.cell (p := ⟨g, 0, none⟩) (cell_lt hcg1)).trans hcg1
      have x02 : w2.cell? ⟨w.heap.size, 0, none⟩ = _ := (C2.cell (p := ⟨w.heap.size, 0, none⟩) (cell_lt hx01)).trans hx01
      have x12 : w2.cell? ⟨w.heap.size, 1, none⟩ = _ := (C2.cell (p := ⟨w.heap.size, 1, none⟩) (cell_lt hx11)).trans hx11
      have cG2 : w2.cell? ⟨G, 0, none⟩ = _ := (C2.cell (p := ⟨G, 0, none⟩) (cell_lt hcG1)).trans hcG1
      have fG2 : w2.frozen? ⟨G, 0, none⟩ = false := ((R3.keep B4).keep C2).free 0
      refine ⟨_, rfl, ⟨cg2, x02, x12⟩, ?_⟩
      replace hS := (show _ ∧ _ ∧ _ from ⟨cg2, x02, x12⟩)
      refine rg_take 16 (some 39) (.pointer (some ⟨G, 0, none⟩)) (by kernel_rfl) (fun _ _ => run_ix (x := 26) (y := 27) (n := 1) (c := C) (by kernel_rfl) hpp (by kernel_rfl) (by kernel_rfl) (rfl) (hin)) (fun _ _ _ h => h) hS ?_
      refine rg_ready [17] (by kernel_rfl) (by simp) ?_
      refine ar_void 17 (w2.setCell ⟨G, 0, none⟩ (.slice (some ⟨b2, 0, none⟩) 1 c2)) (by kernel_rfl) (run_sp 39 38 (by kernel_rfl) (by kernel_rfl) (by kernel_rfl) cG2 fG2) ⟨cell_off hgG cg2, cell_off hxG x02, cell_off hxG x12⟩ ?_ ar_nil
      refine rg_done (by kernel_rfl) ?_
      exact ⟨(b2, c2), by kernel_rfl, w2, rfl, hb2, R2, C2⟩
  -- BEHIND IT
  rintro ⟨b2, c4⟩ w' ⟨w4, rfl, hb2, R4, D4⟩
  dsimp only at hb2 R4
  simp only [putAll, Act.put, List.setIfInBounds_toArray, List.set_cons_zero, List.set_cons_succ]
  have hB34 : Below W3.heap.size W3 w4 := joinB B4 D4
  subst hb2
  have hg4 := (hg3.keep hB34).off hgG (i := 0) (.slice (some ⟨W3.heap.size + 1, 0, none⟩) 1 c4)
  have R5 := (R3.keep hB34).set 0 (by simp) (.slice (some ⟨W3.heap.size + 1, 0, none⟩) 1 c4)
  have hNG : W3.heap.size + 1 ≠ G := by have := R3.lt; omega
  have R6 : Rw (w4.setCell ⟨G, 0, none⟩ (.slice (some ⟨W3.heap.size + 1, 0, none⟩) 1 c4)) 197 2 (W3.heap.size + 1) 1 c4 [kv, vv] := R4.same (Below.heap_setCell w4 _ _ _ hNG)
  have E6 : EnA (w4.setCell ⟨G, 0, none⟩ (.slice (some ⟨W3.heap.size + 1, 0, none⟩) 1 c4)) D ⟨kv, kl, vv, vl⟩ := ((hoff3 _ hE).keep hB34).off fun b hb hk => by
    obtain ⟨cs, k⟩ := hk
    obtain ⟨ds, k'⟩ := (R3.keep hB34).kind
    exact Below.heap_setCell w4 _ _ b (blk_ne k k' (by decide))
  have C6 : Chg F w (w4.setCell ⟨G, 0, none⟩ (.slice (some ⟨W3.heap.size + 1, 0, none⟩) 1 c4)) := (C03.trans (Chg.of (F := F) hB34) (fun _ _ h => h)).cell hFG _
  have cg5 := hg4.cell (i := 0) rfl
  have cG5 := R5.cell (i := 0) rfl
  have hfin : MapA (w4.setCell ⟨G, 0, none⟩ (.slice (some ⟨W3.heap.size + 1, 0, none⟩) 1 c4)) (fun x => x = g ∨ x = G ∨ x = W3.heap.size + 1) D g [⟨W3.heap.size + 1, c4, [⟨kv, kl, vv, vl⟩]⟩] := by
    refine ⟨⟨_, hg4, .inl rfl, .inr ⟨G, C, rfl, .inr (.inl rfl), R5⟩⟩, fun p hp => ?_, by simp, fun b hb => ?_⟩
    · simp at hp
      subst hp
      exact ⟨⟨R6, fun e he => by simp at he; subst he; exact E6⟩, .inr (.inr rfl)⟩
    · rcases hb with rfl | rfl | rfl
      · exact ⟨_, _, hg4, by decide⟩
      · obtain ⟨ds, k⟩ := R5.kind
        exact ⟨ds, _, k, by decide⟩
      · obtain ⟨ds, k⟩ := R6.kind
        exact ⟨ds, _, k, by decide⟩
  generalize (w4.setCell ⟨G, 0, none⟩ (.slice (some ⟨W3.heap.size + 1, 0, none⟩) 1 c4)) = W6 at *
  go_wp2
  go_end0
  refine ⟨_, _, rfl, ?_, hfin, fun b hb => ?_, C6⟩
  · rfl
  · rcases hb with rfl | rfl | rfl
    · exact .inl hFg
    · exact hFG
    · exact .inr (by omega)
end Pg
end Go.Proofs.YtpoifdokmjhclaaGreat

namespace Go.Proofs.YtpoifdokmjhclaaGreat
namespace Pg
open Go.RowKit Go.Lib

/-- is the key there? -/
def has (P : List (List En)) (k : List Int) : Bool := !P.isEmpty && thr (kys (P.getD (pgi P k) [])) k
/-- what lies for a key -/
def got (P : List (List En)) (k : List Int) : List Int := ((P.getD (pgi P k) [])[plc (kys (P.getD (pgi P k) [])) k]?.map En.vl).getD []
def setQ (P : List (List En)) (e : En) : List (List En) :=
  if P = [] then [[e]]
  else
    let i := pgi P e.kl
    let es := P.getD i []
    let q := plc (kys es) e.kl
    if thr (kys es) e.kl then P.set i (es.modify q fun x => { x with vv := e.vv, vl := e.vl }) else insQ P i q e
theorem thr_get {es : List En} {k : List Int} (h : thr (kys es) k = true) : ∃ e, es[plc (kys es) k]? = some e ∧ e.kl = k := by
  simp only [thr, decide_eq_true_eq, kys, List.getElem?_map] at h
  obtain ⟨e, he, hk⟩ := Option.map_eq_some_iff.1 h
  exact ⟨e, he, hk⟩
theorem ens_ne {L : List Pg} (h : L ≠ []) : ens L ≠ [] := fun e => h (by simpa [ens] using e)
theorem at_page {L : List Pg} (h : L ≠ []) (k : List Int) : ∃ p, L[pgi (ens L) k]? = some p ∧ (ens L).getD (pgi (ens L) k) [] = p.es := by
  have := pgi_lt (ens_ne h) k
  simp only [ens, List.length_map] at this
  refine ⟨L[pgi (ens L) k]'this, List.getElem?_eq_getElem _, ?_⟩
  exact ens_getD (List.getElem?_eq_getElem _)
/-- storing what lies there already changes nothing -/
theorem set_same {w : World} {G i : Nat} {cs : List Value} {t : TypeId} {v : Value} (h : Blk w G cs t) (hi : cs[i]? = some v) (b : Nat) : (w.setCell ⟨G, i, none⟩ v).heap[b]? = w.heap[b]? := by
  by_cases e : b = G
  · subst e
    have h1 := (h.setCell (i := i) v).blk
    rw [h1, h.blk]
    have : cs.set i v = cs := by
      obtain ⟨hl, rfl⟩ := List.getElem?_eq_some_iff.1 hi
      exact List.set_getElem_self hl
    rw [this]
  · exact Below.heap_setCell w _ v b e
/-- an entry's value put anew -/
theorem MapA.upd {w w1 : World} {F D : Nat → Prop} {g i q : Nat} {L : List Pg} {p : Pg} {e : En} {u : Value} {ul : List Int} (A : MapA w F D g L) (hi : L[i]? = some p) (he : p.es[q]? = some e) (B : Below w.heap.size w w1) (hu : OB w1 (w.heap.size ≤ ·) u ul) :
    MapA (w1.setCell ⟨p.b, q * 2 + 1, none⟩ u) F (fun b => D b ∨ w.heap.size ≤ b) g (L.set i ⟨p.b, p.c, p.es.set q { e with vv := u, vl := ul }⟩) ∧ Chg F w (w1.setCell ⟨p.b, q * 2 + 1, none⟩ u) := by
  have hil := (List.getElem?_eq_some_iff.1 hi).1
  have hL : L ≠ [] := fun e => by subst e; simp at hil
  obtain ⟨G, C, hg, hFg, hFG, hR⟩ := A.opn hL
  have hp := A.pages p (List.mem_of_getElem? hi)
  have hql := (List.getElem?_eq_some_iff.1 he).1
  have hC : Chg (· = p.b) w (w1.setCell ⟨p.b, q * 2 + 1, none⟩ u) := (Chg.of (F := (· = p.b)) B).cell (.inl rfl) _
  have hoff : ∀ {v : Value} {l : List Int} {D' : Nat → Prop}, OB w1 D' v l → OB (w1.setCell ⟨p.b, q * 2 + 1, none⟩ u) D' v l := fun h => ⟨h.oct, h.ex.imp id (by
    rintro ⟨b, c, e, hd, hR'⟩
    refine ⟨b, c, e, hd, hR'.same (Below.heap_setCell w1 _ _ b ?_)⟩
    obtain ⟨ds, k⟩ := hR'.kind
    obtain ⟨ds', k'⟩ := (hp.1.row.keep B).kind
    exact blk_ne k k' (by decide))⟩
  have hrow : Rw (w1.setCell ⟨p.b, q * 2 + 1, none⟩ u) 197 2 p.b p.es.length p.c (flat (p.es.set q { e with vv := u, vl := ul })) :=
    ((hp.1.row.keep B).set (q * 2 + 1) (by rw [flat_len]; omega) u).to (flat_set_v u ul he)
  have hA : PgA (w1.setCell ⟨p.b, q * 2 + 1, none⟩ u) (fun b => D b ∨ w.heap.size ≤ b) ⟨p.b, p.c, p.es.set q { e with vv := u, vl := ul }⟩ := by
    refine ⟨by simpa using hrow, fun e' he' => ?_⟩
    obtain ⟨j, hj⟩ := List.getElem?_of_mem he'
    rw [List.getElem?_set] at hj
    by_cases ej : q = j
    · subst ej
      rw [if_pos rfl, if_pos hql] at hj
      cases hj
      have he0 := hp.1.ents e (List.mem_of_getElem? he)
      exact ⟨(hoff (he0.k.keep B)).mono (fun _ _ h => .inl h), (hoff hu).mono (fun _ _ h => .inr h)⟩
    · rw [if_neg ej] at hj
      have he0 := hp.1.ents e' (List.mem_of_getElem? hj)
      exact ⟨(hoff (he0.k.keep B)).mono (fun _ _ h => .inl h), (hoff (he0.v.keep B)).mono (fun _ _ h => .inl h)⟩
  obtain ⟨A2, C2⟩ := A.put (p' := ⟨p.b, p.c, p.es.set q { e with vv := u, vl := ul }⟩) (D' := fun b => D b ∨ w.heap.size ≤ b) hg hFg hFG hR hi hC (.inl rfl) hA (fun _ _ h => .inl h)
  have hv : (⟨p.b, p.c, p.es.set q { e with vv := u, vl := ul }⟩ : Pg).v = p.v := by simp [Pg.v]
  rw [hv] at A2 C2
  have hRG : Rw (w1.setCell ⟨p.b, q * 2 + 1, none⟩ u) 198 1 G L.length C (L.map Pg.v) := hR.chg hC (fun e => hp.1.ne_row hR e.symm)
  have hsame : ∀ b, ((w1.setCell ⟨p.b, q * 2 + 1, none⟩ u).setCell ⟨G, i, none⟩ p.v).heap[b]? = (w1.setCell ⟨p.b, q * 2 + 1, none⟩ u).heap[b]? := fun b => by
    obtain ⟨sp, h, _⟩ := hRG.ex
    exact set_same h (by rw [List.getElem?_append_left (by simpa using hil)]; simp [hi]) b
  have hFF : ∀ x, ((F x ∧ x ≠ p.b) ∨ x = p.b) ↔ F x := fun x => ⟨fun h => h.elim (fun h => h.1) (fun h => by subst h; exact hp.2), fun h => by
    by_cases ex : x = p.b
    · exact .inr ex
    · exact .inl ⟨h, ex⟩⟩
  have A3 := A2.same (w' := w1.setCell ⟨p.b, q * 2 + 1, none⟩ u) (fun b _ => (hsame b).symm) (fun b _ _ _ => (hsame b).symm)
  rw [show (fun x => (F x ∧ x ≠ p.b) ∨ x = p.b) = F from funext fun x => propext (hFF x)] at A3
  exact ⟨A3, ⟨hC.os, hC.tape, hC.output, hC.size, fun b hb hf => hC.same b hb fun e => hf (by subst e; exact hp.2)⟩⟩
set_option maxHeartbeats 2000000 in
set_option maxRecDepth 100000 in
theorem get_any {w : World} {F D : Nat → Prop} {g : Nat} {L : List Pg} {kv : Value} {k : List Int} (A : MapA w F D g L) (O : Ord (ens L)) (hs : ∀ es ∈ ens L, es.length ≤ 1000) (hn : L.length ≤ 100000000) (h : By w kv k) (hb : ∀ p ∈ L, ∀ e ∈ p.es, e.vl.length ≤ 1000000000) :
    Calls Tryz.prog 71 #[.pointer (some ⟨g, 0, none⟩), kv] w fun e w' => ∃ v, e = .returned (.tuple #[v, .bool (has (ens L) k)]) ∧ OB w' (w.heap.size ≤ ·) v (if has (ens L) k then got (ens L) k else []) ∧ Below w.heap.size w w' := by
  by_cases hL : L = []
  · subst hL
    have t := find_nil (v := kv) A
    have e1 : has (ens []) k = false := rfl
    rw [e1]
    clear A O hs hb h
    go_enter Tryz.func71, Tryz.ntmps71
    go_wp2_with (go_at_call 103; refine t.mono ?_; rintro e' w1 ⟨rfl, rfl⟩)
    go_ret2
    exact ⟨_, rfl, ⟨fun _ h => by simp at h, .inl ⟨rfl, rfl⟩⟩, Below.refl _ _⟩
  · obtain ⟨p, hp, hpe⟩ := at_page hL k
    have hpm := List.mem_of_getElem? hp
    have t := find_at A O h (by omega) hp (by have := hs p.es (List.mem_map.2 ⟨p, hpm, rfl⟩); omega)
    obtain ⟨G, C, hg, hFg, hFG, hR⟩ := A.opn hL
    have hlt := (List.getElem?_eq_some_iff.1 hp).1
    have hh : has (ens L) k = thr (kys p.es) k := by
      unfold has
      rw [hpe]
      have : (ens L).isEmpty = false := by simp [ens, hL]
      simp [this]
    have hg' : got (ens L) k = ((p.es)[plc (kys p.es) k]?.map En.vl).getD [] := by unfold got; rw [hpe]
    rw [hh]
    by_cases ht : thr (kys p.es) k = true
    · obtain ⟨e, he, hek⟩ := thr_get ht
      rw [he] at hg'
      simp only [Option.map_some, Option.getD_some] at hg'
      rw [ht, if_pos rfl, hg']
      rw [ht] at t
      have cg := hg.cell (i := 0) rfl
      have cG := hR.cell (i := pgi (ens L) k) (v := p.v) (by simp [hp])
      have hE := (A.pages p hpm).1.ents e (List.mem_of_getElem? he)
      have cv := (A.pages p hpm).1.row.cell (flat_v he)
      have tC : ∀ w', Below w.heap.size w w' → Calls Tryz.prog 104 #[e.vv] w' _ := fun w' hB => clone_any (hE.v.keep hB).by (hb p hpm e (List.mem_of_getElem? he))
      have hql := (List.getElem?_eq_some_iff.1 he).1
      generalize pgi (ens L) k = i at *
      generalize plc (kys p.es) k = q at *
      have z1 : (i : Int) < L.length := by omega
      have z2 : (q : Int) < p.es.length := by omega
      simp only [Pg.v] at cG
      generalize L.length = n at *
      generalize p.es.length = m at *
      clear A O hs hb h hR hg hE ht
      go_enter Tryz.func71, Tryz.ntmps71
      go_wp2_with (first | (go_at_call 103; refine t.mono ?_; rintro e' w1 ⟨rfl, hB⟩; have cg1 : w1.cell? ⟨g, 0, none⟩ = _ := (hB.cell (p := ⟨g, 0, none⟩) (cell_lt cg)).trans cg; have cG1 : w1.cell? ⟨G, i, none⟩ = _ := (hB.cell (p := ⟨G, i, none⟩) (cell_lt cG)).trans cG; have cv1 : w1.cell? ⟨p.b, q * 2 + 1, none⟩ = _ := (hB.cell (p := ⟨p.b, q * 2 + 1, none⟩) (cell_lt cv)).trans cv; have tC1 := tC w1 hB; clear t tC) | (go_at_call 104; refine tC1.mono ?_; rintro e' w2 ⟨v', rfl, hO, hB2⟩))
      go_ret2
      exact ⟨v', rfl, hO.mono (fun b _ hb => Nat.le_trans hB.size hb), joinB hB hB2⟩
    · have ht' : thr (kys p.es) k = false := by simpa using ht
      rw [ht'] at t ⊢
      generalize pgi (ens L) k = i at *
      generalize plc (kys p.es) k = q at *
      clear A O hs hb h hR hg ht ht' hh hg'
      go_enter Tryz.func71, Tryz.ntmps71
      go_wp2_with (go_at_call 103; refine t.mono ?_; rintro e' w1 ⟨rfl, hB⟩)
      go_ret2
      exact ⟨_, rfl, ⟨fun _ h => by simp at h, .inl ⟨rfl, rfl⟩⟩, hB⟩
end Pg
end Go.Proofs.YtpoifdokmjhclaaGreat

namespace Go.Proofs.YtpoifdokmjhclaaGreat
namespace Pg
open Go.RowKit Go.Lib
theorem modify_at {es : List En} {q : Nat} {e : En} (h : es[q]? = some e) (f : En → En) : es.modify q f = es.set q (f e) := by
  have hl := (List.getElem?_eq_some_iff.1 h).1
  apply List.ext_getElem?
  intro j
  rw [List.getElem?_modify, List.getElem?_set]
  by_cases e : q = j
  · subst e; rw [if_pos rfl, if_pos hl, h]; simp
  · rw [if_neg e]; simp [e]
theorem OB.shape {w : World} {D : Nat → Prop} {v : Value} {l : List Int} (h : OB w D v l) : ∃ ao c, v = .slice ao l.length c := by
  rcases h.ex with ⟨rfl, rfl⟩ | ⟨b, c, rfl, _⟩
  · exact ⟨none, 0, rfl⟩
  · exact ⟨_, c, rfl⟩
/-- what Set leaves -/
def SetR (w w' : World) (F D : Nat → Prop) (g : Nat) (L : List Pg) (k v : List Int) : Prop :=
  ∃ F' L' nk nv, ens L' = setQ (ens L) ⟨nk, k, nv, v⟩ ∧ MapA w' F' (fun b => D b ∨ w.heap.size ≤ b) g L' ∧ (∀ b, F' b → F b ∨ w.heap.size ≤ b) ∧ Chg F w w'
set_option maxHeartbeats 2000000 in
set_option maxRecDepth 100000 in
theorem set_there {w : World} {F D : Nat → Prop} {g : Nat} {L : List Pg} {p : Pg} {kv vv : Value} {k v : List Int} (A : MapA w F D g L) (O : Ord (ens L)) (hs : p.es.length ≤ 1000) (hn : L.length ≤ 100000000) (h : By w kv k) (hv : By w vv v) (hvl : v.length ≤ 1000000000) (hL : L ≠ []) (hp : L[pgi (ens L) k]? = some p) (hpe : (ens L).getD (pgi (ens L) k) [] = p.es) (ht : thr (kys p.es) k = true) :
    Calls Tryz.prog 126 #[.pointer (some ⟨g, 0, none⟩), kv, vv] w fun e w' => e = .returned (.bool false) ∧ SetR w w' F D g L k v := by
  have t := find_at A O h (by omega) hp (by omega)
  obtain ⟨G, C, hg, hFg, hFG, hR⟩ := A.opn hL
  obtain ⟨e, he, hek⟩ := thr_get ht
  have hpm := List.mem_of_getElem? hp
  have hlt := (List.getElem?_eq_some_iff.1 hp).1
  have hql := (List.getElem?_eq_some_iff.1 he).1
  have hS : ∀ u, setQ (ens L) ⟨e.kv, k, u, v⟩ = (ens L).set (pgi (ens L) k) (p.es.set (plc (kys p.es) k) { e with vv := u, vl := v }) := fun u => by
    unfold setQ
    rw [if_neg (ens_ne hL)]
    simp only [hpe]
    rw [if_pos ht, modify_at he]
  have hS : Hid _ := hS
  rw [ht] at t
  have cg := hg.cell (i := 0) rfl
  have cG := hR.cell (i := pgi (ens L) k) (v := p.v) (by simp [hp])
  have tC : ∀ w', Below w.heap.size w w' → Calls Tryz.prog 104 #[vv] w' _ := fun w' hB => clone_any (hv.keep hB) hvl
  have hPA := (A.pages p hpm).1
  have cv := hPA.row.cell (flat_v he)
  have fv := hPA.row.free (plc (kys p.es) k * 2 + 1)
  have n1 : g ≠ p.b := fun e => hPA.ne_map hg e.symm
  have n2 : G ≠ p.b := fun e => hPA.ne_row hR e.symm
  generalize hgi : pgi (ens L) k = i at *
  generalize hgq : plc (kys p.es) k = q at *
  have hgi : Hid _ := hgi
  have hgq : Hid _ := hgq
  have z1 : (i : Int) < L.length := by omega
  have z2 : (q : Int) < p.es.length := by omega
  simp only [Pg.v] at cG
  generalize hln : L.length = n at *
  generalize hlm : p.es.length = m at *
  have hln : Hid _ := hln
  have hlm : Hid _ := hlm
  clear ht hpe
  have mixed := mixed
  go_enter Tryz.func126, Tryz.ntmps126
  go_wp2_with (first | (go_at_call 103; refine t.mono ?_; rintro e' w1 ⟨rfl, hB⟩))
  have cg1 : w1.drew.cell? ⟨g, 0, none⟩ = some (.slice (some ⟨G, 0, none⟩) n C) := (hB.cell (p := ⟨g, 0, none⟩) (cell_lt cg)).trans cg
  have cG1 : w1.drew.cell? ⟨G, i, none⟩ = some (.slice (some ⟨p.b, 0, none⟩) m p.c) := (hB.cell (p := ⟨G, i, none⟩) (cell_lt cG)).trans cG
  have hB1 : Below w.heap.size w w1.drew := joinB hB (belowD w1)
  have tC1 := tC w1.drew hB1
  go_region_held3 (fun w' => w'.cell? ⟨g, 0, none⟩ = some (.slice (some ⟨G, 0, none⟩) n C) ∧ w'.cell? ⟨G, i, none⟩ = some (.slice (some ⟨p.b, 0, none⟩) m p.c)) (first | exact ⟨by assumption, by assumption⟩ | exact ⟨cell_off n1 (by assumption), cell_off n2 (by assumption)⟩)
    (first
    | (go_at_call 104; refine tC1.mono ?_; rintro e' w2 ⟨v', rfl, hO, hB2⟩; obtain ⟨aq, cq, rfl⟩ := hO.shape; have cg2 : w2.cell? ⟨g, 0, none⟩ = _ := (hB2.cell (p := ⟨g, 0, none⟩) (cell_lt cg1)).trans cg1; have cG2 : w2.cell? ⟨G, i, none⟩ = _ := (hB2.cell (p := ⟨G, i, none⟩) (cell_lt cG1)).trans cG1; have hB3 := joinB hB1 hB2; have cv2 : w2.cell? ⟨p.b, q * 2 + 1, none⟩ = _ := (hB3.cell (p := ⟨p.b, q * 2 + 1, none⟩) (cell_lt cv)).trans cv; have fv2 : w2.frozen? ⟨p.b, q * 2 + 1, none⟩ = false := (hPA.row.keep hB3).free _))
  all_goals (
    have hO' : OB w2 (w.heap.size ≤ ·) (.slice aq v.length cq) v := hO.mono (fun b _ hb => Nat.le_trans hB1.size hb)
    obtain ⟨A2, C2⟩ := A.upd hp he hB3 hO'
    generalize (w2.setCell ⟨p.b, q * 2 + 1, none⟩ (.slice aq v.length cq)) = W3 at *
    go_wp2
    go_ret
    exact ⟨rfl, F, _, e.kv, .slice aq v.length cq, by rw [hS.out, ens_set], A2, fun b hb => .inl hb, C2⟩)
set_option maxHeartbeats 2000000 in
set_option maxRecDepth 100000 in
theorem set_new {w : World} {F D : Nat → Prop} {g i q : Nat} {L : List Pg} {kv vv : Value} {k v : List Int} (A : MapA w F D g L) (h : By w kv k) (hv : By w vv v) (hkl : k.length ≤ 1000000000) (hvl : v.length ≤ 1000000000)
    (t : Calls Tryz.prog 103 #[.pointer (some ⟨g, 0, none⟩), kv] w fun e w' => e = .returned (.tuple #[.int .i64 i, .int .i64 q, .bool false]) ∧ Below w.heap.size w w')
    (tI : ∀ (w' : World) (nk nv : Value), MapA w' F (fun b => D b ∨ w.heap.size ≤ b) g L → EnA w' (fun b => D b ∨ w.heap.size ≤ b) ⟨nk, k, nv, v⟩ → Calls Tryz.prog 161 #[.pointer (some ⟨g, 0, none⟩), .int .i64 i, .int .i64 q, .agg #[nk, nv]] w' fun e' w'' => ∃ F' L', e' = .returned (.tuple #[]) ∧ ens L' = setQ (ens L) ⟨nk, k, nv, v⟩ ∧ MapA w'' F' (fun b => D b ∨ w.heap.size ≤ b) g L' ∧ (∀ b, F' b → F b ∨ w'.heap.size ≤ b) ∧ Chg F w' w'') :
    Calls Tryz.prog 126 #[.pointer (some ⟨g, 0, none⟩), kv, vv] w fun e w' => e = .returned (.bool true) ∧ SetR w w' F D g L k v := by
  have tC : ∀ w', Below w.heap.size w w' → Calls Tryz.prog 104 #[kv] w' _ := fun w' hB => clone_any (h.keep hB) hkl
  have tV : ∀ w', Below w.heap.size w w' → Calls Tryz.prog 104 #[vv] w' _ := fun w' hB => clone_any (hv.keep hB) hvl
  have mk : True := trivial
  clear h hv
  go_enter Tryz.func126, Tryz.ntmps126
  go_wp2_with (first
    | (go_at_call 103; refine t.mono ?_; rintro e' w1 ⟨rfl, hB⟩; have tC1 := tC w1 hB; clear t tC)
    | (go_at_call 104; clear mk; refine tC1.mono ?_; rintro e' w2 ⟨nk, rfl, hO, hB2⟩; have hBB := joinB hB hB2; have tV1 := tV w2 hBB; clear tC1 tV; obtain ⟨aq, cq, rfl⟩ := hO.shape)
    | (go_at_call 104; refine tV1.mono ?_; rintro e' w3 ⟨nv, rfl, hO3, hB3⟩; clear tV1; obtain ⟨ar, cr, rfl⟩ := hO3.shape; have hB0 := joinB hBB hB3; have tI1 := tI w3 _ _ ((A.keep hB0).mono (fun _ _ h => .inl h)) ⟨(hO.keep hB3).mono (fun b _ hb => .inr (Nat.le_trans hB.size hb)), hO3.mono (fun b _ hb => .inr (Nat.le_trans hBB.size hb))⟩)
    | (go_at_call 161; refine tI1.mono ?_; rintro e' w4 ⟨F', L', rfl, hE, hA, hF, hC⟩))
  go_ret
  exact ⟨rfl, F', L', _, _, hE, hA, fun b hb => (hF b hb).imp id (fun h => Nat.le_trans hB0.size h), (Chg.of (F := F) hB0).trans hC (fun _ _ h => h)⟩
/-- Set -/
theorem set_any {w : World} {F D : Nat → Prop} {g : Nat} {L : List Pg} {kv vv : Value} {k v : List Int} (A : MapA w F D g L) (O : Ord (ens L)) (hs : ∀ es ∈ ens L, es.length ≤ 32) (hn : L.length ≤ 100000000) (h : By w kv k) (hv : By w vv v) (hkl : k.length ≤ 1000000000) (hvl : v.length ≤ 1000000000) :
    Calls Tryz.prog 126 #[.pointer (some ⟨g, 0, none⟩), kv, vv] w fun e w' => e = .returned (.bool (!has (ens L) k)) ∧ SetR w w' F D g L k v := by
  by_cases hL : L = []
  · subst hL
    refine set_new (i := 0) (q := 0) A h hv hkl hvl ((find_nil A).mono ?_) (fun w' nk nv A' E' => (insert_empty A' E').mono ?_)
    · rintro e w' ⟨rfl, rfl⟩; exact ⟨rfl, Below.refl _ _⟩
    · rintro e w'' ⟨F', L', rfl, hE, hA, hF, hC⟩
      exact ⟨F', L', rfl, hE, hA, hF, hC⟩
  · obtain ⟨p, hp, hpe⟩ := at_page hL k
    have hpm := List.mem_of_getElem? hp
    have hps := hs p.es (List.mem_map.2 ⟨p, hpm, rfl⟩)
    have hh : has (ens L) k = thr (kys p.es) k := by
      unfold has
      rw [hpe]
      have : (ens L).isEmpty = false := by simp [ens, hL]
      simp [this]
    rw [hh]
    by_cases ht : thr (kys p.es) k = true
    · rw [ht]
      exact set_there A O (by omega) hn h hv hvl hL hp hpe ht
    · have ht' : thr (kys p.es) k = false := by simpa using ht
      have t := find_at A O h (by omega) hp (by omega)
      rw [ht'] at t ⊢
      have hql := plc_le (kys p.es) k
      simp only [kys, List.length_map] at hql
      refine set_new A h hv hkl hvl t (fun w' nk nv A' E' => (insert_any A' hp (q := plc (kys p.es) k) hql hps hn E').mono ?_)
      rintro e w'' ⟨F', L', rfl, hE, hA, hF, hC⟩
      refine ⟨F', L', rfl, ?_, hA, hF, hC⟩
      rw [hE]
      unfold setQ
      rw [if_neg (ens_ne hL)]
      simp only [hpe]
      rw [if_neg (by rw [ht']; decide)]
end Pg
end Go.Proofs.YtpoifdokmjhclaaGreat

namespace Go.Proofs.YtpoifdokmjhclaaGreat
namespace Pg
open Go.RowKit Go.Lib

/-- may page i and the one behind it become one? -/
def jnb (P : List (List En)) (i : Nat) : Bool := decide (i + 1 < P.length) && decide ((P.getD i []).length + (P.getD (i + 1) []).length ≤ 16)
/-- page i and the one behind it become one -/
def jnQ (P : List (List En)) (i : Nat) : List (List En) := P.take i ++ [P.getD i [] ++ P.getD (i + 1) []] ++ P.drop (i + 2)
set_option maxHeartbeats 1000000 in
set_option maxRecDepth 100000 in
theorem jn_neg {w : World} {v : Value} : Calls Tryz.prog 260 #[v, .int .i64 (-1)] w fun e w' => e = .returned (.bool false) ∧ Below w.heap.size w w' := by
  have mixed := mixed
  go_enter Tryz.func260, Tryz.ntmps260
  go_wp2
  go_region
  go_wp2
  go_ret
  exact ⟨rfl, belowD w⟩
set_option maxHeartbeats 4000000 in
set_option maxRecDepth 100000 in
theorem jn_any {w : World} {F D : Nat → Prop} {g i : Nat} {L : List Pg} (A : MapA w F D g L) (hi : i < L.length) (hn : L.length ≤ 100000000) (hs : ∀ es ∈ ens L, es.length ≤ 1000) :
    Calls Tryz.prog 260 #[.pointer (some ⟨g, 0, none⟩), .int .i64 i] w fun e w' => e = .returned (.bool (jnb (ens L) i)) ∧ Below w.heap.size w w' := by
  have hL : L ≠ [] := fun e => by subst e; simp at hi
  obtain ⟨G, C, hg, hFg, hFG, hR⟩ := A.opn hL
  have cg := hg.cell (i := 0) rfl
  have hel : (ens L).length = L.length := by simp [ens]
  have mixed := mixed
  have w1 : IntKind.i64.wrap ((i : Int) + 1) = (i : Int) + 1 := by rw [IntKind.wrap_i64]; omega
  have p0 : (0 : Int) ≤ (i : Int) := by omega
  by_cases h1 : i + 1 < L.length
  · obtain ⟨p, hp⟩ : ∃ p, L[i]? = some p := ⟨L[i], List.getElem?_eq_getElem hi⟩
    obtain ⟨p2, hp2⟩ : ∃ p2, L[i + 1]? = some p2 := ⟨L[i + 1], List.getElem?_eq_getElem h1⟩
    have cG := hR.cell (i := i) (v := p.v) (by simp [hp])
    have cG2 := hR.cell (i := i + 1) (v := p2.v) (by simp [hp2])
    have s1 := hs p.es (List.mem_map.2 ⟨p, List.mem_of_getElem? hp, rfl⟩)
    have s2 := hs p2.es (List.mem_map.2 ⟨p2, List.mem_of_getElem? hp2, rfl⟩)
    have hj : Hid (jnb (ens L) i = decide ((p.es.length : Int) + (p2.es.length : Int) ≤ 16)) := by
      show _ = _
      unfold jnb
      rw [hel, decide_eq_true h1, ens_getD hp, ens_getD hp2, Bool.true_and]
      congr 1
      exact propext ⟨fun h => by omega, fun h => by omega⟩
    simp only [Pg.v] at cG cG2
    generalize hln : L.length = n at *
    generalize p.es.length = x at *
    generalize p2.es.length = y at *
    have z1 : (i : Int) + 1 < n := by omega
    have z2 : (i : Int) < n := by omega
    have z3 : ((i : Int) + 1).toNat = i + 1 := by omega
    have z4 : (0 : Int) ≤ (i : Int) + 1 := by omega
    have z5 : IntKind.i64.wrap ((x : Int) + (y : Int)) = (x : Int) + (y : Int) := by rw [IntKind.wrap_i64]; omega
    have cgd : w.drew.cell? ⟨g, 0, none⟩ = some (.slice (some ⟨G, 0, none⟩) n C) := cg
    have cGd : w.drew.cell? ⟨G, i, none⟩ = some (.slice (some ⟨p.b, 0, none⟩) x p.c) := cG
    have cG2d : w.drew.cell? ⟨G, i + 1, none⟩ = some (.slice (some ⟨p2.b, 0, none⟩) y p2.c) := cG2
    clear A hs hR hg hln
    go_enter Tryz.func260, Tryz.ntmps260
    go_wp2
    have hpp : Tryz.prog.underlying 199 = some (.slice 198) := by kernel_rfl
    have hin : i < n := hi
    refine rg_start (S := fun w' => w'.cell? ⟨g, 0, none⟩ = some (.slice (some ⟨G, 0, none⟩) n C) ∧ w'.cell? ⟨G, i, none⟩ = some (.slice (some ⟨p.b, 0, none⟩) x p.c) ∧ w'.cell? ⟨G, i + 1, none⟩ = some (.slice (some ⟨p2.b, 0, none⟩) y p2.c)) (by kernel_rfl) ⟨cgd, cGd, cG2d⟩ ?_
    have hS := (show _ ∧ _ ∧ _ from ⟨cgd, cGd, cG2d⟩)
    -- YES
    refine rg_take 0 (some 5) (.int .i64 i) (by kernel_rfl) (fun _ _ => by kernel_rfl) (fun _ _ _ h => h) hS ?_
    refine rg_eq 1 (some 6) (.bool (decide ((0 : Int) ≤ (i : Int)))) (.bool true) (by rw [decide_eq_true p0]) (by kernel_rfl) (fun _ _ => by kernel_rfl) (fun _ _ _ h => h) hS ?_
    refine rg_take 2 (some 7) (.bool true) (by kernel_rfl) (fun _ _ => by kernel_rfl) (fun _ _ _ h => h) hS ?_
    refine rg_take 3 (some 8) (.int .i64 i) (by kernel_rfl) (fun _ _ => by kernel_rfl) (fun _ _ _ h => h) hS ?_
    refine rg_eq 4 (some 9) (.int .i64 (IntKind.i64.wrap ((i : Int) + 1))) (.int .i64 ((i : Int) + 1)) (by rw [w1]) (by kernel_rfl) (fun _ _ => by kernel_rfl) (fun _ _ _ h => h) hS ?_
    refine rg_take 5 (some 10) (.pointer (some ⟨g, 0, none⟩)) (by kernel_rfl) (fun _ _ => by kernel_rfl) (fun _ _ _ h => h) hS ?_
    refine rg_take 6 (some 11) (.pointer (some ⟨g, 0, none⟩)) (by kernel_rfl) (fun _ _ => by kernel_rfl) (fun _ _ _ h => h) hS ?_
    refine rg_take 7 (some 12) (.pointer (some ⟨g, 0, none⟩)) (by kernel_rfl) (fun _ _ => by kernel_rfl) (fun _ _ _ h => h) hS ?_
    refine rg_load 8 (some 13) (.slice (some ⟨G, 0, none⟩) n C) 199 12 (g) (0) (by kernel_rfl) (by kernel_rfl) (by kernel_rfl) (fun w' h => ld_pp h.1) (fun _ _ _ h => h) hS ?_
    refine rg_take 9 (some 14) (.int .i64 n) (by kernel_rfl) (fun _ _ => by kernel_rfl) (fun _ _ _ h => h) hS ?_
    refine rg_eq 10 (some 15) (.bool (decide ((i : Int) + 1 < (n : Int)))) (.bool true) (by rw [decide_eq_true (by omega)]) (by kernel_rfl) (fun _ _ => by kernel_rfl) (fun _ _ _ h => h) hS ?_
    refine rg_take 11 (some 16) (.bool true) (by kernel_rfl) (fun _ _ => by kernel_rfl) (fun _ _ _ h => h) hS ?_
    refine rg_take 12 (some 17) (.bool true) (by kernel_rfl) (fun _ _ => by kernel_rfl) (fun _ _ _ h => h) hS ?_
    refine rg_take 13 (some 18) (.pointer (some ⟨g, 0, none⟩)) (by kernel_rfl) (fun _ _ => by kernel_rfl) (fun _ _ _ h => h) hS ?_
    refine rg_take 14 (some 19) (.pointer (some ⟨g, 0, none⟩)) (by kernel_rfl) (fun _ _ => by kernel_rfl) (fun _ _ _ h => h) hS ?_
    refine rg_take 15 (some 20) (.pointer (some ⟨g, 0, none⟩)) (by kernel_rfl) (fun _ _ => by kernel_rfl) (fun _ _ _ h => h) hS ?_
    refine rg_load 16 (some 21) (.slice (some ⟨G, 0, none⟩) n C) 199 20 (g) (0) (by kernel_rfl) (by kernel_rfl) (by kernel_rfl) (fun w' h => ld_pp h.1) (fun _ _ _ h => h) hS ?_
    refine rg_take 17 (some 22) (.int .i64 i) (by kernel_rfl) (fun _ _ => by kernel_rfl) (fun _ _ _ h => h) hS ?_
    refine rg_take 18 (some 23) (.pointer (some ⟨G, i, none⟩)) (by kernel_rfl) (fun _ _ => run_ix (x := 21) (y := 22) (n := n) (c := C) (by kernel_rfl) hpp (by kernel_rfl) (by kernel_rfl) (rfl) (hin)) (fun _ _ _ h => h) hS ?_
    refine rg_load 19 (some 24) (.slice (some ⟨p.b, 0, none⟩) x p.c) 198 23 (G) (i) (by kernel_rfl) (by kernel_rfl) (by kernel_rfl) (fun w' h => ld_p h.2.1) (fun _ _ _ h => h) hS ?_
    refine rg_take 20 (some 25) (.int .i64 x) (by kernel_rfl) (fun _ _ => by kernel_rfl) (fun _ _ _ h => h) hS ?_
    refine rg_take 21 (some 26) (.pointer (some ⟨g, 0, none⟩)) (by kernel_rfl) (fun _ _ => by kernel_rfl) (fun _ _ _ h => h) hS ?_
    refine rg_take 22 (some 27) (.pointer (some ⟨g, 0, none⟩)) (by kernel_rfl) (fun _ _ => by kernel_rfl) (fun _ _ _ h => h) hS ?_
    refine rg_take 23 (some 28) (.pointer (some ⟨g, 0, none⟩)) (by kernel_rfl) (fun _ _ => by kernel_rfl) (fun _ _ _ h => h) hS ?_
    refine rg_load 24 (some 29) (.slice (some ⟨G, 0, none⟩) n C) 199 28 (g) (0) (by kernel_rfl) (by kernel_rfl) (by kernel_rfl) (fun w' h => ld_pp h.1) (fun _ _ _ h => h) hS ?_
    refine rg_take 25 (some 30) (.int .i64 i) (by kernel_rfl) (fun _ _ => by kernel_rfl) (fun _ _ _ h => h) hS ?_
    refine rg_eq 26 (some 31) (.int .i64 (IntKind.i64.wrap ((i : Int) + 1))) (.int .i64 ((i : Int) + 1)) (by rw [w1]) (by kernel_rfl) (fun _ _ => by kernel_rfl) (fun _ _ _ h => h) hS ?_
    refine rg_take 27 (some 32) (.pointer (some ⟨G, i + 1, none⟩)) (by kernel_rfl) (fun _ _ => run_ix (x := 29) (y := 31) (n := n) (c := C) (by kernel_rfl) hpp (by kernel_rfl) (by kernel_rfl) (show ((i : Int) + 1) = ((i + 1 : Nat) : Int) from by omega) (h1)) (fun _ _ _ h => h) hS ?_
    refine rg_load 28 (some 33) (.slice (some ⟨p2.b, 0, none⟩) y p2.c) 198 32 (G) (i + 1) (by kernel_rfl) (by kernel_rfl) (by kernel_rfl) (fun w' h => ld_p h.2.2) (fun _ _ _ h => h) hS ?_
    refine rg_take 29 (some 34) (.int .i64 y) (by kernel_rfl) (fun _ _ => by kernel_rfl) (fun _ _ _ h => h) hS ?_
    refine rg_eq 30 (some 35) (.int .i64 (IntKind.i64.wrap ((x : Int) + (y : Int)))) (.int .i64 ((x : Int) + (y : Int))) (by rw [z5]) (by kernel_rfl) (fun _ _ => by kernel_rfl) (fun _ _ _ h => h) hS ?_
    refine rg_take 31 (some 36) (.bool (decide ((x : Int) + (y : Int) ≤ 16))) (by kernel_rfl) (fun _ _ => by kernel_rfl) (fun _ _ _ h => h) hS ?_
    refine rg_take 32 (some 37) (.bool (decide ((x : Int) + (y : Int) ≤ 16))) (by kernel_rfl) (fun _ _ => by kernel_rfl) (fun _ _ _ h => h) hS ?_
    refine rg_take 33 (some 4) (.bool (decide ((x : Int) + (y : Int) ≤ 16))) (by kernel_rfl) (fun _ _ => by kernel_rfl) (fun _ _ _ h => h) hS ?_
    refine rg_done (by kernel_rfl) ?_
    simp only [Act.put, List.setIfInBounds_toArray, List.set_cons_zero, List.set_cons_succ]
    -- YES BEHIND
    go_wp2
    go_ret
    exact ⟨by rw [hj.out]; rfl, belowD w⟩
  · have hj : Hid (jnb (ens L) i = false) := by
      show _ = _
      unfold jnb
      rw [hel, decide_eq_false h1, Bool.false_and]
    generalize hln : L.length = n at *
    have z1 : ¬ ((i : Int) + 1 < n) := by omega
    have cgd : w.drew.cell? ⟨g, 0, none⟩ = some (.slice (some ⟨G, 0, none⟩) n C) := cg
    clear A hs hR hg hln
    go_enter Tryz.func260, Tryz.ntmps260
    go_wp2
    refine rg_start (S := fun w' => w'.cell? ⟨g, 0, none⟩ = some (.slice (some ⟨G, 0, none⟩) n C)) (by kernel_rfl) cgd ?_
    have hS := cgd
    -- NO
    refine rg_take 0 (some 5) (.int .i64 i) (by kernel_rfl) (fun _ _ => by kernel_rfl) (fun _ _ _ h => h) hS ?_
    refine rg_eq 1 (some 6) (.bool (decide ((0 : Int) ≤ (i : Int)))) (.bool true) (by rw [decide_eq_true p0]) (by kernel_rfl) (fun _ _ => by kernel_rfl) (fun _ _ _ h => h) hS ?_
    refine rg_take 2 (some 7) (.bool true) (by kernel_rfl) (fun _ _ => by kernel_rfl) (fun _ _ _ h => h) hS ?_
    refine rg_take 3 (some 8) (.int .i64 i) (by kernel_rfl) (fun _ _ => by kernel_rfl) (fun _ _ _ h => h) hS ?_
    refine rg_eq 4 (some 9) (.int .i64 (IntKind.i64.wrap ((i : Int) + 1))) (.int .i64 ((i : Int) + 1)) (by rw [w1]) (by kernel_rfl) (fun _ _ => by kernel_rfl) (fun _ _ _ h => h) hS ?_
    refine rg_take 5 (some 10) (.pointer (some ⟨g, 0, none⟩)) (by kernel_rfl) (fun _ _ => by kernel_rfl) (fun _ _ _ h => h) hS ?_
    refine rg_take 6 (some 11) (.pointer (some ⟨g, 0, none⟩)) (by kernel_rfl) (fun _ _ => by kernel_rfl) (fun _ _ _ h => h) hS ?_
    refine rg_take 7 (some 12) (.pointer (some ⟨g, 0, none⟩)) (by kernel_rfl) (fun _ _ => by kernel_rfl) (fun _ _ _ h => h) hS ?_
    refine rg_load 8 (some 13) (.slice (some ⟨G, 0, none⟩) n C) 199 12 (g) (0) (by kernel_rfl) (by kernel_rfl) (by kernel_rfl) (fun w' h => ld_pp h) (fun _ _ _ h => h) hS ?_
    refine rg_take 9 (some 14) (.int .i64 n) (by kernel_rfl) (fun _ _ => by kernel_rfl) (fun _ _ _ h => h) hS ?_
    refine rg_eq 10 (some 15) (.bool (decide ((i : Int) + 1 < (n : Int)))) (.bool false) (by rw [decide_eq_false (by omega)]) (by kernel_rfl) (fun _ _ => by kernel_rfl) (fun _ _ _ h => h) hS ?_
    refine rg_take 11 (some 16) (.bool false) (by kernel_rfl) (fun _ _ => by kernel_rfl) (fun _ _ _ h => h) hS ?_
    refine rg_take 12 (some 17) (.bool false) (by kernel_rfl) (fun _ _ => by kernel_rfl) (fun _ _ _ h => h) hS ?_
    refine rg_skip 13 (some 18) (by kernel_rfl) (fun _ _ _ h => h) hS ?_
    refine rg_skip 14 (some 19) (by kernel_rfl) (fun _ _ _ h => h) hS ?_
    refine rg_skip 15 (some 20) (by kernel_rfl) (fun _ _ _ h => h) hS ?_
    refine rg_skip 16 (some 21) (by kernel_rfl) (fun _ _ _ h => h) hS ?_
    refine rg_skip 17 (some 22) (by kernel_rfl) (fun _ _ _ h => h) hS ?_
    refine rg_skip 18 (some 23) (by kernel_rfl) (fun _ _ _ h => h) hS ?_
    refine rg_skip 19 (some 24) (by kernel_rfl) (fun _ _ _ h => h) hS ?_
    refine rg_skip 20 (some 25) (by kernel_rfl) (fun _ _ _ h => h) hS ?_
    refine rg_skip 21 (some 26) (by kernel_rfl) (fun _ _ _ h => h) hS ?_
    refine rg_skip 22 (some 27) (by kernel_rfl) (fun _ _ _ h => h) hS ?_
    refine rg_skip 23 (some 28) (by kernel_rfl) (fun _ _ _ h => h) hS ?_
    refine rg_skip 24 (some 29) (by kernel_rfl) (fun _ _ _ h => h) hS ?_
    refine rg_skip 25 (some 30) (by kernel_rfl) (fun _ _ _ h => h) hS ?_
    refine rg_skip 26 (some 31) (by kernel_rfl) (fun _ _ _ h => h) hS ?_
    refine rg_skip 27 (some 32) (by kernel_rfl) (fun _ _ _ h => h) hS ?_
    refine rg_skip 28 (some 33) (by kernel_rfl) (fun _ _ _ h => h) hS ?_
    refine rg_skip 29 (some 34) (by kernel_rfl) (fun _ _ _ h => h) hS ?_
    refine rg_skip 30 (some 35) (by kernel_rfl) (fun _ _ _ h => h) hS ?_
    refine rg_skip 31 (some 36) (by kernel_rfl) (fun _ _ _ h => h) hS ?_
    refine rg_take 32 (some 37) (.bool false) (by kernel_rfl) (fun _ _ => by kernel_rfl) (fun _ _ _ h => h) hS ?_
    refine rg_take 33 (some 4) (.bool false) (by kernel_rfl) (fun _ _ => by kernel_rfl) (fun _ _ _ h => h) hS ?_
    refine rg_done (by kernel_rfl) ?_
    simp only [Act.put, List.setIfInBounds_toArray, List.set_cons_zero, List.set_cons_succ]
    -- NO BEHIND
    go_wp2
    go_ret
    exact ⟨by rw [hj.out]; rfl, belowD w⟩
end Pg
end Go.Proofs.YtpoifdokmjhclaaGreat

namespace Go.Proofs.YtpoifdokmjhclaaGreat
namespace Pg
open Go.RowKit Go.Lib
theorem ens_jn {L : List Pg} {i : Nat} {p p2 q : Pg} (hp : L[i]? = some p) (hp2 : L[i + 1]? = some p2) (hq : q.es = p.es ++ p2.es) : ens ((L.set i q).take (i + 1) ++ (L.set i q).drop (i + 2)) = jnQ (ens L) i := by
  have hil := (List.getElem?_eq_some_iff.1 hp).1
  unfold jnQ
  rw [ens_getD hp, ens_getD hp2, ← hq]
  have e1 : (L.set i q).take (i + 1) = L.take i ++ [q] := by
    rw [List.take_add_one, List.take_set_of_le (Nat.le_refl _), List.getElem?_set_self hil]; rfl
  rw [e1, List.drop_set_of_lt (by omega)]
  simp [ens, List.map_take, List.map_drop]
set_option maxHeartbeats 4000000 in
set_option maxRecDepth 100000 in
theorem join_any {w : World} {F D : Nat → Prop} {g i : Nat} {L : List Pg} {p p2 : Pg} (A : MapA w F D g L) (hp : L[i]? = some p) (hp2 : L[i + 1]? = some p2) (hn : L.length ≤ 100000000) (h0 : 0 < p.es.length) (hs1 : p.es.length ≤ 1000) (hs2 : p2.es.length ≤ 1000) :
    Calls Tryz.prog 261 #[.pointer (some ⟨g, 0, none⟩), .int .i64 i] w fun e w' => ∃ F' L', e = .returned (.tuple #[]) ∧ ens L' = jnQ (ens L) i ∧ MapA w' F' D g L' ∧ (∀ b, F' b → F b ∨ w.heap.size ≤ b) ∧ Chg F w w' := by
  have hil := (List.getElem?_eq_some_iff.1 hp).1
  have hil2 := (List.getElem?_eq_some_iff.1 hp2).1
  have hL : L ≠ [] := fun e => by subst e; simp at hil
  obtain ⟨G, C, hg, hFg, hFG, hR⟩ := A.opn hL
  have hpA := A.pages p (List.mem_of_getElem? hp)
  have hpA2 := A.pages p2 (List.mem_of_getElem? hp2)
  have cg := hg.cell (i := 0) rfl
  have cG := hR.cell (i := i) (v := p.v) (by simp [hp])
  have cG2 := hR.cell (i := i + 1) (v := p2.v) (by simp [hp2])
  have hCC := hR.le
  simp only [maxLen] at hCC
  obtain ⟨n, hnn⟩ : ∃ n, Hid (L.length = n) := ⟨_, rfl⟩
  obtain ⟨x, hxx⟩ : ∃ m, Hid (p.es.length = m) := ⟨_, rfl⟩
  obtain ⟨y, hyy⟩ : ∃ m, Hid (p2.es.length = m) := ⟨_, rfl⟩
  simp only [Pg.v] at cG cG2
  rw [hnn.out] at cg
  rw [hxx.out] at cG
  rw [hyy.out] at cG2
  have z1 : (i : Int) < n := by have := hnn.out; omega
  have z2 : (i : Int) + 1 < n := by have := hnn.out; omega
  have w1 : IntKind.i64.wrap ((i : Int) + 1) = (i : Int) + 1 := by rw [IntKind.wrap_i64]; have := hnn.out; omega
  have z3 : ((i : Int) + 1).toNat = i + 1 := by omega
  have z4 : (0 : Int) ≤ (i : Int) + 1 := by omega
  have cgd : w.drew.cell? ⟨g, 0, none⟩ = some (.slice (some ⟨G, 0, none⟩) n C) := cg
  have cGd : w.drew.cell? ⟨G, i, none⟩ = some (.slice (some ⟨p.b, 0, none⟩) x p.c) := cG
  have cG2d : w.drew.cell? ⟨G, i + 1, none⟩ = some (.slice (some ⟨p2.b, 0, none⟩) y p2.c) := cG2
  have hgG : g ≠ G := fun e => hR.ne_map hg e.symm
  obtain ⟨W1, hW1⟩ : ∃ W1, Hid (W1 = w.drew.alloc (.cells #[.slice (some ⟨p.b, 0, none⟩) x p.c, .slice (some ⟨p2.b, 0, none⟩) y p2.c] 198)) := ⟨_, rfl⟩
  have B1 : Below w.heap.size w W1 := by rw [hW1.out]; exact joinB (belowD w) (below_alloc w.drew _)
  have V1 : Blk W1 w.heap.size [.slice (some ⟨p.b, 0, none⟩) x p.c, .slice (some ⟨p2.b, 0, none⟩) y p2.c] 198 := by rw [hW1.out]; exact blk_new w.drew _ _
  have t1 := concatE V1 ((hxx.out ▸ hpA.1.row).keep B1) ((hyy.out ▸ hpA2.1.row).keep B1) (by have := hxx.out; omega) (by have := hxx.out; omega) (by have := hyy.out; omega) hpA.1.one hpA2.1.one
  have hcg1 : W1.cell? ⟨g, 0, none⟩ = _ := (B1.cell (p := ⟨g, 0, none⟩) (cell_lt cg)).trans cg
  have hcG1 : W1.cell? ⟨G, i, none⟩ = _ := (B1.cell (p := ⟨G, i, none⟩) (cell_lt cG)).trans cG
  have hcG21 : W1.cell? ⟨G, i + 1, none⟩ = _ := (B1.cell (p := ⟨G, i + 1, none⟩) (cell_lt cG2)).trans cG2
  have hin : i < n := by have := hnn.out; omega
  have hin2 : i + 1 < n := by have := hnn.out; omega
  have hS1 := (show _ ∧ _ from ⟨hcg1, hcG21⟩)
  rw [hW1.out] at hS1 t1
  go_enter Tryz.func261, Tryz.ntmps261
  go_wp2
  -- REGION 0
  have hpp : Tryz.prog.underlying 199 = some (.slice 198) := by kernel_rfl
  refine rg_mid (X := Nat × Nat) (fun z => [(some 4, .pointer (some ⟨g, 0, none⟩)), (some 5, .pointer (some ⟨g, 0, none⟩)), (some 6, .pointer (some ⟨g, 0, none⟩)), (some 7, .slice (some ⟨G, 0, none⟩) n C), (some 8, .int .i64 i), (some 9, .pointer (some ⟨g, 0, none⟩)), (some 10, .pointer (some ⟨g, 0, none⟩)), (some 11, .pointer (some ⟨g, 0, none⟩)), (some 12, .slice (some ⟨G, 0, none⟩) n C), (some 13, .int .i64 i), (some 14, .pointer (some ⟨G, i, none⟩)), (some 15, .slice (some ⟨p.b, 0, none⟩) x p.c), (some 16, .pointer (some ⟨g, 0, none⟩)), (some 17, .pointer (some ⟨g, 0, none⟩)), (some 18, .pointer (some ⟨g, 0, none⟩)), (some 19, .slice (some ⟨G, 0, none⟩) n C), (some 20, .int .i64 i), (some 21, .int .i64 ((i : Int) + 1)), (some 22, .pointer (some ⟨G, i + 1, none⟩)), (some 23, .slice (some ⟨p2.b, 0, none⟩) y p2.c), (some 24, .slice (some ⟨w.heap.size, 0, none⟩) 2 2), (some 25, .slice (some ⟨z.1, 0, none⟩) (x + y) z.2), (some 26, .pointer (some ⟨G, i, none⟩))]) (fun z w' => ∃ w2, w' = w2.setCell ⟨G, i, none⟩ (.slice (some ⟨z.1, 0, none⟩) (x + y) z.2) ∧ W1.heap.size ≤ z.1 ∧ Rw w2 197 2 z.1 (x + y) z.2 (flat p.es ++ flat p2.es) ∧ Below W1.heap.size W1 w2) (fun w' => w'.cell? ⟨g, 0, none⟩ = some (.slice (some ⟨G, 0, none⟩) n C) ∧ w'.cell? ⟨G, i + 1, none⟩ = some (.slice (some ⟨p2.b, 0, none⟩) y p2.c)) (by kernel_rfl) ⟨cgd, cG2d⟩ ?_ ?_
  · have hS := (show _ ∧ _ from ⟨cgd, cG2d⟩)
    refine rg_take 0 (some 4) (.pointer (some ⟨g, 0, none⟩)) (by kernel_rfl) (fun _ _ => by kernel_rfl) (fun _ _ _ h => h) hS ?_
    refine rg_take 1 (some 5) (.pointer (some ⟨g, 0, none⟩)) (by kernel_rfl) (fun _ _ => by kernel_rfl) (fun _ _ _ h => h) hS ?_
    refine rg_take 2 (some 6) (.pointer (some ⟨g, 0, none⟩)) (by kernel_rfl) (fun _ _ => by kernel_rfl) (fun _ _ _ h => h) hS ?_
    refine rg_load 3 (some 7) (.slice (some ⟨G, 0, none⟩) n C) 199 6 (g) (0) (by kernel_rfl) (by kernel_rfl) (by kernel_rfl) (fun w' h => ld_pp h.1) (fun _ _ _ h => h) hS ?_
    refine rg_take 4 (some 8) (.int .i64 i) (by kernel_rfl) (fun _ _ => by kernel_rfl) (fun _ _ _ h => h) hS ?_
    refine rg_take 5 (some 9) (.pointer (some ⟨g, 0, none⟩)) (by kernel_rfl) (fun _ _ => by kernel_rfl) (fun _ _ _ h => h) hS ?_
    refine rg_take 6 (some 10) (.pointer (some ⟨g, 0, none⟩)) (by kernel_rfl) (fun _ _ => by kernel_rfl) (fun _ _ _ h => h) hS ?_
    refine rg_take 7 (some 11) (.pointer (some ⟨g, 0, none⟩)) (by kernel_rfl) (fun _ _ => by kernel_rfl) (fun _ _ _ h => h) hS ?_
    refine rg_load 8 (some 12) (.slice (some ⟨G, 0, none⟩) n C) 199 11 (g) (0) (by kernel_rfl) (by kernel_rfl) (by kernel_rfl) (fun w' h => ld_pp h.1) (fun _ _ _ h => h) hS ?_
    refine rg_take 9 (some 13) (.int .i64 i) (by kernel_rfl) (fun _ _ => by kernel_rfl) (fun _ _ _ h => h) hS ?_
    refine rg_take 10 (some 14) (.pointer (some ⟨G, i, none⟩)) (by kernel_rfl) (fun _ _ => run_ix (x := 12) (y := 13) (n := n) (c := C) (by kernel_rfl) hpp (by kernel_rfl) (by kernel_rfl) (rfl) (hin)) (fun _ _ _ h => h) hS ?_
    refine rg_take 12 (some 16) (.pointer (some ⟨g, 0, none⟩)) (by kernel_rfl) (fun _ _ => by kernel_rfl) (fun _ _ _ h => h) hS ?_
    refine rg_take 13 (some 17) (.pointer (some ⟨g, 0, none⟩)) (by kernel_rfl) (fun _ _ => by kernel_rfl) (fun _ _ _ h => h) hS ?_
    refine rg_take 14 (some 18) (.pointer (some ⟨g, 0, none⟩)) (by kernel_rfl) (fun _ _ => by kernel_rfl) (fun _ _ _ h => h) hS ?_
    refine rg_load 15 (some 19) (.slice (some ⟨G, 0, none⟩) n C) 199 18 (g) (0) (by kernel_rfl) (by kernel_rfl) (by kernel_rfl) (fun w' h => ld_pp h.1) (fun _ _ _ h => h) hS ?_
    refine rg_take 16 (some 20) (.int .i64 i) (by kernel_rfl) (fun _ _ => by kernel_rfl) (fun _ _ _ h => h) hS ?_
    refine rg_eq 17 (some 21) (.int .i64 (IntKind.i64.wrap ((i : Int) + 1))) (.int .i64 ((i : Int) + 1)) (by rw [w1]) (by kernel_rfl) (fun _ _ => by kernel_rfl) (fun _ _ _ h => h) hS ?_
    refine rg_take 18 (some 22) (.pointer (some ⟨G, i + 1, none⟩)) (by kernel_rfl) (fun _ _ => run_ix (x := 19) (y := 21) (n := n) (c := C) (by kernel_rfl) hpp (by kernel_rfl) (by kernel_rfl) (show ((i : Int) + 1) = ((i + 1 : Nat) : Int) from by omega) (hin2)) (fun _ _ _ h => h) hS ?_
    refine rg_load 19 (some 23) (.slice (some ⟨p2.b, 0, none⟩) y p2.c) 198 22 (G) (i + 1) (by kernel_rfl) (by kernel_rfl) (by kernel_rfl) (fun w' h => ld_p h.2) (fun _ _ _ h => h) hS ?_
    refine rg_ready [11] (by kernel_rfl) (by simp) ?_
    refine ar_val 11 (some 15) (.slice (some ⟨p.b, 0, none⟩) x p.c) _ (by kernel_rfl) (run_lp 14 (by kernel_rfl) (by kernel_rfl) (ld_p cGd)) hS ?_ ar_nil
    refine rg_ready [20] (by kernel_rfl) (by simp) ?_
    refine ar_val 20 (some 24) (.slice (some ⟨w.heap.size, 0, none⟩) 2 2) _ (by kernel_rfl) (run_bs2 (x := 15) (y := 23) (by kernel_rfl) (by kernel_rfl) (by kernel_rfl)) hS1 ?_ ar_nil
    refine rg_call 21 (some 25) 313 #[.slice (some ⟨w.heap.size, 0, none⟩) 2 2] (by kernel_rfl) (by kernel_rfl) t1 ?_
    rintro e' w2 ⟨b2, c2, rfl, hb2, R2, D2⟩
    rw [← hW1.out] at D2 hb2
    have cg2 : w2.cell? ⟨g, 0, none⟩ = _ := (D2.cell (p := ⟨g, 0, none⟩) (cell_lt hcg1)).trans hcg1
    have cGi2 : w2.cell? ⟨G, i, none⟩ = _ := (D2.cell (p := ⟨G, i, none⟩) (cell_lt hcG1)).trans hcG1
    have cGj2 : w2.cell? ⟨G, i + 1, none⟩ = _ := (D2.cell (p := ⟨G, i + 1, none⟩) (cell_lt hcG21)).trans hcG21
    have fG2 : w2.frozen? ⟨G, i, none⟩ = false := ((hR.keep B1).keep D2).free i
    refine ⟨_, rfl, ⟨cg2, cGj2⟩, ?_⟩
    replace hS := (show _ ∧ _ from ⟨cg2, cGj2⟩)
    refine rg_take 22 (some 26) (.pointer (some ⟨G, i, none⟩)) (by kernel_rfl) (fun _ _ => run_ix (x := 7) (y := 8) (n := n) (c := C) (by kernel_rfl) hpp (by kernel_rfl) (by kernel_rfl) (rfl) (hin)) (fun _ _ _ h => h) hS ?_
    refine rg_ready [23] (by kernel_rfl) (by simp) ?_
    refine ar_void 23 (w2.setCell ⟨G, i, none⟩ (.slice (some ⟨b2, 0, none⟩) (x + y) c2)) (by kernel_rfl) (run_sp 26 25 (by kernel_rfl) (by kernel_rfl) (by kernel_rfl) cGi2 fG2) ⟨cell_off hgG cg2, cell_far (by omega) cGj2⟩ ?_ ar_nil
    refine rg_done (by kernel_rfl) ?_
    exact ⟨(b2, c2), by kernel_rfl, w2, rfl, hb2, R2, D2⟩
  -- BEHIND IT
  rintro ⟨b2, c2⟩ w' ⟨w2, rfl, hb2, R2, D2⟩
  dsimp only at hb2 R2
  simp only [putAll, Act.put, List.setIfInBounds_toArray, List.set_cons_zero, List.set_cons_succ]
  have hB2 : Below w.heap.size w w2 := joinB B1 D2
  obtain ⟨q, hq⟩ : ∃ q : Pg, Hid (q = ⟨b2, c2, p.es ++ p2.es⟩) := ⟨_, rfl⟩
  have hlen : (p.es ++ p2.es).length = x + y := by rw [List.length_append, hxx.out, hyy.out]
  have hA' : PgA w2 D q := by
    rw [hq.out]
    refine ⟨?_, fun e he => ?_⟩
    · show Rw w2 _ 2 b2 (p.es ++ p2.es).length c2 _
      rw [hlen, flat_append]; exact R2
    · rcases List.mem_append.1 he with h | h
      · exact (hpA.1.ents e h).keep hB2
      · exact (hpA2.1.ents e h).keep hB2
  have hv' : q.v = .slice (some ⟨b2, 0, none⟩) (x + y) c2 := by rw [hq.out]; simp only [Pg.v]; rw [hlen]
  have hqb : q.b = b2 := by rw [hq.out]
  have hqe : q.es = p.es ++ p2.es := by rw [hq.out]
  obtain ⟨A3, C3⟩ := A.put (p' := q) (D' := D) hg hFg hFG hR hp (Chg.of hB2) (.inr (by rw [hqb]; exact Nat.le_trans B1.size hb2)) hA' (fun _ _ h => h)
  rw [hv', hqb] at A3
  rw [hv'] at C3
  have hF3 : ∀ b, ((F b ∧ b ≠ p.b) ∨ b = b2) → F b ∨ w.heap.size ≤ b := fun b h => h.imp (fun h => h.1) (fun h => by rw [h]; exact Nat.le_trans B1.size hb2)
  have hgb3 := (hg.keep hB2).off hgG (i := i) (.slice (some ⟨b2, 0, none⟩) (x + y) c2)
  generalize (w2.setCell ⟨G, i, none⟩ (.slice (some ⟨b2, 0, none⟩) (x + y) c2)) = W3 at *
  generalize hF3d : (fun x => (F x ∧ x ≠ p.b) ∨ x = b2) = F3 at A3
  have hF3' : ∀ b, F3 b → F b ∨ w.heap.size ≤ b := fun b h => hF3 b (by rw [← hF3d] at h; exact h)
  obtain ⟨G2, D3, hg3, hFg3, hFG3, hR3⟩ := A3.opn (by simp [hL])
  obtain ⟨rfl, rfl⟩ : G2 = G ∧ D3 = C := by
    have := (hg3.eq hgb3).1
    simp at this
    exact ⟨this.1, this.2⟩
  have cg3 : W3.cell? ⟨g, 0, none⟩ = some (.slice (some ⟨G2, 0, none⟩) n D3) := by
    have := hgb3.cell (i := 0) rfl
    rwa [hnn.out] at this
  have hR3' := hR3
  rw [List.length_set, hnn.out] at hR3'
  have t4 := delP (i := i + 1) hR3' (by have := hnn.out; omega) (pv_one _)
  rw [show ((i + 1 : Nat) : Int) = (i : Int) + 1 by omega, show (i : Int) + 1 + 1 = (i : Int) + 2 by omega] at t4
  have w2' : IntKind.i64.wrap ((i : Int) + 2) = (i : Int) + 2 := by rw [IntKind.wrap_i64]; have := hnn.out; omega
  go_wp2_with (go_at_call 259; refine t4.mono ?_; rintro e' w5 ⟨rfl, R5, C5⟩; have cg5 : w5.cell? ⟨g, 0, none⟩ = _ := (World.cell?_of_block (a := ⟨g, 0, none⟩) (C5.same g (cell_lt cg3) hgG)).trans cg3; have fg5 : w5.frozen? ⟨g, 0, none⟩ = false := (hgb3.chg C5 hgG).free 0)
  go_end0
  have hsub : ((L.set i q).take (i + 1) ++ (L.set i q).drop (i + 2)).Sublist (L.set i q) := by
    have h := List.Sublist.append (List.Sublist.refl ((L.set i q).take (i + 1))) (List.drop_sublist 1 ((L.set i q).drop (i + 1)))
    rw [List.drop_drop, List.take_append_drop] at h
    exact h
  obtain ⟨A6, C6⟩ := mapA_swap (w := W3) (w1 := w5) (F := F3) (D := D) (g := g) (G := G2) (G' := G2) (C' := D3) (n := n - 1) (L' := (L.set i q).take (i + 1) ++ (L.set i q).drop (i + 2))
    (fun p hp => A3.pages p (hsub.mem hp)) (A3.apart.sublist (hsub.map _)) A3.kind hgb3 hFg3 hFG3 (fun e => hgG e.symm) C5 (fun p hp => (A3.pages p (hsub.mem hp)).1.ne_row hR3)
    (by simp; have := hnn.out; omega) (by simpa [List.map_take, List.map_drop] using R5)
  refine ⟨_, _, rfl, ens_jn hp hp2 hqe, A6, fun b hb => ?_, C3.trans C6 fun b hb h => (hF3' b h).resolve_right (by omega)⟩
  rcases hb with ⟨h, _⟩ | rfl
  · exact hF3' b h
  · exact hF3' _ hFG3
end Pg
end Go.Proofs.YtpoifdokmjhclaaGreat

namespace Go.Proofs.YtpoifdokmjhclaaGreat
namespace Pg
open Go.RowKit Go.Lib

/-- the entry at place q of page i taken away -/
def rmQ (P : List (List En)) (i q : Nat) : List (List En) :=
  let es := (P.getD i []).take q ++ (P.getD i []).drop (q + 1)
  if es = [] then P.take i ++ P.drop (i + 1)
  else
    let P1 := P.set i es
    if jnb P1 i then jnQ P1 i else if 1 ≤ i ∧ jnb P1 (i - 1) then jnQ P1 (i - 1) else P1
def delQ (P : List (List En)) (k : List Int) : List (List En) :=
  if has P k then rmQ P (pgi P k) (plc (kys (P.getD (pgi P k) [])) k) else P
theorem rm_flat (es : List En) (q : Nat) : (flat es).take (q * 2) ++ (flat es).drop ((q + 1) * 2) = flat (es.take q ++ es.drop (q + 1)) := by
  rw [flat_take, flat_drop, flat_append]
set_option maxHeartbeats 4000000 in
set_option maxRecDepth 100000 in
theorem remove_any {w : World} {F D : Nat → Prop} {g i q : Nat} {L : List Pg} {p : Pg} (A : MapA w F D g L) (hi : L[i]? = some p) (hq : q < p.es.length) (hs : ∀ es ∈ ens L, es.length ≤ 32) (hf : ∀ es ∈ ens L, es ≠ []) (hn : L.length ≤ 100000000) :
    Calls Tryz.prog 211 #[.pointer (some ⟨g, 0, none⟩), .int .i64 i, .int .i64 q] w fun e' w' => ∃ F' L', e' = .returned (.tuple #[]) ∧ ens L' = rmQ (ens L) i q ∧ MapA w' F' D g L' ∧ (∀ b, F' b → F b ∨ w.heap.size ≤ b) ∧ Chg F w w' := by
  have hil := (List.getElem?_eq_some_iff.1 hi).1
  have hL : L ≠ [] := fun e => by subst e; simp at hil
  obtain ⟨G, C, hg, hFg, hFG, hR⟩ := A.opn hL
  have hp := A.pages p (List.mem_of_getElem? hi)
  have h2 := hs p.es (List.mem_map.2 ⟨p, List.mem_of_getElem? hi, rfl⟩)
  have cg := hg.cell (i := 0) rfl
  have cG := hR.cell (i := i) (v := p.v) (by simp [hi])
  obtain ⟨n, hnn⟩ : ∃ n, Hid (L.length = n) := ⟨_, rfl⟩
  obtain ⟨m, hmm⟩ : ∃ m, Hid (p.es.length = m) := ⟨_, rfl⟩
  simp only [Pg.v] at cG
  rw [hnn.out] at cg
  rw [hmm.out] at cG
  have cgd : w.drew.cell? ⟨g, 0, none⟩ = some (.slice (some ⟨G, 0, none⟩) n C) := cg
  have cGd : w.drew.cell? ⟨G, i, none⟩ = some (.slice (some ⟨p.b, 0, none⟩) m p.c) := cG
  have hgG : g ≠ G := fun e => hR.ne_map hg e.symm
  have ng : g ≠ p.b := fun e => hp.1.ne_map hg e.symm
  have nG : G ≠ p.b := fun e => hp.1.ne_row hR e.symm
  have hin : i < n := by have := hnn.out; omega
  have w1 : IntKind.i64.wrap ((q : Int) + 1) = (q : Int) + 1 := by rw [IntKind.wrap_i64]; omega
  have t1 := delE (i := q) hp.1.row.drew hq hp.1.one
  rw [hmm.out] at t1
  go_enter Tryz.func211, Tryz.ntmps211
  go_wp2
  -- REGION 0
  have hpp : Tryz.prog.underlying 199 = some (.slice 198) := by kernel_rfl
  refine rg_mid (X := Unit) (fun _ => [(some 6, .pointer (some ⟨g, 0, none⟩)), (some 7, .pointer (some ⟨g, 0, none⟩)), (some 8, .pointer (some ⟨g, 0, none⟩)), (some 9, .slice (some ⟨G, 0, none⟩) n C), (some 10, .int .i64 i), (some 11, .pointer (some ⟨g, 0, none⟩)), (some 12, .pointer (some ⟨g, 0, none⟩)), (some 13, .pointer (some ⟨g, 0, none⟩)), (some 14, .slice (some ⟨G, 0, none⟩) n C), (some 15, .int .i64 i), (some 16, .pointer (some ⟨G, i, none⟩)), (some 17, .slice (some ⟨p.b, 0, none⟩) m p.c), (some 18, .int .i64 q), (some 19, .int .i64 q), (some 20, .int .i64 ((q : Int) + 1)), (some 21, .slice (some ⟨p.b, 0, none⟩) (m - 1) p.c), (some 22, .pointer (some ⟨G, i, none⟩))]) (fun _ w' => ∃ w2, w' = w2.setCell ⟨G, i, none⟩ (.slice (some ⟨p.b, 0, none⟩) (m - 1) p.c) ∧ Rw w2 197 2 p.b (m - 1) p.c ((flat p.es).take (q * 2) ++ (flat p.es).drop ((q + 1) * 2)) ∧ Chg (· = p.b) w.drew w2) (fun w' => w'.cell? ⟨g, 0, none⟩ = some (.slice (some ⟨G, 0, none⟩) n C)) (by kernel_rfl) cgd ?_ ?_
  · have hS := cgd
    refine rg_take 0 (some 6) (.pointer (some ⟨g, 0, none⟩)) (by kernel_rfl) (fun _ _ => by kernel_rfl) (fun _ _ _ h => h) hS ?_
    refine rg_take 1 (some 7) (.pointer (some ⟨g, 0, none⟩)) (by kernel_rfl) (fun _ _ => by kernel_rfl) (fun _ _ _ h => h) hS ?_
    refine rg_take 2 (some 8) (.pointer (some ⟨g, 0, none⟩)) (by kernel_rfl) (fun _ _ => by kernel_rfl) (fun _ _ _ h => h) hS ?_
    refine rg_load 3 (some 9) (.slice (some ⟨G, 0, none⟩) n C) 199 8 (g) (0) (by kernel_rfl) (by kernel_rfl) (by kernel_rfl) (fun w' h => ld_pp h) (fun _ _ _ h => h) hS ?_
    refine rg_take 4 (some 10) (.int .i64 i) (by kernel_rfl) (fun _ _ => by kernel_rfl) (fun _ _ _ h => h) hS ?_
    refine rg_take 5 (some 11) (.pointer (some ⟨g, 0, none⟩)) (by kernel_rfl) (fun _ _ => by kernel_rfl) (fun _ _ _ h => h) hS ?_
    refine rg_take 6 (some 12) (.pointer (some ⟨g, 0, none⟩)) (by kernel_rfl) (fun _ _ => by kernel_rfl) (fun _ _ _ h => h) hS ?_
    refine rg_take 7 (some 13) (.pointer (some ⟨g, 0, none⟩)) (by kernel_rfl) (fun _ _ => by kernel_rfl) (fun _ _ _ h => h) hS ?_
    refine rg_load 8 (some 14) (.slice (some ⟨G, 0, none⟩) n C) 199 13 (g) (0) (by kernel_rfl) (by kernel_rfl) (by kernel_rfl) (fun w' h => ld_pp h) (fun _ _ _ h => h) hS ?_
    refine rg_take 9 (some 15) (.int .i64 i) (by kernel_rfl) (fun _ _ => by kernel_rfl) (fun _ _ _ h => h) hS ?_
    refine rg_take 10 (some 16) (.pointer (some ⟨G, i, none⟩)) (by kernel_rfl) (fun _ _ => run_ix (x := 14) (y := 15) (n := n) (c := C) (by kernel_rfl) hpp (by kernel_rfl) (by kernel_rfl) (rfl) (hin)) (fun _ _ _ h => h) hS ?_
    refine rg_take 12 (some 18) (.int .i64 q) (by kernel_rfl) (fun _ _ => by kernel_rfl) (fun _ _ _ h => h) hS ?_
    refine rg_take 13 (some 19) (.int .i64 q) (by kernel_rfl) (fun _ _ => by kernel_rfl) (fun _ _ _ h => h) hS ?_
    refine rg_eq 14 (some 20) (.int .i64 (IntKind.i64.wrap ((q : Int) + 1))) (.int .i64 ((q : Int) + 1)) (by rw [w1]) (by kernel_rfl) (fun _ _ => by kernel_rfl) (fun _ _ _ h => h) hS ?_
    refine rg_ready [11] (by kernel_rfl) (by simp) ?_
    refine ar_val 11 (some 17) (.slice (some ⟨p.b, 0, none⟩) m p.c) _ (by kernel_rfl) (run_lp 16 (by kernel_rfl) (by kernel_rfl) (ld_p cGd)) hS ?_ ar_nil
    refine rg_call 15 (some 21) 258 #[.slice (some ⟨p.b, 0, none⟩) m p.c, .int .i64 q, .int .i64 ((q : Int) + 1)] (by kernel_rfl) (by kernel_rfl) t1 ?_
    rintro e' w2 ⟨rfl, R2, C2⟩
    have cg2 : w2.cell? ⟨g, 0, none⟩ = _ := (World.cell?_of_block (a := ⟨g, 0, none⟩) (C2.same g (cell_lt cgd) ng)).trans cgd
    have cG2 : w2.cell? ⟨G, i, none⟩ = _ := (World.cell?_of_block (a := ⟨G, i, none⟩) (C2.same _ (cell_lt cGd) nG)).trans cGd
    have fG2 : w2.frozen? ⟨G, i, none⟩ = false := (hR.drew.chg C2 nG).free i
    refine ⟨_, rfl, cg2, ?_⟩
    replace hS := cg2
    refine rg_take 16 (some 22) (.pointer (some ⟨G, i, none⟩)) (by kernel_rfl) (fun _ _ => run_ix (x := 9) (y := 10) (n := n) (c := C) (by kernel_rfl) hpp (by kernel_rfl) (by kernel_rfl) (rfl) (hin)) (fun _ _ _ h => h) hS ?_
    refine rg_ready [17] (by kernel_rfl) (by simp) ?_
    refine ar_void 17 (w2.setCell ⟨G, i, none⟩ (.slice (some ⟨p.b, 0, none⟩) (m - 1) p.c)) (by kernel_rfl) (run_sp 22 21 (by kernel_rfl) (by kernel_rfl) (by kernel_rfl) cG2 fG2) (cell_off hgG cg2) ?_ ar_nil
    refine rg_done (by kernel_rfl) ?_
    exact ⟨(), by kernel_rfl, w2, rfl, R2, C2⟩
  -- BEHIND IT
  rintro - w' ⟨w2, rfl, R2, C2⟩
  simp only [putAll, Act.put, List.setIfInBounds_toArray, List.set_cons_zero, List.set_cons_succ]
  have C02 : Chg (· = p.b) w w2 := (Chg.of (F := (· = p.b)) (belowD w)).trans C2 (fun _ _ h => h)
  obtain ⟨p', hp'⟩ : ∃ p' : Pg, Hid (p' = ⟨p.b, p.c, p.es.take q ++ p.es.drop (q + 1)⟩) := ⟨_, rfl⟩
  have hlen : (p.es.take q ++ p.es.drop (q + 1)).length = m - 1 := by have := hmm.out; simp; omega
  have hA' : PgA w2 D p' := by
    rw [hp'.out]
    refine ⟨?_, fun e he => ?_⟩
    · show Rw w2 _ 2 p.b (p.es.take q ++ p.es.drop (q + 1)).length p.c _
      rw [hlen]; exact R2.to (rm_flat p.es q)
    · have he' : e ∈ p.es := by
        rcases List.mem_append.1 he with h | h
        · exact List.mem_of_mem_take h
        · exact List.mem_of_mem_drop h
      refine (hp.1.ents e he').off fun b hb hk => C02.same b hb fun f => ?_
      subst f
      obtain ⟨cs, k⟩ := hk
      obtain ⟨ds, k'⟩ := hp.1.row.kind
      exact blk_ne k k' (by decide) rfl
  have hv' : p'.v = .slice (some ⟨p.b, 0, none⟩) (m - 1) p.c := by rw [hp'.out]; simp only [Pg.v]; rw [hlen]
  have hb' : p'.b = p.b := by rw [hp'.out]
  have he' : p'.es = p.es.take q ++ p.es.drop (q + 1) := by rw [hp'.out]
  obtain ⟨A3, C3⟩ := A.put (p' := p') (D' := D) hg hFg hFG hR hi C02 (.inl hb') hA' (fun _ _ h => h)
  rw [hv', hb'] at A3
  rw [hv'] at C3
  have hF3 : ∀ b, ((F b ∧ b ≠ p.b) ∨ b = p.b) → F b := fun b h => h.elim (fun h => h.1) (fun h => by rw [h]; exact hp.2)
  have cg2 : w2.cell? ⟨g, 0, none⟩ = _ := (World.cell?_of_block (a := ⟨g, 0, none⟩) (C02.same g (cell_lt cg) ng)).trans cg
  have cG2 : w2.cell? ⟨G, i, none⟩ = _ := (World.cell?_of_block (a := ⟨G, i, none⟩) (C02.same _ (cell_lt cG) nG)).trans cG
  have cg3 : (w2.setCell ⟨G, i, none⟩ (.slice (some ⟨p.b, 0, none⟩) (m - 1) p.c)).cell? ⟨g, 0, none⟩ = some (.slice (some ⟨G, 0, none⟩) n C) := cell_off hgG cg2
  have cG3 : (w2.setCell ⟨G, i, none⟩ (.slice (some ⟨p.b, 0, none⟩) (m - 1) p.c)).cell? ⟨G, i, none⟩ = some (.slice (some ⟨p.b, 0, none⟩) (m - 1) p.c) := World.cell?_setCell_same' _ _ _ (by rw [cG2]; rfl)
  have hgb3 := (hg.chg C02 ng).off hgG (i := i) (.slice (some ⟨p.b, 0, none⟩) (m - 1) p.c)
  generalize (w2.setCell ⟨G, i, none⟩ (.slice (some ⟨p.b, 0, none⟩) (m - 1) p.c)) = W3 at *
  generalize hF3d : (fun x => (F x ∧ x ≠ p.b) ∨ x = p.b) = F3 at A3
  have hF3' : ∀ b, F3 b → F b := fun b h => hF3 b (by rw [← hF3d] at h; exact h)
  have hi3 : (L.set i p')[i]? = some p' := by rw [List.getElem?_set_self hil]
  have hE3 : ens (L.set i p') = (ens L).set i (p.es.take q ++ p.es.drop (q + 1)) := by rw [ens_set, he']
  have hs3 : ∀ es ∈ ens (L.set i p'), es.length ≤ 32 := fun es he => by
    rw [hE3] at he
    rcases List.mem_or_eq_of_mem_set he with h | h
    · exact hs es h
    · rw [h, hlen]; have := hmm.out; omega
  have hln3 : (L.set i p').length = n := by rw [List.length_set]; exact hnn.out
  have hX : p.es.take q ++ p.es.drop (q + 1) = [] ∨ p.es.take q ++ p.es.drop (q + 1) ≠ [] := Classical.em _
  have hRm : Hid (rmQ (ens L) i q = if p.es.take q ++ p.es.drop (q + 1) = [] then (ens L).take i ++ (ens L).drop (i + 1) else if jnb (ens (L.set i p')) i then jnQ (ens (L.set i p')) i else if 1 ≤ i ∧ jnb (ens (L.set i p')) (i - 1) then jnQ (ens (L.set i p')) (i - 1) else ens (L.set i p')) := by
    show _ = _
    unfold rmQ
    rw [ens_getD hi, hE3]
  rcases hX with hX | hX
  · have hm1 : m = 1 := by rw [hX] at hlen; simp at hlen; have := hmm.out; omega
    obtain ⟨G2, D3, hg3, hFg3, hFG3, hR3⟩ := A3.opn (by simp [hL])
    obtain ⟨rfl, rfl⟩ : G2 = G ∧ D3 = C := by
      have := (hg3.eq hgb3).1
      simp at this
      exact ⟨this.1, this.2⟩
    have hR3' := hR3
    rw [hln3] at hR3'
    have t4 := delP (i := i) hR3' (by omega) (pv_one _)
    have w3 : IntKind.i64.wrap ((i : Int) + 1) = (i : Int) + 1 := by rw [IntKind.wrap_i64]; have := hnn.out; omega
    have cG3' : W3.cell? ⟨G2, i, none⟩ = some (.slice (some ⟨p.b, 0, none⟩) 0 p.c) := by rw [hm1] at cG3; exact cG3
    have z1 : (i : Int) < n := by omega
    have hsub : ((L.set i p').take i ++ (L.set i p').drop (i + 1)).Sublist (L.set i p') := by
      have h := List.Sublist.append (List.Sublist.refl ((L.set i p').take i)) (List.drop_sublist 1 ((L.set i p').drop i))
      rw [List.drop_drop, List.take_append_drop] at h
      exact h
    have hEq : Hid (ens ((L.set i p').take i ++ (L.set i p').drop (i + 1)) = rmQ (ens L) i q) := by
      show _ = _
      rw [hRm.out, if_pos hX, List.take_set_of_le (Nat.le_refl _), List.drop_set_of_lt (by omega)]
      simp [ens, List.map_take, List.map_drop]
    have HX : Hid _ := hX
    clear hX hRm cG3 hm1
    go_wp2_with (go_at_call 259; refine t4.mono ?_; rintro e' w5 ⟨rfl, R5, C5⟩; have cg5 : w5.cell? ⟨g, 0, none⟩ = _ := (World.cell?_of_block (a := ⟨g, 0, none⟩) (C5.same g (cell_lt cg3) hgG)).trans cg3; have fg5 : w5.frozen? ⟨g, 0, none⟩ = false := (hgb3.chg C5 hgG).free 0)
    go_end0
    obtain ⟨A6, C6⟩ := mapA_swap (w := W3) (w1 := w5) (F := F3) (D := D) (g := g) (G := G2) (G' := G2) (C' := D3) (n := n - 1) (L' := (L.set i p').take i ++ (L.set i p').drop (i + 1))
      (fun p hp => A3.pages p (hsub.mem hp)) (A3.apart.sublist (hsub.map _)) A3.kind hgb3 hFg3 hFG3 (fun e => hgG e.symm) C5 (fun p hp => (A3.pages p (hsub.mem hp)).1.ne_row hR3)
      (by simp; have := hnn.out; omega) (by simpa [List.map_take, List.map_drop] using R5)
    refine ⟨_, _, rfl, hEq.out, A6, fun b hb => ?_, C3.trans C6 fun b _ h => hF3' b h⟩
    rcases hb with ⟨h, _⟩ | rfl
    · exact .inl (hF3' b h)
    · exact .inl (hF3' _ hFG3)
  · have hm1 : 0 < m - 1 := by
      rw [← hlen]; exact List.length_pos_iff.2 hX
    obtain ⟨m1, hm2⟩ : ∃ m1, Hid (m - 1 = m1) := ⟨_, rfl⟩
    rw [hm2.out] at cG3 hm1
    have z0 : ¬ ((m1 : Int) = 0) := by omega
    have z1 : (i : Int) < n := by omega
    have w3 : IntKind.i64.wrap ((i : Int) - 1) = (i : Int) - 1 := by rw [IntKind.wrap_i64]; omega
    have hRm2 := hRm.out
    rw [if_neg hX] at hRm2
    have hRm : Hid _ := hRm2
    clear hRm2
    have HX : Hid _ := hX
    clear hX
    have hf3 : ∀ es ∈ ens (L.set i p'), es ≠ [] := fun es he => by
      rw [hE3] at he
      rcases List.mem_or_eq_of_mem_set he with h | h
      · exact hf es h
      · rw [h]; exact HX.out
    have hjn : ∀ (W : World) (j : Nat), MapA W F3 D g (L.set i p') → jnb (ens (L.set i p')) j = true → Calls Tryz.prog 261 #[.pointer (some ⟨g, 0, none⟩), .int .i64 j] W fun e' w' => ∃ F' L', e' = .returned (.tuple #[]) ∧ ens L' = jnQ (ens (L.set i p')) j ∧ MapA w' F' D g L' ∧ (∀ b, F' b → F3 b ∨ W.heap.size ≤ b) ∧ Chg F3 W w' := fun W j AW hj => by
      unfold jnb at hj
      simp only [Bool.and_eq_true, decide_eq_true_eq] at hj
      have hl : j + 1 < (L.set i p').length := by have := hj.1; simpa [ens] using this
      obtain ⟨a, ha⟩ : ∃ a, (L.set i p')[j]? = some a := ⟨_, List.getElem?_eq_getElem (by omega)⟩
      obtain ⟨c, hc⟩ : ∃ c, (L.set i p')[j + 1]? = some c := ⟨_, List.getElem?_eq_getElem hl⟩
      have ma : a.es ∈ ens (L.set i p') := List.mem_map.2 ⟨a, List.mem_of_getElem? ha, rfl⟩
      have mc : c.es ∈ ens (L.set i p') := List.mem_map.2 ⟨c, List.mem_of_getElem? hc, rfl⟩
      have s1 := hs3 _ ma
      have s2 := hs3 _ mc
      exact join_any AW ha hc (by rw [hln3]; have := hnn.out; omega) (List.length_pos_iff.2 (hf3 _ ma)) (by omega) (by omega)
    have tj := jn_any A3 (i := i) (by omega) (by rw [hln3]; have := hnn.out; omega) (fun es he => by have := hs3 es he; omega)
    by_cases h1 : jnb (ens (L.set i p')) i = true
    · have hEq : Hid (rmQ (ens L) i q = jnQ (ens (L.set i p')) i) := by show _ = _; rw [hRm.out, if_pos h1]
      have t5 : ∀ W, Below W3.heap.size W3 W → _ := fun W hB => hjn W i (A3.keep hB) h1
      rw [h1] at tj
      clear hjn h1 hRm
      go_wp2_with (first
        | (go_at_call 260; refine tj.mono ?_; rintro e' w5 ⟨rfl, hB5⟩; have t6 := t5 w5 hB5; clear t5 tj)
        | (go_at_call 261; refine t6.mono ?_; rintro e' w6 ⟨F6, L6, rfl, hE6, A6, hF6, C6⟩))
      go_end0
      refine ⟨F6, L6, rfl, hE6.trans hEq.out.symm, A6, fun b hb => ?_, (C3.trans (Chg.of (F := F) hB5) (fun _ _ h => h)).trans C6 fun b _ h => hF3' b h⟩
      rcases hF6 b hb with h | h
      · exact .inl (hF3' b h)
      · exact .inr (by have := C3.size; have := hB5.size; omega)
    · have h1' : jnb (ens (L.set i p')) i = false := by simpa using h1
      by_cases hi0 : i = 0
      · have hEq : Hid (rmQ (ens L) i q = ens (L.set i p')) := by show _ = _; rw [hRm.out, if_neg h1, if_neg (by omega)]
        rw [h1'] at tj
        have tn : ∀ W : World, Calls Tryz.prog 260 #[.pointer (some ⟨g, 0, none⟩), .int .i64 (-1)] W _ := fun W => jn_neg
        have mk : True := trivial
        clear hjn h1 hRm h1'
        subst hi0
        go_wp2_with (first
          | (go_at_call 260; clear mk; refine tj.mono ?_; rintro e' w5 ⟨rfl, hB5⟩; clear tj)
          | (go_at_call 260; refine (tn _).mono ?_; rintro e' w6 ⟨rfl, hB6⟩))
        go_end0
        have hB := joinB hB5 hB6
        first
          | exact ⟨F3, _, rfl, hEq.out.symm, A3.keep hB, fun b hb => .inl (hF3' b hb), C3.trans (Chg.of (F := F) hB) (fun _ _ h => h)⟩
          | exact ⟨rfl, F3, _, hEq.out.symm, A3.keep hB, fun b hb => .inl (hF3' b hb), C3.trans (Chg.of (F := F) hB) (fun _ _ h => h)⟩
      · obtain ⟨j, rfl⟩ : ∃ j, i = j + 1 := ⟨i - 1, by omega⟩
        have tk : ∀ W, Below W3.heap.size W3 W → Calls Tryz.prog 260 #[.pointer (some ⟨g, 0, none⟩), .int .i64 j] W _ := fun W hB => jn_any (A3.keep hB) (i := j) (by omega) (by rw [hln3]; have := hnn.out; omega) (fun es he => by have := hs3 es he; omega)
        have e1 : ((j + 1 : Nat) : Int) - 1 = (j : Int) := by omega
        have e2 : (j : Int) + 1 - 1 = (j : Int) := by omega
        rw [h1'] at tj
        have mk : True := trivial
        have mk2 : True := trivial
        by_cases h3 : jnb (ens (L.set (j + 1) p')) j = true
        · have hEq : Hid (rmQ (ens L) (j + 1) q = jnQ (ens (L.set (j + 1) p')) j) := by show _ = _; rw [hRm.out, if_neg h1, if_pos ⟨by omega, by simpa using h3⟩]; rfl
          have t5 : ∀ W, Below W3.heap.size W3 W → _ := fun W hB => hjn W j (A3.keep hB) h3
          rw [h3] at tk
          clear hjn h1 hRm h1' h3
          go_wp2_with (first
            | (go_at_call 260; clear mk; refine tj.mono ?_; rintro e' w5 ⟨rfl, hB5⟩; have tk1 := tk w5 hB5; clear tj tk)
            | (go_at_call 260; refine tk1.mono ?_; rintro e' w6 ⟨rfl, hB6⟩; have hB := joinB hB5 hB6; have t6 := t5 w6 hB; clear t5 tk1)
            | (go_at_call 261; refine t6.mono ?_; rintro e' w7 ⟨F6, L6, rfl, hE6, A6, hF6, C6⟩))
          go_end0
          refine ⟨F6, L6, rfl, hE6.trans hEq.out.symm, A6, fun b hb => ?_, (C3.trans (Chg.of (F := F) hB) (fun _ _ h => h)).trans C6 fun b _ h => hF3' b h⟩
          rcases hF6 b hb with h | h
          · exact .inl (hF3' b h)
          · exact .inr (by have := C3.size; have := hB.size; omega)
        · have h3' : jnb (ens (L.set (j + 1) p')) j = false := by simpa using h3
          have hEq : Hid (rmQ (ens L) (j + 1) q = ens (L.set (j + 1) p')) := by show _ = _; rw [hRm.out, if_neg h1, if_neg (fun h => h3 (by simpa using h.2))]
          rw [h3'] at tk
          clear hjn h1 hRm h1' h3 h3'
          go_wp2_with (first
            | (go_at_call 260; clear mk; refine tj.mono ?_; rintro e' w5 ⟨rfl, hB5⟩; have tk1 := tk w5 hB5; clear tj tk)
            | (go_at_call 260; refine tk1.mono ?_; rintro e' w6 ⟨rfl, hB6⟩; have hB := joinB hB5 hB6; clear tk1))
          go_end0
          first
            | exact ⟨F3, _, rfl, hEq.out.symm, A3.keep hB, fun b hb => .inl (hF3' b hb), C3.trans (Chg.of (F := F) hB) (fun _ _ h => h)⟩
            | exact ⟨rfl, F3, _, hEq.out.symm, A3.keep hB, fun b hb => .inl (hF3' b hb), C3.trans (Chg.of (F := F) hB) (fun _ _ h => h)⟩
end Pg
end Go.Proofs.YtpoifdokmjhclaaGreat

namespace Go.Proofs.YtpoifdokmjhclaaGreat
namespace Pg
open Go.RowKit Go.Lib
set_option maxHeartbeats 2000000 in
set_option maxRecDepth 100000 in
theorem delete_any {w : World} {F D : Nat → Prop} {g : Nat} {L : List Pg} {kv : Value} {k : List Int} (A : MapA w F D g L) (O : Ord (ens L)) (hs : ∀ es ∈ ens L, es.length ≤ 32) (hn : L.length ≤ 100000000) (h : By w kv k) :
    Calls Tryz.prog 171 #[.pointer (some ⟨g, 0, none⟩), kv] w fun e w' => e = .returned (.bool (has (ens L) k)) ∧ ∃ F' L', ens L' = delQ (ens L) k ∧ MapA w' F' D g L' ∧ (∀ b, F' b → F b ∨ w.heap.size ≤ b) ∧ Chg F w w' := by
  by_cases hL : L = []
  · subst hL
    have t := find_nil (v := kv) A
    have e1 : has (ens []) k = false := rfl
    have e2 : Hid (delQ (ens []) k = ens []) := rfl
    rw [e1]
    have HA := (show Hid _ from A)
    clear A O hs h
    go_enter Tryz.func171, Tryz.ntmps171
    go_wp2_with (go_at_call 103; refine t.mono ?_; rintro e' w1 ⟨rfl, rfl⟩)
    go_ret
    exact ⟨rfl, F, [], e2.out.symm, HA.out, fun b hb => .inl hb, Chg.refl _ _⟩
  · obtain ⟨p, hp, hpe⟩ := at_page hL k
    have hpm := List.mem_of_getElem? hp
    have hps := hs p.es (List.mem_map.2 ⟨p, hpm, rfl⟩)
    have t := find_at A O h (by omega) hp (by omega)
    have hh : has (ens L) k = thr (kys p.es) k := by
      unfold has
      rw [hpe]
      have : (ens L).isEmpty = false := by simp [ens, hL]
      simp [this]
    rw [hh]
    by_cases ht : thr (kys p.es) k = true
    · obtain ⟨e, he, hek⟩ := thr_get ht
      have hql := (List.getElem?_eq_some_iff.1 he).1
      have hD : Hid (delQ (ens L) k = rmQ (ens L) (pgi (ens L) k) (plc (kys p.es) k)) := by
        show _ = _
        unfold delQ
        rw [hh, ht, if_pos rfl, hpe]
      have tR : ∀ w', Below w.heap.size w w' → _ := fun w' hB => remove_any (A.keep hB) hp hql hs O.full hn
      rw [ht] at t ⊢
      generalize pgi (ens L) k = i at *
      generalize plc (kys p.es) k = q at *
      clear A O hs h ht hh
      go_enter Tryz.func171, Tryz.ntmps171
      go_wp2_with (first
        | (go_at_call 103; refine t.mono ?_; rintro e' w1 ⟨rfl, hB⟩; have tR1 := tR w1 hB; clear t tR)
        | (go_at_call 211; refine tR1.mono ?_; rintro e' w2 ⟨F', L', rfl, hE, hA, hF, hC⟩))
      go_ret
      exact ⟨rfl, F', L', hE.trans hD.out.symm, hA, fun b hb => (hF b hb).imp id (fun h => Nat.le_trans hB.size h), (Chg.of (F := F) hB).trans hC (fun _ _ h => h)⟩
    · have ht' : thr (kys p.es) k = false := by simpa using ht
      have hD : Hid (delQ (ens L) k = ens L) := by
        show _ = _
        unfold delQ
        rw [hh, ht', if_neg (by decide)]
      rw [ht'] at t ⊢
      generalize pgi (ens L) k = i at *
      generalize plc (kys p.es) k = q at *
      have HA := (show Hid _ from A)
      clear A O hs h ht ht' hh
      go_enter Tryz.func171, Tryz.ntmps171
      go_wp2_with (go_at_call 103; refine t.mono ?_; rintro e' w1 ⟨rfl, hB⟩)
      go_ret
      exact ⟨rfl, F, L, hD.out.symm, HA.out.keep hB, fun b hb => .inl hb, Chg.of hB⟩
set_option maxHeartbeats 1000000 in
set_option maxRecDepth 100000 in
theorem new_any {w : World} : Calls Tryz.prog 85 #[] w fun e w' => ∃ g, e = .returned (.pointer (some ⟨g, 0, none⟩)) ∧ g = w.heap.size ∧ MapA w' (· = g) (fun _ => False) g [] ∧ Below w.heap.size w w' := by
  go_enter Tryz.func85, Tryz.ntmps85
  go_wp2
  go_ret
  refine ⟨_, rfl, rfl, ⟨⟨_, blk_new w [.slice none 0 0] 201, rfl, .inl ⟨rfl, rfl⟩⟩, fun p hp => by simp at hp, by simp, fun b hb => ?_⟩, below_alloc w _⟩
  subst hb
  exact ⟨_, _, blk_new w [.slice none 0 0] 201, by decide⟩
end Pg
end Go.Proofs.YtpoifdokmjhclaaGreat

namespace Go.Proofs.YtpoifdokmjhclaaGreat
namespace Pg
open Go.RowKit Go.Lib
end Pg
end Go.Proofs.YtpoifdokmjhclaaGreat

namespace Go.Proofs.YtpoifdokmjhclaaGreat
namespace Pg
open Go.RowKit Go.Lib

/-- records at or beyond B may turn; nothing else that is there -/
structure Rec (B : Nat) (W W' : World) : Prop where
  os : W'.os = W.os
  tape : W'.tape = W.tape
  output : W'.output = W.output
  size : W.heap.size ≤ W'.heap.size
  same : ∀ (k : Nat) (o : Obj), W.heap[k]? = some o → (k < B ∨ o.isCells = true) → W'.heap[k]? = some o
/-- it doesn't mind such a turn -/
def St (B : Nat) (I : World → Prop) : Prop := ∀ W W', I W → Rec B W W' → I W'
theorem Rec.of {B : Nat} {W W' : World} (h : Below W.heap.size W W') : Rec B W W' := ⟨h.os, h.tape, h.output, h.size, fun k _ hk _ => (h.block k (lt_of_block hk)).trans hk⟩
theorem Rec.put {B l : Nat} {W : World} {o : Obj} (h : W.heap[l]? = some o) (ho : o.isCells = false) (hB : B ≤ l) (o' : Obj) : Rec B W (W.putObj l o') :=
  ⟨rfl, rfl, rfl, by simp, fun k x hk hx => by
    have hne : k ≠ l := fun e => by
      subst e
      rw [h] at hk
      cases hk
      rcases hx with hx | hx
      · omega
      · rw [ho] at hx; cases hx
    exact (World.putObj_heap_other hne).trans hk⟩
theorem Rec.mono {B B' : Nat} {W W' : World} (h : Rec B W W') (hB : B' ≤ B) : Rec B' W W' := ⟨h.os, h.tape, h.output, h.size, fun k o hk ho => h.same k o hk (ho.imp (fun h => by omega) id)⟩
theorem Rec.blk {B : Nat} {W W' : World} (h : Rec B W W') {g : Nat} {cs : List Value} {t : TypeId} (hb : Blk W g cs t) : Blk W' g cs t := ⟨h.same g _ hb.blk (.inr rfl)⟩
theorem below_put {W W' : World} {l : Nat} (hb : Below W.heap.size W W') (hl : l < W.heap.size) (o : Obj) : Below (W.putObj l o).heap.size (W.putObj l o) (W'.putObj l o) := by
  refine ⟨hb.os, hb.tape, hb.output, by simpa using hb.size, fun k hk => ?_⟩
  simp at hk
  by_cases e : k = l
  · subst e
    have := hb.size
    rw [World.putObj_heap_same (by omega), World.putObj_heap_same hl]
  · rw [World.putObj_heap_other e, World.putObj_heap_other e]; exact hb.block k hk
/-- cells stay -/
structure Cel (W W' : World) : Prop where
  size : W.heap.size ≤ W'.heap.size
  same : ∀ (k : Nat) (o : Obj), W.heap[k]? = some o → o.isCells = true → W'.heap[k]? = some o
theorem Rec.cel {B : Nat} {W W' : World} (h : Rec B W W') : Cel W W' := ⟨h.size, fun k o hk ho => h.same k o hk (.inr ho)⟩
/-- an object that is no list of cells of a type of Tp's -/
def Safe (Tp : TypeId → Prop) (o : Obj) : Prop := ∀ cs t fz, o = .cells cs t fz → ¬ Tp t
theorem safe_loop {Tp : TypeId → Prop} {r : Loop} : Safe Tp (.loop r) := fun _ _ _ e => by cases e
theorem safe_def {Tp : TypeId → Prop} {d : Option (List Deferred)} : Safe Tp (.deferred d) := fun _ _ _ e => by cases e
/-- at or beyond B what is safe stays -/
structure KeepsT (Tp : TypeId → Prop) (B : Nat) (W W' : World) : Prop where
  size : W.heap.size ≤ W'.heap.size
  same : ∀ (k : Nat) (o : Obj), B ≤ k → W.heap[k]? = some o → Safe Tp o → W'.heap[k]? = some o
theorem KeepsT.of {Tp : TypeId → Prop} {B : Nat} {W W' : World} (h : Below W.heap.size W W') : KeepsT Tp B W W' := ⟨h.size, fun k _ _ hk _ => (h.block k (lt_of_block hk)).trans hk⟩
theorem KeepsT.trans {Tp : TypeId → Prop} {B : Nat} {W W' W'' : World} (h : KeepsT Tp B W W') (h' : KeepsT Tp B W' W'') : KeepsT Tp B W W'' := ⟨Nat.le_trans h.size h'.size, fun k o hB hk ho => h'.same k o hB (h.same k o hB hk ho) ho⟩
theorem KeepsT.mono {Tp : TypeId → Prop} {B B' : Nat} {W W' : World} (h : KeepsT Tp B W W') (hB : B ≤ B') : KeepsT Tp B' W W' := ⟨h.size, fun k o hk h0 ho => h.same k o (Nat.le_trans hB hk) h0 ho⟩
theorem KeepsT.blk {Tp : TypeId → Prop} {B : Nat} {W W' : World} (h : KeepsT Tp B W W') {g : Nat} {cs : List Value} {t : TypeId} (hb : Blk W g cs t) (hg : B ≤ g) (ht : ¬ Tp t) : Blk W' g cs t := ⟨h.same g _ hg hb.blk (fun _ _ _ e => by cases e; exact ht)⟩
/-- what an iterator promises: N rounds at most, the i-th with arguments of which Ar tells; Rd: what it reads -/
def Itr (Tp : TypeId → Prop) (gf : Nat) (lb : Array Value) (N : Nat) (Ar : Nat → Array Value → Nat → World → Prop) (Rd : World → Prop) : Prop :=
  ∀ (l : Nat) (J Jx : Nat → World → Prop) (W : World), (∀ i, St W.heap.size (J i)) → (∀ i, St W.heap.size (Jx i)) → (∀ i V, J i V → Rd V) →
    (∀ i args V V', i < N → J i V → W.heap.size ≤ V.heap.size → Below V.heap.size V V' → Ar i args V.heap.size V' → YieldAt Fence.wide 0 Tryz.prog l args V' fun e V'' => KeepsT Tp W.heap.size V' V'' ∧ ((e = .returned (.bool true) ∧ J (i + 1) V'') ∨ (e = .returned (.bool false) ∧ Jx (i + 1) V''))) →
    J 0 W →
    Calls Tryz.prog gf (#[.func (.yield l) #[] #[]] ++ lb) W fun e W' => (∃ v, e = .returned v) ∧ W.heap.size ≤ W'.heap.size ∧ (J N W' ∨ ∃ i, i < N ∧ Jx (i + 1) W')
/-- how a round may be left -/
def bpost (Tp : TypeId → Prop) (B : Nat) (I : Nat → World → Prop) (Ix : Code → Nat → World → Prop) (i : Nat) (W : World) : Exit → Act → World → Prop
  | .normal, _, W' => KeepsT Tp B W W' ∧ I i W'
  | .ret, _, W' => KeepsT Tp B W W' ∧ Ix .ret i W'
  | .exit id, _, W' => KeepsT Tp B W W' ∧ Ix (.exit id) i W'
  | .goto t, _, W' => KeepsT Tp B W W' ∧ Ix (.goto t) i W'
  | .panic _, _, _ => False
  | .outgrown, _, _ => False
/-- a loop's record -/
def recd (fn : FuncId) (tmps : Array Value) (ps : Array Tmp) (assign body : Code) (dd : Nat) (st : LoopState) (pe : Option Code) : Loop := { state := st, pending := pe, fn, tmps, params := ps, assign, body, defers := dd }
/-- records at or beyond B stay, but that of loop l -/
structure KeepsBut (Tp : TypeId → Prop) (B l : Nat) (W W' : World) : Prop where
  size : W.heap.size ≤ W'.heap.size
  same : ∀ (k : Nat) (o : Obj), B ≤ k → k ≠ l → W.heap[k]? = some o → Safe Tp o → W'.heap[k]? = some o
theorem KeepsBut.from {Tp : TypeId → Prop} {B l B1 : Nat} {W W' : World} (h : KeepsBut Tp B l W W') (hB : B ≤ B1) (hl : l < B1) : KeepsT Tp B1 W W' := ⟨h.size, fun k o hk h0 ho => h.same k o (by omega) (by omega) h0 ho⟩
/-- one round, out of its walk -/
theorem yield_core {Tp : TypeId → Prop} {l B i : Nat} {fn : FuncId} {tmps : Array Value} {ps : Array Tmp} {assign body : Code} {dd : Nat} {args : Array Value} {V W : World} {n : Nat} {I : Nat → World → Prop} {Ix : Code → Nat → World → Prop} {Ar : Nat → Array Value → Nat → World → Prop}
    (hArS : ∀ i args n V W, Ar i args n V → Cel V W → Ar i args n W) (hI : ∀ i, St B (I i)) (hIx : ∀ c i, St B (Ix c i)) (hBl : B ≤ l)
    (hL : V.heap[l]? = some (.loop (recd fn tmps ps assign body dd .ready none))) (hi : I i V) (hb : Below V.heap.size V W) (ha : Ar i args V.heap.size W) (hps : args.size = ps.size)
    (hround : assign.wpIn (Fence.wide.inRound l) n Tryz.prog (Exit.then (fun a1 W1 => Below W.heap.size W W1 ∧ ∀ V2 W2, I i V2 → Below V2.heap.size V2 W2 → Ar i args V2.heap.size W2 → (∀ b, b ≠ l → W2.heap[b]? = W1.heap[b]?) → W2.heap.size = W1.heap.size → V2.heap.size = V.heap.size → (∃ r, W2.heap[l]? = some (.loop r)) → body.wpIn (Fence.wide.inRound l) n Tryz.prog (bpost Tp B I Ix (i + 1) W2) a1 W2) (fun _ _ _ => False)) { tmps := (ps.zip args).foldl (fun t (p, v) => t.setIfInBounds p v) tmps, defers := [] } W) :
    YieldAt Fence.wide 0 Tryz.prog l args W fun e W' => KeepsBut Tp B l W W' ∧ ((e = .returned (.bool true) ∧ I (i + 1) W' ∧ W'.heap[l]? = some (.loop (recd fn tmps ps assign body dd .ready none))) ∨ (e = .returned (.bool false) ∧ ∃ c, Ix c (i + 1) W' ∧ W'.heap[l]? = some (.loop (recd fn tmps ps assign body dd .done (some c))))) := by
  have hlV : l < V.heap.size := lt_of_block hL
  have hLW : W.heap[l]? = some (.loop (recd fn tmps ps assign body dd .ready none)) := (hb.block l hlV).trans hL
  have hy := run_yield (P := Tryz.prog) (args := args) hLW hps
  have hround' : assign.wpIn (Fence.wide.inRound l) n Tryz.prog (Exit.then (fun a₁ w₁ => ∃ w₂, (Instr.beginRound l).run Tryz.prog w₁ = .ok () w₂ ∧ body.wpIn (Fence.wide.inRound l) n Tryz.prog (roundPost Tryz.prog l fun e W' => KeepsBut Tp B l W W' ∧ ((e = .returned (.bool true) ∧ I (i + 1) W' ∧ W'.heap[l]? = some (.loop (recd fn tmps ps assign body dd .ready none))) ∨ (e = .returned (.bool false) ∧ ∃ c, Ix c (i + 1) W' ∧ W'.heap[l]? = some (.loop (recd fn tmps ps assign body dd .done (some c)))))) a₁ w₂) (fun _ _ _ => False)) { tmps := (ps.zip args).foldl (fun t (p, v) => t.setIfInBounds p v) tmps, defers := [] } W := by
    refine wpIn_mono hround ?_
    intro e a1 W1 h
    cases e with
    | normal =>
      obtain ⟨hB1, hbody⟩ := h
      have hL1 : W1.heap[l]? = some (.loop (recd fn tmps ps assign body dd .ready none)) := (hB1.block l (lt_of_block hLW)).trans hLW
      have hl1' : l < W1.heap.size := lt_of_block hL1
      refine ⟨_, run_beginRound hL1 rfl, ?_⟩
      have hBV : Below V.heap.size V W1 := joinB hb hB1
      have h1 := hbody (V.putObj l (.loop { recd fn tmps ps assign body dd .ready none with state := .busy })) (W1.putObj l (.loop { recd fn tmps ps assign body dd .ready none with state := .busy }))
        (hI i _ _ hi (Rec.put hL rfl hBl _)) (below_put hBV hlV _) (by simpa using hArS i args _ _ _ (hArS i args _ _ _ ha (Rec.of (B := 0) hB1).cel) (Rec.put hL1 rfl (Nat.zero_le _) _).cel)
        (fun b hb => World.putObj_heap_other hb) (by simp) (by simp) ⟨_, World.putObj_heap_same hl1'⟩
      have hLb : (W1.putObj l (.loop { recd fn tmps ps assign body dd .ready none with state := .busy })).heap[l]? = some (.loop { recd fn tmps ps assign body dd .ready none with state := .busy }) := World.putObj_heap_same hl1'
      generalize hW2 : W1.putObj l (.loop { recd fn tmps ps assign body dd .ready none with state := .busy }) = W2 at *
      have hkp : KeepsBut Tp B l W W2 := by
        rw [← hW2]
        refine ⟨by simpa using hB1.size, fun k _ hk hne h0 _ => ?_⟩
        rw [World.putObj_heap_other hne]
        exact (hB1.block k (lt_of_block h0)).trans h0
      have fin : ∀ (jump : Option Code) (W3 : World), KeepsT Tp B W2 W3 →
          (Instr.endRound l jump).run Tryz.prog W3 = .ok (.bool jump.isNone) (W3.putObj l (.loop (recd fn tmps ps assign body dd (if jump.isNone then .ready else .done) jump))) ∧ W3.heap[l]? = some (.loop { recd fn tmps ps assign body dd .ready none with state := .busy }) ∧
          (W3.putObj l (.loop (recd fn tmps ps assign body dd (if jump.isNone then .ready else .done) jump))).heap[l]? = some (.loop (recd fn tmps ps assign body dd (if jump.isNone then .ready else .done) jump)) ∧
          KeepsBut Tp B l W (W3.putObj l (.loop (recd fn tmps ps assign body dd (if jump.isNone then .ready else .done) jump))) := fun jump W3 hk3 => by
        have hl3 := hk3.same _ _ hBl hLb safe_loop
        refine ⟨run_endRound (P := Tryz.prog) jump hl3, hl3, World.putObj_heap_same (lt_of_block hl3), ⟨by simpa using Nat.le_trans hkp.size hk3.size, fun k o hk hne h0 ho => ?_⟩⟩
        rw [World.putObj_heap_other hne]
        exact hk3.same k o hk (hkp.same k o hk hne h0 ho) ho
      refine wpIn_mono h1 ?_
      intro e a3 W3 hp
      cases e with
      | normal =>
        obtain ⟨hk3, hi3⟩ := hp
        obtain ⟨hr, hl3, hl4, hk4⟩ := fin none W3 hk3
        exact ⟨_, _, hr, hk4, .inl ⟨rfl, hI _ _ _ hi3 (Rec.put hl3 rfl hBl _), hl4⟩⟩
      | ret =>
        obtain ⟨hk3, hi3⟩ := hp
        obtain ⟨hr, hl3, hl4, hk4⟩ := fin (some .ret) W3 hk3
        exact ⟨_, _, hr, hk4, .inr ⟨rfl, .ret, hIx _ _ _ _ hi3 (Rec.put hl3 rfl hBl _), hl4⟩⟩
      | exit id =>
        obtain ⟨hk3, hi3⟩ := hp
        obtain ⟨hr, hl3, hl4, hk4⟩ := fin (some (.exit id)) W3 hk3
        exact ⟨_, _, hr, hk4, .inr ⟨rfl, .exit id, hIx _ _ _ _ hi3 (Rec.put hl3 rfl hBl _), hl4⟩⟩
      | goto t =>
        obtain ⟨hk3, hi3⟩ := hp
        obtain ⟨hr, hl3, hl4, hk4⟩ := fin (some (.goto t)) W3 hk3
        exact ⟨_, _, hr, hk4, .inr ⟨rfl, .goto t, hIx _ _ _ _ hi3 (Rec.put hl3 rfl hBl _), hl4⟩⟩
      | panic ch => exact hp.elim
      | outgrown => exact hp.elim
    | ret => exact h.elim
    | exit id => exact h.elim
    | goto t => exact h.elim
    | panic ch => exact h.elim
    | outgrown => exact h.elim
  exact ⟨fn, _, assign, body, hy, by
    have := roundIn_of_wpIn (F := Fence.wide) (n := n) (P := Tryz.prog) (f := fn) trivial hround'
    exact ⟨this.1, fun c cs _ => this.2 c cs (fun _ h => by cases h)⟩⟩
/-- the walk of a round, as the laws ask for it -/
def RoundW (Tp : TypeId → Prop) (w : World) (N n : Nat) (ps : Array Tmp) (assign body : Code) (tmps : Array Value) (Ar : Nat → Array Value → Nat → World → Prop) (I : Nat → World → Prop) (Ix : Code → Nat → World → Prop) : Prop :=
  ∀ (l i : Nat) (args : Array Value) (V W : World), w.heap.size ≤ l → l < V.heap.size → (∃ r, V.heap[l]? = some (.loop r)) → i < N → I i V → Below V.heap.size V W → Ar i args V.heap.size W →
    assign.wpIn (Fence.wide.inRound l) n Tryz.prog (Exit.then (fun a1 W1 => Below W.heap.size W W1 ∧ ∀ V2 W2, I i V2 → Below V2.heap.size V2 W2 → Ar i args V2.heap.size W2 → (∀ b, b ≠ l → W2.heap[b]? = W1.heap[b]?) → W2.heap.size = W1.heap.size → V2.heap.size = V.heap.size → (∃ r, W2.heap[l]? = some (.loop r)) → body.wpIn (Fence.wide.inRound l) n Tryz.prog (bpost Tp w.heap.size I Ix (i + 1) W2) a1 W2) (fun _ _ _ => False)) { tmps := (ps.zip args).foldl (fun t (p, v) => t.setIfInBounds p v) tmps, defers := [] } W
/-- a range over a function -/
theorem rf_outer {Tp : TypeId → Prop} {gf N n : Nat} {lb : Array Value} {Ar : Nat → Array Value → Nat → World → Prop} {Rd : World → Prop} (IT : Itr Tp gf lb N Ar Rd) {g : Operand} {ps : Array Tmp} {assign body : Code} {Q : Exit → Act → World → Prop} {a : Act} {w : World}
    (hg : a.eval g = .func (.func gf) #[] lb) (eg : ∀ args w, (callFunc gf args).run Tryz.prog w = .ok (.enter gf args) w) (hArS : ∀ i args n V W, Ar i args n V → Cel V W → Ar i args n W) (hAn : ∀ i args n V, Ar i args n V → args.size = ps.size)
    (I : Nat → World → Prop) (Ix : Code → Nat → World → Prop) (hI : ∀ i, St w.heap.size (I i)) (hIx : ∀ c i, St w.heap.size (Ix c i)) (hRd : ∀ i V, I i V → Rd V) (h0 : I 0 w)
    (hround : RoundW Tp w N n ps assign body a.tmps Ar I Ix)
    (hdone : ∀ D W, w.heap.size ≤ D → W.heap[D]? = some (.deferred (some [])) → I N W → Q .normal { a with defers := { target := .collected D, args := #[] } :: a.defers } W)
    (hstop : ∀ D c i W, w.heap.size ≤ D → W.heap[D]? = some (.deferred (some [])) → i < N → Ix c (i + 1) W → c.wpIn Fence.wide n Tryz.prog Q { a with defers := { target := .collected D, args := #[] } :: a.defers } W) :
    (Code.rangeFunc g ps assign body).wpIn Fence.wide n Tryz.prog Q a w := by
  refine wpIn_rangeFunc ?_
  intro fn _
  obtain ⟨W1, hW1⟩ : ∃ W1, (w.alloc (.deferred (some []))).alloc (.loop (recd fn a.tmps ps assign body w.heap.size .ready none)) = W1 := ⟨_, rfl⟩
  have hB1 : Below w.heap.size w W1 := by rw [← hW1]; exact joinB (below_alloc w _) (below_alloc _ _)
  have hs1 : W1.heap.size = w.heap.size + 1 + 1 := by rw [← hW1]; simp
  have hL1 : W1.heap[w.heap.size + 1]? = some (.loop (recd fn a.tmps ps assign body w.heap.size .ready none)) := by
    rw [← hW1]; have := World.alloc_heap_new (w.alloc (.deferred (some []))) (.loop (recd fn a.tmps ps assign body w.heap.size .ready none)); rwa [World.size_alloc] at this
  have hK1 : W1.heap[w.heap.size]? = some (.deferred (some [])) := by
    rw [← hW1]; exact (Below.heap_alloc _ _ _ (by simp)).trans (World.alloc_heap_new w _)
  refine ⟨w.heap.size + 1, [{ target := .collected w.heap.size, args := #[] }], W1, { target := .fn (.func gf) lb, args := #[.func (.yield (w.heap.size + 1)) #[] #[]] }, W1, gf,
    #[.func (.yield (w.heap.size + 1)) #[] #[]] ++ lb, W1, ?_, ?_, ?_, ?_, fun h => (by cases h), ?_⟩
  · rw [← hW1]; exact run_enterLoop_outer _ _ _ _ _
  · simp only [resolve, hg]
    simp [go_sem]
  · intro f' _; trivial
  · simp [invoke, go_sem, eg]
  · refine callsIn_wide.2 ?_
    refine (IT (w.heap.size + 1)
      (fun i W => I i W ∧ W.heap[w.heap.size + 1]? = some (.loop (recd fn a.tmps ps assign body w.heap.size .ready none)) ∧ W.heap[w.heap.size]? = some (.deferred (some [])))
      (fun i W => ∃ c, Ix c i W ∧ W.heap[w.heap.size + 1]? = some (.loop (recd fn a.tmps ps assign body w.heap.size .done (some c))) ∧ W.heap[w.heap.size]? = some (.deferred (some [])))
      W1 (fun i X Y hx hr => ⟨hI i X Y hx.1 (hr.mono (by omega)), hr.same _ _ hx.2.1 (.inl (by omega)), hr.same _ _ hx.2.2 (.inl (by omega))⟩)
      (fun i X Y hx hr => by obtain ⟨c, h1, h2, h3⟩ := hx; exact ⟨c, hIx c i X Y h1 (hr.mono (by omega)), hr.same _ _ h2 (.inl (by omega)), hr.same _ _ h3 (.inl (by omega))⟩)
      (fun i V hv => hRd i V hv.1) ?_ ⟨hI 0 _ _ h0 (Rec.of hB1), hL1, hK1⟩).mono ?_
    · rintro i args V V' hiN ⟨hi, hl, hk⟩ hsz hb ha
      refine (yield_core (B := w.heap.size) hArS hI hIx (by omega) hl hi hb ha (hAn _ _ _ _ ha) (hround _ i args V V' (by omega) (lt_of_block hl) ⟨_, hl⟩ hiN hi hb ha)).mono ?_
      rintro e V'' ⟨hkp, h⟩
      have hk2 := hkp.same _ _ (Nat.le_refl _) (by omega) ((hb.block _ (lt_of_block hk)).trans hk) safe_def
      refine ⟨hkp.from (by omega) (by omega), h.imp (fun h => ⟨h.1, h.2.1, h.2.2, hk2⟩) (fun h => ?_)⟩
      obtain ⟨h1, c, h2, h3⟩ := h
      exact ⟨h1, c, h2, h3, hk2⟩
    · rintro e W2 ⟨⟨v, rfl⟩, hsz, ⟨hi, hl, hk⟩ | ⟨i, hiN, c, hi, hl, hk⟩⟩
      · exact ⟨none, _, run_endLoop (P := Tryz.prog) hl (by simp [recd]), hdone _ _ (Nat.le_refl _) ((World.putObj_heap_other (by omega)).trans hk) (hI _ _ _ hi (Rec.put hl rfl (by omega) _))⟩
      · exact ⟨some c, _, run_endLoop (P := Tryz.prog) hl (by simp [recd]), hstop _ c i _ (Nat.le_refl _) ((World.putObj_heap_other (by omega)).trans hk) hiN (hIx c _ _ _ hi (Rec.put hl rfl (by omega) _))⟩
end Pg
end Go.Proofs.YtpoifdokmjhclaaGreat
