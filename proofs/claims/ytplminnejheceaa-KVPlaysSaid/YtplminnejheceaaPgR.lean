/- Slices that begin at their block's first cell: append, copy, clear. -/
import Derived.Test.YtplminnejheceaaPg0
namespace Go.Proofs.Ytplminnejheceaa
namespace Pg
open Go.RowKit Go.Lib

/-- block b holds n elements of k cells each, xs, and room for c -/
structure Rw (w : World) (E : TypeId) (k b n c : Nat) (xs : List Value) : Prop where
  ex : ∃ sp, Blk w b (xs ++ sp) E ∧ xs.length = n * k ∧ (xs ++ sp).length = c * k ∧ n ≤ c ∧ c ≤ maxLen
theorem Rw.lt {w : World} {E : TypeId} {k b n c : Nat} {xs : List Value} (h : Rw w E k b n c xs) : b < w.heap.size := by
  obtain ⟨sp, h, _⟩ := h.ex; exact h.lt
theorem Rw.same {w w' : World} {E : TypeId} {k b n c : Nat} {xs : List Value} (h : Rw w E k b n c xs) (hb : w'.heap[b]? = w.heap[b]?) : Rw w' E k b n c xs := by
  obtain ⟨sp, h, h'⟩ := h.ex; exact ⟨sp, h.same hb, h'⟩
theorem Rw.keep {w w' : World} {E : TypeId} {k b n c : Nat} {xs : List Value} (h : Rw w E k b n c xs) (hb : Below w.heap.size w w') : Rw w' E k b n c xs := h.same (hb.block b h.lt)
theorem Rw.chg {F : Nat → Prop} {w w' : World} {E : TypeId} {k b n c : Nat} {xs : List Value} (h : Rw w E k b n c xs) (hb : Chg F w w') (hg : ¬ F b) : Rw w' E k b n c xs := h.same (hb.same b h.lt hg)
theorem Rw.drew {w : World} {E : TypeId} {k b n c : Nat} {xs : List Value} (h : Rw w E k b n c xs) : Rw w.drew E k b n c xs := h.same rfl
theorem Rw.len {w : World} {E : TypeId} {k b n c : Nat} {xs : List Value} (h : Rw w E k b n c xs) : xs.length = n * k := by
  obtain ⟨sp, h, h', _⟩ := h.ex; exact h'
theorem Rw.le {w : World} {E : TypeId} {k b n c : Nat} {xs : List Value} (h : Rw w E k b n c xs) : n ≤ c ∧ c ≤ maxLen := by
  obtain ⟨sp, h, _, _, h'⟩ := h.ex; exact h'
theorem Rw.cell {w : World} {E : TypeId} {k b n c : Nat} {xs : List Value} (h : Rw w E k b n c xs) {i : Nat} {v : Value} (hi : xs[i]? = some v) : w.cell? ⟨b, i, none⟩ = some v := by
  obtain ⟨sp, h, _⟩ := h.ex
  exact h.cell (by rw [List.getElem?_append_left (List.getElem?_eq_some_iff.1 hi).1]; exact hi)
theorem Rw.free {w : World} {E : TypeId} {k b n c : Nat} {xs : List Value} (h : Rw w E k b n c xs) (i : Nat) : w.frozen? ⟨b, i, none⟩ = false := by
  obtain ⟨sp, h, _⟩ := h.ex; exact h.free i
theorem Rw.kind {w : World} {E : TypeId} {k b n c : Nat} {xs : List Value} (h : Rw w E k b n c xs) : ∃ cs, Blk w b cs E := by
  obtain ⟨sp, h, _⟩ := h.ex; exact ⟨_, h⟩
theorem Rw.set {w : World} {E : TypeId} {k b n c : Nat} {xs : List Value} (h : Rw w E k b n c xs) (i : Nat) (hi : i < xs.length) (v : Value) : Rw (w.setCell ⟨b, i, none⟩ v) E k b n c (xs.set i v) := by
  obtain ⟨sp, h, h1, h2, h3⟩ := h.ex
  refine ⟨sp, ?_, by simpa using h1, by simpa using h2, h3⟩
  have := h.setCell (i := i) v
  rwa [List.set_append_left _ _ hi] at this
theorem blk_rw {w : World} {E : TypeId} {k b n : Nat} {xs : List Value} (h : Blk w b xs E) (hx : xs.length = n * k) (hn : n ≤ maxLen) : Rw w E k b n n xs := ⟨[], by simpa using h, hx, by simpa using hx, Nat.le_refl _, hn⟩
/-- fewer elements of the same block -/
theorem Rw.front {w : World} {E : TypeId} {k b n c : Nat} {xs : List Value} (h : Rw w E k b n c xs) {m : Nat} (hm : m ≤ n) : Rw w E k b m c (xs.take (m * k)) := by
  obtain ⟨sp, h, h1, h2, h3, h4⟩ := h.ex
  have hk : m * k ≤ n * k := Nat.mul_le_mul_right _ hm
  refine ⟨xs.drop (m * k) ++ sp, by rw [← List.append_assoc, List.take_append_drop]; exact h, by rw [List.length_take]; omega, by rw [← List.append_assoc, List.take_append_drop]; exact h2, by omega, h4⟩

/-- more elements of the same block -/
theorem Rw.more {w : World} {E : TypeId} {k b n c : Nat} {xs : List Value} (h : Rw w E k b n c xs) {m : Nat} (hm : n + m ≤ c) : ∃ s, s.length = m * k ∧ Rw w E k b (n + m) c (xs ++ s) := by
  obtain ⟨sp, h, h1, h2, h3, h4⟩ := h.ex
  have h5 : n * k + m * k ≤ c * k := by rw [← Nat.add_mul]; exact Nat.mul_le_mul_right _ hm
  rw [List.length_append] at h2
  refine ⟨sp.take (m * k), by rw [List.length_take]; omega, sp.drop (m * k), ?_, ?_, ?_, hm, h4⟩
  · rw [List.append_assoc, List.take_append_drop]; exact h
  · rw [List.length_append, List.length_take, Nat.add_mul]; omega
  · rw [List.append_assoc, List.take_append_drop, List.length_append]; exact h2
theorem Rw.to {w : World} {E : TypeId} {k b n c : Nat} {xs ys : List Value} (h : Rw w E k b n c xs) (e : xs = ys) : Rw w E k b n c ys := e ▸ h

section
variable {P : Program} {w : World} {T E : TypeId} {k bytes : Nat} {z : Value}
/-- what a slice's type says -/
structure Kd (P : Program) (T E : TypeId) (k bytes : Nat) (z : Value) : Prop where
  und : P.underlying T = some (.slice E)
  inf : (P.info? E).map (fun i => (i.zero, i.size, i.bytes)) = some (some z, k, bytes)
  zs : z.cells.size = k
  z1 : ∀ v ∈ z.cells, v.oneCell' = true
  k0 : 0 < k
theorem Kd.size (h : Kd P T E k bytes z) : (P.info? E).map (·.size) = some k := by
  obtain ⟨i, hi, hz, hs, hb⟩ := info_parts h.inf
  rw [hi]; simp [hs]
theorem Kd.sizeOf (h : Kd P T E k bytes z) (w : World) : (Go.sizeOf E).run P w = .ok k w := by
  obtain ⟨i, hi, hz, hs, hb⟩ := info_parts h.inf
  simp [Go.sizeOf, typeInfo, hi, hs]
theorem Kd.zero (h : Kd P T E k bytes z) (w : World) : (zeroValue E).run P w = .ok z w := by
  obtain ⟨i, hi, hz, hs, hb⟩ := info_parts h.inf
  simp [zeroValue, typeInfo, hi, hz]
theorem new_row (w : World) (E : TypeId) (zc : Array Value) (k n c : Nat) (xs : List Value) (hz : zc.size = k) (hx : xs.length = n * k) (hn : n ≤ c) (hc : c ≤ maxLen) :
    Rw (w.drew.alloc (.cells (xs.toArray ++ Builtin.zeroCells zc (c - n)) E)) E k w.heap.size n c xs :=
  ⟨(Builtin.zeroCells zc (c - n)).toList, ⟨by
    have := (blk_new w.drew (xs ++ (Builtin.zeroCells zc (c - n)).toList) E).blk
    rw [show (xs ++ (Builtin.zeroCells zc (c - n)).toList).toArray = xs.toArray ++ Builtin.zeroCells zc (c - n) by apply Array.ext'; simp] at this ⊢
    exact this⟩, hx, by
    rw [List.length_append, hx, Array.length_toList, size_zeroCells, hz, ← Nat.add_mul]; congr 1; omega, hn, hc⟩
/-- append of m elements that lie at a -/
theorem app_row (H : Kd P T E k bytes z) (ty : TypeId) {b n c : Nat} {xs : List Value} (R : Rw w E k b n c xs) (a : Addr) (m cc : Nat) (news : List Value) (hl : news.length = m * k) (hnews : ∀ j u, news[j]? = some u → w.cell? (a.add j) = some u) (h1 : ∀ u ∈ news, u.oneCell' = true)
    (hbig : (n + m) * bytes ≤ 140737488355328) (hm : n + m ≤ 140737488355328) :
    ∃ b' c' w', (Builtin.append_ #[T, T] ty #[.slice (some ⟨b, 0, none⟩) n c, .slice (some a) m cc]).run P w = .ok (.slice (some ⟨b', 0, none⟩) (n + m) c') w' ∧ (b' = b ∨ b' = w.heap.size) ∧ Rw w' E k b' (n + m) c' (xs ++ news) ∧ Chg (· = b) w w' := by
  obtain ⟨i, hi, hz, hs, hb⟩ := info_parts H.inf
  obtain ⟨sp, hB, hx, hc, hnc, hcm⟩ := R.ex
  subst hs hb
  have hmx : n + m ≤ maxLen := by simp only [maxLen]; omega
  by_cases hroom : n + m ≤ c
  · have hfit : n * i.size + news.length ≤ (xs ++ sp).toArray.size := by
      rw [List.size_toArray, hc, hl, ← Nat.add_mul]; exact Nat.mul_le_mul_right _ hroom
    have hr := run_append_room (P := P) w T ty E i H.und hi b n c (xs ++ sp).toArray hB.blk a m cc news hl hnews h1 hroom hfit
    refine ⟨b, c, _, hr, .inl rfl, ⟨sp.drop news.length, ?_, by rw [List.length_append, hx, hl, Nat.add_mul], ?_, hroom, hcm⟩, (Chg.refl (· = b) w).row (g := b) (.inl rfl) _⟩
    · have := hB.row (xs ++ news ++ sp.drop news.length)
      have e : (xs ++ sp).toArray.toList.take (n * i.size) ++ news ++ (xs ++ sp).toArray.toList.drop (n * i.size + news.length) = xs ++ news ++ sp.drop news.length := by
        rw [show (xs ++ sp).toArray.toList = xs ++ sp from rfl, ← hx, List.take_left, ← List.drop_drop, List.drop_left]
      rw [e]; exact this
    · have h2 : xs.length + sp.length = c * i.size := by rw [← List.length_append]; exact hc
      have h3 : n * i.size + m * i.size ≤ c * i.size := by rw [← Nat.add_mul]; exact Nat.mul_le_mul_right _ hroom
      rw [List.length_append, List.length_append, List.length_drop]; omega
  · have holds : ∀ j u, xs[j]? = some u → w.cell? ((⟨b, 0, none⟩ : Addr).add j) = some u := fun j u hj => by rw [Addr.add_lit, Nat.zero_add]; exact R.cell hj
    have hr := run_append_grow (P := P) w T ty E i z H.und hi hz ⟨b, 0, none⟩ n c xs hx holds a m cc news hl hnews (by omega) (by omega) (growslice_fits (by omega) hbig)
    refine ⟨w.heap.size, _, _, hr, .inr rfl, ?_, (Chg.refl _ w).drew.alloc _⟩
    have := new_row w E z.cells i.size (n + m) (grownCap w (n + m) c E) (xs ++ news) H.zs (by rw [List.length_append, hx, hl, Nat.add_mul]) (grownCap_ge w _ _ _) (grownCap_le_maxLen w _ _ _ hmx)
    simpa using this
theorem app_nil (H : Kd P T E k bytes z) (ty : TypeId) (a : Addr) (m cc : Nat) (news : List Value) (hl : news.length = m * k) (hnews : ∀ j u, news[j]? = some u → w.cell? (a.add j) = some u)
    (h0 : 0 < m) (hbig : m * bytes ≤ 140737488355328) (hm : m ≤ 140737488355328) :
    ∃ c' w', (Builtin.append_ #[T, T] ty #[.slice none 0 0, .slice (some a) m cc]).run P w = .ok (.slice (some ⟨w.heap.size, 0, none⟩) m c') w' ∧ Rw w' E k w.heap.size m c' news ∧ Below w.heap.size w w' := by
  obtain ⟨i, hi, hz, hs, hb⟩ := info_parts H.inf
  subst hs hb
  have hr := run_append_nil (P := P) w T ty E i z H.und hi hz a m cc news hl hnews h0 (by omega) (by omega)
  refine ⟨_, _, hr, ?_, ?_⟩
  · exact new_row w E z.cells i.size m (grownCap w m 0 E) news H.zs hl (grownCap_ge w _ _ _) (grownCap_le_maxLen w _ _ _ (by simp only [maxLen]; omega))
  · exact (Below.refl _ w).trans ⟨rfl, rfl, rfl, by simp, fun b hb => by
      have := (below_alloc w.drew (.cells (news.toArray ++ Builtin.zeroCells z.cells (grownCap w m 0 E - m)) E)).block b hb
      exact this⟩
/-- append of m noughts where there is no room for them -/
theorem app_zeros (H : Kd P T E k bytes z) (tn ty : TypeId) (hn : P.underlying tn = some (.int .i64)) {b n c : Nat} {xs : List Value} (R : Rw w E k b n c xs) (m : Nat) (h0 : 0 < m) (hc : c < n + m) (hbig : (n + m) * bytes ≤ 140737488355328) (hm : n + m ≤ 140737488355328) :
    ∃ c' w', (Builtin.append_ #[T, tn] ty #[.slice (some ⟨b, 0, none⟩) n c, .int .i64 m]).run P w = .ok (.slice (some ⟨w.heap.size, 0, none⟩) (n + m) c') w' ∧ Rw w' E k w.heap.size (n + m) c' (xs ++ (Builtin.zeroCells z.cells m).toList) ∧ Below w.heap.size w w' := by
  obtain ⟨i, hi, hz, hs, hb⟩ := info_parts H.inf
  have hx := R.len
  subst hs hb
  have hold : (Builtin.firstCells i.size n (.slice (some ⟨b, 0, none⟩) n c)).run P w.drew = .ok xs.toArray w.drew :=
    run_firstCells_some w.drew i.size n ⟨b, 0, none⟩ n c xs hx (fun j v hj => by rw [Addr.add_lit, Nat.zero_add]; exact R.cell hj)
  have hm' : m * i.bytes ≤ (n + m) * i.bytes := Nat.mul_le_mul_right _ (by omega)
  have hr := run_append_grow_zeros w T tn ty E i z .i64 .i64 H.und hn hi hz (some ⟨b, 0, none⟩) n c xs hold m h0 H.k0 hc (by omega) (by omega) (growslice_fits hc hbig)
  refine ⟨_, _, hr, ?_, ?_⟩
  · have := new_row w E z.cells i.size (n + m) (grownCap w (n + m) c E) (xs ++ (Builtin.zeroCells z.cells m).toList) H.zs (by rw [List.length_append, hx, Array.length_toList, size_zeroCells, H.zs, Nat.add_mul]) (grownCap_ge w _ _ _) (grownCap_le_maxLen w _ _ _ (by simp only [maxLen]; omega))
    rw [show (xs ++ (Builtin.zeroCells z.cells m).toList).toArray = xs.toArray ++ Builtin.zeroCells z.cells m by apply Array.ext'; simp] at this
    exact this
  · exact ⟨rfl, rfl, rfl, by simp, fun b hb => (below_alloc w.drew (.cells (xs.toArray ++ Builtin.zeroCells z.cells m ++ Builtin.zeroCells z.cells (grownCap w (n + m) c E - (n + m))) E)).block b hb⟩
theorem app_zeros_nil (H : Kd P T E k bytes z) (tn ty : TypeId) (hn : P.underlying tn = some (.int .i64)) (m : Nat) (h0 : 0 < m) (hbig : m * bytes ≤ 140737488355328) (hm : m ≤ 140737488355328) :
    ∃ c' w', (Builtin.append_ #[T, tn] ty #[.slice none 0 0, .int .i64 m]).run P w = .ok (.slice (some ⟨w.heap.size, 0, none⟩) m c') w' ∧ Rw w' E k w.heap.size m c' (Builtin.zeroCells z.cells m).toList ∧ Below w.heap.size w w' := by
  obtain ⟨i, hi, hz, hs, hb⟩ := info_parts H.inf
  subst hs hb
  have hr := run_append_nil_zeros w T tn ty E i z .i64 .i64 H.und hn hi hz m h0 H.k0 (by omega) (by omega)
  refine ⟨_, _, hr, ?_, ?_⟩
  · have := new_row w E z.cells i.size m (grownCap w m 0 E) (Builtin.zeroCells z.cells m).toList H.zs (by rw [Array.length_toList, size_zeroCells, H.zs]) (grownCap_ge w _ _ _) (grownCap_le_maxLen w _ _ _ (by simp only [maxLen]; omega))
    simpa using this
  · exact ⟨rfl, rfl, rfl, by simp, fun b hb => (below_alloc w.drew (.cells (Builtin.zeroCells z.cells m ++ Builtin.zeroCells z.cells (grownCap w m 0 E - m)) E)).block b hb⟩
/-- copy into a stretch of a row -/
theorem copy_row (H : Kd P T E k bytes z) (ty : TypeId) {g n c : Nat} {xs : List Value} (R : Rw w E k g n c xs) (o dLen dCap : Nat) (a : Addr) (sLen sCap : Nat) (cs : List Value) (m : Nat) (hm : Nat.min sLen dLen = m) (hn : cs.length = m * k)
    (hsrc : ∀ j v, cs[j]? = some v → w.cell? (a.add j) = some v) (hfit : o + cs.length ≤ xs.length) (h1 : ∀ v ∈ cs, v.oneCell' = true) :
    ∃ w', (Builtin.copy_ #[T, T] ty #[.slice (some ⟨g, o, none⟩) dLen dCap, .slice (some a) sLen sCap]).run P w = .ok (goInt m) w' ∧ Rw w' E k g n c (splice xs o cs) ∧ Chg (· = g) w w' := by
  obtain ⟨sp, hB, hx, hc, hnc, hcm⟩ := R.ex
  have hr := run_copyK (P := P) w T T ty E k g o dLen dCap a sLen sCap (xs ++ sp) cs E H.und H.size hB m hm hn hsrc (by rw [List.length_append]; omega) h1
  have e : splice (xs ++ sp) o cs = splice xs o cs ++ sp := by
    rw [splice_def, splice_def, List.take_append_of_le_length (by omega), List.drop_append_of_le_length (by omega), List.append_assoc, List.append_assoc, List.append_assoc]
  have hl := length_splice xs o cs hfit
  refine ⟨_, hr, ⟨sp, by rw [e]; exact hB.row _, by rw [hl]; exact hx, by rw [List.length_append, hl, ← List.length_append]; exact hc, hnc, hcm⟩, (Chg.refl (· = g) w).row (g := g) (.inl rfl) _⟩
/-- append where there is room: in place -/
theorem app_room (H : Kd P T E k bytes z) (ty : TypeId) {b n c : Nat} {xs : List Value} (R : Rw w E k b n c xs) (a : Addr) (m cc : Nat) (news : List Value) (hl : news.length = m * k) (hnews : ∀ j u, news[j]? = some u → w.cell? (a.add j) = some u) (h1 : ∀ u ∈ news, u.oneCell' = true) (hroom : n + m ≤ c) :
    ∃ w', (Builtin.append_ #[T, T] ty #[.slice (some ⟨b, 0, none⟩) n c, .slice (some a) m cc]).run P w = .ok (.slice (some ⟨b, 0, none⟩) (n + m) c) w' ∧ Rw w' E k b (n + m) c (xs ++ news) ∧ Chg (· = b) w w' := by
  obtain ⟨i, hi, hz, hs, hb⟩ := info_parts H.inf
  obtain ⟨sp, hB, hx, hc, hnc, hcm⟩ := R.ex
  subst hs hb
  have hfit : n * i.size + news.length ≤ (xs ++ sp).toArray.size := by
    rw [List.size_toArray, hc, hl, ← Nat.add_mul]; exact Nat.mul_le_mul_right _ hroom
  have hr := run_append_room (P := P) w T ty E i H.und hi b n c (xs ++ sp).toArray hB.blk a m cc news hl hnews h1 hroom hfit
  refine ⟨_, hr, ⟨sp.drop news.length, ?_, by rw [List.length_append, hx, hl, Nat.add_mul], ?_, hroom, hcm⟩, (Chg.refl (· = b) w).row (g := b) (.inl rfl) _⟩
  · have := hB.row (xs ++ news ++ sp.drop news.length)
    have e : (xs ++ sp).toArray.toList.take (n * i.size) ++ news ++ (xs ++ sp).toArray.toList.drop (n * i.size + news.length) = xs ++ news ++ sp.drop news.length := by
      rw [show (xs ++ sp).toArray.toList = xs ++ sp from rfl, ← hx, List.take_left, ← List.drop_drop, List.drop_left]
    rw [e]; exact this
  · have h2 : xs.length + sp.length = c * i.size := by rw [← List.length_append]; exact hc
    have h3 : n * i.size + m * i.size ≤ c * i.size := by rw [← Nat.add_mul]; exact Nat.mul_le_mul_right _ hroom
    rw [List.length_append, List.length_append, List.length_drop]; omega
/-- clear behind a row's elements -/
theorem clear_row (H : Kd P T E k bytes z) (ty : TypeId) {g n c : Nat} {xs : List Value} (R : Rw w E k g n c xs) (m cc : Nat) (hm : 0 < m) (hroom : n + m ≤ c) :
    ∃ w', (Builtin.clear_ #[T] ty #[.slice (some ⟨g, n * k, none⟩) m cc]).run P w = .ok (.tuple #[]) w' ∧ Rw w' E k g n c xs ∧ Chg (· = g) w w' := by
  obtain ⟨sp, hB, hx, hc, hnc, hcm⟩ := R.ex
  have h3 : n * k + m * k ≤ c * k := by rw [← Nat.add_mul]; exact Nat.mul_le_mul_right _ hroom
  have hr := run_clearK (P := P) w T ty E z k g (n * k) m cc (xs ++ sp) E H.und H.zero H.zs H.z1 hB hm H.k0 (by omega)
  have e : splice (xs ++ sp) (n * k) (Builtin.zeroCells z.cells m).toList = xs ++ ((Builtin.zeroCells z.cells m).toList ++ sp.drop (Builtin.zeroCells z.cells m).toList.length) := by
    rw [splice_def, ← hx, List.take_left, ← List.drop_drop, List.drop_left, List.append_assoc]
  have hl : ((Builtin.zeroCells z.cells m).toList).length = m * k := by rw [Array.length_toList, size_zeroCells, H.zs]
  refine ⟨_, hr, ⟨_, by rw [e]; exact hB.row _, hx, ?_, hnc, hcm⟩, (Chg.refl (· = g) w).row (g := g) (.inl rfl) _⟩
  rw [List.length_append] at hc ⊢
  rw [List.length_append, List.length_drop, hl]
  omega
end
end Pg
end Go.Proofs.Ytplminnejheceaa
