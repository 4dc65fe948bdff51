/- gleanlaw7.known: the calls ahead of its last row. -/
import Derived.Test.YtfljmcfipnmkgaaKyU
namespace Go.Proofs.Ytfljmcfipnmkgaa
namespace Ky
open Go.RowKit Go.Lib Pg
attribute [local go_sem] Oper.semAt_some eq50
/-- append where there is no room behind a window -/
theorem app_grow {w : World} {a a2 : Addr} {n m c2 : Nat} {l l2 : List Int} (h : By w (.slice (some a) n n) l) (h2 : By w (.slice (some a2) m c2) l2) (hm : 0 < m) (hl : n + m ≤ 1000000000) :
    ∃ c' w', (Builtin.append_ #[26, 26] 26 #[.slice (some a) n n, .slice (some a2) m c2]).run Try.prog w = .ok (.slice (some ⟨w.heap.size, 0, none⟩) (n + m) c') w' ∧ OB w' (w.heap.size ≤ ·) (.slice (some ⟨w.heap.size, 0, none⟩) (n + m) c') (l ++ l2) ∧ Below w.heap.size w w' := by
  obtain ⟨i, hi, hz, hs, hb⟩ := info_parts KB.inf
  obtain ⟨l1, -, -⟩ := By.lens h
  obtain ⟨l3, -, -⟩ := By.lens h2
  have o1 := h.oct
  have o2 := h2.oct
  have c1 : ∀ j u, (l.map (Value.int .u8))[j]? = some u → w.cell? (a.add j) = some u := fun j u hj => by
    rw [List.getElem?_map] at hj
    obtain ⟨x, hx, rfl⟩ := Option.map_eq_some_iff.1 hj
    obtain ⟨b, o, e, hc⟩ := By.at h hx
    cases e
    rw [Addr.add_lit]; exact hc
  have c3 : ∀ j u, (l2.map (Value.int .u8))[j]? = some u → w.cell? (a2.add j) = some u := fun j u hj => by
    rw [List.getElem?_map] at hj
    obtain ⟨x, hx, rfl⟩ := Option.map_eq_some_iff.1 hj
    obtain ⟨b, o, e, hc⟩ := By.at h2 hx
    cases e
    rw [Addr.add_lit]; exact hc
  have hr := run_append_grow (P := Try.prog) w 26 26 5 i (.int .u8 0) KB.und hi hz a n n (l.map (Value.int .u8)) (by rw [hs, List.length_map, l1]; omega) c1 a2 m c2 (l2.map (Value.int .u8)) (by rw [hs, List.length_map, l3]; omega) c3 (by omega) (by omega) (growslice_fits (by omega) (by rw [hb]; omega))
  have hR := new_row w 5 (Value.int .u8 0).cells 1 (n + m) (grownCap w (n + m) n 5) (l.map (Value.int .u8) ++ l2.map (Value.int .u8)) (by simp [Value.cells]) (by rw [List.length_append, List.length_map, List.length_map, l1, l3]; omega) (grownCap_ge w _ _ _) (grownCap_le_maxLen w _ _ _ (by simp only [maxLen]; omega))
  refine ⟨_, _, hr, ⟨fun x hx => (List.mem_append.1 hx).elim (o1 x) (o2 x), .inr ⟨w.heap.size, _, by rw [List.length_append, l1, l3], Nat.le_refl _, ?_⟩⟩, ?_⟩
  · rw [List.length_append, l1, l3, List.map_append]
    simpa using hR
  · exact ⟨rfl, rfl, rfl, by simp, fun b hb => (below_alloc w.drew _).block b hb⟩
theorem ob_lit {w : World} {g : Nat} {l : List Int} (h : Blk w g (l.map (Value.int .u8)) 5) (ho : Oct l) (hl : l.length ≤ 1000) : OB w (· = g) (.slice (some ⟨g, 0, none⟩) l.length l.length) l :=
  ⟨ho, .inr ⟨g, l.length, rfl, rfl, blk_rw h (by simp) (by simp only [maxLen]; omega)⟩⟩
def kb1 : List Int := [118, 0, 0, 0, 0, 0, 0, 0, 16, 104, 0, 0, 0, 0, 0, 0, 0, 2]
def kb2 : List Int := [118, 0, 0, 0, 0, 0, 0, 0, 16, 115]
theorem kmake1 {w : World} : Calls Try.prog 18 #[.agg #[.int .i64 7, .int .u64 16, .int .u64 2]] w fun e w' => ∃ ao c, e = .returned (.tuple #[.slice ao 18 c, .int .i64 0]) ∧ OB w' (w.heap.size ≤ ·) (.slice ao 18 c) kb1 ∧ Below w.heap.size w w' := by
  refine (make_any (w := w) (k := 7) (a := 16) (b := 2) (by decide) (by decide)).mono ?_
  rw [show mkE 7 16 2 = false from by decide +kernel, show mk 7 16 2 = kb1 from by decide +kernel]
  rintro e w' ⟨v, rfl, O, b⟩
  obtain ⟨ao, c, rfl⟩ := OB.sh O
  exact ⟨ao, c, rfl, O, b⟩
theorem kunder1 {w : World} : Calls Try.prog 21 #[.int .i64 8, .int .u64 16] w fun e w' => ∃ ao c, e = .returned (.tuple #[.slice ao 10 c, .int .i64 0]) ∧ OB w' (w.heap.size ≤ ·) (.slice ao 10 c) kb2 ∧ Below w.heap.size w w' := by
  refine (under_any (w := w) (k := 8) (a := 16) (by decide) (by decide)).mono ?_
  rw [if_pos (show 16 < (frm 8).1 from by decide +kernel), if_pos (show 16 < (frm 8).1 from by decide +kernel), show mkb (frm 8) (tn 8 16) = kb2 from by decide +kernel]
  rintro e w' ⟨v, rfl, O, b⟩
  obtain ⟨ao, c, rfl⟩ := OB.sh O
  exact ⟨ao, c, rfl, O, b⟩
theorem kmake2 {w : World} : Calls Try.prog 18 #[.agg #[.int .i64 3, .int .u64 1, .int .u64 0]] w fun e w' => ∃ ao c, e = .returned (.tuple #[.slice ao 0 c, .int .i64 70]) ∧ Below w.heap.size w w' := by
  refine (make_any (w := w) (k := 3) (a := 1) (b := 0) (by decide) (by decide)).mono ?_
  rw [show mkE 3 1 0 = true from by decide +kernel]
  rintro e w' ⟨v, rfl, O, b⟩
  obtain ⟨ao, c, rfl⟩ := OB.sh O
  exact ⟨ao, c, rfl, b⟩
theorem kread1 {w : World} {ao : Option Addr} {c : Nat} (h : By w (.slice ao 18 c) kb1) : Calls Try.prog 13 #[.slice ao 18 c] w fun e w' => e = .returned (.tuple #[.agg #[.int .i64 7, .int .u64 16, .int .u64 2], .int .i64 0]) ∧ Below w.heap.size w w' := by
  refine (read_yes h (by decide) (r := 7) (by decide) (by decide) (by decide +kernel)).mono ?_
  rw [show rdA 7 kb1 = 16 from by decide +kernel, show rdB kb1 = 2 from by decide +kernel]
  exact fun e w' h => h
theorem kof1 {w : World} : Calls Try.prog 22 #[.int .i64 5] w fun e w' => ∃ ao c, e = .returned (.tuple #[.slice ao 1 c, .int .i64 0]) ∧ OB w' (w.heap.size ≤ ·) (.slice ao 1 c) [118] ∧ Below w.heap.size w w' := by
  refine (of_any (w := w) (k := 5)).mono ?_
  rw [if_neg (show ¬ (frm 5).1 = 0 from by decide +kernel), if_neg (show ¬ (frm 5).1 = 0 from by decide +kernel), show (frm 5).2.1 = 118 from by decide +kernel]
  rintro e w' ⟨v, rfl, O, b⟩
  obtain ⟨ao, c, rfl⟩ := OB.sh O
  exact ⟨ao, c, rfl, O, b⟩
theorem knext1 {w : World} {ao : Option Addr} {c : Nat} (h : By w (.slice ao 3 c) [112, 255, 255]) : Calls Try.prog 15 #[.slice ao 3 c] w fun e w' => ∃ a2 c2, e = .returned (.slice a2 1 c2) ∧ By w' (.slice a2 1 c2) [113] ∧ Below w.heap.size w w' := by
  refine (next_any h (by decide)).mono ?_
  rw [show nxt [112, 255, 255] = [113] from by decide +kernel]
  rintro e w' ⟨v, rfl, O, b⟩
  obtain ⟨ao, c, rfl⟩ := OB.sh O
  exact ⟨ao, c, rfl, O.by, b⟩
theorem kval1 {w : World} : Calls Try.prog 10 #[.int .u64 16] w fun e w' => ∃ a2 c2, e = .returned (.slice a2 9 c2) ∧ By w' (.slice a2 9 c2) (kb1.take 9) ∧ Below w.heap.size w w' := by
  refine (val_any (w := w) (x := 16)).mono ?_
  rw [show [118] ++ be 8 16 = kb1.take 9 from by decide +kernel]
  rintro e w' ⟨v, rfl, O, b⟩
  obtain ⟨ao, c, rfl⟩ := OB.sh O
  exact ⟨ao, c, rfl, O.by, b⟩
end Ky
end Go.Proofs.Ytfljmcfipnmkgaa
