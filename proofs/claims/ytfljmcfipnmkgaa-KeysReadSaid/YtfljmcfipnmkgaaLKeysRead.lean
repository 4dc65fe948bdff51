/- gleanlaw7.KeysRead: all bytes read, and Next, against the document's. -/
import Derived.Test.YtfljmcfipnmkgaaKyRd
namespace Go.Proofs.Ytfljmcfipnmkgaa
namespace Ky
open Go.RowKit Go.Lib Pg
attribute [local go_sem] Oper.semAt_some eq50
theorem nxt_len2 (l : List Int) : (nxt l).length ≤ l.length := by
  rcases last255 l with h1 | ⟨A, x, B, rfl, hx, hB⟩
  · rw [nxt_all h1]; simp
  · rw [nxt_eq hx hB]; simp
set_option maxHeartbeats 8000000 in
set_option maxRecDepth 100000 in
theorem kr_no {w : World} {ao : Option Addr} {n c : Nat} {l : List Int} (h : By w (.slice ao n c) l) (hn : n ≤ 2000) (hno : ∀ j : Nat, j < 18 → 0 < j → frm j ≠ fIn l) : Calls Try.prog 4 #[.slice ao n c] w fun e w' => e = .returned (.bool true) ∧ Below w.heap.size w w' := by
  have t1 := kknown_any (w := w)
  have hl := (By.lens h).1
  have r1 := fun w a n c (h : By w (.slice a n c) l) (hn : n ≤ 2000) => read_no (w := w) h (by omega) hno
  have r2 := fun w (h : By w (.slice ao n c) l) => rread_no (w := w) h (by omega) hno
  have g1 : ¬ ((2000 : Int) < n) := by omega
  have LL : Hid (l.length ≤ 2000) := by show _ ≤ _; omega
  have LN : Hid ((nxt l).length ≤ 1000000000) := by have h9 := nxt_len2 l; show _ ≤ _; omega
  have HB := hid2 h
  have hn9 := hid2 hn
  clear h hl hn
  go_enter Try.func4, Try.ntmps4
  go_wp2_with first
    | (go_at_call 7; refine t1.mono ?_; rintro e w1 ⟨rfl, B1⟩; have XB := HB.out.keep B1; clear t1)
    | (go_at_call 12; go_must (refine (copyBytes_any XB (by have := LL.out; omega)).mono ?_); rintro e w2 ⟨v2, rfl, O2, D⟩; obtain ⟨a2, c2, rfl⟩ := OB.sh O2; have O3 := O2.by; have hl2 := (By.lens XB).1; rw [hl2] at O3 ⊢; replace XB := XB.keep D; replace B1 := joinB B1 D; clear D O2 hl2)
    | (go_at_call 13; go_must (refine (r1 _ _ _ _ O3 hn9.out).mono ?_); rintro e w3 ⟨rfl, D⟩; have DA := below_alloc w3 (.cells #[.int .i64 0, .int .u64 0, .int .u64 0] 30); have qk := hid2 (blk_new w3 [.int .i64 0, .int .u64 0, .int .u64 0] 30); replace O3 := (O3.keep D).keep DA; replace XB := (XB.keep D).keep DA; replace B1 := joinB (joinB B1 D) DA; clear D DA)
    | (go_at_call 14; go_must (refine (r2 _ XB).mono ?_); rintro e w4 ⟨rfl, D⟩; have DA := below_alloc w4 (.cells #[.int .i64 0, .int .u64 0, .int .u64 0] 30); have qm := blk_new w4 [.int .i64 0, .int .u64 0, .int .u64 0] 30; have kk := (qk.out.keep D).keep DA; have k0 := kk.cell (i := 0) rfl; have k1 := kk.cell (i := 1) rfl; have k2 := kk.cell (i := 2) rfl; have m0 := qm.cell (i := 0) rfl; have m1 := qm.cell (i := 1) rfl; have m2 := qm.cell (i := 2) rfl; replace O3 := (O3.keep D).keep DA; replace XB := (XB.keep D).keep DA; replace B1 := joinB (joinB B1 D) DA; clear D DA qm kk)
    | (go_at_call 15; go_must (refine (next_any O3 (by have := hn9.out; omega)).mono ?_); rintro e w5 ⟨v5, rfl, O5, D⟩; obtain ⟨a5, c5, rfl⟩ := OB.sh O5; replace O5 := O5.by; replace O3 := O3.keep D; replace XB := XB.keep D; replace B1 := joinB B1 D; clear D)
    | (go_at_call 16; go_must (refine (rnext_any XB (by have := hn9.out; omega)).mono ?_); rintro e w6 ⟨v6, rfl, O6, D⟩; obtain ⟨a6, c6, rfl, _⟩ := id O6.ex; replace O5 := O5.keep D; replace O3 := O3.keep D; replace XB := XB.keep D; replace B1 := joinB B1 D; clear D; have GN : True := trivial)
    | (go_at_call 9; have gate := GN; clear gate; go_must (refine (bytes_any O5 O6 LN.out LN.out).mono ?_); clear GN; rintro e w7 ⟨rfl, D⟩; rw [decide_eq_true (show nxt l = nxt l from rfl)]; replace O3 := O3.keep D; replace XB := XB.keep D; replace B1 := joinB B1 D; clear D O5 O6)
    | (go_at_call 9; go_must (refine (bytes_any O3 XB (by have := LL.out; omega) (by have := LL.out; omega)).mono ?_); rintro e w8 ⟨rfl, D⟩; rw [decide_eq_true (show l = l from rfl)]; replace B1 := joinB B1 D; clear D)
  go_ret
  exact ⟨by first | rfl | simp, B1⟩
set_option maxHeartbeats 8000000 in
set_option maxRecDepth 100000 in
theorem kr_yes {w : World} {ao : Option Addr} {n c : Nat} {l : List Int} (h : By w (.slice ao n c) l) (hn : n ≤ 2000) {r : Nat} (hr : r < 18) (hr0 : 0 < r) (hfr : frm r = fIn l) : Calls Try.prog 4 #[.slice ao n c] w fun e w' => e = .returned (.bool true) ∧ Below w.heap.size w w' := by
  have t1 := kknown_any (w := w)
  have hl := (By.lens h).1
  have r1 := fun w a n c (h : By w (.slice a n c) l) (hn : n ≤ 2000) => read_yes (w := w) h (by omega) hr hr0 hfr
  have r2 := fun w (h : By w (.slice ao n c) l) => rread_yes (w := w) h (by omega) hr hr0 hfr
  generalize rdA r l = A at *
  generalize rdB l = B at *
  clear hfr
  have g1 : ¬ ((2000 : Int) < n) := by omega
  have LL : Hid (l.length ≤ 2000) := by show _ ≤ _; omega
  have LN : Hid ((nxt l).length ≤ 1000000000) := by have h9 := nxt_len2 l; show _ ≤ _; omega
  have HB := hid2 h
  have hn9 := hid2 hn
  clear h hl hn
  go_enter Try.func4, Try.ntmps4
  go_wp2_with first
    | (go_at_call 7; refine t1.mono ?_; rintro e w1 ⟨rfl, B1⟩; have XB := HB.out.keep B1; clear t1)
    | (go_at_call 12; go_must (refine (copyBytes_any XB (by have := LL.out; omega)).mono ?_); rintro e w2 ⟨v2, rfl, O2, D⟩; obtain ⟨a2, c2, rfl⟩ := OB.sh O2; have O3 := O2.by; have hl2 := (By.lens XB).1; rw [hl2] at O3 ⊢; replace XB := XB.keep D; replace B1 := joinB B1 D; clear D O2 hl2)
    | (go_at_call 13; go_must (refine (r1 _ _ _ _ O3 hn9.out).mono ?_); rintro e w3 ⟨rfl, D⟩; have DA := below_alloc w3 (.cells #[.int .i64 (r : Int), .int .u64 A, .int .u64 B] 30); have qk := hid2 (blk_new w3 [.int .i64 (r : Int), .int .u64 A, .int .u64 B] 30); replace O3 := (O3.keep D).keep DA; replace XB := (XB.keep D).keep DA; replace B1 := joinB (joinB B1 D) DA; clear D DA)
    | (go_at_call 14; go_must (refine (r2 _ XB).mono ?_); rintro e w4 ⟨rfl, D⟩; have DA := below_alloc w4 (.cells #[.int .i64 (r : Int), .int .u64 A, .int .u64 B] 30); have qm := blk_new w4 [.int .i64 (r : Int), .int .u64 A, .int .u64 B] 30; have kk := (qk.out.keep D).keep DA; have k0 := kk.cell (i := 0) rfl; have k1 := kk.cell (i := 1) rfl; have k2 := kk.cell (i := 2) rfl; have m0 := qm.cell (i := 0) rfl; have m1 := qm.cell (i := 1) rfl; have m2 := qm.cell (i := 2) rfl; replace O3 := (O3.keep D).keep DA; replace XB := (XB.keep D).keep DA; replace B1 := joinB (joinB B1 D) DA; clear D DA qm kk)
    | (go_at_call 15; go_must (refine (next_any O3 (by have := hn9.out; omega)).mono ?_); rintro e w5 ⟨v5, rfl, O5, D⟩; obtain ⟨a5, c5, rfl⟩ := OB.sh O5; replace O5 := O5.by; replace O3 := O3.keep D; replace XB := XB.keep D; replace B1 := joinB B1 D; clear D)
    | (go_at_call 16; go_must (refine (rnext_any XB (by have := hn9.out; omega)).mono ?_); rintro e w6 ⟨v6, rfl, O6, D⟩; obtain ⟨a6, c6, rfl, _⟩ := id O6.ex; replace O5 := O5.keep D; replace O3 := O3.keep D; replace XB := XB.keep D; replace B1 := joinB B1 D; clear D; have GN : True := trivial)
    | (go_at_call 9; have gate := GN; clear gate; go_must (refine (bytes_any O5 O6 LN.out LN.out).mono ?_); clear GN; rintro e w7 ⟨rfl, D⟩; rw [decide_eq_true (show nxt l = nxt l from rfl)]; replace O3 := O3.keep D; replace XB := XB.keep D; replace B1 := joinB B1 D; clear D O5 O6)
    | (go_at_call 9; go_must (refine (bytes_any O3 XB (by have := LL.out; omega) (by have := LL.out; omega)).mono ?_); rintro e w8 ⟨rfl, D⟩; rw [decide_eq_true (show l = l from rfl)]; replace B1 := joinB B1 D; clear D)
  go_ret
  exact ⟨by first | rfl | simp, B1⟩
set_option maxHeartbeats 8000000 in
set_option maxRecDepth 100000 in
theorem keysRead_walk {w : World} {ao : Option Addr} {n c : Nat} {l : List Int} (h : By w (.slice ao n c) l) (_ : l.length ≤ 140737488355328) : Calls Try.prog 4 #[.slice ao n c] w fun e w' => e = .returned (.bool true) ∧ Below w.heap.size w w' := by
  by_cases hn : n ≤ 2000
  · by_cases hex : ∃ r : Nat, r < 18 ∧ 0 < r ∧ frm r = fIn l
    · obtain ⟨r, h1, h2, h3⟩ := hex
      exact kr_yes h hn h1 h2 h3
    · exact kr_no h hn (fun j h1 h2 h3 => hex ⟨j, h1, h2, h3⟩)
  · have t1 := kknown_any (w := w)
    have g1 : (2000 : Int) < n := by omega
    clear h hn
    go_enter Try.func4, Try.ntmps4
    go_wp2_with (go_at_call 7; refine t1.mono ?_; rintro e w1 ⟨rfl, B1⟩)
    go_ret
    exact ⟨rfl, B1⟩
end Ky
end Go.Proofs.Ytfljmcfipnmkgaa
