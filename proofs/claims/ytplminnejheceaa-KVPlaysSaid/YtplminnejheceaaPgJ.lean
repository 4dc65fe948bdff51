/- join and joinable. -/
import Derived.Test.YtplminnejheceaaPgH
namespace Go.Proofs.Ytplminnejheceaa
namespace Pg
open Go.RowKit Go.Lib

/-- may page i and the one behind it become one? -/
def jnb (P : List (List En)) (i : Nat) : Bool := decide (i + 1 < P.length) && decide ((P.getD i []).length + (P.getD (i + 1) []).length ≤ 16)
/-- page i and the one behind it become one -/
def jnQ (P : List (List En)) (i : Nat) : List (List En) := P.take i ++ [P.getD i [] ++ P.getD (i + 1) []] ++ P.drop (i + 2)
set_option maxHeartbeats 1000000 in
set_option maxRecDepth 100000 in
theorem jn_neg {w : World} {v : Value} : Calls Try.prog 86 #[v, .int .i64 (-1)] w fun e w' => e = .returned (.bool false) ∧ Below w.heap.size w w' := by
  have mixed := mixed
  go_enter Try.func86, Try.ntmps86
  go_wp2
  go_region
  go_wp2
  go_ret
  exact ⟨rfl, belowD w⟩
set_option maxHeartbeats 4000000 in
set_option maxRecDepth 100000 in
theorem jn_any {w : World} {F D : Nat → Prop} {g i : Nat} {L : List Pg} (A : MapA w F D g L) (hi : i < L.length) (hn : L.length ≤ 100000000) (hs : ∀ es ∈ ens L, es.length ≤ 1000) :
    Calls Try.prog 86 #[.pointer (some ⟨g, 0, none⟩), .int .i64 i] w fun e w' => e = .returned (.bool (jnb (ens L) i)) ∧ Below w.heap.size w w' := by
  have hL : L ≠ [] := fun e => by subst e; simp at hi
  obtain ⟨G, C, hg, hFg, hFG, hR⟩ := A.opn hL
  have cg := hg.cell (i := 0) rfl
  have hel : (ens L).length = L.length := by simp [ens]
  have mixed := mixed
  have w1 : IntKind.i64.wrap ((i : Int) + 1) = (i : Int) + 1 := by rw [IntKind.wrap_i64]; omega
  have p0 : (0 : Int) ≤ (i : Int) := by omega
  by_cases h1 : i + 1 < L.length
  · obtain ⟨p, hp⟩ : ∃ p, L[i]? = some p := ⟨L[i], List.getElem?_eq_getElem hi⟩
    obtain ⟨p2, hp2⟩ : ∃ p2, L[i + 1]? = some p2 := ⟨L[i + 1], List.getElem?_eq_getElem h1⟩
    have cG := hR.cell (i := i) (v := p.v) (by simp [hp])
    have cG2 := hR.cell (i := i + 1) (v := p2.v) (by simp [hp2])
    have s1 := hs p.es (List.mem_map.2 ⟨p, List.mem_of_getElem? hp, rfl⟩)
    have s2 := hs p2.es (List.mem_map.2 ⟨p2, List.mem_of_getElem? hp2, rfl⟩)
    have hj : Hid (jnb (ens L) i = decide ((p.es.length : Int) + (p2.es.length : Int) ≤ 16)) := by
      show _ = _
      unfold jnb
      rw [hel, decide_eq_true h1, ens_getD hp, ens_getD hp2, Bool.true_and]
      congr 1
      exact propext ⟨fun h => by omega, fun h => by omega⟩
    simp only [Pg.v] at cG cG2
    generalize hln : L.length = n at *
    generalize p.es.length = x at *
    generalize p2.es.length = y at *
    have z1 : (i : Int) + 1 < n := by omega
    have z2 : (i : Int) < n := by omega
    have z3 : ((i : Int) + 1).toNat = i + 1 := by omega
    have z4 : (0 : Int) ≤ (i : Int) + 1 := by omega
    have z5 : IntKind.i64.wrap ((x : Int) + (y : Int)) = (x : Int) + (y : Int) := by rw [IntKind.wrap_i64]; omega
    have cgd : w.drew.cell? ⟨g, 0, none⟩ = some (.slice (some ⟨G, 0, none⟩) n C) := cg
    have cGd : w.drew.cell? ⟨G, i, none⟩ = some (.slice (some ⟨p.b, 0, none⟩) x p.c) := cG
    have cG2d : w.drew.cell? ⟨G, i + 1, none⟩ = some (.slice (some ⟨p2.b, 0, none⟩) y p2.c) := cG2
    clear A hs hR hg hln
    go_enter Try.func86, Try.ntmps86
    go_wp2
    have hpp : Try.prog.underlying 84 = some (.slice 87) := by kernel_rfl
    have hin : i < n := hi
    refine rg_start (S := fun w' => w'.cell? ⟨g, 0, none⟩ = some (.slice (some ⟨G, 0, none⟩) n C) ∧ w'.cell? ⟨G, i, none⟩ = some (.slice (some ⟨p.b, 0, none⟩) x p.c) ∧ w'.cell? ⟨G, i + 1, none⟩ = some (.slice (some ⟨p2.b, 0, none⟩) y p2.c)) (by kernel_rfl) ⟨cgd, cGd, cG2d⟩ ?_
    have hS := (show _ ∧ _ ∧ _ from ⟨cgd, cGd, cG2d⟩)
    -- YES
    refine rg_take 0 (some 5) (.int .i64 i) (by kernel_rfl) (fun _ _ => by kernel_rfl) (fun _ _ _ h => h) hS ?_
    refine rg_eq 1 (some 6) (.bool (decide ((0 : Int) ≤ (i : Int)))) (.bool true) (by rw [decide_eq_true p0]) (by kernel_rfl) (fun _ _ => by kernel_rfl) (fun _ _ _ h => h) hS ?_
    refine rg_take 2 (some 7) (.bool true) (by kernel_rfl) (fun _ _ => by kernel_rfl) (fun _ _ _ h => h) hS ?_
    refine rg_take 3 (some 8) (.int .i64 i) (by kernel_rfl) (fun _ _ => by kernel_rfl) (fun _ _ _ h => h) hS ?_
    refine rg_eq 4 (some 9) (.int .i64 (IntKind.i64.wrap ((i : Int) + 1))) (.int .i64 ((i : Int) + 1)) (by rw [w1]) (by kernel_rfl) (fun _ _ => by kernel_rfl) (fun _ _ _ h => h) hS ?_
    refine rg_take 5 (some 10) (.pointer (some ⟨g, 0, none⟩)) (by kernel_rfl) (fun _ _ => by kernel_rfl) (fun _ _ _ h => h) hS ?_
    refine rg_take 6 (some 11) (.pointer (some ⟨g, 0, none⟩)) (by kernel_rfl) (fun _ _ => by kernel_rfl) (fun _ _ _ h => h) hS ?_
    refine rg_take 7 (some 12) (.pointer (some ⟨g, 0, none⟩)) (by kernel_rfl) (fun _ _ => by kernel_rfl) (fun _ _ _ h => h) hS ?_
    refine rg_load 8 (some 13) (.slice (some ⟨G, 0, none⟩) n C) 84 12 (g) (0) (by kernel_rfl) (by kernel_rfl) (by kernel_rfl) (fun w' h => ld_pp h.1) (fun _ _ _ h => h) hS ?_
    refine rg_take 9 (some 14) (.int .i64 n) (by kernel_rfl) (fun _ _ => by kernel_rfl) (fun _ _ _ h => h) hS ?_
    refine rg_eq 10 (some 15) (.bool (decide ((i : Int) + 1 < (n : Int)))) (.bool true) (by rw [decide_eq_true (by omega)]) (by kernel_rfl) (fun _ _ => by kernel_rfl) (fun _ _ _ h => h) hS ?_
    refine rg_take 11 (some 16) (.bool true) (by kernel_rfl) (fun _ _ => by kernel_rfl) (fun _ _ _ h => h) hS ?_
    refine rg_take 12 (some 17) (.bool true) (by kernel_rfl) (fun _ _ => by kernel_rfl) (fun _ _ _ h => h) hS ?_
    refine rg_take 13 (some 18) (.pointer (some ⟨g, 0, none⟩)) (by kernel_rfl) (fun _ _ => by kernel_rfl) (fun _ _ _ h => h) hS ?_
    refine rg_take 14 (some 19) (.pointer (some ⟨g, 0, none⟩)) (by kernel_rfl) (fun _ _ => by kernel_rfl) (fun _ _ _ h => h) hS ?_
    refine rg_take 15 (some 20) (.pointer (some ⟨g, 0, none⟩)) (by kernel_rfl) (fun _ _ => by kernel_rfl) (fun _ _ _ h => h) hS ?_
    refine rg_load 16 (some 21) (.slice (some ⟨G, 0, none⟩) n C) 84 20 (g) (0) (by kernel_rfl) (by kernel_rfl) (by kernel_rfl) (fun w' h => ld_pp h.1) (fun _ _ _ h => h) hS ?_
    refine rg_take 17 (some 22) (.int .i64 i) (by kernel_rfl) (fun _ _ => by kernel_rfl) (fun _ _ _ h => h) hS ?_
    refine rg_take 18 (some 23) (.pointer (some ⟨G, i, none⟩)) (by kernel_rfl) (fun _ _ => run_ix (x := 21) (y := 22) (n := n) (c := C) (by kernel_rfl) hpp (by kernel_rfl) (by kernel_rfl) (rfl) (hin)) (fun _ _ _ h => h) hS ?_
    refine rg_load 19 (some 24) (.slice (some ⟨p.b, 0, none⟩) x p.c) 87 23 (G) (i) (by kernel_rfl) (by kernel_rfl) (by kernel_rfl) (fun w' h => ld_p h.2.1) (fun _ _ _ h => h) hS ?_
    refine rg_take 20 (some 25) (.int .i64 x) (by kernel_rfl) (fun _ _ => by kernel_rfl) (fun _ _ _ h => h) hS ?_
    refine rg_take 21 (some 26) (.pointer (some ⟨g, 0, none⟩)) (by kernel_rfl) (fun _ _ => by kernel_rfl) (fun _ _ _ h => h) hS ?_
    refine rg_take 22 (some 27) (.pointer (some ⟨g, 0, none⟩)) (by kernel_rfl) (fun _ _ => by kernel_rfl) (fun _ _ _ h => h) hS ?_
    refine rg_take 23 (some 28) (.pointer (some ⟨g, 0, none⟩)) (by kernel_rfl) (fun _ _ => by kernel_rfl) (fun _ _ _ h => h) hS ?_
    refine rg_load 24 (some 29) (.slice (some ⟨G, 0, none⟩) n C) 84 28 (g) (0) (by kernel_rfl) (by kernel_rfl) (by kernel_rfl) (fun w' h => ld_pp h.1) (fun _ _ _ h => h) hS ?_
    refine rg_take 25 (some 30) (.int .i64 i) (by kernel_rfl) (fun _ _ => by kernel_rfl) (fun _ _ _ h => h) hS ?_
    refine rg_eq 26 (some 31) (.int .i64 (IntKind.i64.wrap ((i : Int) + 1))) (.int .i64 ((i : Int) + 1)) (by rw [w1]) (by kernel_rfl) (fun _ _ => by kernel_rfl) (fun _ _ _ h => h) hS ?_
    refine rg_take 27 (some 32) (.pointer (some ⟨G, i + 1, none⟩)) (by kernel_rfl) (fun _ _ => run_ix (x := 29) (y := 31) (n := n) (c := C) (by kernel_rfl) hpp (by kernel_rfl) (by kernel_rfl) (show ((i : Int) + 1) = ((i + 1 : Nat) : Int) from by omega) (h1)) (fun _ _ _ h => h) hS ?_
    refine rg_load 28 (some 33) (.slice (some ⟨p2.b, 0, none⟩) y p2.c) 87 32 (G) (i + 1) (by kernel_rfl) (by kernel_rfl) (by kernel_rfl) (fun w' h => ld_p h.2.2) (fun _ _ _ h => h) hS ?_
    refine rg_take 29 (some 34) (.int .i64 y) (by kernel_rfl) (fun _ _ => by kernel_rfl) (fun _ _ _ h => h) hS ?_
    refine rg_eq 30 (some 35) (.int .i64 (IntKind.i64.wrap ((x : Int) + (y : Int)))) (.int .i64 ((x : Int) + (y : Int))) (by rw [z5]) (by kernel_rfl) (fun _ _ => by kernel_rfl) (fun _ _ _ h => h) hS ?_
    refine rg_take 31 (some 36) (.bool (decide ((x : Int) + (y : Int) ≤ 16))) (by kernel_rfl) (fun _ _ => by kernel_rfl) (fun _ _ _ h => h) hS ?_
    refine rg_take 32 (some 37) (.bool (decide ((x : Int) + (y : Int) ≤ 16))) (by kernel_rfl) (fun _ _ => by kernel_rfl) (fun _ _ _ h => h) hS ?_
    refine rg_take 33 (some 4) (.bool (decide ((x : Int) + (y : Int) ≤ 16))) (by kernel_rfl) (fun _ _ => by kernel_rfl) (fun _ _ _ h => h) hS ?_
    refine rg_done (by kernel_rfl) ?_
    simp only [Act.put, List.setIfInBounds_toArray, List.set_cons_zero, List.set_cons_succ]
    -- YES BEHIND
    go_wp2
    go_ret
    exact ⟨by rw [hj.out]; rfl, belowD w⟩
  · have hj : Hid (jnb (ens L) i = false) := by
      show _ = _
      unfold jnb
      rw [hel, decide_eq_false h1, Bool.false_and]
    generalize hln : L.length = n at *
    have z1 : ¬ ((i : Int) + 1 < n) := by omega
    have cgd : w.drew.cell? ⟨g, 0, none⟩ = some (.slice (some ⟨G, 0, none⟩) n C) := cg
    clear A hs hR hg hln
    go_enter Try.func86, Try.ntmps86
    go_wp2
    refine rg_start (S := fun w' => w'.cell? ⟨g, 0, none⟩ = some (.slice (some ⟨G, 0, none⟩) n C)) (by kernel_rfl) cgd ?_
    have hS := cgd
    -- NO
    refine rg_take 0 (some 5) (.int .i64 i) (by kernel_rfl) (fun _ _ => by kernel_rfl) (fun _ _ _ h => h) hS ?_
    refine rg_eq 1 (some 6) (.bool (decide ((0 : Int) ≤ (i : Int)))) (.bool true) (by rw [decide_eq_true p0]) (by kernel_rfl) (fun _ _ => by kernel_rfl) (fun _ _ _ h => h) hS ?_
    refine rg_take 2 (some 7) (.bool true) (by kernel_rfl) (fun _ _ => by kernel_rfl) (fun _ _ _ h => h) hS ?_
    refine rg_take 3 (some 8) (.int .i64 i) (by kernel_rfl) (fun _ _ => by kernel_rfl) (fun _ _ _ h => h) hS ?_
    refine rg_eq 4 (some 9) (.int .i64 (IntKind.i64.wrap ((i : Int) + 1))) (.int .i64 ((i : Int) + 1)) (by rw [w1]) (by kernel_rfl) (fun _ _ => by kernel_rfl) (fun _ _ _ h => h) hS ?_
    refine rg_take 5 (some 10) (.pointer (some ⟨g, 0, none⟩)) (by kernel_rfl) (fun _ _ => by kernel_rfl) (fun _ _ _ h => h) hS ?_
    refine rg_take 6 (some 11) (.pointer (some ⟨g, 0, none⟩)) (by kernel_rfl) (fun _ _ => by kernel_rfl) (fun _ _ _ h => h) hS ?_
    refine rg_take 7 (some 12) (.pointer (some ⟨g, 0, none⟩)) (by kernel_rfl) (fun _ _ => by kernel_rfl) (fun _ _ _ h => h) hS ?_
    refine rg_load 8 (some 13) (.slice (some ⟨G, 0, none⟩) n C) 84 12 (g) (0) (by kernel_rfl) (by kernel_rfl) (by kernel_rfl) (fun w' h => ld_pp h) (fun _ _ _ h => h) hS ?_
    refine rg_take 9 (some 14) (.int .i64 n) (by kernel_rfl) (fun _ _ => by kernel_rfl) (fun _ _ _ h => h) hS ?_
    refine rg_eq 10 (some 15) (.bool (decide ((i : Int) + 1 < (n : Int)))) (.bool false) (by rw [decide_eq_false (by omega)]) (by kernel_rfl) (fun _ _ => by kernel_rfl) (fun _ _ _ h => h) hS ?_
    refine rg_take 11 (some 16) (.bool false) (by kernel_rfl) (fun _ _ => by kernel_rfl) (fun _ _ _ h => h) hS ?_
    refine rg_take 12 (some 17) (.bool false) (by kernel_rfl) (fun _ _ => by kernel_rfl) (fun _ _ _ h => h) hS ?_
    refine rg_skip 13 (some 18) (by kernel_rfl) (fun _ _ _ h => h) hS ?_
    refine rg_skip 14 (some 19) (by kernel_rfl) (fun _ _ _ h => h) hS ?_
    refine rg_skip 15 (some 20) (by kernel_rfl) (fun _ _ _ h => h) hS ?_
    refine rg_skip 16 (some 21) (by kernel_rfl) (fun _ _ _ h => h) hS ?_
    refine rg_skip 17 (some 22) (by kernel_rfl) (fun _ _ _ h => h) hS ?_
    refine rg_skip 18 (some 23) (by kernel_rfl) (fun _ _ _ h => h) hS ?_
    refine rg_skip 19 (some 24) (by kernel_rfl) (fun _ _ _ h => h) hS ?_
    refine rg_skip 20 (some 25) (by kernel_rfl) (fun _ _ _ h => h) hS ?_
    refine rg_skip 21 (some 26) (by kernel_rfl) (fun _ _ _ h => h) hS ?_
    refine rg_skip 22 (some 27) (by kernel_rfl) (fun _ _ _ h => h) hS ?_
    refine rg_skip 23 (some 28) (by kernel_rfl) (fun _ _ _ h => h) hS ?_
    refine rg_skip 24 (some 29) (by kernel_rfl) (fun _ _ _ h => h) hS ?_
    refine rg_skip 25 (some 30) (by kernel_rfl) (fun _ _ _ h => h) hS ?_
    refine rg_skip 26 (some 31) (by kernel_rfl) (fun _ _ _ h => h) hS ?_
    refine rg_skip 27 (some 32) (by kernel_rfl) (fun _ _ _ h => h) hS ?_
    refine rg_skip 28 (some 33) (by kernel_rfl) (fun _ _ _ h => h) hS ?_
    refine rg_skip 29 (some 34) (by kernel_rfl) (fun _ _ _ h => h) hS ?_
    refine rg_skip 30 (some 35) (by kernel_rfl) (fun _ _ _ h => h) hS ?_
    refine rg_skip 31 (some 36) (by kernel_rfl) (fun _ _ _ h => h) hS ?_
    refine rg_take 32 (some 37) (.bool false) (by kernel_rfl) (fun _ _ => by kernel_rfl) (fun _ _ _ h => h) hS ?_
    refine rg_take 33 (some 4) (.bool false) (by kernel_rfl) (fun _ _ => by kernel_rfl) (fun _ _ _ h => h) hS ?_
    refine rg_done (by kernel_rfl) ?_
    simp only [Act.put, List.setIfInBounds_toArray, List.set_cons_zero, List.set_cons_succ]
    -- NO BEHIND
    go_wp2
    go_ret
    exact ⟨by rw [hj.out]; rfl, belowD w⟩
end Pg
end Go.Proofs.Ytplminnejheceaa
