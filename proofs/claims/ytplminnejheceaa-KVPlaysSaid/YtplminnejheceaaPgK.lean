/- join: one page of two. -/
import Derived.Test.YtplminnejheceaaPgJ
namespace Go.Proofs.Ytplminnejheceaa
namespace Pg
open Go.RowKit Go.Lib
theorem ens_jn {L : List Pg} {i : Nat} {p p2 q : Pg} (hp : L[i]? = some p) (hp2 : L[i + 1]? = some p2) (hq : q.es = p.es ++ p2.es) : ens ((L.set i q).take (i + 1) ++ (L.set i q).drop (i + 2)) = jnQ (ens L) i := by
  have hil := (List.getElem?_eq_some_iff.1 hp).1
  unfold jnQ
  rw [ens_getD hp, ens_getD hp2, ← hq]
  have e1 : (L.set i q).take (i + 1) = L.take i ++ [q] := by
    rw [List.take_add_one, List.take_set_of_le (Nat.le_refl _), List.getElem?_set_self hil]; rfl
  rw [e1, List.drop_set_of_lt (by omega)]
  simp [ens, List.map_take, List.map_drop]
set_option maxHeartbeats 4000000 in
set_option maxRecDepth 100000 in
theorem join_any {w : World} {F D : Nat → Prop} {g i : Nat} {L : List Pg} {p p2 : Pg} (A : MapA w F D g L) (hp : L[i]? = some p) (hp2 : L[i + 1]? = some p2) (hn : L.length ≤ 100000000) (h0 : 0 < p.es.length) (hs1 : p.es.length ≤ 1000) (hs2 : p2.es.length ≤ 1000) :
    Calls Try.prog 87 #[.pointer (some ⟨g, 0, none⟩), .int .i64 i] w fun e w' => ∃ F' L', e = .returned (.tuple #[]) ∧ ens L' = jnQ (ens L) i ∧ MapA w' F' D g L' ∧ (∀ b, F' b → F b ∨ w.heap.size ≤ b) ∧ Chg F w w' := by
  have hil := (List.getElem?_eq_some_iff.1 hp).1
  have hil2 := (List.getElem?_eq_some_iff.1 hp2).1
  have hL : L ≠ [] := fun e => by subst e; simp at hil
  obtain ⟨G, C, hg, hFg, hFG, hR⟩ := A.opn hL
  have hpA := A.pages p (List.mem_of_getElem? hp)
  have hpA2 := A.pages p2 (List.mem_of_getElem? hp2)
  have cg := hg.cell (i := 0) rfl
  have cG := hR.cell (i := i) (v := p.v) (by simp [hp])
  have cG2 := hR.cell (i := i + 1) (v := p2.v) (by simp [hp2])
  have hCC := hR.le
  simp only [maxLen] at hCC
  obtain ⟨n, hnn⟩ : ∃ n, Hid (L.length = n) := ⟨_, rfl⟩
  obtain ⟨x, hxx⟩ : ∃ m, Hid (p.es.length = m) := ⟨_, rfl⟩
  obtain ⟨y, hyy⟩ : ∃ m, Hid (p2.es.length = m) := ⟨_, rfl⟩
  simp only [Pg.v] at cG cG2
  rw [hnn.out] at cg
  rw [hxx.out] at cG
  rw [hyy.out] at cG2
  have z1 : (i : Int) < n := by have := hnn.out; omega
  have z2 : (i : Int) + 1 < n := by have := hnn.out; omega
  have w1 : IntKind.i64.wrap ((i : Int) + 1) = (i : Int) + 1 := by rw [IntKind.wrap_i64]; have := hnn.out; omega
  have z3 : ((i : Int) + 1).toNat = i + 1 := by omega
  have z4 : (0 : Int) ≤ (i : Int) + 1 := by omega
  have cgd : w.drew.cell? ⟨g, 0, none⟩ = some (.slice (some ⟨G, 0, none⟩) n C) := cg
  have cGd : w.drew.cell? ⟨G, i, none⟩ = some (.slice (some ⟨p.b, 0, none⟩) x p.c) := cG
  have cG2d : w.drew.cell? ⟨G, i + 1, none⟩ = some (.slice (some ⟨p2.b, 0, none⟩) y p2.c) := cG2
  have hgG : g ≠ G := fun e => hR.ne_map hg e.symm
  obtain ⟨W1, hW1⟩ : ∃ W1, Hid (W1 = w.drew.alloc (.cells #[.slice (some ⟨p.b, 0, none⟩) x p.c, .slice (some ⟨p2.b, 0, none⟩) y p2.c] 87)) := ⟨_, rfl⟩
  have B1 : Below w.heap.size w W1 := by rw [hW1.out]; exact joinB (belowD w) (below_alloc w.drew _)
  have V1 : Blk W1 w.heap.size [.slice (some ⟨p.b, 0, none⟩) x p.c, .slice (some ⟨p2.b, 0, none⟩) y p2.c] 87 := by rw [hW1.out]; exact blk_new w.drew _ _
  have t1 := concatE V1 ((hxx.out ▸ hpA.1.row).keep B1) ((hyy.out ▸ hpA2.1.row).keep B1) (by have := hxx.out; omega) (by have := hxx.out; omega) (by have := hyy.out; omega) hpA.1.one hpA2.1.one
  have hcg1 : W1.cell? ⟨g, 0, none⟩ = _ := (B1.cell (p := ⟨g, 0, none⟩) (cell_lt cg)).trans cg
  have hcG1 : W1.cell? ⟨G, i, none⟩ = _ := (B1.cell (p := ⟨G, i, none⟩) (cell_lt cG)).trans cG
  have hcG21 : W1.cell? ⟨G, i + 1, none⟩ = _ := (B1.cell (p := ⟨G, i + 1, none⟩) (cell_lt cG2)).trans cG2
  have hin : i < n := by have := hnn.out; omega
  have hin2 : i + 1 < n := by have := hnn.out; omega
  have hS1 := (show _ ∧ _ from ⟨hcg1, hcG21⟩)
  rw [hW1.out] at hS1 t1
  go_enter Try.func87, Try.ntmps87
  go_wp2
  -- REGION 0
  have hpp : Try.prog.underlying 84 = some (.slice 87) := by kernel_rfl
  refine rg_mid (X := Nat × Nat) (fun z => [(some 4, .pointer (some ⟨g, 0, none⟩)), (some 5, .pointer (some ⟨g, 0, none⟩)), (some 6, .pointer (some ⟨g, 0, none⟩)), (some 7, .slice (some ⟨G, 0, none⟩) n C), (some 8, .int .i64 i), (some 9, .pointer (some ⟨g, 0, none⟩)), (some 10, .pointer (some ⟨g, 0, none⟩)), (some 11, .pointer (some ⟨g, 0, none⟩)), (some 12, .slice (some ⟨G, 0, none⟩) n C), (some 13, .int .i64 i), (some 14, .pointer (some ⟨G, i, none⟩)), (some 15, .slice (some ⟨p.b, 0, none⟩) x p.c), (some 16, .pointer (some ⟨g, 0, none⟩)), (some 17, .pointer (some ⟨g, 0, none⟩)), (some 18, .pointer (some ⟨g, 0, none⟩)), (some 19, .slice (some ⟨G, 0, none⟩) n C), (some 20, .int .i64 i), (some 21, .int .i64 ((i : Int) + 1)), (some 22, .pointer (some ⟨G, i + 1, none⟩)), (some 23, .slice (some ⟨p2.b, 0, none⟩) y p2.c), (some 24, .slice (some ⟨w.heap.size, 0, none⟩) 2 2), (some 25, .slice (some ⟨z.1, 0, none⟩) (x + y) z.2), (some 26, .pointer (some ⟨G, i, none⟩))]) (fun z w' => ∃ w2, w' = w2.setCell ⟨G, i, none⟩ (.slice (some ⟨z.1, 0, none⟩) (x + y) z.2) ∧ W1.heap.size ≤ z.1 ∧ Rw w2 90 2 z.1 (x + y) z.2 (flat p.es ++ flat p2.es) ∧ Below W1.heap.size W1 w2) (fun w' => w'.cell? ⟨g, 0, none⟩ = some (.slice (some ⟨G, 0, none⟩) n C) ∧ w'.cell? ⟨G, i + 1, none⟩ = some (.slice (some ⟨p2.b, 0, none⟩) y p2.c)) (by kernel_rfl) ⟨cgd, cG2d⟩ ?_ ?_
  · have hS := (show _ ∧ _ from ⟨cgd, cG2d⟩)
    refine rg_take 0 (some 4) (.pointer (some ⟨g, 0, none⟩)) (by kernel_rfl) (fun _ _ => by kernel_rfl) (fun _ _ _ h => h) hS ?_
    refine rg_take 1 (some 5) (.pointer (some ⟨g, 0, none⟩)) (by kernel_rfl) (fun _ _ => by kernel_rfl) (fun _ _ _ h => h) hS ?_
    refine rg_take 2 (some 6) (.pointer (some ⟨g, 0, none⟩)) (by kernel_rfl) (fun _ _ => by kernel_rfl) (fun _ _ _ h => h) hS ?_
    refine rg_load 3 (some 7) (.slice (some ⟨G, 0, none⟩) n C) 84 6 (g) (0) (by kernel_rfl) (by kernel_rfl) (by kernel_rfl) (fun w' h => ld_pp h.1) (fun _ _ _ h => h) hS ?_
    refine rg_take 4 (some 8) (.int .i64 i) (by kernel_rfl) (fun _ _ => by kernel_rfl) (fun _ _ _ h => h) hS ?_
    refine rg_take 5 (some 9) (.pointer (some ⟨g, 0, none⟩)) (by kernel_rfl) (fun _ _ => by kernel_rfl) (fun _ _ _ h => h) hS ?_
    refine rg_take 6 (some 10) (.pointer (some ⟨g, 0, none⟩)) (by kernel_rfl) (fun _ _ => by kernel_rfl) (fun _ _ _ h => h) hS ?_
    refine rg_take 7 (some 11) (.pointer (some ⟨g, 0, none⟩)) (by kernel_rfl) (fun _ _ => by kernel_rfl) (fun _ _ _ h => h) hS ?_
    refine rg_load 8 (some 12) (.slice (some ⟨G, 0, none⟩) n C) 84 11 (g) (0) (by kernel_rfl) (by kernel_rfl) (by kernel_rfl) (fun w' h => ld_pp h.1) (fun _ _ _ h => h) hS ?_
    refine rg_take 9 (some 13) (.int .i64 i) (by kernel_rfl) (fun _ _ => by kernel_rfl) (fun _ _ _ h => h) hS ?_
    refine rg_take 10 (some 14) (.pointer (some ⟨G, i, none⟩)) (by kernel_rfl) (fun _ _ => run_ix (x := 12) (y := 13) (n := n) (c := C) (by kernel_rfl) hpp (by kernel_rfl) (by kernel_rfl) (rfl) (hin)) (fun _ _ _ h => h) hS ?_
    refine rg_take 12 (some 16) (.pointer (some ⟨g, 0, none⟩)) (by kernel_rfl) (fun _ _ => by kernel_rfl) (fun _ _ _ h => h) hS ?_
    refine rg_take 13 (some 17) (.pointer (some ⟨g, 0, none⟩)) (by kernel_rfl) (fun _ _ => by kernel_rfl) (fun _ _ _ h => h) hS ?_
    refine rg_take 14 (some 18) (.pointer (some ⟨g, 0, none⟩)) (by kernel_rfl) (fun _ _ => by kernel_rfl) (fun _ _ _ h => h) hS ?_
    refine rg_load 15 (some 19) (.slice (some ⟨G, 0, none⟩) n C) 84 18 (g) (0) (by kernel_rfl) (by kernel_rfl) (by kernel_rfl) (fun w' h => ld_pp h.1) (fun _ _ _ h => h) hS ?_
    refine rg_take 16 (some 20) (.int .i64 i) (by kernel_rfl) (fun _ _ => by kernel_rfl) (fun _ _ _ h => h) hS ?_
    refine rg_eq 17 (some 21) (.int .i64 (IntKind.i64.wrap ((i : Int) + 1))) (.int .i64 ((i : Int) + 1)) (by rw [w1]) (by kernel_rfl) (fun _ _ => by kernel_rfl) (fun _ _ _ h => h) hS ?_
    refine rg_take 18 (some 22) (.pointer (some ⟨G, i + 1, none⟩)) (by kernel_rfl) (fun _ _ => run_ix (x := 19) (y := 21) (n := n) (c := C) (by kernel_rfl) hpp (by kernel_rfl) (by kernel_rfl) (show ((i : Int) + 1) = ((i + 1 : Nat) : Int) from by omega) (hin2)) (fun _ _ _ h => h) hS ?_
    refine rg_load 19 (some 23) (.slice (some ⟨p2.b, 0, none⟩) y p2.c) 87 22 (G) (i + 1) (by kernel_rfl) (by kernel_rfl) (by kernel_rfl) (fun w' h => ld_p h.2) (fun _ _ _ h => h) hS ?_
    refine rg_ready [11] (by kernel_rfl) (by simp) ?_
    refine ar_val 11 (some 15) (.slice (some ⟨p.b, 0, none⟩) x p.c) _ (by kernel_rfl) (run_lp 14 (by kernel_rfl) (by kernel_rfl) (ld_p cGd)) hS ?_ ar_nil
    refine rg_ready [20] (by kernel_rfl) (by simp) ?_
    refine ar_val 20 (some 24) (.slice (some ⟨w.heap.size, 0, none⟩) 2 2) _ (by kernel_rfl) (run_bs2 (x := 15) (y := 23) (by kernel_rfl) (by kernel_rfl) (by kernel_rfl)) hS1 ?_ ar_nil
    refine rg_call 21 (some 25) 96 #[.slice (some ⟨w.heap.size, 0, none⟩) 2 2] (by kernel_rfl) (by kernel_rfl) t1 ?_
    rintro e' w2 ⟨b2, c2, rfl, hb2, R2, D2⟩
    rw [← hW1.out] at D2 hb2
    have cg2 : w2.cell? ⟨g, 0, none⟩ = _ := (D2.cell (p := ⟨g, 0, none⟩) (cell_lt hcg1)).trans hcg1
    have cGi2 : w2.cell? ⟨G, i, none⟩ = _ := (D2.cell (p := ⟨G, i, none⟩) (cell_lt hcG1)).trans hcG1
    have cGj2 : w2.cell? ⟨G, i + 1, none⟩ = _ := (D2.cell (p := ⟨G, i + 1, none⟩) (cell_lt hcG21)).trans hcG21
    have fG2 : w2.frozen? ⟨G, i, none⟩ = false := ((hR.keep B1).keep D2).free i
    refine ⟨_, rfl, ⟨cg2, cGj2⟩, ?_⟩
    replace hS := (show _ ∧ _ from ⟨cg2, cGj2⟩)
    refine rg_take 22 (some 26) (.pointer (some ⟨G, i, none⟩)) (by kernel_rfl) (fun _ _ => run_ix (x := 7) (y := 8) (n := n) (c := C) (by kernel_rfl) hpp (by kernel_rfl) (by kernel_rfl) (rfl) (hin)) (fun _ _ _ h => h) hS ?_
    refine rg_ready [23] (by kernel_rfl) (by simp) ?_
    refine ar_void 23 (w2.setCell ⟨G, i, none⟩ (.slice (some ⟨b2, 0, none⟩) (x + y) c2)) (by kernel_rfl) (run_sp 26 25 (by kernel_rfl) (by kernel_rfl) (by kernel_rfl) cGi2 fG2) ⟨cell_off hgG cg2, cell_far (by omega) cGj2⟩ ?_ ar_nil
    refine rg_done (by kernel_rfl) ?_
    exact ⟨(b2, c2), by kernel_rfl, w2, rfl, hb2, R2, D2⟩
  -- BEHIND IT
  rintro ⟨b2, c2⟩ w' ⟨w2, rfl, hb2, R2, D2⟩
  dsimp only at hb2 R2
  simp only [putAll, Act.put, List.setIfInBounds_toArray, List.set_cons_zero, List.set_cons_succ]
  have hB2 : Below w.heap.size w w2 := joinB B1 D2
  obtain ⟨q, hq⟩ : ∃ q : Pg, Hid (q = ⟨b2, c2, p.es ++ p2.es⟩) := ⟨_, rfl⟩
  have hlen : (p.es ++ p2.es).length = x + y := by rw [List.length_append, hxx.out, hyy.out]
  have hA' : PgA w2 D q := by
    rw [hq.out]
    refine ⟨?_, fun e he => ?_⟩
    · show Rw w2 _ 2 b2 (p.es ++ p2.es).length c2 _
      rw [hlen, flat_append]; exact R2
    · rcases List.mem_append.1 he with h | h
      · exact (hpA.1.ents e h).keep hB2
      · exact (hpA2.1.ents e h).keep hB2
  have hv' : q.v = .slice (some ⟨b2, 0, none⟩) (x + y) c2 := by rw [hq.out]; simp only [Pg.v]; rw [hlen]
  have hqb : q.b = b2 := by rw [hq.out]
  have hqe : q.es = p.es ++ p2.es := by rw [hq.out]
  obtain ⟨A3, C3⟩ := A.put (p' := q) (D' := D) hg hFg hFG hR hp (Chg.of hB2) (.inr (by rw [hqb]; exact Nat.le_trans B1.size hb2)) hA' (fun _ _ h => h)
  rw [hv', hqb] at A3
  rw [hv'] at C3
  have hF3 : ∀ b, ((F b ∧ b ≠ p.b) ∨ b = b2) → F b ∨ w.heap.size ≤ b := fun b h => h.imp (fun h => h.1) (fun h => by rw [h]; exact Nat.le_trans B1.size hb2)
  have hgb3 := (hg.keep hB2).off hgG (i := i) (.slice (some ⟨b2, 0, none⟩) (x + y) c2)
  generalize (w2.setCell ⟨G, i, none⟩ (.slice (some ⟨b2, 0, none⟩) (x + y) c2)) = W3 at *
  generalize hF3d : (fun x => (F x ∧ x ≠ p.b) ∨ x = b2) = F3 at A3
  have hF3' : ∀ b, F3 b → F b ∨ w.heap.size ≤ b := fun b h => hF3 b (by rw [← hF3d] at h; exact h)
  obtain ⟨G2, D3, hg3, hFg3, hFG3, hR3⟩ := A3.opn (by simp [hL])
  obtain ⟨rfl, rfl⟩ : G2 = G ∧ D3 = C := by
    have := (hg3.eq hgb3).1
    simp at this
    exact ⟨this.1, this.2⟩
  have cg3 : W3.cell? ⟨g, 0, none⟩ = some (.slice (some ⟨G2, 0, none⟩) n D3) := by
    have := hgb3.cell (i := 0) rfl
    rwa [hnn.out] at this
  have hR3' := hR3
  rw [List.length_set, hnn.out] at hR3'
  have t4 := delP (i := i + 1) hR3' (by have := hnn.out; omega) (pv_one _)
  rw [show ((i + 1 : Nat) : Int) = (i : Int) + 1 by omega, show (i : Int) + 1 + 1 = (i : Int) + 2 by omega] at t4
  have w2' : IntKind.i64.wrap ((i : Int) + 2) = (i : Int) + 2 := by rw [IntKind.wrap_i64]; have := hnn.out; omega
  go_wp2_with (go_at_call 85; refine t4.mono ?_; rintro e' w5 ⟨rfl, R5, C5⟩; have cg5 : w5.cell? ⟨g, 0, none⟩ = _ := (World.cell?_of_block (a := ⟨g, 0, none⟩) (C5.same g (cell_lt cg3) hgG)).trans cg3; have fg5 : w5.frozen? ⟨g, 0, none⟩ = false := (hgb3.chg C5 hgG).free 0)
  go_end0
  have hsub : ((L.set i q).take (i + 1) ++ (L.set i q).drop (i + 2)).Sublist (L.set i q) := by
    have h := List.Sublist.append (List.Sublist.refl ((L.set i q).take (i + 1))) (List.drop_sublist 1 ((L.set i q).drop (i + 1)))
    rw [List.drop_drop, List.take_append_drop] at h
    exact h
  obtain ⟨A6, C6⟩ := mapA_swap (w := W3) (w1 := w5) (F := F3) (D := D) (g := g) (G := G2) (G' := G2) (C' := D3) (n := n - 1) (L' := (L.set i q).take (i + 1) ++ (L.set i q).drop (i + 2))
    (fun p hp => A3.pages p (hsub.mem hp)) (A3.apart.sublist (hsub.map _)) A3.kind hgb3 hFg3 hFG3 (fun e => hgG e.symm) C5 (fun p hp => (A3.pages p (hsub.mem hp)).1.ne_row hR3)
    (by simp; have := hnn.out; omega) (by simpa [List.map_take, List.map_drop] using R5)
  refine ⟨_, _, rfl, ens_jn hp hp2 hqe, A6, fun b hb => ?_, C3.trans C6 fun b hb h => (hF3' b h).resolve_right (by omega)⟩
  rcases hb with ⟨h, _⟩ | rfl
  · exact hF3' b h
  · exact hF3' _ hFG3
end Pg
end Go.Proofs.Ytplminnejheceaa
