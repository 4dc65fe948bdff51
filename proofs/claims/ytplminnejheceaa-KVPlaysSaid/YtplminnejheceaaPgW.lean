/- insert: an entry laid into a page. -/
import Derived.Test.YtplminnejheceaaPgV
namespace Go.Proofs.Ytplminnejheceaa
namespace Pg
open Go.RowKit Go.Lib

/-- an entry laid into page i at place q -/
def insQ (P : List (List En)) (i q : Nat) (e : En) : List (List En) :=
  let es := (P.getD i []).take q ++ [e] ++ (P.getD i []).drop q
  if 32 < es.length then P.take i ++ [es.take 16, es.drop 16] ++ P.drop (i + 1) else P.set i es
theorem ens_set (L : List Pg) (i : Nat) (p : Pg) : ens (L.set i p) = (ens L).set i p.es := by simp [ens, List.map_set]
theorem ens_getD {L : List Pg} {i : Nat} {p : Pg} (h : L[i]? = some p) : (ens L).getD i [] = p.es := by simp [ens, h]
theorem ins_flat (es : List En) (q : Nat) (e : En) : (flat es).take (q * 2) ++ [e.kv, e.vv] ++ (flat es).drop (q * 2) = flat (es.take q ++ [e] ++ es.drop q) := by
  rw [flat_take, flat_drop, flat_append, flat_append]; rfl
set_option maxHeartbeats 4000000 in
set_option maxRecDepth 100000 in
theorem insert_any {w : World} {F D : Nat → Prop} {g i q : Nat} {L : List Pg} {p : Pg} {e : En} (A : MapA w F D g L) (hi : L[i]? = some p) (hq : q ≤ p.es.length) (h2 : p.es.length ≤ 32) (hn : L.length ≤ 100000000) (hE : EnA w D e) :
    Calls Try.prog 67 #[.pointer (some ⟨g, 0, none⟩), .int .i64 i, .int .i64 q, .agg #[e.kv, e.vv]] w fun e' w' => ∃ F' L', e' = .returned (.tuple #[]) ∧ ens L' = insQ (ens L) i q e ∧ MapA w' F' D g L' ∧ (∀ b, F' b → F b ∨ w.heap.size ≤ b) ∧ Chg F w w' := by
  have hil := (List.getElem?_eq_some_iff.1 hi).1
  have hL : L ≠ [] := fun e => by subst e; simp at hil
  obtain ⟨kv, kl, vv, vl⟩ := e
  obtain ⟨w0, hw0⟩ : ∃ w0, Hid (w0 = w.alloc (.cells #[kv, vv] 90)) := ⟨_, rfl⟩
  have B0 : Below w.heap.size w w0 := by rw [hw0.out]; exact below_alloc w _
  have X0 : Blk w0 w.heap.size [kv, vv] 90 := by rw [hw0.out]; exact blk_new w [kv, vv] _
  have A0 := A.keep B0
  obtain ⟨G, C, hg, hFg, hFG, hR⟩ := A0.opn hL
  have hp := A0.pages p (List.mem_of_getElem? hi)
  have cg := hg.cell (i := 0) rfl
  have cG := hR.cell (i := i) (v := p.v) (by simp [hi])
  have x0 := X0.cell (i := 0) rfl
  have x1 := X0.cell (i := 1) rfl
  have hpc := hp.1.row.le
  have hCC := hR.le
  simp only [maxLen] at hpc hCC
  obtain ⟨n, hnn⟩ : ∃ n, Hid (L.length = n) := ⟨_, rfl⟩
  obtain ⟨m, hmm⟩ : ∃ m, Hid (p.es.length = m) := ⟨_, rfl⟩
  simp only [Pg.v] at cG
  rw [hnn.out] at cg
  rw [hmm.out] at cG
  have z0 : ¬ ((n : Int) = 0) := by have := hnn.out; omega
  have z1 : (i : Int) < n := by have := hnn.out; omega
  have cgd : w0.drew.cell? ⟨g, 0, none⟩ = some (.slice (some ⟨G, 0, none⟩) n C) := cg
  have x0d : w0.drew.cell? ⟨w.heap.size, 0, none⟩ = some kv := x0
  have x1d : w0.drew.cell? ⟨w.heap.size, 1, none⟩ = some vv := x1
  have cGd : w0.drew.cell? ⟨G, i, none⟩ = some (.slice (some ⟨p.b, 0, none⟩) m p.c) := cG
  have hgG : g ≠ G := fun e => hR.ne_map hg e.symm
  have hxG : w.heap.size ≠ G := by have := A.lt hFG; omega
  -- the world with the variadic list
  obtain ⟨w1, hw1⟩ : ∃ w1, Hid (w1 = w0.drew.alloc (.cells #[kv, vv] 90)) := ⟨_, rfl⟩
  have B1 : Below w0.heap.size w0 w1 := by rw [hw1.out]; exact joinB (belowD w0) (below_alloc w0.drew _)
  have hs0 : w0.heap.size = w.heap.size + 1 := by rw [hw0.out]; simp
  have V1 : Blk w1 w0.heap.size [kv, vv] 90 := by rw [hw1.out]; exact blk_new w0.drew [kv, vv] _
  have t1 := insE (i := q) (hp.1.row.keep B1) V1 (by have := hp.1.row.lt; omega) hq (by omega) hp.1.one (by have := hE.k.one; have := hE.v.one; simp_all)
  rw [hmm.out] at t1
  have hcg1 : w1.cell? ⟨g, 0, none⟩ = some (.slice (some ⟨G, 0, none⟩) n C) := (B1.cell (p := ⟨g, 0, none⟩) (cell_lt cg)).trans cg
  have hx01 : w1.cell? ⟨w.heap.size, 0, none⟩ = some kv := (B1.cell (p := ⟨w.heap.size, 0, none⟩) (cell_lt x0)).trans x0
  have hx11 : w1.cell? ⟨w.heap.size, 1, none⟩ = some vv := (B1.cell (p := ⟨w.heap.size, 1, none⟩) (cell_lt x1)).trans x1
  have hcG1 : w1.cell? ⟨G, i, none⟩ = some (.slice (some ⟨p.b, 0, none⟩) m p.c) := (B1.cell (p := ⟨G, i, none⟩) (cell_lt cG)).trans cG
  have ng : g ≠ p.b := fun e => hp.1.ne_map hg e.symm
  have nG : G ≠ p.b := fun e => hp.1.ne_row hR e.symm
  have nx : w.heap.size ≠ p.b := by have := A.lt hp.2; omega
  have mixed := mixed
  have hin : i < n := by have := hnn.out; omega
  go_enter Try.func67, Try.ntmps67
  have cgw := cg
  rw [hw0.out] at cgw
  go_wp2
  rw [← hw0.out]
  have hS1 := (show _ ∧ _ ∧ _ from ⟨hcg1, hx01, hx11⟩)
  have hcG1' := hcG1
  rw [hw1.out] at hS1 hcG1' t1
  -- REGION 3
  have hpp : Try.prog.underlying 84 = some (.slice 87) := by kernel_rfl
  refine rg_mid (X := Nat × Nat) (fun x => [(some 23, .pointer (some ⟨g, 0, none⟩)), (some 24, .pointer (some ⟨g, 0, none⟩)), (some 25, .pointer (some ⟨g, 0, none⟩)), (some 26, .slice (some ⟨G, 0, none⟩) n C), (some 27, .int .i64 i), (some 28, .pointer (some ⟨g, 0, none⟩)), (some 29, .pointer (some ⟨g, 0, none⟩)), (some 30, .pointer (some ⟨g, 0, none⟩)), (some 31, .slice (some ⟨G, 0, none⟩) n C), (some 32, .int .i64 i), (some 33, .pointer (some ⟨G, i, none⟩)), (some 34, .slice (some ⟨p.b, 0, none⟩) m p.c), (some 35, .int .i64 q), (some 36, .agg #[kv, vv]), (some 37, .slice (some ⟨w0.heap.size, 0, none⟩) 1 1), (some 38, .slice (some ⟨x.1, 0, none⟩) (m + 1) x.2), (some 39, .pointer (some ⟨G, i, none⟩))]) (fun x w' => ∃ w2, w' = w2.setCell ⟨G, i, none⟩ (.slice (some ⟨x.1, 0, none⟩) (m + 1) x.2) ∧ (x.1 = p.b ∨ w1.heap.size ≤ x.1) ∧ Rw w2 90 2 x.1 (m + 1) x.2 ((flat p.es).take (q * 2) ++ [kv, vv] ++ (flat p.es).drop (q * 2)) ∧ Chg (· = p.b) w1 w2) (fun w' => w'.cell? ⟨g, 0, none⟩ = some (.slice (some ⟨G, 0, none⟩) n C) ∧ w'.cell? ⟨w.heap.size, 0, none⟩ = some kv ∧ w'.cell? ⟨w.heap.size, 1, none⟩ = some vv) (by kernel_rfl) ⟨cgd, x0d, x1d⟩ ?_ ?_
  · have hS := (show _ ∧ _ ∧ _ from ⟨cgd, x0d, x1d⟩)
    refine rg_take 0 (some 23) (.pointer (some ⟨g, 0, none⟩)) (by kernel_rfl) (fun _ _ => by kernel_rfl) (fun _ _ _ h => h) hS ?_
    refine rg_take 1 (some 24) (.pointer (some ⟨g, 0, none⟩)) (by kernel_rfl) (fun _ _ => by kernel_rfl) (fun _ _ _ h => h) hS ?_
    refine rg_take 2 (some 25) (.pointer (some ⟨g, 0, none⟩)) (by kernel_rfl) (fun _ _ => by kernel_rfl) (fun _ _ _ h => h) hS ?_
    refine rg_load 3 (some 26) (.slice (some ⟨G, 0, none⟩) n C) 84 25 (g) (0) (by kernel_rfl) (by kernel_rfl) (by kernel_rfl) (fun w' h => ld_pp h.1) (fun _ _ _ h => h) hS ?_
    refine rg_take 4 (some 27) (.int .i64 i) (by kernel_rfl) (fun _ _ => by kernel_rfl) (fun _ _ _ h => h) hS ?_
    refine rg_take 5 (some 28) (.pointer (some ⟨g, 0, none⟩)) (by kernel_rfl) (fun _ _ => by kernel_rfl) (fun _ _ _ h => h) hS ?_
    refine rg_take 6 (some 29) (.pointer (some ⟨g, 0, none⟩)) (by kernel_rfl) (fun _ _ => by kernel_rfl) (fun _ _ _ h => h) hS ?_
    refine rg_take 7 (some 30) (.pointer (some ⟨g, 0, none⟩)) (by kernel_rfl) (fun _ _ => by kernel_rfl) (fun _ _ _ h => h) hS ?_
    refine rg_load 8 (some 31) (.slice (some ⟨G, 0, none⟩) n C) 84 30 (g) (0) (by kernel_rfl) (by kernel_rfl) (by kernel_rfl) (fun w' h => ld_pp h.1) (fun _ _ _ h => h) hS ?_
    refine rg_take 9 (some 32) (.int .i64 i) (by kernel_rfl) (fun _ _ => by kernel_rfl) (fun _ _ _ h => h) hS ?_
    refine rg_take 10 (some 33) (.pointer (some ⟨G, i, none⟩)) (by kernel_rfl) (fun _ _ => run_ix (x := 31) (y := 32) (n := n) (c := C) (by kernel_rfl) hpp (by kernel_rfl) (by kernel_rfl) (rfl) (hin)) (fun _ _ _ h => h) hS ?_
    refine rg_take 12 (some 35) (.int .i64 q) (by kernel_rfl) (fun _ _ => by kernel_rfl) (fun _ _ _ h => h) hS ?_
    refine rg_load 13 (some 36) (.agg #[kv, vv]) 90 7 (w.heap.size) (0) (by kernel_rfl) (by kernel_rfl) (by kernel_rfl) (fun w' h => ld_e h.2.1 h.2.2) (fun _ _ _ h => h) hS ?_
    refine rg_ready [11, 14] (by kernel_rfl) (by simp) ?_
    refine ar_val 11 (some 34) (.slice (some ⟨p.b, 0, none⟩) m p.c) _ (by kernel_rfl) (run_lp 33 (by kernel_rfl) (by kernel_rfl) (ld_p cGd)) hS ?_ (ar_val 14 (some 37) (.slice (some ⟨w0.heap.size, 0, none⟩) 1 1) _ (by kernel_rfl) (run_bs (k := 36) (by kernel_rfl) (by kernel_rfl)) hS1 ?_ ar_nil)
    · refine rg_ready [14] (by kernel_rfl) (by simp) ?_
      refine ar_val 14 (some 37) (.slice (some ⟨w0.heap.size, 0, none⟩) 1 1) _ (by kernel_rfl) (run_bs (k := 36) (by kernel_rfl) (by kernel_rfl)) hS1 ?_ ar_nil
      refine rg_call 15 (some 38) 82 #[.slice (some ⟨p.b, 0, none⟩) m p.c, .int .i64 q, .slice (some ⟨w0.heap.size, 0, none⟩) 1 1] (by kernel_rfl) (by kernel_rfl) t1 ?_
      rintro e' w2 ⟨b2, c2, rfl, hb2, R2, C2⟩
      rw [← hw1.out] at C2 hb2
      have cg2 : w2.cell? ⟨g, 0, none⟩ = _ := (World.cell?_of_block (a := ⟨g, 0, none⟩) (C2.same g (cell_lt hcg1) ng)).trans hcg1
      have x02 : w2.cell? ⟨w.heap.size, 0, none⟩ = _ := (World.cell?_of_block (a := ⟨w.heap.size, 0, none⟩) (C2.same _ (cell_lt hx01) nx)).trans hx01
      have x12 : w2.cell? ⟨w.heap.size, 1, none⟩ = _ := (World.cell?_of_block (a := ⟨w.heap.size, 1, none⟩) (C2.same _ (cell_lt hx11) nx)).trans hx11
      have cG2 : w2.cell? ⟨G, i, none⟩ = _ := (World.cell?_of_block (a := ⟨G, i, none⟩) (C2.same _ (cell_lt hcG1) nG)).trans hcG1
      have fG2 : w2.frozen? ⟨G, i, none⟩ = false := ((hR.keep B1).chg C2 nG).free i
      refine ⟨_, rfl, ⟨cg2, x02, x12⟩, ?_⟩
      replace hS := (show _ ∧ _ ∧ _ from ⟨cg2, x02, x12⟩)
      refine rg_take 16 (some 39) (.pointer (some ⟨G, i, none⟩)) (by kernel_rfl) (fun _ _ => run_ix (x := 26) (y := 27) (n := n) (c := C) (by kernel_rfl) hpp (by kernel_rfl) (by kernel_rfl) (rfl) (hin)) (fun _ _ _ h => h) hS ?_
      refine rg_ready [17] (by kernel_rfl) (by simp) ?_
      refine ar_void 17 (w2.setCell ⟨G, i, none⟩ (.slice (some ⟨b2, 0, none⟩) (m + 1) c2)) (by kernel_rfl) (run_sp 39 38 (by kernel_rfl) (by kernel_rfl) (by kernel_rfl) cG2 fG2) ⟨cell_off hgG cg2, cell_off hxG x02, cell_off hxG x12⟩ ?_ ar_nil
      refine rg_done (by kernel_rfl) ?_
      exact ⟨(b2, c2), by kernel_rfl, w2, rfl, hb2, R2, C2⟩
    · refine rg_ready [11] (by kernel_rfl) (by simp) ?_
      refine ar_val 11 (some 34) (.slice (some ⟨p.b, 0, none⟩) m p.c) _ (by kernel_rfl) (run_lp 33 (by kernel_rfl) (by kernel_rfl) (ld_p hcG1')) hS1 ?_ ar_nil
      refine rg_call 15 (some 38) 82 #[.slice (some ⟨p.b, 0, none⟩) m p.c, .int .i64 q, .slice (some ⟨w0.heap.size, 0, none⟩) 1 1] (by kernel_rfl) (by kernel_rfl) t1 ?_
      rintro e' w2 ⟨b2, c2, rfl, hb2, R2, C2⟩
      rw [← hw1.out] at C2 hb2
      have cg2 : w2.cell? ⟨g, 0, none⟩ = _ := (World.cell?_of_block (a := ⟨g, 0, none⟩) (C2.same g (cell_lt hcg1) ng)).trans hcg1
      have x02 : w2.cell? ⟨w.heap.size, 0, none⟩ = _ := (World.cell?_of_block (a := ⟨w.heap.size, 0, none⟩) (C2.same _ (cell_lt hx01) nx)).trans hx01
      have x12 : w2.cell? ⟨w.heap.size, 1, none⟩ = _ := (World.cell?_of_block (a := ⟨w.heap.size, 1, none⟩) (C2.same _ (cell_lt hx11) nx)).trans hx11
      have cG2 : w2.cell? ⟨G, i, none⟩ = _ := (World.cell?_of_block (a := ⟨G, i, none⟩) (C2.same _ (cell_lt hcG1) nG)).trans hcG1
      have fG2 : w2.frozen? ⟨G, i, none⟩ = false := ((hR.keep B1).chg C2 nG).free i
      refine ⟨_, rfl, ⟨cg2, x02, x12⟩, ?_⟩
      replace hS := (show _ ∧ _ ∧ _ from ⟨cg2, x02, x12⟩)
      refine rg_take 16 (some 39) (.pointer (some ⟨G, i, none⟩)) (by kernel_rfl) (fun _ _ => run_ix (x := 26) (y := 27) (n := n) (c := C) (by kernel_rfl) hpp (by kernel_rfl) (by kernel_rfl) (rfl) (hin)) (fun _ _ _ h => h) hS ?_
      refine rg_ready [17] (by kernel_rfl) (by simp) ?_
      refine ar_void 17 (w2.setCell ⟨G, i, none⟩ (.slice (some ⟨b2, 0, none⟩) (m + 1) c2)) (by kernel_rfl) (run_sp 39 38 (by kernel_rfl) (by kernel_rfl) (by kernel_rfl) cG2 fG2) ⟨cell_off hgG cg2, cell_off hxG x02, cell_off hxG x12⟩ ?_ ar_nil
      refine rg_done (by kernel_rfl) ?_
      exact ⟨(b2, c2), by kernel_rfl, w2, rfl, hb2, R2, C2⟩
  -- BEHIND IT
  rintro ⟨b2, c2⟩ w' ⟨w2, rfl, hb2, R2, C2⟩
  dsimp only at hb2 R2
  simp only [putAll, Act.put, List.setIfInBounds_toArray, List.set_cons_zero, List.set_cons_succ]
  have cg2 : w2.cell? ⟨g, 0, none⟩ = _ := (World.cell?_of_block (a := ⟨g, 0, none⟩) (C2.same g (cell_lt hcg1) ng)).trans hcg1
  have cG2 : w2.cell? ⟨G, i, none⟩ = _ := (World.cell?_of_block (a := ⟨G, i, none⟩) (C2.same _ (by exact (hR.keep B1).lt) nG)).trans hcG1
  have C02 : Chg (· = p.b) w0 w2 := (Chg.of (F := (· = p.b)) B1).trans C2 (fun _ _ h => h)
  obtain ⟨p', hp'⟩ : ∃ p' : Pg, Hid (p' = ⟨b2, c2, p.es.take q ++ [(⟨kv, kl, vv, vl⟩ : En)] ++ p.es.drop q⟩) := ⟨_, rfl⟩
  have hlen : (p.es.take q ++ [(⟨kv, kl, vv, vl⟩ : En)] ++ p.es.drop q).length = m + 1 := by have := hmm.out; simp; omega
  have hoff : ∀ e, EnA w D e → EnA w2 D e := fun e he => ((he.keep B0).keep B1).off fun b hb hk => C2.same b hb fun f => by
    subst f
    obtain ⟨cs, k⟩ := hk
    obtain ⟨ds, k'⟩ := (hp.1.row.keep B1).kind
    exact blk_ne k k' (by decide) rfl
  have hA' : PgA w2 D p' := by
    rw [hp'.out]
    refine ⟨?_, fun e he => ?_⟩
    · show Rw w2 _ 2 b2 (p.es.take q ++ [(⟨kv, kl, vv, vl⟩ : En)] ++ p.es.drop q).length c2 _
      rw [hlen]; exact R2.to (ins_flat p.es q ⟨kv, kl, vv, vl⟩)
    · rcases List.mem_append.1 he with h | h
      · rcases List.mem_append.1 h with h | h
        · exact hoff e ((A.pages p (List.mem_of_getElem? hi)).1.ents e (List.mem_of_mem_take h))
        · simp at h; subst h; exact hoff _ hE
      · exact hoff e ((A.pages p (List.mem_of_getElem? hi)).1.ents e (List.mem_of_mem_drop h))
  have hv' : p'.v = .slice (some ⟨b2, 0, none⟩) (m + 1) c2 := by rw [hp'.out]; simp only [Pg.v]; rw [hlen]
  have hb' : p'.b = b2 := by rw [hp'.out]
  have he' : p'.es = p.es.take q ++ [⟨kv, kl, vv, vl⟩] ++ p.es.drop q := by rw [hp'.out]
  obtain ⟨A3, C3⟩ := A0.put (p' := p') (D' := D) hg hFg hFG hR hi C02 (by rw [hb']; exact hb2.imp id (fun h => Nat.le_trans B1.size h)) hA' (fun _ _ h => h)
  rw [hv', hb'] at A3
  rw [hv'] at C3
  have C03 := (Chg.of (F := F) B0).trans C3 (fun _ _ h => h)
  have hF3 : ∀ b, ((F b ∧ b ≠ p.b) ∨ b = b2) → F b ∨ w.heap.size ≤ b := fun b h => by
    have h0 := B0.size
    have h1 := B1.size
    rcases h with h | h
    · exact .inl h.1
    · subst h
      rcases hb2 with h | h
      · rw [h]; exact .inl hp.2
      · exact .inr (by omega)
  have cg3 : (w2.setCell ⟨G, i, none⟩ (.slice (some ⟨b2, 0, none⟩) (m + 1) c2)).cell? ⟨g, 0, none⟩ = some (.slice (some ⟨G, 0, none⟩) n C) := cell_off hgG cg2
  have cG3 : (w2.setCell ⟨G, i, none⟩ (.slice (some ⟨b2, 0, none⟩) (m + 1) c2)).cell? ⟨G, i, none⟩ = some (.slice (some ⟨b2, 0, none⟩) (m + 1) c2) := World.cell?_setCell_same' _ _ _ (by rw [cG2]; rfl)
  generalize (w2.setCell ⟨G, i, none⟩ (.slice (some ⟨b2, 0, none⟩) (m + 1) c2)) = W3 at *
  generalize hF3d : (fun x => (F x ∧ x ≠ p.b) ∨ x = b2) = F3 at A3
  have hF3' : ∀ b, F3 b → F b ∨ w.heap.size ≤ b := fun b h => hF3 b (by rw [← hF3d] at h; exact h)
  have hi3 : (L.set i p')[i]? = some p' := by rw [List.getElem?_set_self hil]
  by_cases hbig : 32 < m + 1
  · have hbi : (32 : Int) < (m : Int) + 1 := by omega
    have t5 := split_any A3 hi3 (by rw [he', hlen]; omega) (by rw [he', hlen]; have := hmm.out; omega) (by rw [List.length_set]; exact hn)
    go_wp2_with (go_at_call 83; refine t5.mono ?_; rintro e' w6 ⟨F6, p1, p2, rfl, e1, e2, A6, hF6, C6⟩)
    go_end0
    refine ⟨F6, _, rfl, ?_, A6, fun b hb => ?_, C03.trans C6 fun b hb h => (hF3' b h).resolve_right (by omega)⟩
    · unfold insQ
      rw [ens_getD hi, ← he', if_pos (by rw [he', hlen]; exact hbig)]
      simp only [ens, List.map_append, List.map_take, List.map_drop, List.map_cons, List.map_nil, List.map_set, e1, e2]
      rw [List.take_set_of_le (Nat.le_refl _), List.drop_set_of_lt (by omega)]
    · rcases hF6 b hb with h | h
      · exact hF3' b h
      · exact .inr (by have := C03.size; omega)
  · have hbi : ¬ ((32 : Int) < (m : Int) + 1) := by omega
    go_wp2
    go_end0
    refine ⟨rfl, F3, _, ?_, A3, hF3', C03⟩
    unfold insQ
    rw [ens_getD hi, ← he', if_neg (by rw [he', hlen]; exact hbig), ens_set]
end Pg
end Go.Proofs.Ytplminnejheceaa
