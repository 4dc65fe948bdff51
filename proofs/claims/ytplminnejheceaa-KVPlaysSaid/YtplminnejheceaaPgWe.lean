/- insert into a map without a page. -/
import Derived.Test.YtplminnejheceaaPgW
namespace Go.Proofs.Ytplminnejheceaa
namespace Pg
open Go.RowKit Go.Lib
/-- a page without memory is added to a list of pages -/
theorem app_page {w : World} {F D : Nat → Prop} {g : Nat} (A : MapA w F D g []) {pv : Value} (hpv : w.cell? ⟨g, 0, none⟩ = some pv) {w1 : World} (B1 : Below w.heap.size w w1) {vb : Nat} (V : Blk w1 vb [.slice none 0 0] 87) :
    ∃ b' c' w', (Builtin.append_ #[84, 84] 84 #[pv, .slice (some ⟨vb, 0, none⟩) 1 1]).run Try.prog w1 = .ok (.slice (some ⟨b', 0, none⟩) 1 c') w' ∧ (F b' ∨ w.heap.size ≤ b') ∧ Rw w' 87 1 b' 1 c' [.slice none 0 0] ∧ Chg F w1 w' ∧ b' ≠ g ∧ (∀ b cs, Blk w1 b cs 86 ∨ Blk w1 b cs 90 → Blk w' b cs 86 ∨ Blk w' b cs 90) ∧ (Blk w g [pv] 86 ∧ F g ∧ Blk w' g [pv] 86) := by
  obtain ⟨pv', hb, hg, h⟩ := A.top
  have e := hb.cell (i := 0) rfl
  rw [hpv] at e
  cases e
  have hb1 := hb.keep B1
  rcases h with ⟨rfl, _⟩ | ⟨G, C, rfl, hG, hR⟩
  · obtain ⟨c', W, hr, hR', hC⟩ := app_nil (w := w1) KP 84 ⟨vb, 0, none⟩ 1 1 [.slice none 0 0] rfl (fun j u hj => by rw [Addr.add_lit, Nat.zero_add]; exact V.cell hj) (by decide) (by decide) (by decide)
    refine ⟨_, c', W, hr, .inr B1.size, hR', Chg.of hC, ?_, fun b cs h => h.imp (fun k => k.keep hC) (fun k => k.keep hC), hb, hg, hb1.keep hC⟩
    have := hb1.lt
    omega
  · have hR1 := hR.keep B1
    obtain ⟨b', c', W, hr, hb', hR', hC⟩ := app_row KP 84 hR1 ⟨vb, 0, none⟩ 1 1 [.slice none 0 0] rfl (fun j u hj => by rw [Addr.add_lit, Nat.zero_add]; exact V.cell hj) (by simp [Value.oneCell']) (by simp) (by simp)
    have hnG : ∀ b cs, Blk w1 b cs 86 ∨ Blk w1 b cs 90 → b ≠ G := fun b cs h => by
      obtain ⟨ds, k'⟩ := hR1.kind
      rcases h with k | k
      · exact blk_ne k k' (by decide)
      · exact blk_ne k k' (by decide)
    have hgG := hnG g _ (.inl hb1)
    refine ⟨b', c', W, hr, ?_, hR', hC.mono (fun b _ e => by subst e; exact hG), ?_, fun b cs h => h.imp (fun k => k.chg hC (hnG b cs h)) (fun k => k.chg hC (hnG b cs h)), hb, hg, hb1.chg hC hgG⟩
    · rcases hb' with h | h
      · rw [h]; exact .inl hG
      · rw [h]; exact .inr B1.size
    · rcases hb' with h | h
      · rw [h]; exact fun e => hgG e.symm
      · have := hb1.lt; omega
set_option maxHeartbeats 4000000 in
set_option maxRecDepth 100000 in
theorem insert_empty {w : World} {F D : Nat → Prop} {g : Nat} {e : En} (A : MapA w F D g []) (hE : EnA w D e) :
    Calls Try.prog 67 #[.pointer (some ⟨g, 0, none⟩), .int .i64 0, .int .i64 0, .agg #[e.kv, e.vv]] w fun e' w' => ∃ F' L', e' = .returned (.tuple #[]) ∧ ens L' = [[e]] ∧ MapA w' F' D g L' ∧ (∀ b, F' b → F b ∨ w.heap.size ≤ b) ∧ Chg F w w' := by
  obtain ⟨kv, kl, vv, vl⟩ := e
  have B0 := below_alloc w (.cells #[kv, vv] 90)
  have X0 := blk_new w [kv, vv] 90
  obtain ⟨ao, c, hc, hc1, hc2, hat⟩ := A.rd
  simp only [List.length_nil] at hc hc1
  have hgl := cell_lt hc
  obtain ⟨w1, hw1⟩ : ∃ w1, Hid (w1 = (w.alloc (.cells #[kv, vv] 90)).alloc (.cells #[.slice none 0 0] 87)) := ⟨_, rfl⟩
  have B1 : Below w.heap.size w w1 := by rw [hw1.out]; exact joinB B0 (below_alloc _ _)
  have V1 : Blk w1 (w.heap.size + 1) [.slice none 0 0] 87 := by
    have := blk_new (w.alloc (.cells #[kv, vv] 90)) [.slice none 0 0] 87
    rw [World.size_alloc] at this
    rw [hw1.out]; exact this
  have X1 : Blk w1 w.heap.size [kv, vv] 90 := by rw [hw1.out]; exact X0.keep (below_alloc _ _)
  obtain ⟨G, C, w2, hr, hFG, R2, C2, hGg, hkp, hgb, hFg, hg2⟩ := app_page A hc B1 V1
  have X2 : Blk w2 w.heap.size [kv, vv] 90 := X1.chg C2 (fun f => by have := A.lt f; omega)
  have hg3 := hg2.setCell (i := 0) (.slice (some ⟨G, 0, none⟩) 1 C)
  have R3 : Rw (w2.setCell ⟨g, 0, none⟩ (.slice (some ⟨G, 0, none⟩) 1 C)) 87 1 G 1 C [.slice none 0 0] := R2.same (Below.heap_setCell w2 _ _ _ hGg)
  have X3 : Blk (w2.setCell ⟨g, 0, none⟩ (.slice (some ⟨G, 0, none⟩) 1 C)) w.heap.size [kv, vv] 90 := X2.off (by omega) _
  have hoff3 : ∀ e, EnA w D e → EnA (w2.setCell ⟨g, 0, none⟩ (.slice (some ⟨G, 0, none⟩) 1 C)) D e := fun e he => (he.keep B1).off fun b hb hk => by
    obtain ⟨cs, k⟩ := hk
    have n1 : b ≠ g := blk_ne k (hgb.keep B1) (by decide)
    rw [Below.heap_setCell w2 _ _ b n1]
    refine C2.same b hb fun f => A.noU f cs ?_
    exact ⟨by rw [← B1.block b (A.lt f)]; exact k.blk⟩
  have c2g := hg2.cell (i := 0) rfl
  have f2g := hg2.free 0
  have hsz3 : w.heap.size + 1 + 1 ≤ (w2.setCell ⟨g, 0, none⟩ (.slice (some ⟨G, 0, none⟩) 1 C)).heap.size := by
    have h1 := C2.size
    have h2 : w1.heap.size = w.heap.size + 1 + 1 := by rw [hw1.out]; simp
    have h3 : (w2.setCell ⟨g, 0, none⟩ (.slice (some ⟨G, 0, none⟩) 1 C)).heap.size = w2.heap.size := by simp [World.setCell]
    omega
  have C03 : Chg F w (w2.setCell ⟨g, 0, none⟩ (.slice (some ⟨G, 0, none⟩) 1 C)) := ((Chg.of (F := F) B1).trans C2 (fun _ _ h => h)).cell (.inl hFg) _
  have mixed := mixed
  obtain rfl := hw1.out
  clear hw1
  go_enter Try.func67, Try.ntmps67
  go_wp2_with (at_builtin; refine Lib.wpList_append_run _ rfl _ _ _ _ rfl _ _ rfl rfl _ _ hr ?_)
  generalize (w2.setCell ⟨g, 0, none⟩ (.slice (some ⟨G, 0, none⟩) 1 C)) = W3 at *
  have cg3 : W3.cell? ⟨g, 0, none⟩ = some (.slice (some ⟨G, 0, none⟩) 1 C) := hg3.cell (i := 0) rfl
  have x03 := X3.cell (i := 0) rfl
  have x13 := X3.cell (i := 1) rfl
  have cG3 := R3.cell (i := 0) rfl
  obtain ⟨W4, hW4⟩ : ∃ W4, Hid (W4 = W3.drew.alloc (.cells #[kv, vv] 90)) := ⟨_, rfl⟩
  have B4 : Below W3.heap.size W3 W4 := by rw [hW4.out]; exact joinB (belowD W3) (below_alloc W3.drew _)
  have V4 : Blk W4 W3.heap.size [kv, vv] 90 := by rw [hW4.out]; exact blk_new W3.drew [kv, vv] _
  have hs4 : W4.heap.size = W3.heap.size + 1 := by rw [hW4.out]; simp
  have t1 : Calls Try.prog 82 #[.slice none 0 0, .int .i64 0, .slice (some ⟨W3.heap.size, 0, none⟩) 1 1] W4 fun e w' => ∃ b2 c2, e = .returned (.slice (some ⟨b2, 0, none⟩) 1 c2) ∧ b2 = W3.heap.size + 1 ∧ Rw w' 90 2 b2 1 c2 [kv, vv] ∧ Below W4.heap.size W4 w' := (insE_nil V4).mono (by
    rintro e w' ⟨c', rfl, h1, h2⟩
    exact ⟨_, c', rfl, hs4, h1, h2⟩)
  have hcg1 : W4.cell? ⟨g, 0, none⟩ = _ := (B4.cell (p := ⟨g, 0, none⟩) (cell_lt cg3)).trans cg3
  have hx01 : W4.cell? ⟨w.heap.size, 0, none⟩ = _ := (B4.cell (p := ⟨w.heap.size, 0, none⟩) (cell_lt x03)).trans x03
  have hx11 : W4.cell? ⟨w.heap.size, 1, none⟩ = _ := (B4.cell (p := ⟨w.heap.size, 1, none⟩) (cell_lt x13)).trans x13
  have hcG1 : W4.cell? ⟨G, 0, none⟩ = _ := (B4.cell (p := ⟨G, 0, none⟩) (cell_lt cG3)).trans cG3
  have cgd : W3.drew.cell? ⟨g, 0, none⟩ = _ := cg3
  have x0d : W3.drew.cell? ⟨w.heap.size, 0, none⟩ = _ := x03
  have x1d : W3.drew.cell? ⟨w.heap.size, 1, none⟩ = _ := x13
  have cGd : W3.drew.cell? ⟨G, 0, none⟩ = _ := cG3
  have hgG : g ≠ G := fun e => hGg e.symm
  have hxG : w.heap.size ≠ G := fun e => by
    obtain ⟨ds, k⟩ := R3.kind
    exact blk_ne X3 k (by decide) e
  have hin : 0 < 1 := by decide
  have hS1 := (show _ ∧ _ ∧ _ from ⟨hcg1, hx01, hx11⟩)
  have hcG1' := hcG1
  rw [hW4.out] at hS1 hcG1' t1
  -- REGION 3
  have hpp : Try.prog.underlying 84 = some (.slice 87) := by kernel_rfl
  refine rg_mid (X := Nat × Nat) (fun x => [(some 23, .pointer (some ⟨g, 0, none⟩)), (some 24, .pointer (some ⟨g, 0, none⟩)), (some 25, .pointer (some ⟨g, 0, none⟩)), (some 26, .slice (some ⟨G, 0, none⟩) 1 C), (some 27, .int .i64 0), (some 28, .pointer (some ⟨g, 0, none⟩)), (some 29, .pointer (some ⟨g, 0, none⟩)), (some 30, .pointer (some ⟨g, 0, none⟩)), (some 31, .slice (some ⟨G, 0, none⟩) 1 C), (some 32, .int .i64 0), (some 33, .pointer (some ⟨G, 0, none⟩)), (some 34, .slice none 0 0), (some 35, .int .i64 0), (some 36, .agg #[kv, vv]), (some 37, .slice (some ⟨W3.heap.size, 0, none⟩) 1 1), (some 38, .slice (some ⟨x.1, 0, none⟩) 1 x.2), (some 39, .pointer (some ⟨G, 0, none⟩))]) (fun x w' => ∃ w2, w' = w2.setCell ⟨G, 0, none⟩ (.slice (some ⟨x.1, 0, none⟩) 1 x.2) ∧ x.1 = W3.heap.size + 1 ∧ Rw w2 90 2 x.1 1 x.2 [kv, vv] ∧ Below W4.heap.size W4 w2) (fun w' => w'.cell? ⟨g, 0, none⟩ = some (.slice (some ⟨G, 0, none⟩) 1 C) ∧ w'.cell? ⟨w.heap.size, 0, none⟩ = some kv ∧ w'.cell? ⟨w.heap.size, 1, none⟩ = some vv) (by kernel_rfl) ⟨cgd, x0d, x1d⟩ ?_ ?_
  · have hS := (show _ ∧ _ ∧ _ from ⟨cgd, x0d, x1d⟩)
    refine rg_take 0 (some 23) (.pointer (some ⟨g, 0, none⟩)) (by kernel_rfl) (fun _ _ => by kernel_rfl) (fun _ _ _ h => h) hS ?_
    refine rg_take 1 (some 24) (.pointer (some ⟨g, 0, none⟩)) (by kernel_rfl) (fun _ _ => by kernel_rfl) (fun _ _ _ h => h) hS ?_
    refine rg_take 2 (some 25) (.pointer (some ⟨g, 0, none⟩)) (by kernel_rfl) (fun _ _ => by kernel_rfl) (fun _ _ _ h => h) hS ?_
    refine rg_load 3 (some 26) (.slice (some ⟨G, 0, none⟩) 1 C) 84 25 (g) (0) (by kernel_rfl) (by kernel_rfl) (by kernel_rfl) (fun w' h => ld_pp h.1) (fun _ _ _ h => h) hS ?_
    refine rg_take 4 (some 27) (.int .i64 0) (by kernel_rfl) (fun _ _ => by kernel_rfl) (fun _ _ _ h => h) hS ?_
    refine rg_take 5 (some 28) (.pointer (some ⟨g, 0, none⟩)) (by kernel_rfl) (fun _ _ => by kernel_rfl) (fun _ _ _ h => h) hS ?_
    refine rg_take 6 (some 29) (.pointer (some ⟨g, 0, none⟩)) (by kernel_rfl) (fun _ _ => by kernel_rfl) (fun _ _ _ h => h) hS ?_
    refine rg_take 7 (some 30) (.pointer (some ⟨g, 0, none⟩)) (by kernel_rfl) (fun _ _ => by kernel_rfl) (fun _ _ _ h => h) hS ?_
    refine rg_load 8 (some 31) (.slice (some ⟨G, 0, none⟩) 1 C) 84 30 (g) (0) (by kernel_rfl) (by kernel_rfl) (by kernel_rfl) (fun w' h => ld_pp h.1) (fun _ _ _ h => h) hS ?_
    refine rg_take 9 (some 32) (.int .i64 0) (by kernel_rfl) (fun _ _ => by kernel_rfl) (fun _ _ _ h => h) hS ?_
    refine rg_take 10 (some 33) (.pointer (some ⟨G, 0, none⟩)) (by kernel_rfl) (fun _ _ => run_ix (x := 31) (y := 32) (n := 1) (c := C) (by kernel_rfl) hpp (by kernel_rfl) (by kernel_rfl) (rfl) (hin)) (fun _ _ _ h => h) hS ?_
    refine rg_take 12 (some 35) (.int .i64 0) (by kernel_rfl) (fun _ _ => by kernel_rfl) (fun _ _ _ h => h) hS ?_
    refine rg_load 13 (some 36) (.agg #[kv, vv]) 90 7 (w.heap.size) (0) (by kernel_rfl) (by kernel_rfl) (by kernel_rfl) (fun w' h => ld_e h.2.1 h.2.2) (fun _ _ _ h => h) hS ?_
    refine rg_ready [11, 14] (by kernel_rfl) (by simp) ?_
    refine ar_val 11 (some 34) (.slice none 0 0) _ (by kernel_rfl) (run_lp 33 (by kernel_rfl) (by kernel_rfl) (ld_p cGd)) hS ?_ (ar_val 14 (some 37) (.slice (some ⟨W3.heap.size, 0, none⟩) 1 1) _ (by kernel_rfl) (run_bs (k := 36) (by kernel_rfl) (by kernel_rfl)) hS1 ?_ ar_nil)
    · refine rg_ready [14] (by kernel_rfl) (by simp) ?_
      refine ar_val 14 (some 37) (.slice (some ⟨W3.heap.size, 0, none⟩) 1 1) _ (by kernel_rfl) (run_bs (k := 36) (by kernel_rfl) (by kernel_rfl)) hS1 ?_ ar_nil
      refine rg_call 15 (some 38) 82 #[.slice none 0 0, .int .i64 0, .slice (some ⟨W3.heap.size, 0, none⟩) 1 1] (by kernel_rfl) (by kernel_rfl) t1 ?_
      rintro e' w2 ⟨b2, c2, rfl, hb2, R2, C2⟩
      rw [← hW4.out] at C2
      have cg2 : w2.cell? ⟨g, 0, none⟩ = _ := (C2.cell (p := ⟨g, 0, none⟩) (cell_lt hcg1)).trans hcg1
      have x02 : w2.cell? ⟨w.heap.size, 0, none⟩ = _ := (C2.cell (p := ⟨w.heap.size, 0, none⟩) (cell_lt hx01)).trans hx01
      have x12 : w2.cell? ⟨w.heap.size, 1, none⟩ = _ := (C2.cell (p := ⟨w.heap.size, 1, none⟩) (cell_lt hx11)).trans hx11
      have cG2 : w2.cell? ⟨G, 0, none⟩ = _ := (C2.cell (p := ⟨G, 0, none⟩) (cell_lt hcG1)).trans hcG1
      have fG2 : w2.frozen? ⟨G, 0, none⟩ = false := ((R3.keep B4).keep C2).free 0
      refine ⟨_, rfl, ⟨cg2, x02, x12⟩, ?_⟩
      replace hS := (show _ ∧ _ ∧ _ from ⟨cg2, x02, x12⟩)
      refine rg_take 16 (some 39) (.pointer (some ⟨G, 0, none⟩)) (by kernel_rfl) (fun _ _ => run_ix (x := 26) (y := 27) (n := 1) (c := C) (by kernel_rfl) hpp (by kernel_rfl) (by kernel_rfl) (rfl) (hin)) (fun _ _ _ h => h) hS ?_
      refine rg_ready [17] (by kernel_rfl) (by simp) ?_
      refine ar_void 17 (w2.setCell ⟨G, 0, none⟩ (.slice (some ⟨b2, 0, none⟩) 1 c2)) (by kernel_rfl) (run_sp 39 38 (by kernel_rfl) (by kernel_rfl) (by kernel_rfl) cG2 fG2) ⟨cell_off hgG cg2, cell_off hxG x02, cell_off hxG x12⟩ ?_ ar_nil
      refine rg_done (by kernel_rfl) ?_
      exact ⟨(b2, c2), by kernel_rfl, w2, rfl, hb2, R2, C2⟩
    · refine rg_ready [11] (by kernel_rfl) (by simp) ?_
      refine ar_val 11 (some 34) (.slice none 0 0) _ (by kernel_rfl) (run_lp 33 (by kernel_rfl) (by kernel_rfl) (ld_p hcG1')) hS1 ?_ ar_nil
      refine rg_call 15 (some 38) 82 #[.slice none 0 0, .int .i64 0, .slice (some ⟨W3.heap.size, 0, none⟩) 1 1] (by kernel_rfl) (by kernel_rfl) t1 ?_
      rintro e' w2 ⟨b2, c2, rfl, hb2, R2, C2⟩
      rw [← hW4.out] at C2
      have cg2 : w2.cell? ⟨g, 0, none⟩ = _ := (C2.cell (p := ⟨g, 0, none⟩) (cell_lt hcg1)).trans hcg1
      have x02 : w2.cell? ⟨w.heap.size, 0, none⟩ = _ := (C2.cell (p := ⟨w.heap.size, 0, none⟩) (cell_lt hx01)).trans hx01
      have x12 : w2.cell? ⟨w.heap.size, 1, none⟩ = _ := (C2.cell (p := ⟨w.heap.size, 1, none⟩) (cell_lt hx11)).trans hx11
      have cG2 : w2.cell? ⟨G, 0, none⟩ = _ := (C2.cell (p := ⟨G, 0, none⟩) (cell_lt hcG1)).trans hcG1
      have fG2 : w2.frozen? ⟨G, 0, none⟩ = false := ((R3.keep B4).keep C2).free 0
      refine ⟨_, rfl, ⟨cg2, x02, x12⟩, ?_⟩
      replace hS := (show _ ∧ _ ∧ _ from ⟨cg2, x02, x12⟩)
      refine rg_take 16 (some 39) (.pointer (some ⟨G, 0, none⟩)) (by kernel_rfl) (fun _ _ => run_ix (x := 26) (y := 27) (n := 1) (c := C) (by kernel_rfl) hpp (by kernel_rfl) (by kernel_rfl) (rfl) (hin)) (fun _ _ _ h => h) hS ?_
      refine rg_ready [17] (by kernel_rfl) (by simp) ?_
      refine ar_void 17 (w2.setCell ⟨G, 0, none⟩ (.slice (some ⟨b2, 0, none⟩) 1 c2)) (by kernel_rfl) (run_sp 39 38 (by kernel_rfl) (by kernel_rfl) (by kernel_rfl) cG2 fG2) ⟨cell_off hgG cg2, cell_off hxG x02, cell_off hxG x12⟩ ?_ ar_nil
      refine rg_done (by kernel_rfl) ?_
      exact ⟨(b2, c2), by kernel_rfl, w2, rfl, hb2, R2, C2⟩
  -- BEHIND IT
  rintro ⟨b2, c4⟩ w' ⟨w4, rfl, hb2, R4, D4⟩
  dsimp only at hb2 R4
  simp only [putAll, Act.put, List.setIfInBounds_toArray, List.set_cons_zero, List.set_cons_succ]
  have hB34 : Below W3.heap.size W3 w4 := joinB B4 D4
  subst hb2
  have hg4 := (hg3.keep hB34).off hgG (i := 0) (.slice (some ⟨W3.heap.size + 1, 0, none⟩) 1 c4)
  have R5 := (R3.keep hB34).set 0 (by simp) (.slice (some ⟨W3.heap.size + 1, 0, none⟩) 1 c4)
  have hNG : W3.heap.size + 1 ≠ G := by have := R3.lt; omega
  have R6 : Rw (w4.setCell ⟨G, 0, none⟩ (.slice (some ⟨W3.heap.size + 1, 0, none⟩) 1 c4)) 90 2 (W3.heap.size + 1) 1 c4 [kv, vv] := R4.same (Below.heap_setCell w4 _ _ _ hNG)
  have E6 : EnA (w4.setCell ⟨G, 0, none⟩ (.slice (some ⟨W3.heap.size + 1, 0, none⟩) 1 c4)) D ⟨kv, kl, vv, vl⟩ := ((hoff3 _ hE).keep hB34).off fun b hb hk => by
    obtain ⟨cs, k⟩ := hk
    obtain ⟨ds, k'⟩ := (R3.keep hB34).kind
    exact Below.heap_setCell w4 _ _ b (blk_ne k k' (by decide))
  have C6 : Chg F w (w4.setCell ⟨G, 0, none⟩ (.slice (some ⟨W3.heap.size + 1, 0, none⟩) 1 c4)) := (C03.trans (Chg.of (F := F) hB34) (fun _ _ h => h)).cell hFG _
  have cg5 := hg4.cell (i := 0) rfl
  have cG5 := R5.cell (i := 0) rfl
  have hfin : MapA (w4.setCell ⟨G, 0, none⟩ (.slice (some ⟨W3.heap.size + 1, 0, none⟩) 1 c4)) (fun x => x = g ∨ x = G ∨ x = W3.heap.size + 1) D g [⟨W3.heap.size + 1, c4, [⟨kv, kl, vv, vl⟩]⟩] := by
    refine ⟨⟨_, hg4, .inl rfl, .inr ⟨G, C, rfl, .inr (.inl rfl), R5⟩⟩, fun p hp => ?_, by simp, fun b hb => ?_⟩
    · simp at hp
      subst hp
      exact ⟨⟨R6, fun e he => by simp at he; subst he; exact E6⟩, .inr (.inr rfl)⟩
    · rcases hb with rfl | rfl | rfl
      · exact ⟨_, _, hg4, by decide⟩
      · obtain ⟨ds, k⟩ := R5.kind
        exact ⟨ds, _, k, by decide⟩
      · obtain ⟨ds, k⟩ := R6.kind
        exact ⟨ds, _, k, by decide⟩
  generalize (w4.setCell ⟨G, 0, none⟩ (.slice (some ⟨W3.heap.size + 1, 0, none⟩) 1 c4)) = W6 at *
  go_wp2
  go_end0
  refine ⟨_, _, rfl, ?_, hfin, fun b hb => ?_, C6⟩
  · rfl
  · rcases hb with rfl | rfl | rfl
    · exact .inl hFg
    · exact hFG
    · exact .inr (by omega)
end Pg
end Go.Proofs.Ytplminnejheceaa
