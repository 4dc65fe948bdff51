/- remove and Delete. -/
import Derived.Test.YtplminnejheceaaPgK
namespace Go.Proofs.Ytplminnejheceaa
namespace Pg
open Go.RowKit Go.Lib

/-- the entry at place q of page i taken away -/
def rmQ (P : List (List En)) (i q : Nat) : List (List En) :=
  let es := (P.getD i []).take q ++ (P.getD i []).drop (q + 1)
  if es = [] then P.take i ++ P.drop (i + 1)
  else
    let P1 := P.set i es
    if jnb P1 i then jnQ P1 i else if 1 ≤ i ∧ jnb P1 (i - 1) then jnQ P1 (i - 1) else P1
def delQ (P : List (List En)) (k : List Int) : List (List En) :=
  if has P k then rmQ P (pgi P k) (plc (kys (P.getD (pgi P k) [])) k) else P
theorem rm_flat (es : List En) (q : Nat) : (flat es).take (q * 2) ++ (flat es).drop ((q + 1) * 2) = flat (es.take q ++ es.drop (q + 1)) := by
  rw [flat_take, flat_drop, flat_append]
set_option maxHeartbeats 4000000 in
set_option maxRecDepth 100000 in
theorem remove_any {w : World} {F D : Nat → Prop} {g i q : Nat} {L : List Pg} {p : Pg} (A : MapA w F D g L) (hi : L[i]? = some p) (hq : q < p.es.length) (hs : ∀ es ∈ ens L, es.length ≤ 32) (hf : ∀ es ∈ ens L, es ≠ []) (hn : L.length ≤ 100000000) :
    Calls Try.prog 68 #[.pointer (some ⟨g, 0, none⟩), .int .i64 i, .int .i64 q] w fun e' w' => ∃ F' L', e' = .returned (.tuple #[]) ∧ ens L' = rmQ (ens L) i q ∧ MapA w' F' D g L' ∧ (∀ b, F' b → F b ∨ w.heap.size ≤ b) ∧ Chg F w w' := by
  have hil := (List.getElem?_eq_some_iff.1 hi).1
  have hL : L ≠ [] := fun e => by subst e; simp at hil
  obtain ⟨G, C, hg, hFg, hFG, hR⟩ := A.opn hL
  have hp := A.pages p (List.mem_of_getElem? hi)
  have h2 := hs p.es (List.mem_map.2 ⟨p, List.mem_of_getElem? hi, rfl⟩)
  have cg := hg.cell (i := 0) rfl
  have cG := hR.cell (i := i) (v := p.v) (by simp [hi])
  obtain ⟨n, hnn⟩ : ∃ n, Hid (L.length = n) := ⟨_, rfl⟩
  obtain ⟨m, hmm⟩ : ∃ m, Hid (p.es.length = m) := ⟨_, rfl⟩
  simp only [Pg.v] at cG
  rw [hnn.out] at cg
  rw [hmm.out] at cG
  have cgd : w.drew.cell? ⟨g, 0, none⟩ = some (.slice (some ⟨G, 0, none⟩) n C) := cg
  have cGd : w.drew.cell? ⟨G, i, none⟩ = some (.slice (some ⟨p.b, 0, none⟩) m p.c) := cG
  have hgG : g ≠ G := fun e => hR.ne_map hg e.symm
  have ng : g ≠ p.b := fun e => hp.1.ne_map hg e.symm
  have nG : G ≠ p.b := fun e => hp.1.ne_row hR e.symm
  have hin : i < n := by have := hnn.out; omega
  have w1 : IntKind.i64.wrap ((q : Int) + 1) = (q : Int) + 1 := by rw [IntKind.wrap_i64]; omega
  have t1 := delE (i := q) hp.1.row.drew hq hp.1.one
  rw [hmm.out] at t1
  go_enter Try.func68, Try.ntmps68
  go_wp2
  -- REGION 0
  have hpp : Try.prog.underlying 84 = some (.slice 87) := by kernel_rfl
  refine rg_mid (X := Unit) (fun _ => [(some 6, .pointer (some ⟨g, 0, none⟩)), (some 7, .pointer (some ⟨g, 0, none⟩)), (some 8, .pointer (some ⟨g, 0, none⟩)), (some 9, .slice (some ⟨G, 0, none⟩) n C), (some 10, .int .i64 i), (some 11, .pointer (some ⟨g, 0, none⟩)), (some 12, .pointer (some ⟨g, 0, none⟩)), (some 13, .pointer (some ⟨g, 0, none⟩)), (some 14, .slice (some ⟨G, 0, none⟩) n C), (some 15, .int .i64 i), (some 16, .pointer (some ⟨G, i, none⟩)), (some 17, .slice (some ⟨p.b, 0, none⟩) m p.c), (some 18, .int .i64 q), (some 19, .int .i64 q), (some 20, .int .i64 ((q : Int) + 1)), (some 21, .slice (some ⟨p.b, 0, none⟩) (m - 1) p.c), (some 22, .pointer (some ⟨G, i, none⟩))]) (fun _ w' => ∃ w2, w' = w2.setCell ⟨G, i, none⟩ (.slice (some ⟨p.b, 0, none⟩) (m - 1) p.c) ∧ Rw w2 90 2 p.b (m - 1) p.c ((flat p.es).take (q * 2) ++ (flat p.es).drop ((q + 1) * 2)) ∧ Chg (· = p.b) w.drew w2) (fun w' => w'.cell? ⟨g, 0, none⟩ = some (.slice (some ⟨G, 0, none⟩) n C)) (by kernel_rfl) cgd ?_ ?_
  · have hS := cgd
    refine rg_take 0 (some 6) (.pointer (some ⟨g, 0, none⟩)) (by kernel_rfl) (fun _ _ => by kernel_rfl) (fun _ _ _ h => h) hS ?_
    refine rg_take 1 (some 7) (.pointer (some ⟨g, 0, none⟩)) (by kernel_rfl) (fun _ _ => by kernel_rfl) (fun _ _ _ h => h) hS ?_
    refine rg_take 2 (some 8) (.pointer (some ⟨g, 0, none⟩)) (by kernel_rfl) (fun _ _ => by kernel_rfl) (fun _ _ _ h => h) hS ?_
    refine rg_load 3 (some 9) (.slice (some ⟨G, 0, none⟩) n C) 84 8 (g) (0) (by kernel_rfl) (by kernel_rfl) (by kernel_rfl) (fun w' h => ld_pp h) (fun _ _ _ h => h) hS ?_
    refine rg_take 4 (some 10) (.int .i64 i) (by kernel_rfl) (fun _ _ => by kernel_rfl) (fun _ _ _ h => h) hS ?_
    refine rg_take 5 (some 11) (.pointer (some ⟨g, 0, none⟩)) (by kernel_rfl) (fun _ _ => by kernel_rfl) (fun _ _ _ h => h) hS ?_
    refine rg_take 6 (some 12) (.pointer (some ⟨g, 0, none⟩)) (by kernel_rfl) (fun _ _ => by kernel_rfl) (fun _ _ _ h => h) hS ?_
    refine rg_take 7 (some 13) (.pointer (some ⟨g, 0, none⟩)) (by kernel_rfl) (fun _ _ => by kernel_rfl) (fun _ _ _ h => h) hS ?_
    refine rg_load 8 (some 14) (.slice (some ⟨G, 0, none⟩) n C) 84 13 (g) (0) (by kernel_rfl) (by kernel_rfl) (by kernel_rfl) (fun w' h => ld_pp h) (fun _ _ _ h => h) hS ?_
    refine rg_take 9 (some 15) (.int .i64 i) (by kernel_rfl) (fun _ _ => by kernel_rfl) (fun _ _ _ h => h) hS ?_
    refine rg_take 10 (some 16) (.pointer (some ⟨G, i, none⟩)) (by kernel_rfl) (fun _ _ => run_ix (x := 14) (y := 15) (n := n) (c := C) (by kernel_rfl) hpp (by kernel_rfl) (by kernel_rfl) (rfl) (hin)) (fun _ _ _ h => h) hS ?_
    refine rg_take 12 (some 18) (.int .i64 q) (by kernel_rfl) (fun _ _ => by kernel_rfl) (fun _ _ _ h => h) hS ?_
    refine rg_take 13 (some 19) (.int .i64 q) (by kernel_rfl) (fun _ _ => by kernel_rfl) (fun _ _ _ h => h) hS ?_
    refine rg_eq 14 (some 20) (.int .i64 (IntKind.i64.wrap ((q : Int) + 1))) (.int .i64 ((q : Int) + 1)) (by rw [w1]) (by kernel_rfl) (fun _ _ => by kernel_rfl) (fun _ _ _ h => h) hS ?_
    refine rg_ready [11] (by kernel_rfl) (by simp) ?_
    refine ar_val 11 (some 17) (.slice (some ⟨p.b, 0, none⟩) m p.c) _ (by kernel_rfl) (run_lp 16 (by kernel_rfl) (by kernel_rfl) (ld_p cGd)) hS ?_ ar_nil
    refine rg_call 15 (some 21) 84 #[.slice (some ⟨p.b, 0, none⟩) m p.c, .int .i64 q, .int .i64 ((q : Int) + 1)] (by kernel_rfl) (by kernel_rfl) t1 ?_
    rintro e' w2 ⟨rfl, R2, C2⟩
    have cg2 : w2.cell? ⟨g, 0, none⟩ = _ := (World.cell?_of_block (a := ⟨g, 0, none⟩) (C2.same g (cell_lt cgd) ng)).trans cgd
    have cG2 : w2.cell? ⟨G, i, none⟩ = _ := (World.cell?_of_block (a := ⟨G, i, none⟩) (C2.same _ (cell_lt cGd) nG)).trans cGd
    have fG2 : w2.frozen? ⟨G, i, none⟩ = false := (hR.drew.chg C2 nG).free i
    refine ⟨_, rfl, cg2, ?_⟩
    replace hS := cg2
    refine rg_take 16 (some 22) (.pointer (some ⟨G, i, none⟩)) (by kernel_rfl) (fun _ _ => run_ix (x := 9) (y := 10) (n := n) (c := C) (by kernel_rfl) hpp (by kernel_rfl) (by kernel_rfl) (rfl) (hin)) (fun _ _ _ h => h) hS ?_
    refine rg_ready [17] (by kernel_rfl) (by simp) ?_
    refine ar_void 17 (w2.setCell ⟨G, i, none⟩ (.slice (some ⟨p.b, 0, none⟩) (m - 1) p.c)) (by kernel_rfl) (run_sp 22 21 (by kernel_rfl) (by kernel_rfl) (by kernel_rfl) cG2 fG2) (cell_off hgG cg2) ?_ ar_nil
    refine rg_done (by kernel_rfl) ?_
    exact ⟨(), by kernel_rfl, w2, rfl, R2, C2⟩
  -- BEHIND IT
  rintro - w' ⟨w2, rfl, R2, C2⟩
  simp only [putAll, Act.put, List.setIfInBounds_toArray, List.set_cons_zero, List.set_cons_succ]
  have C02 : Chg (· = p.b) w w2 := (Chg.of (F := (· = p.b)) (belowD w)).trans C2 (fun _ _ h => h)
  obtain ⟨p', hp'⟩ : ∃ p' : Pg, Hid (p' = ⟨p.b, p.c, p.es.take q ++ p.es.drop (q + 1)⟩) := ⟨_, rfl⟩
  have hlen : (p.es.take q ++ p.es.drop (q + 1)).length = m - 1 := by have := hmm.out; simp; omega
  have hA' : PgA w2 D p' := by
    rw [hp'.out]
    refine ⟨?_, fun e he => ?_⟩
    · show Rw w2 _ 2 p.b (p.es.take q ++ p.es.drop (q + 1)).length p.c _
      rw [hlen]; exact R2.to (rm_flat p.es q)
    · have he' : e ∈ p.es := by
        rcases List.mem_append.1 he with h | h
        · exact List.mem_of_mem_take h
        · exact List.mem_of_mem_drop h
      refine (hp.1.ents e he').off fun b hb hk => C02.same b hb fun f => ?_
      subst f
      obtain ⟨cs, k⟩ := hk
      obtain ⟨ds, k'⟩ := hp.1.row.kind
      exact blk_ne k k' (by decide) rfl
  have hv' : p'.v = .slice (some ⟨p.b, 0, none⟩) (m - 1) p.c := by rw [hp'.out]; simp only [Pg.v]; rw [hlen]
  have hb' : p'.b = p.b := by rw [hp'.out]
  have he' : p'.es = p.es.take q ++ p.es.drop (q + 1) := by rw [hp'.out]
  obtain ⟨A3, C3⟩ := A.put (p' := p') (D' := D) hg hFg hFG hR hi C02 (.inl hb') hA' (fun _ _ h => h)
  rw [hv', hb'] at A3
  rw [hv'] at C3
  have hF3 : ∀ b, ((F b ∧ b ≠ p.b) ∨ b = p.b) → F b := fun b h => h.elim (fun h => h.1) (fun h => by rw [h]; exact hp.2)
  have cg2 : w2.cell? ⟨g, 0, none⟩ = _ := (World.cell?_of_block (a := ⟨g, 0, none⟩) (C02.same g (cell_lt cg) ng)).trans cg
  have cG2 : w2.cell? ⟨G, i, none⟩ = _ := (World.cell?_of_block (a := ⟨G, i, none⟩) (C02.same _ (cell_lt cG) nG)).trans cG
  have cg3 : (w2.setCell ⟨G, i, none⟩ (.slice (some ⟨p.b, 0, none⟩) (m - 1) p.c)).cell? ⟨g, 0, none⟩ = some (.slice (some ⟨G, 0, none⟩) n C) := cell_off hgG cg2
  have cG3 : (w2.setCell ⟨G, i, none⟩ (.slice (some ⟨p.b, 0, none⟩) (m - 1) p.c)).cell? ⟨G, i, none⟩ = some (.slice (some ⟨p.b, 0, none⟩) (m - 1) p.c) := World.cell?_setCell_same' _ _ _ (by rw [cG2]; rfl)
  have hgb3 := (hg.chg C02 ng).off hgG (i := i) (.slice (some ⟨p.b, 0, none⟩) (m - 1) p.c)
  generalize (w2.setCell ⟨G, i, none⟩ (.slice (some ⟨p.b, 0, none⟩) (m - 1) p.c)) = W3 at *
  generalize hF3d : (fun x => (F x ∧ x ≠ p.b) ∨ x = p.b) = F3 at A3
  have hF3' : ∀ b, F3 b → F b := fun b h => hF3 b (by rw [← hF3d] at h; exact h)
  have hi3 : (L.set i p')[i]? = some p' := by rw [List.getElem?_set_self hil]
  have hE3 : ens (L.set i p') = (ens L).set i (p.es.take q ++ p.es.drop (q + 1)) := by rw [ens_set, he']
  have hs3 : ∀ es ∈ ens (L.set i p'), es.length ≤ 32 := fun es he => by
    rw [hE3] at he
    rcases List.mem_or_eq_of_mem_set he with h | h
    · exact hs es h
    · rw [h, hlen]; have := hmm.out; omega
  have hln3 : (L.set i p').length = n := by rw [List.length_set]; exact hnn.out
  have hX : p.es.take q ++ p.es.drop (q + 1) = [] ∨ p.es.take q ++ p.es.drop (q + 1) ≠ [] := Classical.em _
  have hRm : Hid (rmQ (ens L) i q = if p.es.take q ++ p.es.drop (q + 1) = [] then (ens L).take i ++ (ens L).drop (i + 1) else if jnb (ens (L.set i p')) i then jnQ (ens (L.set i p')) i else if 1 ≤ i ∧ jnb (ens (L.set i p')) (i - 1) then jnQ (ens (L.set i p')) (i - 1) else ens (L.set i p')) := by
    show _ = _
    unfold rmQ
    rw [ens_getD hi, hE3]
  rcases hX with hX | hX
  · have hm1 : m = 1 := by rw [hX] at hlen; simp at hlen; have := hmm.out; omega
    obtain ⟨G2, D3, hg3, hFg3, hFG3, hR3⟩ := A3.opn (by simp [hL])
    obtain ⟨rfl, rfl⟩ : G2 = G ∧ D3 = C := by
      have := (hg3.eq hgb3).1
      simp at this
      exact ⟨this.1, this.2⟩
    have hR3' := hR3
    rw [hln3] at hR3'
    have t4 := delP (i := i) hR3' (by omega) (pv_one _)
    have w3 : IntKind.i64.wrap ((i : Int) + 1) = (i : Int) + 1 := by rw [IntKind.wrap_i64]; have := hnn.out; omega
    have cG3' : W3.cell? ⟨G2, i, none⟩ = some (.slice (some ⟨p.b, 0, none⟩) 0 p.c) := by rw [hm1] at cG3; exact cG3
    have z1 : (i : Int) < n := by omega
    have hsub : ((L.set i p').take i ++ (L.set i p').drop (i + 1)).Sublist (L.set i p') := by
      have h := List.Sublist.append (List.Sublist.refl ((L.set i p').take i)) (List.drop_sublist 1 ((L.set i p').drop i))
      rw [List.drop_drop, List.take_append_drop] at h
      exact h
    have hEq : Hid (ens ((L.set i p').take i ++ (L.set i p').drop (i + 1)) = rmQ (ens L) i q) := by
      show _ = _
      rw [hRm.out, if_pos hX, List.take_set_of_le (Nat.le_refl _), List.drop_set_of_lt (by omega)]
      simp [ens, List.map_take, List.map_drop]
    have HX : Hid _ := hX
    clear hX hRm cG3 hm1
    go_wp2_with (go_at_call 85; refine t4.mono ?_; rintro e' w5 ⟨rfl, R5, C5⟩; have cg5 : w5.cell? ⟨g, 0, none⟩ = _ := (World.cell?_of_block (a := ⟨g, 0, none⟩) (C5.same g (cell_lt cg3) hgG)).trans cg3; have fg5 : w5.frozen? ⟨g, 0, none⟩ = false := (hgb3.chg C5 hgG).free 0)
    go_end0
    obtain ⟨A6, C6⟩ := mapA_swap (w := W3) (w1 := w5) (F := F3) (D := D) (g := g) (G := G2) (G' := G2) (C' := D3) (n := n - 1) (L' := (L.set i p').take i ++ (L.set i p').drop (i + 1))
      (fun p hp => A3.pages p (hsub.mem hp)) (A3.apart.sublist (hsub.map _)) A3.kind hgb3 hFg3 hFG3 (fun e => hgG e.symm) C5 (fun p hp => (A3.pages p (hsub.mem hp)).1.ne_row hR3)
      (by simp; have := hnn.out; omega) (by simpa [List.map_take, List.map_drop] using R5)
    refine ⟨_, _, rfl, hEq.out, A6, fun b hb => ?_, C3.trans C6 fun b _ h => hF3' b h⟩
    rcases hb with ⟨h, _⟩ | rfl
    · exact .inl (hF3' b h)
    · exact .inl (hF3' _ hFG3)
  · have hm1 : 0 < m - 1 := by
      rw [← hlen]; exact List.length_pos_iff.2 hX
    obtain ⟨m1, hm2⟩ : ∃ m1, Hid (m - 1 = m1) := ⟨_, rfl⟩
    rw [hm2.out] at cG3 hm1
    have z0 : ¬ ((m1 : Int) = 0) := by omega
    have z1 : (i : Int) < n := by omega
    have w3 : IntKind.i64.wrap ((i : Int) - 1) = (i : Int) - 1 := by rw [IntKind.wrap_i64]; omega
    have hRm2 := hRm.out
    rw [if_neg hX] at hRm2
    have hRm : Hid _ := hRm2
    clear hRm2
    have HX : Hid _ := hX
    clear hX
    have hf3 : ∀ es ∈ ens (L.set i p'), es ≠ [] := fun es he => by
      rw [hE3] at he
      rcases List.mem_or_eq_of_mem_set he with h | h
      · exact hf es h
      · rw [h]; exact HX.out
    have hjn : ∀ (W : World) (j : Nat), MapA W F3 D g (L.set i p') → jnb (ens (L.set i p')) j = true → Calls Try.prog 87 #[.pointer (some ⟨g, 0, none⟩), .int .i64 j] W fun e' w' => ∃ F' L', e' = .returned (.tuple #[]) ∧ ens L' = jnQ (ens (L.set i p')) j ∧ MapA w' F' D g L' ∧ (∀ b, F' b → F3 b ∨ W.heap.size ≤ b) ∧ Chg F3 W w' := fun W j AW hj => by
      unfold jnb at hj
      simp only [Bool.and_eq_true, decide_eq_true_eq] at hj
      have hl : j + 1 < (L.set i p').length := by have := hj.1; simpa [ens] using this
      obtain ⟨a, ha⟩ : ∃ a, (L.set i p')[j]? = some a := ⟨_, List.getElem?_eq_getElem (by omega)⟩
      obtain ⟨c, hc⟩ : ∃ c, (L.set i p')[j + 1]? = some c := ⟨_, List.getElem?_eq_getElem hl⟩
      have ma : a.es ∈ ens (L.set i p') := List.mem_map.2 ⟨a, List.mem_of_getElem? ha, rfl⟩
      have mc : c.es ∈ ens (L.set i p') := List.mem_map.2 ⟨c, List.mem_of_getElem? hc, rfl⟩
      have s1 := hs3 _ ma
      have s2 := hs3 _ mc
      exact join_any AW ha hc (by rw [hln3]; have := hnn.out; omega) (List.length_pos_iff.2 (hf3 _ ma)) (by omega) (by omega)
    have tj := jn_any A3 (i := i) (by omega) (by rw [hln3]; have := hnn.out; omega) (fun es he => by have := hs3 es he; omega)
    by_cases h1 : jnb (ens (L.set i p')) i = true
    · have hEq : Hid (rmQ (ens L) i q = jnQ (ens (L.set i p')) i) := by show _ = _; rw [hRm.out, if_pos h1]
      have t5 : ∀ W, Below W3.heap.size W3 W → _ := fun W hB => hjn W i (A3.keep hB) h1
      rw [h1] at tj
      clear hjn h1 hRm
      go_wp2_with (first
        | (go_at_call 86; refine tj.mono ?_; rintro e' w5 ⟨rfl, hB5⟩; have t6 := t5 w5 hB5; clear t5 tj)
        | (go_at_call 87; refine t6.mono ?_; rintro e' w6 ⟨F6, L6, rfl, hE6, A6, hF6, C6⟩))
      go_end0
      refine ⟨F6, L6, rfl, hE6.trans hEq.out.symm, A6, fun b hb => ?_, (C3.trans (Chg.of (F := F) hB5) (fun _ _ h => h)).trans C6 fun b _ h => hF3' b h⟩
      rcases hF6 b hb with h | h
      · exact .inl (hF3' b h)
      · exact .inr (by have := C3.size; have := hB5.size; omega)
    · have h1' : jnb (ens (L.set i p')) i = false := by simpa using h1
      by_cases hi0 : i = 0
      · have hEq : Hid (rmQ (ens L) i q = ens (L.set i p')) := by show _ = _; rw [hRm.out, if_neg h1, if_neg (by omega)]
        rw [h1'] at tj
        have tn : ∀ W : World, Calls Try.prog 86 #[.pointer (some ⟨g, 0, none⟩), .int .i64 (-1)] W _ := fun W => jn_neg
        have mk : True := trivial
        clear hjn h1 hRm h1'
        subst hi0
        go_wp2_with (first
          | (go_at_call 86; clear mk; refine tj.mono ?_; rintro e' w5 ⟨rfl, hB5⟩; clear tj)
          | (go_at_call 86; refine (tn _).mono ?_; rintro e' w6 ⟨rfl, hB6⟩))
        go_end0
        have hB := joinB hB5 hB6
        first
          | exact ⟨F3, _, rfl, hEq.out.symm, A3.keep hB, fun b hb => .inl (hF3' b hb), C3.trans (Chg.of (F := F) hB) (fun _ _ h => h)⟩
          | exact ⟨rfl, F3, _, hEq.out.symm, A3.keep hB, fun b hb => .inl (hF3' b hb), C3.trans (Chg.of (F := F) hB) (fun _ _ h => h)⟩
      · obtain ⟨j, rfl⟩ : ∃ j, i = j + 1 := ⟨i - 1, by omega⟩
        have tk : ∀ W, Below W3.heap.size W3 W → Calls Try.prog 86 #[.pointer (some ⟨g, 0, none⟩), .int .i64 j] W _ := fun W hB => jn_any (A3.keep hB) (i := j) (by omega) (by rw [hln3]; have := hnn.out; omega) (fun es he => by have := hs3 es he; omega)
        have e1 : ((j + 1 : Nat) : Int) - 1 = (j : Int) := by omega
        have e2 : (j : Int) + 1 - 1 = (j : Int) := by omega
        rw [h1'] at tj
        have mk : True := trivial
        have mk2 : True := trivial
        by_cases h3 : jnb (ens (L.set (j + 1) p')) j = true
        · have hEq : Hid (rmQ (ens L) (j + 1) q = jnQ (ens (L.set (j + 1) p')) j) := by show _ = _; rw [hRm.out, if_neg h1, if_pos ⟨by omega, by simpa using h3⟩]; rfl
          have t5 : ∀ W, Below W3.heap.size W3 W → _ := fun W hB => hjn W j (A3.keep hB) h3
          rw [h3] at tk
          clear hjn h1 hRm h1' h3
          go_wp2_with (first
            | (go_at_call 86; clear mk; refine tj.mono ?_; rintro e' w5 ⟨rfl, hB5⟩; have tk1 := tk w5 hB5; clear tj tk)
            | (go_at_call 86; refine tk1.mono ?_; rintro e' w6 ⟨rfl, hB6⟩; have hB := joinB hB5 hB6; have t6 := t5 w6 hB; clear t5 tk1)
            | (go_at_call 87; refine t6.mono ?_; rintro e' w7 ⟨F6, L6, rfl, hE6, A6, hF6, C6⟩))
          go_end0
          refine ⟨F6, L6, rfl, hE6.trans hEq.out.symm, A6, fun b hb => ?_, (C3.trans (Chg.of (F := F) hB) (fun _ _ h => h)).trans C6 fun b _ h => hF3' b h⟩
          rcases hF6 b hb with h | h
          · exact .inl (hF3' b h)
          · exact .inr (by have := C3.size; have := hB.size; omega)
        · have h3' : jnb (ens (L.set (j + 1) p')) j = false := by simpa using h3
          have hEq : Hid (rmQ (ens L) (j + 1) q = ens (L.set (j + 1) p')) := by show _ = _; rw [hRm.out, if_neg h1, if_neg (fun h => h3 (by simpa using h.2))]
          rw [h3'] at tk
          clear hjn h1 hRm h1' h3 h3'
          go_wp2_with (first
            | (go_at_call 86; clear mk; refine tj.mono ?_; rintro e' w5 ⟨rfl, hB5⟩; have tk1 := tk w5 hB5; clear tj tk)
            | (go_at_call 86; refine tk1.mono ?_; rintro e' w6 ⟨rfl, hB6⟩; have hB := joinB hB5 hB6; clear tk1))
          go_end0
          first
            | exact ⟨F3, _, rfl, hEq.out.symm, A3.keep hB, fun b hb => .inl (hF3' b hb), C3.trans (Chg.of (F := F) hB) (fun _ _ h => h)⟩
            | exact ⟨rfl, F3, _, hEq.out.symm, A3.keep hB, fun b hb => .inl (hF3' b hb), C3.trans (Chg.of (F := F) hB) (fun _ _ h => h)⟩
end Pg
end Go.Proofs.Ytplminnejheceaa
