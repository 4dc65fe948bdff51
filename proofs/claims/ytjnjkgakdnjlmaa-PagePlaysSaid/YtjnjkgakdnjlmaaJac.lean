/- Several texts, joined: PgL, PgN, PgO, PgRf, PgY, PgIa, PgHd, PgIb, PgIc. -/
import Derived.Test.YtjnjkgakdnjlmaaJab
import Derived.RangeFuncNested
import Derived.RangeFuncBound
import Derived.RangeFuncCalls
import Derived.RangeFuncLeaves
import Derived.Shelf.Abstract
import Derived.Shelf.RegionOpen
import Derived.OwnWalkIn
import Derived.TacticsInMore
import Derived.LoopNIn
import Derived.LoopIn
namespace Go.Proofs.Ytjnjkgakdnjlmaa
namespace Pg
open Go.RowKit Go.Lib

/-- the entry at place q of page i taken away -/
def rmQ (P : List (List En)) (i q : Nat) : List (List En) :=
  let es := (P.getD i []).take q ++ (P.getD i []).drop (q + 1)
  if es = [] then P.take i ++ P.drop (i + 1)
  else
    let P1 := P.set i es
    if jnb P1 i then jnQ P1 i else if 1 ≤ i ∧ jnb P1 (i - 1) then jnQ P1 (i - 1) else P1
def delQ (P : List (List En)) (k : List Int) : List (List En) :=
  if has P k then rmQ P (pgi P k) (plc (kys (P.getD (pgi P k) [])) k) else P
theorem rm_flat (es : List En) (q : Nat) : (flat es).take (q * 2) ++ (flat es).drop ((q + 1) * 2) = flat (es.take q ++ es.drop (q + 1)) := by
  rw [flat_take, flat_drop, flat_append]
set_option maxHeartbeats 4000000 in
set_option maxRecDepth 100000 in
theorem remove_any {w : World} {F D : Nat → Prop} {g i q : Nat} {L : List Pg} {p : Pg} (A : MapA w F D g L) (hi : L[i]? = some p) (hq : q < p.es.length) (hs : ∀ es ∈ ens L, es.length ≤ 32) (hf : ∀ es ∈ ens L, es ≠ []) (hn : L.length ≤ 100000000) :
    Calls Try.prog 37 #[.pointer (some ⟨g, 0, none⟩), .int .i64 i, .int .i64 q] w fun e' w' => ∃ F' L', e' = .returned (.tuple #[]) ∧ ens L' = rmQ (ens L) i q ∧ MapA w' F' D g L' ∧ (∀ b, F' b → F b ∨ w.heap.size ≤ b) ∧ Chg F w w' := by
  have hil := (List.getElem?_eq_some_iff.1 hi).1
  have hL : L ≠ [] := fun e => by subst e; simp at hil
  obtain ⟨G, C, hg, hFg, hFG, hR⟩ := A.opn hL
  have hp := A.pages p (List.mem_of_getElem? hi)
  have h2 := hs p.es (List.mem_map.2 ⟨p, List.mem_of_getElem? hi, rfl⟩)
  have cg := hg.cell (i := 0) rfl
  have cG := hR.cell (i := i) (v := p.v) (by simp [hi])
  obtain ⟨n, hnn⟩ : ∃ n, Hid (L.length = n) := ⟨_, rfl⟩
  obtain ⟨m, hmm⟩ : ∃ m, Hid (p.es.length = m) := ⟨_, rfl⟩
  simp only [Pg.v] at cG
  rw [hnn.out] at cg
  rw [hmm.out] at cG
  have cgd : w.drew.cell? ⟨g, 0, none⟩ = some (.slice (some ⟨G, 0, none⟩) n C) := cg
  have cGd : w.drew.cell? ⟨G, i, none⟩ = some (.slice (some ⟨p.b, 0, none⟩) m p.c) := cG
  have hgG : g ≠ G := fun e => hR.ne_map hg e.symm
  have ng : g ≠ p.b := fun e => hp.1.ne_map hg e.symm
  have nG : G ≠ p.b := fun e => hp.1.ne_row hR e.symm
  have hin : i < n := by have := hnn.out; omega
  have w1 : IntKind.i64.wrap ((q : Int) + 1) = (q : Int) + 1 := by rw [IntKind.wrap_i64]; omega
  have t1 := delE (i := q) hp.1.row.drew hq hp.1.one
  rw [hmm.out] at t1
  go_enter Try.func37, Try.ntmps37
  go_wp2
  -- REGION 0
  have hpp : Try.prog.underlying 59 = some (.slice 66) := by kernel_rfl
  refine rg_mid (X := Unit) (fun _ => [(some 6, .pointer (some ⟨g, 0, none⟩)), (some 7, .pointer (some ⟨g, 0, none⟩)), (some 8, .pointer (some ⟨g, 0, none⟩)), (some 9, .slice (some ⟨G, 0, none⟩) n C), (some 10, .int .i64 i), (some 11, .pointer (some ⟨g, 0, none⟩)), (some 12, .pointer (some ⟨g, 0, none⟩)), (some 13, .pointer (some ⟨g, 0, none⟩)), (some 14, .slice (some ⟨G, 0, none⟩) n C), (some 15, .int .i64 i), (some 16, .pointer (some ⟨G, i, none⟩)), (some 17, .slice (some ⟨p.b, 0, none⟩) m p.c), (some 18, .int .i64 q), (some 19, .int .i64 q), (some 20, .int .i64 ((q : Int) + 1)), (some 21, .slice (some ⟨p.b, 0, none⟩) (m - 1) p.c), (some 22, .pointer (some ⟨G, i, none⟩))]) (fun _ w' => ∃ w2, w' = w2.setCell ⟨G, i, none⟩ (.slice (some ⟨p.b, 0, none⟩) (m - 1) p.c) ∧ Rw w2 65 2 p.b (m - 1) p.c ((flat p.es).take (q * 2) ++ (flat p.es).drop ((q + 1) * 2)) ∧ Chg (· = p.b) w.drew w2) (fun w' => w'.cell? ⟨g, 0, none⟩ = some (.slice (some ⟨G, 0, none⟩) n C)) (by kernel_rfl) cgd ?_ ?_
  · have hS := cgd
    refine rg_take 0 (some 6) (.pointer (some ⟨g, 0, none⟩)) (by kernel_rfl) (fun _ _ => by kernel_rfl) (fun _ _ _ h => h) hS ?_
    refine rg_take 1 (some 7) (.pointer (some ⟨g, 0, none⟩)) (by kernel_rfl) (fun _ _ => by kernel_rfl) (fun _ _ _ h => h) hS ?_
    refine rg_take 2 (some 8) (.pointer (some ⟨g, 0, none⟩)) (by kernel_rfl) (fun _ _ => by kernel_rfl) (fun _ _ _ h => h) hS ?_
    refine rg_load 3 (some 9) (.slice (some ⟨G, 0, none⟩) n C) 59 8 (g) (0) (by kernel_rfl) (by kernel_rfl) (by kernel_rfl) (fun w' h => ld_pp h) (fun _ _ _ h => h) hS ?_
    refine rg_take 4 (some 10) (.int .i64 i) (by kernel_rfl) (fun _ _ => by kernel_rfl) (fun _ _ _ h => h) hS ?_
    refine rg_take 5 (some 11) (.pointer (some ⟨g, 0, none⟩)) (by kernel_rfl) (fun _ _ => by kernel_rfl) (fun _ _ _ h => h) hS ?_
    refine rg_take 6 (some 12) (.pointer (some ⟨g, 0, none⟩)) (by kernel_rfl) (fun _ _ => by kernel_rfl) (fun _ _ _ h => h) hS ?_
    refine rg_take 7 (some 13) (.pointer (some ⟨g, 0, none⟩)) (by kernel_rfl) (fun _ _ => by kernel_rfl) (fun _ _ _ h => h) hS ?_
    refine rg_load 8 (some 14) (.slice (some ⟨G, 0, none⟩) n C) 59 13 (g) (0) (by kernel_rfl) (by kernel_rfl) (by kernel_rfl) (fun w' h => ld_pp h) (fun _ _ _ h => h) hS ?_
    refine rg_take 9 (some 15) (.int .i64 i) (by kernel_rfl) (fun _ _ => by kernel_rfl) (fun _ _ _ h => h) hS ?_
    refine rg_take 10 (some 16) (.pointer (some ⟨G, i, none⟩)) (by kernel_rfl) (fun _ _ => run_ix (x := 14) (y := 15) (n := n) (c := C) (by kernel_rfl) hpp (by kernel_rfl) (by kernel_rfl) (rfl) (hin)) (fun _ _ _ h => h) hS ?_
    refine rg_take 12 (some 18) (.int .i64 q) (by kernel_rfl) (fun _ _ => by kernel_rfl) (fun _ _ _ h => h) hS ?_
    refine rg_take 13 (some 19) (.int .i64 q) (by kernel_rfl) (fun _ _ => by kernel_rfl) (fun _ _ _ h => h) hS ?_
    refine rg_eq 14 (some 20) (.int .i64 (IntKind.i64.wrap ((q : Int) + 1))) (.int .i64 ((q : Int) + 1)) (by rw [w1]) (by kernel_rfl) (fun _ _ => by kernel_rfl) (fun _ _ _ h => h) hS ?_
    refine rg_ready [11] (by kernel_rfl) (by simp) ?_
    refine ar_val 11 (some 17) (.slice (some ⟨p.b, 0, none⟩) m p.c) _ (by kernel_rfl) (run_lp 16 (by kernel_rfl) (by kernel_rfl) (ld_p cGd)) hS ?_ ar_nil
    refine rg_call 15 (some 21) 48 #[.slice (some ⟨p.b, 0, none⟩) m p.c, .int .i64 q, .int .i64 ((q : Int) + 1)] (by kernel_rfl) (by kernel_rfl) t1 ?_
    rintro e' w2 ⟨rfl, R2, C2⟩
    have cg2 : w2.cell? ⟨g, 0, none⟩ = _ := (World.cell?_of_block (a := ⟨g, 0, none⟩) (C2.same g (cell_lt cgd) ng)).trans cgd
    have cG2 : w2.cell? ⟨G, i, none⟩ = _ := (World.cell?_of_block (a := ⟨G, i, none⟩) (C2.same _ (cell_lt cGd) nG)).trans cGd
    have fG2 : w2.frozen? ⟨G, i, none⟩ = false := (hR.drew.chg C2 nG).free i
    refine ⟨_, rfl, cg2, ?_⟩
    replace hS := cg2
    refine rg_take 16 (some 22) (.pointer (some ⟨G, i, none⟩)) (by kernel_rfl) (fun _ _ => run_ix (x := 9) (y := 10) (n := n) (c := C) (by kernel_rfl) hpp (by kernel_rfl) (by kernel_rfl) (rfl) (hin)) (fun _ _ _ h => h) hS ?_
    refine rg_ready [17] (by kernel_rfl) (by simp) ?_
    refine ar_void 17 (w2.setCell ⟨G, i, none⟩ (.slice (some ⟨p.b, 0, none⟩) (m - 1) p.c)) (by kernel_rfl) (run_sp 22 21 (by kernel_rfl) (by kernel_rfl) (by kernel_rfl) cG2 fG2) (cell_off hgG cg2) ?_ ar_nil
    refine rg_done (by kernel_rfl) ?_
    exact ⟨(), by kernel_rfl, w2, rfl, R2, C2⟩
  -- BEHIND IT
  rintro - w' ⟨w2, rfl, R2, C2⟩
  simp only [putAll, Act.put, List.setIfInBounds_toArray, List.set_cons_zero, List.set_cons_succ]
  have C02 : Chg (· = p.b) w w2 := (Chg.of (F := (· = p.b)) (belowD w)).trans C2 (fun _ _ h => h)
  obtain ⟨p', hp'⟩ : ∃ p' : Pg, Hid (p' = ⟨p.b, p.c, p.es.take q ++ p.es.drop (q + 1)⟩) := ⟨_, rfl⟩
  have hlen : (p.es.take q ++ p.es.drop (q + 1)).length = m - 1 := by have := hmm.out; simp; omega
  have hA' : PgA w2 D p' := by
    rw [hp'.out]
    refine ⟨?_, fun e he => ?_⟩
    · show Rw w2 _ 2 p.b (p.es.take q ++ p.es.drop (q + 1)).length p.c _
      rw [hlen]; exact R2.to (rm_flat p.es q)
    · have he' : e ∈ p.es := by
        rcases List.mem_append.1 he with h | h
        · exact List.mem_of_mem_take h
        · exact List.mem_of_mem_drop h
      refine (hp.1.ents e he').off fun b hb hk => C02.same b hb fun f => ?_
      subst f
      obtain ⟨cs, k⟩ := hk
      obtain ⟨ds, k'⟩ := hp.1.row.kind
      exact blk_ne k k' (by decide) rfl
  have hv' : p'.v = .slice (some ⟨p.b, 0, none⟩) (m - 1) p.c := by rw [hp'.out]; simp only [Pg.v]; rw [hlen]
  have hb' : p'.b = p.b := by rw [hp'.out]
  have he' : p'.es = p.es.take q ++ p.es.drop (q + 1) := by rw [hp'.out]
  obtain ⟨A3, C3⟩ := A.put (p' := p') (D' := D) hg hFg hFG hR hi C02 (.inl hb') hA' (fun _ _ h => h)
  rw [hv', hb'] at A3
  rw [hv'] at C3
  have hF3 : ∀ b, ((F b ∧ b ≠ p.b) ∨ b = p.b) → F b := fun b h => h.elim (fun h => h.1) (fun h => by rw [h]; exact hp.2)
  have cg2 : w2.cell? ⟨g, 0, none⟩ = _ := (World.cell?_of_block (a := ⟨g, 0, none⟩) (C02.same g (cell_lt cg) ng)).trans cg
  have cG2 : w2.cell? ⟨G, i, none⟩ = _ := (World.cell?_of_block (a := ⟨G, i, none⟩) (C02.same _ (cell_lt cG) nG)).trans cG
  have cg3 : (w2.setCell ⟨G, i, none⟩ (.slice (some ⟨p.b, 0, none⟩) (m - 1) p.c)).cell? ⟨g, 0, none⟩ = some (.slice (some ⟨G, 0, none⟩) n C) := cell_off hgG cg2
  have cG3 : (w2.setCell ⟨G, i, none⟩ (.slice (some ⟨p.b, 0, none⟩) (m - 1) p.c)).cell? ⟨G, i, none⟩ = some (.slice (some ⟨p.b, 0, none⟩) (m - 1) p.c) := World.cell?_setCell_same' _ _ _ (by rw [cG2]; rfl)
  have hgb3 := (hg.chg C02 ng).off hgG (i := i) (.slice (some ⟨p.b, 0, none⟩) (m - 1) p.c)
  generalize (w2.setCell ⟨G, i, none⟩ (.slice (some ⟨p.b, 0, none⟩) (m - 1) p.c)) = W3 at *
  generalize hF3d : (fun x => (F x ∧ x ≠ p.b) ∨ x = p.b) = F3 at A3
  have hF3' : ∀ b, F3 b → F b := fun b h => hF3 b (by rw [← hF3d] at h; exact h)
  have hi3 : (L.set i p')[i]? = some p' := by rw [List.getElem?_set_self hil]
  have hE3 : ens (L.set i p') = (ens L).set i (p.es.take q ++ p.es.drop (q + 1)) := by rw [ens_set, he']
  have hs3 : ∀ es ∈ ens (L.set i p'), es.length ≤ 32 := fun es he => by
    rw [hE3] at he
    rcases List.mem_or_eq_of_mem_set he with h | h
    · exact hs es h
    · rw [h, hlen]; have := hmm.out; omega
  have hln3 : (L.set i p').length = n := by rw [List.length_set]; exact hnn.out
  have hX : p.es.take q ++ p.es.drop (q + 1) = [] ∨ p.es.take q ++ p.es.drop (q + 1) ≠ [] := Classical.em _
  have hRm : Hid (rmQ (ens L) i q = if p.es.take q ++ p.es.drop (q + 1) = [] then (ens L).take i ++ (ens L).drop (i + 1) else if jnb (ens (L.set i p')) i then jnQ (ens (L.set i p')) i else if 1 ≤ i ∧ jnb (ens (L.set i p')) (i - 1) then jnQ (ens (L.set i p')) (i - 1) else ens (L.set i p')) := by
    show _ = _
    unfold rmQ
    rw [ens_getD hi, hE3]
  rcases hX with hX | hX
  · have hm1 : m = 1 := by rw [hX] at hlen; simp at hlen; have := hmm.out; omega
    obtain ⟨G2, D3, hg3, hFg3, hFG3, hR3⟩ := A3.opn (by simp [hL])
    obtain ⟨rfl, rfl⟩ : G2 = G ∧ D3 = C := by
      have := (hg3.eq hgb3).1
      simp at this
      exact ⟨this.1, this.2⟩
    have hR3' := hR3
    rw [hln3] at hR3'
    have t4 := delP (i := i) hR3' (by omega) (pv_one _)
    have w3 : IntKind.i64.wrap ((i : Int) + 1) = (i : Int) + 1 := by rw [IntKind.wrap_i64]; have := hnn.out; omega
    have cG3' : W3.cell? ⟨G2, i, none⟩ = some (.slice (some ⟨p.b, 0, none⟩) 0 p.c) := by rw [hm1] at cG3; exact cG3
    have z1 : (i : Int) < n := by omega
    have hsub : ((L.set i p').take i ++ (L.set i p').drop (i + 1)).Sublist (L.set i p') := by
      have h := List.Sublist.append (List.Sublist.refl ((L.set i p').take i)) (List.drop_sublist 1 ((L.set i p').drop i))
      rw [List.drop_drop, List.take_append_drop] at h
      exact h
    have hEq : Hid (ens ((L.set i p').take i ++ (L.set i p').drop (i + 1)) = rmQ (ens L) i q) := by
      show _ = _
      rw [hRm.out, if_pos hX, List.take_set_of_le (Nat.le_refl _), List.drop_set_of_lt (by omega)]
      simp [ens, List.map_take, List.map_drop]
    have HX : Hid _ := hX
    clear hX hRm cG3 hm1
    go_wp2_with (go_at_call 49; refine t4.mono ?_; rintro e' w5 ⟨rfl, R5, C5⟩; have cg5 : w5.cell? ⟨g, 0, none⟩ = _ := (World.cell?_of_block (a := ⟨g, 0, none⟩) (C5.same g (cell_lt cg3) hgG)).trans cg3; have fg5 : w5.frozen? ⟨g, 0, none⟩ = false := (hgb3.chg C5 hgG).free 0)
    go_end0
    obtain ⟨A6, C6⟩ := mapA_swap (w := W3) (w1 := w5) (F := F3) (D := D) (g := g) (G := G2) (G' := G2) (C' := D3) (n := n - 1) (L' := (L.set i p').take i ++ (L.set i p').drop (i + 1))
      (fun p hp => A3.pages p (hsub.mem hp)) (A3.apart.sublist (hsub.map _)) A3.kind hgb3 hFg3 hFG3 (fun e => hgG e.symm) C5 (fun p hp => (A3.pages p (hsub.mem hp)).1.ne_row hR3)
      (by simp; have := hnn.out; omega) (by simpa [List.map_take, List.map_drop] using R5)
    refine ⟨_, _, rfl, hEq.out, A6, fun b hb => ?_, C3.trans C6 fun b _ h => hF3' b h⟩
    rcases hb with ⟨h, _⟩ | rfl
    · exact .inl (hF3' b h)
    · exact .inl (hF3' _ hFG3)
  · have hm1 : 0 < m - 1 := by
      rw [← hlen]; exact List.length_pos_iff.2 hX
    obtain ⟨m1, hm2⟩ : ∃ m1, Hid (m - 1 = m1) := ⟨_, rfl⟩
    rw [hm2.out] at cG3 hm1
    have z0 : ¬ ((m1 : Int) = 0) := by omega
    have z1 : (i : Int) < n := by omega
    have w3 : IntKind.i64.wrap ((i : Int) - 1) = (i : Int) - 1 := by rw [IntKind.wrap_i64]; omega
    have hRm2 := hRm.out
    rw [if_neg hX] at hRm2
    have hRm : Hid _ := hRm2
    clear hRm2
    have HX : Hid _ := hX
    clear hX
    have hf3 : ∀ es ∈ ens (L.set i p'), es ≠ [] := fun es he => by
      rw [hE3] at he
      rcases List.mem_or_eq_of_mem_set he with h | h
      · exact hf es h
      · rw [h]; exact HX.out
    have hjn : ∀ (W : World) (j : Nat), MapA W F3 D g (L.set i p') → jnb (ens (L.set i p')) j = true → Calls Try.prog 51 #[.pointer (some ⟨g, 0, none⟩), .int .i64 j] W fun e' w' => ∃ F' L', e' = .returned (.tuple #[]) ∧ ens L' = jnQ (ens (L.set i p')) j ∧ MapA w' F' D g L' ∧ (∀ b, F' b → F3 b ∨ W.heap.size ≤ b) ∧ Chg F3 W w' := fun W j AW hj => by
      unfold jnb at hj
      simp only [Bool.and_eq_true, decide_eq_true_eq] at hj
      have hl : j + 1 < (L.set i p').length := by have := hj.1; simpa [ens] using this
      obtain ⟨a, ha⟩ : ∃ a, (L.set i p')[j]? = some a := ⟨_, List.getElem?_eq_getElem (by omega)⟩
      obtain ⟨c, hc⟩ : ∃ c, (L.set i p')[j + 1]? = some c := ⟨_, List.getElem?_eq_getElem hl⟩
      have ma : a.es ∈ ens (L.set i p') := List.mem_map.2 ⟨a, List.mem_of_getElem? ha, rfl⟩
      have mc : c.es ∈ ens (L.set i p') := List.mem_map.2 ⟨c, List.mem_of_getElem? hc, rfl⟩
      have s1 := hs3 _ ma
      have s2 := hs3 _ mc
      exact join_any AW ha hc (by rw [hln3]; have := hnn.out; omega) (List.length_pos_iff.2 (hf3 _ ma)) (by omega) (by omega)
    have tj := jn_any A3 (i := i) (by omega) (by rw [hln3]; have := hnn.out; omega) (fun es he => by have := hs3 es he; omega)
    by_cases h1 : jnb (ens (L.set i p')) i = true
    · have hEq : Hid (rmQ (ens L) i q = jnQ (ens (L.set i p')) i) := by show _ = _; rw [hRm.out, if_pos h1]
      have t5 : ∀ W, Below W3.heap.size W3 W → _ := fun W hB => hjn W i (A3.keep hB) h1
      rw [h1] at tj
      clear hjn h1 hRm
      go_wp2_with (first
        | (go_at_call 50; refine tj.mono ?_; rintro e' w5 ⟨rfl, hB5⟩; have t6 := t5 w5 hB5; clear t5 tj)
        | (go_at_call 51; refine t6.mono ?_; rintro e' w6 ⟨F6, L6, rfl, hE6, A6, hF6, C6⟩))
      go_end0
      refine ⟨F6, L6, rfl, hE6.trans hEq.out.symm, A6, fun b hb => ?_, (C3.trans (Chg.of (F := F) hB5) (fun _ _ h => h)).trans C6 fun b _ h => hF3' b h⟩
      rcases hF6 b hb with h | h
      · exact .inl (hF3' b h)
      · exact .inr (by have := C3.size; have := hB5.size; omega)
    · have h1' : jnb (ens (L.set i p')) i = false := by simpa using h1
      by_cases hi0 : i = 0
      · have hEq : Hid (rmQ (ens L) i q = ens (L.set i p')) := by show _ = _; rw [hRm.out, if_neg h1, if_neg (by omega)]
        rw [h1'] at tj
        have tn : ∀ W : World, Calls Try.prog 50 #[.pointer (some ⟨g, 0, none⟩), .int .i64 (-1)] W _ := fun W => jn_neg
        have mk : True := trivial
        clear hjn h1 hRm h1'
        subst hi0
        go_wp2_with (first
          | (go_at_call 50; clear mk; refine tj.mono ?_; rintro e' w5 ⟨rfl, hB5⟩; clear tj)
          | (go_at_call 50; refine (tn _).mono ?_; rintro e' w6 ⟨rfl, hB6⟩))
        go_end0
        have hB := joinB hB5 hB6
        first
          | exact ⟨F3, _, rfl, hEq.out.symm, A3.keep hB, fun b hb => .inl (hF3' b hb), C3.trans (Chg.of (F := F) hB) (fun _ _ h => h)⟩
          | exact ⟨rfl, F3, _, hEq.out.symm, A3.keep hB, fun b hb => .inl (hF3' b hb), C3.trans (Chg.of (F := F) hB) (fun _ _ h => h)⟩
      · obtain ⟨j, rfl⟩ : ∃ j, i = j + 1 := ⟨i - 1, by omega⟩
        have tk : ∀ W, Below W3.heap.size W3 W → Calls Try.prog 50 #[.pointer (some ⟨g, 0, none⟩), .int .i64 j] W _ := fun W hB => jn_any (A3.keep hB) (i := j) (by omega) (by rw [hln3]; have := hnn.out; omega) (fun es he => by have := hs3 es he; omega)
        have e1 : ((j + 1 : Nat) : Int) - 1 = (j : Int) := by omega
        have e2 : (j : Int) + 1 - 1 = (j : Int) := by omega
        rw [h1'] at tj
        have mk : True := trivial
        have mk2 : True := trivial
        by_cases h3 : jnb (ens (L.set (j + 1) p')) j = true
        · have hEq : Hid (rmQ (ens L) (j + 1) q = jnQ (ens (L.set (j + 1) p')) j) := by show _ = _; rw [hRm.out, if_neg h1, if_pos ⟨by omega, by simpa using h3⟩]; rfl
          have t5 : ∀ W, Below W3.heap.size W3 W → _ := fun W hB => hjn W j (A3.keep hB) h3
          rw [h3] at tk
          clear hjn h1 hRm h1' h3
          go_wp2_with (first
            | (go_at_call 50; clear mk; refine tj.mono ?_; rintro e' w5 ⟨rfl, hB5⟩; have tk1 := tk w5 hB5; clear tj tk)
            | (go_at_call 50; refine tk1.mono ?_; rintro e' w6 ⟨rfl, hB6⟩; have hB := joinB hB5 hB6; have t6 := t5 w6 hB; clear t5 tk1)
            | (go_at_call 51; refine t6.mono ?_; rintro e' w7 ⟨F6, L6, rfl, hE6, A6, hF6, C6⟩))
          go_end0
          refine ⟨F6, L6, rfl, hE6.trans hEq.out.symm, A6, fun b hb => ?_, (C3.trans (Chg.of (F := F) hB) (fun _ _ h => h)).trans C6 fun b _ h => hF3' b h⟩
          rcases hF6 b hb with h | h
          · exact .inl (hF3' b h)
          · exact .inr (by have := C3.size; have := hB.size; omega)
        · have h3' : jnb (ens (L.set (j + 1) p')) j = false := by simpa using h3
          have hEq : Hid (rmQ (ens L) (j + 1) q = ens (L.set (j + 1) p')) := by show _ = _; rw [hRm.out, if_neg h1, if_neg (fun h => h3 (by simpa using h.2))]
          rw [h3'] at tk
          clear hjn h1 hRm h1' h3 h3'
          go_wp2_with (first
            | (go_at_call 50; clear mk; refine tj.mono ?_; rintro e' w5 ⟨rfl, hB5⟩; have tk1 := tk w5 hB5; clear tj tk)
            | (go_at_call 50; refine tk1.mono ?_; rintro e' w6 ⟨rfl, hB6⟩; have hB := joinB hB5 hB6; clear tk1))
          go_end0
          first
            | exact ⟨F3, _, rfl, hEq.out.symm, A3.keep hB, fun b hb => .inl (hF3' b hb), C3.trans (Chg.of (F := F) hB) (fun _ _ h => h)⟩
            | exact ⟨rfl, F3, _, hEq.out.symm, A3.keep hB, fun b hb => .inl (hF3' b hb), C3.trans (Chg.of (F := F) hB) (fun _ _ h => h)⟩
end Pg
end Go.Proofs.Ytjnjkgakdnjlmaa

namespace Go.Proofs.Ytjnjkgakdnjlmaa
namespace Pg
open Go.RowKit Go.Lib
set_option maxHeartbeats 2000000 in
set_option maxRecDepth 100000 in
theorem delete_any {w : World} {F D : Nat → Prop} {g : Nat} {L : List Pg} {kv : Value} {k : List Int} (A : MapA w F D g L) (O : Ord (ens L)) (hs : ∀ es ∈ ens L, es.length ≤ 32) (hn : L.length ≤ 100000000) (h : By w kv k) :
    Calls Try.prog 14 #[.pointer (some ⟨g, 0, none⟩), kv] w fun e w' => e = .returned (.bool (has (ens L) k)) ∧ ∃ F' L', ens L' = delQ (ens L) k ∧ MapA w' F' D g L' ∧ (∀ b, F' b → F b ∨ w.heap.size ≤ b) ∧ Chg F w w' := by
  by_cases hL : L = []
  · subst hL
    have t := find_nil (v := kv) A
    have e1 : has (ens []) k = false := rfl
    have e2 : Hid (delQ (ens []) k = ens []) := rfl
    rw [e1]
    have HA := (show Hid _ from A)
    clear A O hs h
    go_enter Try.func14, Try.ntmps14
    go_wp2_with (go_at_call 32; refine t.mono ?_; rintro e' w1 ⟨rfl, rfl⟩)
    go_ret
    exact ⟨rfl, F, [], e2.out.symm, HA.out, fun b hb => .inl hb, Chg.refl _ _⟩
  · obtain ⟨p, hp, hpe⟩ := at_page hL k
    have hpm := List.mem_of_getElem? hp
    have hps := hs p.es (List.mem_map.2 ⟨p, hpm, rfl⟩)
    have t := find_at A O h (by omega) hp (by omega)
    have hh : has (ens L) k = thr (kys p.es) k := by
      unfold has
      rw [hpe]
      have : (ens L).isEmpty = false := by simp [ens, hL]
      simp [this]
    rw [hh]
    by_cases ht : thr (kys p.es) k = true
    · obtain ⟨e, he, hek⟩ := thr_get ht
      have hql := (List.getElem?_eq_some_iff.1 he).1
      have hD : Hid (delQ (ens L) k = rmQ (ens L) (pgi (ens L) k) (plc (kys p.es) k)) := by
        show _ = _
        unfold delQ
        rw [hh, ht, if_pos rfl, hpe]
      have tR : ∀ w', Below w.heap.size w w' → _ := fun w' hB => remove_any (A.keep hB) hp hql hs O.full hn
      rw [ht] at t ⊢
      generalize pgi (ens L) k = i at *
      generalize plc (kys p.es) k = q at *
      clear A O hs h ht hh
      go_enter Try.func14, Try.ntmps14
      go_wp2_with (first
        | (go_at_call 32; refine t.mono ?_; rintro e' w1 ⟨rfl, hB⟩; have tR1 := tR w1 hB; clear t tR)
        | (go_at_call 37; refine tR1.mono ?_; rintro e' w2 ⟨F', L', rfl, hE, hA, hF, hC⟩))
      go_ret
      exact ⟨rfl, F', L', hE.trans hD.out.symm, hA, fun b hb => (hF b hb).imp id (fun h => Nat.le_trans hB.size h), (Chg.of (F := F) hB).trans hC (fun _ _ h => h)⟩
    · have ht' : thr (kys p.es) k = false := by simpa using ht
      have hD : Hid (delQ (ens L) k = ens L) := by
        show _ = _
        unfold delQ
        rw [hh, ht', if_neg (by decide)]
      rw [ht'] at t ⊢
      generalize pgi (ens L) k = i at *
      generalize plc (kys p.es) k = q at *
      have HA := (show Hid _ from A)
      clear A O hs h ht ht' hh
      go_enter Try.func14, Try.ntmps14
      go_wp2_with (go_at_call 32; refine t.mono ?_; rintro e' w1 ⟨rfl, hB⟩)
      go_ret
      exact ⟨rfl, F, L, hD.out.symm, HA.out.keep hB, fun b hb => .inl hb, Chg.of hB⟩
set_option maxHeartbeats 1000000 in
set_option maxRecDepth 100000 in
theorem new_any {w : World} : Calls Try.prog 9 #[] w fun e w' => ∃ g, e = .returned (.pointer (some ⟨g, 0, none⟩)) ∧ g = w.heap.size ∧ MapA w' (· = g) (fun _ => False) g [] ∧ Below w.heap.size w w' := by
  go_enter Try.func9, Try.ntmps9
  go_wp2
  go_ret
  refine ⟨_, rfl, rfl, ⟨⟨_, blk_new w [.slice none 0 0] 61, rfl, .inl ⟨rfl, rfl⟩⟩, fun p hp => by simp at hp, by simp, fun b hb => ?_⟩, below_alloc w _⟩
  subst hb
  exact ⟨_, _, blk_new w [.slice none 0 0] 61, by decide⟩
theorem flen_succ {P : List (List En)} {k : Nat} {es : List En} (h : P[k]? = some es) : ((P.take (k + 1)).flatten).length = ((P.take k).flatten).length + es.length := by
  rw [List.take_add_one, h]
  simp
set_option maxHeartbeats 1000000 in
set_option maxRecDepth 100000 in
theorem len_any {w : World} {F D : Nat → Prop} {g : Nat} {L : List Pg} (A : MapA w F D g L) (hs : ∀ es ∈ ens L, es.length ≤ 1000) (hn : L.length ≤ 100000000) :
    Calls Try.prog 29 #[.pointer (some ⟨g, 0, none⟩)] w fun e w' => e = .returned (.int .i64 ((ens L).flatten.length)) ∧ w' = w := by
  obtain ⟨ao, c, hc, hc1, hc2, hat⟩ := A.rd
  obtain ⟨n, hnn⟩ : ∃ n, Hid (L.length = n) := ⟨_, rfl⟩
  rw [hnn.out] at hc hc1
  have hbd : ∀ k, k ≤ n → ((ens L).take k).flatten.length ≤ k * 1000 := fun k hk => by
    have h1 : ∀ (P : List (List En)), (∀ es ∈ P, es.length ≤ 1000) → P.flatten.length ≤ P.length * 1000 := fun P => by
      induction P with
      | nil => intro _; simp
      | cons a P ih =>
        intro h
        have := h a List.mem_cons_self
        have := ih (fun es he => h es (List.mem_cons_of_mem _ he))
        simp only [List.flatten_cons, List.length_append, List.length_cons]; omega
    have h2 := h1 ((ens L).take k) (fun es he => hs es (List.mem_of_mem_take he))
    have h3 : ((ens L).take k).length ≤ k := by rw [List.length_take]; omega
    have : ((ens L).take k).length * 1000 ≤ k * 1000 := Nat.mul_le_mul_right _ h3
    omega
  have hbd : Hid _ := hbd
  have hlen : Hid ((ens L).length = n) := by show _ = _; rw [← hnn.out]; simp [ens]
  obtain ⟨N0, hN0⟩ : ∃ N0, Hid ((ens L).flatten.length = N0) := ⟨_, rfl⟩
  rw [hN0.out]
  go_enter Try.func29, Try.ntmps29
  go_wp2
  go_loopw [3, 11] (fun ts ti wr => wr = w ∧ ∃ k : Nat, k ≤ n ∧ ti = .int .i64 k ∧ ts = .int .i64 (((ens L).take k).flatten.length)) (fun _ ti _ => n - (intOf ti).toNat)
  case atStart => exact ⟨rfl, 0, Nat.zero_le _, rfl, by simp⟩
  case round =>
    obtain ⟨rfl, k, hk, rfl, rfl⟩ := hrel
    by_cases hlt : k < n
    · obtain ⟨p, hp⟩ : ∃ p, L[k]? = some p := ⟨L[k]'(by have := hnn.out; omega), List.getElem?_eq_getElem _⟩
      obtain ⟨G, rfl, cG⟩ := hat k p hp
      have hb1 := hbd.out k hk
      have hb2 := hs p.es (List.mem_map.2 ⟨p, List.mem_of_getElem? hp, rfl⟩)
      have hS := flen_succ (ens_get hp)
      simp only [Pg.v] at cG
      have z1 : (k : Int) < n := by omega
      have HS : Hid _ := hS
      clear hS
      generalize hy : ((ens L).take k).flatten.length = y at *
      have Hy : Hid _ := hy
      clear hy
      have w1 : IntKind.i64.wrap ((y : Int) + (p.es.length : Int)) = (y : Int) + (p.es.length : Int) := by rw [IntKind.wrap_i64]; have := hnn.out; omega
      go_wp2
      go_roundw
      case rel => exact ⟨trivial, k + 1, by omega, by go_num, by rw [HS.out]; simp⟩
      case measure => simp [intOf]; omega
    · have hkn : k = n := by omega
      have HE : Hid (((ens L).take k).flatten.length = N0) := by
        show _ = _
        rw [← hN0.out, List.take_of_length_le (by rw [hlen.out]; omega)]
      have z1 : ¬ ((k : Int) < n) := by omega
      generalize hy : ((ens L).take k).flatten.length = y at *
      go_wp2
      go_ret
      exact ⟨by rw [← HE.out]; rfl, rfl⟩
theorem KI : Kd Try.prog 54 3 1 8 (.int .i64 0) := ⟨by kernel_rfl, by kernel_rfl, rfl, by simp [Value.cells, Value.oneCell'], by decide⟩
theorem made_row {zc : Value} (n : Nat) (hz : zc.cells = #[zc]) : madeCells zc.cells n = (List.replicate n zc).toArray := by
  apply Array.ext
  · simp [size_madeCells, hz]
  · intro j h1 h2
    simp [madeCells, hz, Nat.mod_one]
/-- make of a list -/
theorem make_row {P : Program} {w : World} {T E : TypeId} {bytes : Nat} {z : Value} (H : Kd P T E 1 bytes z) (hz : z.cells = #[z]) (n : Nat) (hn : n ≤ 1000000000) (hb : bytes ≤ 1000) :
    ∃ w', (Instr.makeSlice T (.int .i64 n) (.int .i64 n)).run P w = .ok (.slice (some ⟨w.heap.size, 0, none⟩) n n) w' ∧ Rw w' E 1 w.heap.size n n (List.replicate n z) ∧ Below w.heap.size w w' := by
  obtain ⟨i, hi, hz0, hs, hb0⟩ := info_parts H.inf
  have hnb : n * i.bytes ≤ 1000000000 * 1000 := Nat.mul_le_mul hn (by rw [hb0]; exact hb)
  have hrun := run_make (P := P) w T E i z H.und hi hz0 .i64 .i64 (n : Int) (n : Int) (by omega) (by omega) (by
    rw [Int.mul_comm]
    have : (n : Int) * (i.bytes : Int) = ((n * i.bytes : Nat) : Int) := by rw [Int.natCast_mul]
    omega) (by omega)
  refine ⟨_, by simpa using hrun, ?_, below_alloc w _⟩
  rw [hs, Nat.mul_one, made_row n hz]
  exact blk_rw (blk_new w (List.replicate n z) E) (by simp) (by simp only [maxLen]; omega)
end Pg
end Go.Proofs.Ytjnjkgakdnjlmaa

namespace Go.Proofs.Ytjnjkgakdnjlmaa
namespace Pg
open Go.RowKit Go.Lib
/-- a list of ints in a block of its own -/
structure IntV (w : World) (B : Nat) (v : Value) (l : List Int) : Prop where
  ex : ∃ b c, v = .slice (some ⟨b, 0, none⟩) l.length c ∧ B ≤ b ∧ Rw w 3 1 b l.length c (l.map (Value.int .i64))
set_option maxHeartbeats 2000000 in
set_option maxRecDepth 100000 in
theorem pages_any {w : World} {F D : Nat → Prop} {g : Nat} {L : List Pg} (A : MapA w F D g L) (hn : L.length ≤ 100000000) :
    Calls Try.prog 30 #[.pointer (some ⟨g, 0, none⟩)] w fun e w' => ∃ v, e = .returned v ∧ IntV w' w.heap.size v ((ens L).map fun es => (es.length : Int)) ∧ Below w.heap.size w w' := by
  obtain ⟨ao, c, hc, hc1, hc2, hat⟩ := A.rd
  obtain ⟨n, hnn⟩ : ∃ n, Hid (L.length = n) := ⟨_, rfl⟩
  rw [hnn.out] at hc hc1 hn
  have hgl := cell_lt hc
  obtain ⟨xs, hxs⟩ : ∃ xs, Hid (((ens L).map fun es => (es.length : Int)) = xs) := ⟨_, rfl⟩
  rw [hxs.out]
  have hxl : Hid (xs.length = n) := by show _ = _; rw [← hxs.out, ← hnn.out]; simp [ens]
  obtain ⟨W1, hr1, R1, B1⟩ := make_row (w := w) KI rfl n (by omega) (by decide)
  have c1 : W1.cell? ⟨g, 0, none⟩ = _ := (B1.cell (p := ⟨g, 0, none⟩) hgl).trans hc
  go_enter Try.func30, Try.ntmps30
  go_wp2
  go_loopw [17] (fun ti wr => ∃ k : Nat, k ≤ n ∧ ti = .int .i64 k ∧ Below w.heap.size w wr ∧ Rw wr 3 1 w.heap.size n n ((xs.take k).map (Value.int .i64) ++ List.replicate (n - k) (.int .i64 0))) (fun ti _ => n - (intOf ti).toNat)
  case atStart => exact ⟨0, Nat.zero_le _, rfl, B1, R1.to (by simp)⟩
  case round =>
    clear R1 B1 c1
    obtain ⟨k, hk, rfl, hB, hR⟩ := hrel
    by_cases hlt : k < n
    · obtain ⟨p, hp⟩ : ∃ p, L[k]? = some p := ⟨L[k]'(by have := hnn.out; omega), List.getElem?_eq_getElem _⟩
      obtain ⟨G, rfl, cG⟩ := hat k p hp
      have cG1 : wr.cell? ⟨G, k, none⟩ = _ := (hB.cell (p := ⟨G, k, none⟩) (cell_lt cG)).trans cG
      simp only [Pg.v] at cG1
      have z1 : (k : Int) < n := by omega
      have hxk : xs[k]? = some (p.es.length : Int) := by rw [← hxs.out]; simp [ens, hp]
      have hlk : ((xs.take k).map (Value.int .i64)).length = k := by simp; have := hxl.out; omega
      have c0 : wr.cell? ⟨w.heap.size, k, none⟩ = some (.int .i64 0) := hR.cell (by rw [List.getElem?_append_right (Nat.le_of_eq hlk), hlk, Nat.sub_self, List.getElem?_replicate, if_pos (by omega)])
      have f0 := hR.free k
      have hR2 := hR.set k (by simp; have := hxl.out; omega) (.int .i64 (p.es.length : Int))
      have hR3 := hR2.to (ys := (xs.take (k + 1)).map (Value.int .i64) ++ List.replicate (n - (k + 1)) (.int .i64 0)) (by
        rw [List.set_append_right _ _ (Nat.le_of_eq hlk), hlk, Nat.sub_self, show n - k = (n - (k + 1)) + 1 by omega, List.replicate_succ, List.set_cons_zero, List.take_add_one, hxk]
        simp)
      have hB3 : Below w.heap.size w (wr.setCell ⟨w.heap.size, k, none⟩ (.int .i64 (p.es.length : Int))) := hB.setCell (p := ⟨w.heap.size, k, none⟩) (Nat.le_refl _) _
      clear hR hR2 hlk hxk
      go_wp2
      go_roundw
      case rel => exact ⟨k + 1, by omega, by go_num, hB3, hR3⟩
      case measure => simp [intOf]; omega
    · have hkn : k = n := by omega
      have hR' := hR.to (ys := xs.map (Value.int .i64)) (by
        rw [List.take_of_length_le (by rw [hxl.out]; omega), show n - k = 0 by omega]; simp)
      have z1 : ¬ ((k : Int) < n) := by omega
      have HK : Hid _ := hkn
      clear hR hkn
      go_wp2
      go_ret
      exact ⟨_, rfl, ⟨_, n, by rw [hxl.out]; rfl, Nat.le_refl _, by rw [hxl.out]; exact hR'⟩, hB⟩
/-- what a copy is, behind k pages -/
structure CpA (w : World) (B : Nat) (D : Nat → Prop) (b n : Nat) (L Q : List Pg) : Prop where
  row : Rw w 66 1 b n n (Q.map Pg.v ++ List.replicate (n - Q.length) (.slice none 0 0))
  pages : ∀ p ∈ Q, PgA w D p ∧ B ≤ p.b
  apart : (Q.map Pg.b).Nodup
  same : ens Q = (ens L).take Q.length
theorem CpA.below {w w' : World} {B : Nat} {D : Nat → Prop} {b n : Nat} {L Q : List Pg} (h : CpA w B D b n L Q) (hb : Below w.heap.size w w') : CpA w' B D b n L Q := ⟨h.row.keep hb, fun p hp => ⟨(h.pages p hp).1.keep hb, (h.pages p hp).2⟩, h.apart, h.same⟩
set_option maxHeartbeats 2000000 in
set_option maxRecDepth 100000 in
theorem copy_any {w : World} {F D : Nat → Prop} {g : Nat} {L : List Pg} (A : MapA w F D g L) (hs : ∀ es ∈ ens L, es.length ≤ 32) (hn : L.length ≤ 100000000) :
    Calls Try.prog 24 #[.pointer (some ⟨g, 0, none⟩)] w fun e w' => ∃ g' F' L', e = .returned (.pointer (some ⟨g', 0, none⟩)) ∧ ens L' = ens L ∧ MapA w' F' D g' L' ∧ (∀ b, F' b → w.heap.size ≤ b) ∧ Below w.heap.size w w' := by
  obtain ⟨ao, c, hc, hc1, hc2, hat⟩ := A.rd
  obtain ⟨n, hnn⟩ : ∃ n, Hid (L.length = n) := ⟨_, rfl⟩
  rw [hnn.out] at hc hc1 hn
  have hgl := cell_lt hc
  obtain ⟨W1, hr1, R1, B1⟩ := make_row (w := w) KP rfl n (by omega) (by decide)
  have c1 : W1.cell? ⟨g, 0, none⟩ = _ := (B1.cell (p := ⟨g, 0, none⟩) hgl).trans hc
  go_enter Try.func24, Try.ntmps24
  go_wp2
  go_loopw [17] (fun ti wr => ∃ k : Nat, k ≤ n ∧ ti = .int .i64 k ∧ Below w.heap.size w wr ∧ ∃ Q, Q.length = k ∧ CpA wr (w.heap.size + 1) D w.heap.size n L Q) (fun ti _ => n - (intOf ti).toNat)
  case atStart => exact ⟨0, Nat.zero_le _, rfl, B1, [], rfl, R1.to (by simp), fun p hp => by simp at hp, by simp, by simp [ens]⟩
  case round =>
    clear R1 B1 c1
    obtain ⟨k, hk, rfl, hB, Q, hQ, hCp⟩ := hrel
    by_cases hlt : k < n
    · obtain ⟨p, hp⟩ : ∃ p, L[k]? = some p := ⟨L[k]'(by have := hnn.out; omega), List.getElem?_eq_getElem _⟩
      obtain ⟨G, rfl, cG⟩ := hat k p hp
      have cG1 : wr.cell? ⟨G, k, none⟩ = _ := (hB.cell (p := ⟨G, k, none⟩) (cell_lt cG)).trans cG
      simp only [Pg.v] at cG1
      have z1 : (k : Int) < n := by omega
      have hpm := List.mem_of_getElem? hp
      have hpA := (A.pages p hpm).1.keep hB
      have hps := hs p.es (List.mem_map.2 ⟨p, hpm, rfl⟩)
      have tC := cloneE (w := wr) (a := ⟨p.b, 0, none⟩) (n := p.es.length) (c := p.c) (xs := flat p.es) (by omega) (flat_len _) (fun j v hj => by rw [Addr.add_lit, Nat.zero_add]; exact hpA.row.cell hj) hpA.one
      have hQl : (Q.map Pg.v).length = k := by simp [hQ]
      have hqk : (Q.map Pg.v ++ List.replicate (n - Q.length) (Value.slice none 0 0))[k]? = some (.slice none 0 0) := by rw [List.getElem?_append_right (Nat.le_of_eq hQl), hQl, Nat.sub_self, List.getElem?_replicate, if_pos (by omega)]
      have HC : Hid _ := hCp
      have hwl : w.heap.size < wr.heap.size := hCp.row.lt
      have hPA : Hid _ := hpA
      clear hCp hpA
      go_wp2_with (go_at_call 42; refine tC.mono ?_; rintro e' w2 ⟨b2, c2, rfl, hb2, R2, D2⟩; have q2 : w2.cell? ⟨w.heap.size, k, none⟩ = some (.slice none 0 0) := (HC.out.row.keep D2).cell hqk; have f2 := (HC.out.row.keep D2).free k)
      have hC2 := HC.out.below D2
      have hR3 := (hC2.row.set k (by simp; omega) (.slice (some ⟨b2, 0, none⟩) p.es.length c2)).to (ys := (Q ++ [(⟨b2, c2, p.es⟩ : Pg)]).map Pg.v ++ List.replicate (n - (Q ++ [(⟨b2, c2, p.es⟩ : Pg)]).length) (.slice none 0 0)) (by
        rw [List.set_append_right _ _ (Nat.le_of_eq hQl), hQl, Nat.sub_self, show n - Q.length = (n - (k + 1)) + 1 by omega, List.replicate_succ, List.set_cons_zero]
        simp [Pg.v, hQ])
      have hset : ∀ b, b ≠ w.heap.size → (w2.setCell ⟨w.heap.size, k, none⟩ (.slice (some ⟨b2, 0, none⟩) p.es.length c2)).heap[b]? = w2.heap[b]? := fun b hb => Below.heap_setCell w2 _ _ b hb
      have hEn : ∀ e, EnA w2 D e → EnA (w2.setCell ⟨w.heap.size, k, none⟩ (.slice (some ⟨b2, 0, none⟩) p.es.length c2)) D e := fun e he => he.off fun b _ hk => by
        obtain ⟨cs, kk⟩ := hk
        obtain ⟨ds, k'⟩ := hC2.row.kind
        exact hset b (blk_ne kk k' (by decide))
      have hP3 : PgA (w2.setCell ⟨w.heap.size, k, none⟩ (.slice (some ⟨b2, 0, none⟩) p.es.length c2)) D ⟨b2, c2, p.es⟩ := ⟨R2.same (hset _ (by omega)), fun e he => hEn e ((hPA.out.ents e he).keep D2)⟩
      have hCp3 : CpA (w2.setCell ⟨w.heap.size, k, none⟩ (.slice (some ⟨b2, 0, none⟩) p.es.length c2)) (w.heap.size + 1) D w.heap.size n L (Q ++ [⟨b2, c2, p.es⟩]) := by
        refine ⟨hR3, fun q hq => ?_, ?_, ?_⟩
        · rcases List.mem_append.1 hq with h | h
          · obtain ⟨h1, h2⟩ := hC2.pages q h
            exact ⟨⟨h1.row.same (hset _ (by omega)), fun e he => hEn e (h1.ents e he)⟩, h2⟩
          · simp at h; subst h; exact ⟨hP3, by show w.heap.size + 1 ≤ b2; omega⟩
        · rw [List.map_append, List.nodup_append]
          refine ⟨HC.out.apart, by simp, fun a ha b hb => ?_⟩
          simp at hb
          subst hb
          obtain ⟨q, hq, rfl⟩ := List.mem_map.1 ha
          have := (HC.out.pages q hq).1.row.lt
          omega
        · have h0 := HC.out.same
          rw [List.length_append, hQ, List.length_singleton, List.take_add_one, ens_get hp]
          rw [hQ] at h0
          rw [← h0]
          simp [ens]
      have hB3 : Below w.heap.size w (w2.setCell ⟨w.heap.size, k, none⟩ (.slice (some ⟨b2, 0, none⟩) p.es.length c2)) := (joinB hB D2).setCell (p := ⟨w.heap.size, k, none⟩) (Nat.le_refl _) _
      go_roundw
      case rel => exact ⟨k + 1, by omega, by go_num, hB3, _, by simp [hQ], hCp3⟩
      case measure => simp [intOf]; omega
    · have hkn : k = n := by omega
      have z1 : ¬ ((k : Int) < n) := by omega
      have HC : Hid _ := hCp
      have HK : Hid _ := hkn
      clear hCp hkn
      go_wp2
      go_ret
      have e0 := HK.out
      have hl : Q.length = n := by omega
      have hb4 := below_alloc wr (.cells #[.slice (some ⟨w.heap.size, 0, none⟩) n n] 61)
      have hCp := HC.out.below hb4
      have N4 := blk_new wr [.slice (some ⟨w.heap.size, 0, none⟩) n n] 61
      have hrow := hCp.row.to (ys := Q.map Pg.v) (by rw [hl, Nat.sub_self]; simp)
      refine ⟨wr.heap.size, rfl, fun x => x = wr.heap.size ∨ x = w.heap.size ∨ x ∈ Q.map Pg.b, Q, ?_, ⟨⟨_, N4, .inl rfl, .inr ⟨w.heap.size, n, by rw [hl], .inr (.inl rfl), by rw [hl]; exact hrow⟩⟩, fun p hp => ⟨(hCp.pages p hp).1, .inr (.inr (List.mem_map.2 ⟨p, hp, rfl⟩))⟩, hCp.apart, fun b hb => ?_⟩, fun b hb => ?_, hB.trans (hb4.mono hB.size)⟩
      · rw [hCp.same, List.take_of_length_le (by rw [hl]; have := hnn.out; simp [ens]; omega)]
      · rcases hb with rfl | rfl | h
        · exact ⟨_, _, N4, by decide⟩
        · obtain ⟨ds, kk⟩ := hrow.kind
          exact ⟨ds, _, kk, by decide⟩
        · obtain ⟨p, hp, rfl⟩ := List.mem_map.1 h
          obtain ⟨ds, kk⟩ := (hCp.pages p hp).1.row.kind
          exact ⟨ds, _, kk, by decide⟩
      · rcases hb with rfl | rfl | h
        · exact hB.size
        · exact Nat.le_refl _
        · obtain ⟨p, hp, rfl⟩ := List.mem_map.1 h
          have := (hCp.pages p hp).2
          omega
end Pg
end Go.Proofs.Ytjnjkgakdnjlmaa

namespace Go.Proofs.Ytjnjkgakdnjlmaa
namespace Pg
open Go.RowKit Go.Lib

/-- records at or beyond B may turn; nothing else that is there -/
structure Rec (B : Nat) (W W' : World) : Prop where
  os : W'.os = W.os
  tape : W'.tape = W.tape
  output : W'.output = W.output
  size : W.heap.size ≤ W'.heap.size
  same : ∀ (k : Nat) (o : Obj), W.heap[k]? = some o → (k < B ∨ o.isCells = true) → W'.heap[k]? = some o
/-- it doesn't mind such a turn -/
def St (B : Nat) (I : World → Prop) : Prop := ∀ W W', I W → Rec B W W' → I W'
theorem Rec.of {B : Nat} {W W' : World} (h : Below W.heap.size W W') : Rec B W W' := ⟨h.os, h.tape, h.output, h.size, fun k _ hk _ => (h.block k (lt_of_block hk)).trans hk⟩
theorem Rec.put {B l : Nat} {W : World} {o : Obj} (h : W.heap[l]? = some o) (ho : o.isCells = false) (hB : B ≤ l) (o' : Obj) : Rec B W (W.putObj l o') :=
  ⟨rfl, rfl, rfl, by simp, fun k x hk hx => by
    have hne : k ≠ l := fun e => by
      subst e
      rw [h] at hk
      cases hk
      rcases hx with hx | hx
      · omega
      · rw [ho] at hx; cases hx
    exact (World.putObj_heap_other hne).trans hk⟩
theorem Rec.mono {B B' : Nat} {W W' : World} (h : Rec B W W') (hB : B' ≤ B) : Rec B' W W' := ⟨h.os, h.tape, h.output, h.size, fun k o hk ho => h.same k o hk (ho.imp (fun h => by omega) id)⟩
theorem Rec.trans {B : Nat} {W W' W'' : World} (h : Rec B W W') (h' : Rec B W' W'') : Rec B W W'' := ⟨h'.os.trans h.os, h'.tape.trans h.tape, h'.output.trans h.output, Nat.le_trans h.size h'.size, fun k o hk ho => h'.same k o (h.same k o hk ho) ho⟩
theorem St.mono {B B' : Nat} {I : World → Prop} (h : St B I) (hB : B ≤ B') : St B' I := fun W W' hi hr => h W W' hi (hr.mono hB)
theorem St.and {B : Nat} {I I' : World → Prop} (h : St B I) (h' : St B I') : St B fun W => I W ∧ I' W := fun W W' hi hr => ⟨h W W' hi.1 hr, h' W W' hi.2 hr⟩
theorem Rec.blk {B : Nat} {W W' : World} (h : Rec B W W') {g : Nat} {cs : List Value} {t : TypeId} (hb : Blk W g cs t) : Blk W' g cs t := ⟨h.same g _ hb.blk (.inr rfl)⟩
theorem below_put {W W' : World} {l : Nat} (hb : Below W.heap.size W W') (hl : l < W.heap.size) (o : Obj) : Below (W.putObj l o).heap.size (W.putObj l o) (W'.putObj l o) := by
  refine ⟨hb.os, hb.tape, hb.output, by simpa using hb.size, fun k hk => ?_⟩
  simp at hk
  by_cases e : k = l
  · subst e
    have := hb.size
    rw [World.putObj_heap_same (by omega), World.putObj_heap_same hl]
  · rw [World.putObj_heap_other e, World.putObj_heap_other e]; exact hb.block k hk
/-- cells stay -/
structure Cel (W W' : World) : Prop where
  size : W.heap.size ≤ W'.heap.size
  same : ∀ (k : Nat) (o : Obj), W.heap[k]? = some o → o.isCells = true → W'.heap[k]? = some o
theorem Rec.cel {B : Nat} {W W' : World} (h : Rec B W W') : Cel W W' := ⟨h.size, fun k o hk ho => h.same k o hk (.inr ho)⟩
/-- an object that is no list of cells of a type of Tp's -/
def Safe (Tp : TypeId → Prop) (o : Obj) : Prop := ∀ cs t fz, o = .cells cs t fz → ¬ Tp t
theorem safe_loop {Tp : TypeId → Prop} {r : Loop} : Safe Tp (.loop r) := fun _ _ _ e => by cases e
theorem safe_def {Tp : TypeId → Prop} {d : Option (List Deferred)} : Safe Tp (.deferred d) := fun _ _ _ e => by cases e
/-- at or beyond B what is safe stays -/
structure KeepsT (Tp : TypeId → Prop) (B : Nat) (W W' : World) : Prop where
  size : W.heap.size ≤ W'.heap.size
  same : ∀ (k : Nat) (o : Obj), B ≤ k → W.heap[k]? = some o → Safe Tp o → W'.heap[k]? = some o
theorem KeepsT.of {Tp : TypeId → Prop} {B : Nat} {W W' : World} (h : Below W.heap.size W W') : KeepsT Tp B W W' := ⟨h.size, fun k _ _ hk _ => (h.block k (lt_of_block hk)).trans hk⟩
theorem KeepsT.trans {Tp : TypeId → Prop} {B : Nat} {W W' W'' : World} (h : KeepsT Tp B W W') (h' : KeepsT Tp B W' W'') : KeepsT Tp B W W'' := ⟨Nat.le_trans h.size h'.size, fun k o hB hk ho => h'.same k o hB (h.same k o hB hk ho) ho⟩
theorem KeepsT.mono {Tp : TypeId → Prop} {B B' : Nat} {W W' : World} (h : KeepsT Tp B W W') (hB : B ≤ B') : KeepsT Tp B' W W' := ⟨h.size, fun k o hk h0 ho => h.same k o (Nat.le_trans hB hk) h0 ho⟩
theorem KeepsT.blk {Tp : TypeId → Prop} {B : Nat} {W W' : World} (h : KeepsT Tp B W W') {g : Nat} {cs : List Value} {t : TypeId} (hb : Blk W g cs t) (hg : B ≤ g) (ht : ¬ Tp t) : Blk W' g cs t := ⟨h.same g _ hg hb.blk (fun _ _ _ e => by cases e; exact ht)⟩
/-- what an iterator promises: N rounds at most, the i-th with arguments of which Ar tells; Rd: what it reads -/
def Itr (Tp : TypeId → Prop) (gf : Nat) (lb : Array Value) (N : Nat) (Ar : Nat → Array Value → Nat → World → Prop) (Rd : World → Prop) : Prop :=
  ∀ (l : Nat) (J Jx : Nat → World → Prop) (W : World), (∀ i, St W.heap.size (J i)) → (∀ i, St W.heap.size (Jx i)) → (∀ i V, J i V → Rd V) →
    (∀ i args V V', i < N → J i V → W.heap.size ≤ V.heap.size → Below V.heap.size V V' → Ar i args V.heap.size V' → YieldAt Fence.wide 0 Try.prog l args V' fun e V'' => KeepsT Tp W.heap.size V' V'' ∧ ((e = .returned (.bool true) ∧ J (i + 1) V'') ∨ (e = .returned (.bool false) ∧ Jx (i + 1) V''))) →
    J 0 W →
    Calls Try.prog gf (#[.func (.yield l) #[] #[]] ++ lb) W fun e W' => (∃ v, e = .returned v) ∧ W.heap.size ≤ W'.heap.size ∧ (J N W' ∨ ∃ i, i < N ∧ Jx (i + 1) W')
/-- how a round may be left -/
def bpost (Tp : TypeId → Prop) (B : Nat) (I : Nat → World → Prop) (Ix : Code → Nat → World → Prop) (i : Nat) (W : World) : Exit → Act → World → Prop
  | .normal, _, W' => KeepsT Tp B W W' ∧ I i W'
  | .ret, _, W' => KeepsT Tp B W W' ∧ Ix .ret i W'
  | .exit id, _, W' => KeepsT Tp B W W' ∧ Ix (.exit id) i W'
  | .goto t, _, W' => KeepsT Tp B W W' ∧ Ix (.goto t) i W'
  | .panic _, _, _ => False
  | .outgrown, _, _ => False
/-- a loop's record -/
def recd (fn : FuncId) (tmps : Array Value) (ps : Array Tmp) (assign body : Code) (dd : Nat) (st : LoopState) (pe : Option Code) : Loop := { state := st, pending := pe, fn, tmps, params := ps, assign, body, defers := dd }
/-- records at or beyond B stay, but that of loop l -/
structure KeepsBut (Tp : TypeId → Prop) (B l : Nat) (W W' : World) : Prop where
  size : W.heap.size ≤ W'.heap.size
  same : ∀ (k : Nat) (o : Obj), B ≤ k → k ≠ l → W.heap[k]? = some o → Safe Tp o → W'.heap[k]? = some o
theorem KeepsBut.from {Tp : TypeId → Prop} {B l B1 : Nat} {W W' : World} (h : KeepsBut Tp B l W W') (hB : B ≤ B1) (hl : l < B1) : KeepsT Tp B1 W W' := ⟨h.size, fun k o hk h0 ho => h.same k o (by omega) (by omega) h0 ho⟩
/-- one round, out of its walk -/
theorem yield_core {Tp : TypeId → Prop} {l B i : Nat} {fn : FuncId} {tmps : Array Value} {ps : Array Tmp} {assign body : Code} {dd : Nat} {args : Array Value} {V W : World} {n : Nat} {I : Nat → World → Prop} {Ix : Code → Nat → World → Prop} {Ar : Nat → Array Value → Nat → World → Prop}
    (hArS : ∀ i args n V W, Ar i args n V → Cel V W → Ar i args n W) (hI : ∀ i, St B (I i)) (hIx : ∀ c i, St B (Ix c i)) (hBl : B ≤ l)
    (hL : V.heap[l]? = some (.loop (recd fn tmps ps assign body dd .ready none))) (hi : I i V) (hb : Below V.heap.size V W) (ha : Ar i args V.heap.size W) (hps : args.size = ps.size)
    (hround : assign.wpIn (Fence.wide.inRound l) n Try.prog (Exit.then (fun a1 W1 => Below W.heap.size W W1 ∧ ∀ V2 W2, I i V2 → Below V2.heap.size V2 W2 → Ar i args V2.heap.size W2 → (∀ b, b ≠ l → W2.heap[b]? = W1.heap[b]?) → W2.heap.size = W1.heap.size → V2.heap.size = V.heap.size → (∃ r, W2.heap[l]? = some (.loop r)) → body.wpIn (Fence.wide.inRound l) n Try.prog (bpost Tp B I Ix (i + 1) W2) a1 W2) (fun _ _ _ => False)) { tmps := (ps.zip args).foldl (fun t (p, v) => t.setIfInBounds p v) tmps, defers := [] } W) :
    YieldAt Fence.wide 0 Try.prog l args W fun e W' => KeepsBut Tp B l W W' ∧ ((e = .returned (.bool true) ∧ I (i + 1) W' ∧ W'.heap[l]? = some (.loop (recd fn tmps ps assign body dd .ready none))) ∨ (e = .returned (.bool false) ∧ ∃ c, Ix c (i + 1) W' ∧ W'.heap[l]? = some (.loop (recd fn tmps ps assign body dd .done (some c))))) := by
  have hlV : l < V.heap.size := lt_of_block hL
  have hLW : W.heap[l]? = some (.loop (recd fn tmps ps assign body dd .ready none)) := (hb.block l hlV).trans hL
  have hy := run_yield (P := Try.prog) (args := args) hLW hps
  have hround' : assign.wpIn (Fence.wide.inRound l) n Try.prog (Exit.then (fun a₁ w₁ => ∃ w₂, (Instr.beginRound l).run Try.prog w₁ = .ok () w₂ ∧ body.wpIn (Fence.wide.inRound l) n Try.prog (roundPost Try.prog l fun e W' => KeepsBut Tp B l W W' ∧ ((e = .returned (.bool true) ∧ I (i + 1) W' ∧ W'.heap[l]? = some (.loop (recd fn tmps ps assign body dd .ready none))) ∨ (e = .returned (.bool false) ∧ ∃ c, Ix c (i + 1) W' ∧ W'.heap[l]? = some (.loop (recd fn tmps ps assign body dd .done (some c)))))) a₁ w₂) (fun _ _ _ => False)) { tmps := (ps.zip args).foldl (fun t (p, v) => t.setIfInBounds p v) tmps, defers := [] } W := by
    refine wpIn_mono hround ?_
    intro e a1 W1 h
    cases e with
    | normal =>
      obtain ⟨hB1, hbody⟩ := h
      have hL1 : W1.heap[l]? = some (.loop (recd fn tmps ps assign body dd .ready none)) := (hB1.block l (lt_of_block hLW)).trans hLW
      have hl1' : l < W1.heap.size := lt_of_block hL1
      refine ⟨_, run_beginRound hL1 rfl, ?_⟩
      have hBV : Below V.heap.size V W1 := joinB hb hB1
      have h1 := hbody (V.putObj l (.loop { recd fn tmps ps assign body dd .ready none with state := .busy })) (W1.putObj l (.loop { recd fn tmps ps assign body dd .ready none with state := .busy }))
        (hI i _ _ hi (Rec.put hL rfl hBl _)) (below_put hBV hlV _) (by simpa using hArS i args _ _ _ (hArS i args _ _ _ ha (Rec.of (B := 0) hB1).cel) (Rec.put hL1 rfl (Nat.zero_le _) _).cel)
        (fun b hb => World.putObj_heap_other hb) (by simp) (by simp) ⟨_, World.putObj_heap_same hl1'⟩
      have hLb : (W1.putObj l (.loop { recd fn tmps ps assign body dd .ready none with state := .busy })).heap[l]? = some (.loop { recd fn tmps ps assign body dd .ready none with state := .busy }) := World.putObj_heap_same hl1'
      generalize hW2 : W1.putObj l (.loop { recd fn tmps ps assign body dd .ready none with state := .busy }) = W2 at *
      have hkp : KeepsBut Tp B l W W2 := by
        rw [← hW2]
        refine ⟨by simpa using hB1.size, fun k _ hk hne h0 _ => ?_⟩
        rw [World.putObj_heap_other hne]
        exact (hB1.block k (lt_of_block h0)).trans h0
      have fin : ∀ (jump : Option Code) (W3 : World), KeepsT Tp B W2 W3 →
          (Instr.endRound l jump).run Try.prog W3 = .ok (.bool jump.isNone) (W3.putObj l (.loop (recd fn tmps ps assign body dd (if jump.isNone then .ready else .done) jump))) ∧ W3.heap[l]? = some (.loop { recd fn tmps ps assign body dd .ready none with state := .busy }) ∧
          (W3.putObj l (.loop (recd fn tmps ps assign body dd (if jump.isNone then .ready else .done) jump))).heap[l]? = some (.loop (recd fn tmps ps assign body dd (if jump.isNone then .ready else .done) jump)) ∧
          KeepsBut Tp B l W (W3.putObj l (.loop (recd fn tmps ps assign body dd (if jump.isNone then .ready else .done) jump))) := fun jump W3 hk3 => by
        have hl3 := hk3.same _ _ hBl hLb safe_loop
        refine ⟨run_endRound (P := Try.prog) jump hl3, hl3, World.putObj_heap_same (lt_of_block hl3), ⟨by simpa using Nat.le_trans hkp.size hk3.size, fun k o hk hne h0 ho => ?_⟩⟩
        rw [World.putObj_heap_other hne]
        exact hk3.same k o hk (hkp.same k o hk hne h0 ho) ho
      refine wpIn_mono h1 ?_
      intro e a3 W3 hp
      cases e with
      | normal =>
        obtain ⟨hk3, hi3⟩ := hp
        obtain ⟨hr, hl3, hl4, hk4⟩ := fin none W3 hk3
        exact ⟨_, _, hr, hk4, .inl ⟨rfl, hI _ _ _ hi3 (Rec.put hl3 rfl hBl _), hl4⟩⟩
      | ret =>
        obtain ⟨hk3, hi3⟩ := hp
        obtain ⟨hr, hl3, hl4, hk4⟩ := fin (some .ret) W3 hk3
        exact ⟨_, _, hr, hk4, .inr ⟨rfl, .ret, hIx _ _ _ _ hi3 (Rec.put hl3 rfl hBl _), hl4⟩⟩
      | exit id =>
        obtain ⟨hk3, hi3⟩ := hp
        obtain ⟨hr, hl3, hl4, hk4⟩ := fin (some (.exit id)) W3 hk3
        exact ⟨_, _, hr, hk4, .inr ⟨rfl, .exit id, hIx _ _ _ _ hi3 (Rec.put hl3 rfl hBl _), hl4⟩⟩
      | goto t =>
        obtain ⟨hk3, hi3⟩ := hp
        obtain ⟨hr, hl3, hl4, hk4⟩ := fin (some (.goto t)) W3 hk3
        exact ⟨_, _, hr, hk4, .inr ⟨rfl, .goto t, hIx _ _ _ _ hi3 (Rec.put hl3 rfl hBl _), hl4⟩⟩
      | panic ch => exact hp.elim
      | outgrown => exact hp.elim
    | ret => exact h.elim
    | exit id => exact h.elim
    | goto t => exact h.elim
    | panic ch => exact h.elim
    | outgrown => exact h.elim
  exact ⟨fn, _, assign, body, hy, by
    have := roundIn_of_wpIn (F := Fence.wide) (n := n) (P := Try.prog) (f := fn) trivial hround'
    exact ⟨this.1, fun c cs _ => this.2 c cs (fun _ h => by cases h)⟩⟩
/-- the walk of a round, as the laws ask for it -/
def RoundW (Tp : TypeId → Prop) (w : World) (N n : Nat) (ps : Array Tmp) (assign body : Code) (tmps : Array Value) (Ar : Nat → Array Value → Nat → World → Prop) (I : Nat → World → Prop) (Ix : Code → Nat → World → Prop) : Prop :=
  ∀ (l i : Nat) (args : Array Value) (V W : World), w.heap.size ≤ l → l < V.heap.size → (∃ r, V.heap[l]? = some (.loop r)) → i < N → I i V → Below V.heap.size V W → Ar i args V.heap.size W →
    assign.wpIn (Fence.wide.inRound l) n Try.prog (Exit.then (fun a1 W1 => Below W.heap.size W W1 ∧ ∀ V2 W2, I i V2 → Below V2.heap.size V2 W2 → Ar i args V2.heap.size W2 → (∀ b, b ≠ l → W2.heap[b]? = W1.heap[b]?) → W2.heap.size = W1.heap.size → V2.heap.size = V.heap.size → (∃ r, W2.heap[l]? = some (.loop r)) → body.wpIn (Fence.wide.inRound l) n Try.prog (bpost Tp w.heap.size I Ix (i + 1) W2) a1 W2) (fun _ _ _ => False)) { tmps := (ps.zip args).foldl (fun t (p, v) => t.setIfInBounds p v) tmps, defers := [] } W
/-- a range over a function -/
theorem rf_outer {Tp : TypeId → Prop} {gf N n : Nat} {lb : Array Value} {Ar : Nat → Array Value → Nat → World → Prop} {Rd : World → Prop} (IT : Itr Tp gf lb N Ar Rd) {g : Operand} {ps : Array Tmp} {assign body : Code} {Q : Exit → Act → World → Prop} {a : Act} {w : World}
    (hg : a.eval g = .func (.func gf) #[] lb) (eg : ∀ args w, (callFunc gf args).run Try.prog w = .ok (.enter gf args) w) (hArS : ∀ i args n V W, Ar i args n V → Cel V W → Ar i args n W) (hAn : ∀ i args n V, Ar i args n V → args.size = ps.size)
    (I : Nat → World → Prop) (Ix : Code → Nat → World → Prop) (hI : ∀ i, St w.heap.size (I i)) (hIx : ∀ c i, St w.heap.size (Ix c i)) (hRd : ∀ i V, I i V → Rd V) (h0 : I 0 w)
    (hround : RoundW Tp w N n ps assign body a.tmps Ar I Ix)
    (hdone : ∀ D W, w.heap.size ≤ D → W.heap[D]? = some (.deferred (some [])) → I N W → Q .normal { a with defers := { target := .collected D, args := #[] } :: a.defers } W)
    (hstop : ∀ D c i W, w.heap.size ≤ D → W.heap[D]? = some (.deferred (some [])) → i < N → Ix c (i + 1) W → c.wpIn Fence.wide n Try.prog Q { a with defers := { target := .collected D, args := #[] } :: a.defers } W) :
    (Code.rangeFunc g ps assign body).wpIn Fence.wide n Try.prog Q a w := by
  refine wpIn_rangeFunc ?_
  intro fn _
  obtain ⟨W1, hW1⟩ : ∃ W1, (w.alloc (.deferred (some []))).alloc (.loop (recd fn a.tmps ps assign body w.heap.size .ready none)) = W1 := ⟨_, rfl⟩
  have hB1 : Below w.heap.size w W1 := by rw [← hW1]; exact joinB (below_alloc w _) (below_alloc _ _)
  have hs1 : W1.heap.size = w.heap.size + 1 + 1 := by rw [← hW1]; simp
  have hL1 : W1.heap[w.heap.size + 1]? = some (.loop (recd fn a.tmps ps assign body w.heap.size .ready none)) := by
    rw [← hW1]; have := World.alloc_heap_new (w.alloc (.deferred (some []))) (.loop (recd fn a.tmps ps assign body w.heap.size .ready none)); rwa [World.size_alloc] at this
  have hK1 : W1.heap[w.heap.size]? = some (.deferred (some [])) := by
    rw [← hW1]; exact (Below.heap_alloc _ _ _ (by simp)).trans (World.alloc_heap_new w _)
  refine ⟨w.heap.size + 1, [{ target := .collected w.heap.size, args := #[] }], W1, { target := .fn (.func gf) lb, args := #[.func (.yield (w.heap.size + 1)) #[] #[]] }, W1, gf,
    #[.func (.yield (w.heap.size + 1)) #[] #[]] ++ lb, W1, ?_, ?_, ?_, ?_, fun h => (by cases h), ?_⟩
  · rw [← hW1]; exact run_enterLoop_outer _ _ _ _ _
  · simp only [resolve, hg]
    simp [go_sem]
  · intro f' _; trivial
  · simp [invoke, go_sem, eg]
  · refine callsIn_wide.2 ?_
    refine (IT (w.heap.size + 1)
      (fun i W => I i W ∧ W.heap[w.heap.size + 1]? = some (.loop (recd fn a.tmps ps assign body w.heap.size .ready none)) ∧ W.heap[w.heap.size]? = some (.deferred (some [])))
      (fun i W => ∃ c, Ix c i W ∧ W.heap[w.heap.size + 1]? = some (.loop (recd fn a.tmps ps assign body w.heap.size .done (some c))) ∧ W.heap[w.heap.size]? = some (.deferred (some [])))
      W1 (fun i X Y hx hr => ⟨hI i X Y hx.1 (hr.mono (by omega)), hr.same _ _ hx.2.1 (.inl (by omega)), hr.same _ _ hx.2.2 (.inl (by omega))⟩)
      (fun i X Y hx hr => by obtain ⟨c, h1, h2, h3⟩ := hx; exact ⟨c, hIx c i X Y h1 (hr.mono (by omega)), hr.same _ _ h2 (.inl (by omega)), hr.same _ _ h3 (.inl (by omega))⟩)
      (fun i V hv => hRd i V hv.1) ?_ ⟨hI 0 _ _ h0 (Rec.of hB1), hL1, hK1⟩).mono ?_
    · rintro i args V V' hiN ⟨hi, hl, hk⟩ hsz hb ha
      refine (yield_core (B := w.heap.size) hArS hI hIx (by omega) hl hi hb ha (hAn _ _ _ _ ha) (hround _ i args V V' (by omega) (lt_of_block hl) ⟨_, hl⟩ hiN hi hb ha)).mono ?_
      rintro e V'' ⟨hkp, h⟩
      have hk2 := hkp.same _ _ (Nat.le_refl _) (by omega) ((hb.block _ (lt_of_block hk)).trans hk) safe_def
      refine ⟨hkp.from (by omega) (by omega), h.imp (fun h => ⟨h.1, h.2.1, h.2.2, hk2⟩) (fun h => ?_)⟩
      obtain ⟨h1, c, h2, h3⟩ := h
      exact ⟨h1, c, h2, h3, hk2⟩
    · rintro e W2 ⟨⟨v, rfl⟩, hsz, ⟨hi, hl, hk⟩ | ⟨i, hiN, c, hi, hl, hk⟩⟩
      · exact ⟨none, _, run_endLoop (P := Try.prog) hl (by simp [recd]), hdone _ _ (Nat.le_refl _) ((World.putObj_heap_other (by omega)).trans hk) (hI _ _ _ hi (Rec.put hl rfl (by omega) _))⟩
      · exact ⟨some c, _, run_endLoop (P := Try.prog) hl (by simp [recd]), hstop _ c i _ (Nat.le_refl _) ((World.putObj_heap_other (by omega)).trans hk) hiN (hIx c _ _ _ hi (Rec.put hl rfl (by omega) _))⟩
/-- a range over a function in a round of another -/
theorem rf_inner {Tp : TypeId → Prop} {gf N n l0 : Nat} {r0 : Loop} {lb : Array Value} {Ar : Nat → Array Value → Nat → World → Prop} {Rd : World → Prop} (IT : Itr Tp gf lb N Ar Rd) {g : Operand} {ps : Array Tmp} {assign body : Code} {Q : Exit → Act → World → Prop} {a : Act} {w : World} (hl0 : w.heap[l0]? = some (.loop r0))
    (hg : a.eval g = .func (.func gf) #[] lb) (eg : ∀ args w, (callFunc gf args).run Try.prog w = .ok (.enter gf args) w) (hArS : ∀ i args n V W, Ar i args n V → Cel V W → Ar i args n W) (hAn : ∀ i args n V, Ar i args n V → args.size = ps.size)
    (I : Nat → World → Prop) (Ix : Code → Nat → World → Prop) (hI : ∀ i, St w.heap.size (I i)) (hIx : ∀ c i, St w.heap.size (Ix c i)) (hRd : ∀ i V, I i V → Rd V) (h0 : I 0 w)
    (hround : RoundW Tp w N n ps assign body a.tmps Ar I Ix)
    (hdone : ∀ W, I N W → Q .normal a W)
    (hstop : ∀ c i W, i < N → Ix c (i + 1) W → c.wpIn (Fence.wide.inRound l0) n Try.prog Q a W) :
    (Code.rangeFunc g ps assign body).wpIn (Fence.wide.inRound l0) n Try.prog Q a w := by
  refine wpIn_rangeFunc ?_
  intro fn _
  obtain ⟨W1, hW1⟩ : ∃ W1, w.alloc (.loop (recd fn a.tmps ps assign body r0.defers .ready none)) = W1 := ⟨_, rfl⟩
  have hB1 : Below w.heap.size w W1 := by rw [← hW1]; exact below_alloc w _
  have hs1 : W1.heap.size = w.heap.size + 1 := by rw [← hW1]; simp
  have hL1 : W1.heap[w.heap.size]? = some (.loop (recd fn a.tmps ps assign body r0.defers .ready none)) := by
    rw [← hW1]; exact World.alloc_heap_new w _
  refine ⟨w.heap.size, [], W1, { target := .fn (.func gf) lb, args := #[.func (.yield w.heap.size) #[] #[]] }, W1, gf,
    #[.func (.yield w.heap.size) #[] #[]] ++ lb, W1, ?_, ?_, ?_, ?_, fun h => (by cases h), ?_⟩
  · rw [← hW1]; exact run_enterLoop_inner hl0 _ _ _ _ _
  · simp only [resolve, hg]
    simp [go_sem]
  · intro f' _; trivial
  · simp [invoke, go_sem, eg]
  · refine CallsIn.inRound l0 (callsIn_wide.2 ?_)
    refine (IT w.heap.size
      (fun i W => I i W ∧ W.heap[w.heap.size]? = some (.loop (recd fn a.tmps ps assign body r0.defers .ready none)))
      (fun i W => ∃ c, Ix c i W ∧ W.heap[w.heap.size]? = some (.loop (recd fn a.tmps ps assign body r0.defers .done (some c))))
      W1 (fun i X Y hx hr => ⟨hI i X Y hx.1 (hr.mono (by omega)), hr.same _ _ hx.2 (.inl (by omega))⟩)
      (fun i X Y hx hr => by obtain ⟨c, h1, h2⟩ := hx; exact ⟨c, hIx c i X Y h1 (hr.mono (by omega)), hr.same _ _ h2 (.inl (by omega))⟩)
      (fun i V hv => hRd i V hv.1) ?_ ⟨hI 0 _ _ h0 (Rec.of hB1), hL1⟩).mono ?_
    · rintro i args V V' hiN ⟨hi, hl⟩ hsz hb ha
      refine (yield_core (B := w.heap.size) hArS hI hIx (by omega) hl hi hb ha (hAn _ _ _ _ ha) (hround _ i args V V' (by omega) (lt_of_block hl) ⟨_, hl⟩ hiN hi hb ha)).mono ?_
      rintro e V'' ⟨hkp, h⟩
      exact ⟨hkp.from (by omega) (by omega), h⟩
    · rintro e W2 ⟨⟨v, rfl⟩, hsz, ⟨hi, hl⟩ | ⟨i, hiN, c, hi, hl⟩⟩
      · exact ⟨none, _, run_endLoop (P := Try.prog) hl (by simp [recd]), hdone _ (hI _ _ _ hi (Rec.put hl rfl (by omega) _))⟩
      · exact ⟨some c, _, run_endLoop (P := Try.prog) hl (by simp [recd]), hstop c i _ hiN (hIx c _ _ _ hi (Rec.put hl rfl (by omega) _))⟩
end Pg
end Go.Proofs.Ytjnjkgakdnjlmaa

namespace Go.Proofs.Ytjnjkgakdnjlmaa
namespace Pg
open Go.RowKit Go.Lib
/-- where a walk over sorted things begins and ends -/
def cut {α : Type} (l : List α) (a b : Nat) : List α := (l.drop a).take (max a b - a)
theorem cut_get {α : Type} {l : List α} {a b j : Nat} {x : α} (h : (cut l a b)[j]? = some x) : l[a + j]? = some x := by
  unfold cut at h
  rw [List.getElem?_take] at h
  split at h
  · rw [List.getElem?_drop] at h; exact h
  · cases h
theorem cut_len {α : Type} {l : List α} {a b : Nat} (ha : a ≤ l.length) (hb : b ≤ l.length) : (cut l a b).length = max a b - a := by
  unfold cut
  rw [List.length_take, List.length_drop]; omega
def spanE (P : List (List En)) (t : List Int) : Nat := if t = [] then P.length else min (pgi P t + 1) P.length
def wthE (es : List En) (t : List Int) : Nat := if t = [] then es.length else plc (kys es) t
def wth (es : List En) (f t : List Int) : List En := cut es (plc (kys es) f) (wthE es t)
def wlk (P : List (List En)) (f t : List Int) : List En := (cut P (pgi P f) (spanE P t)).flatMap fun es => wth es f t
set_option maxHeartbeats 1000000 in
set_option maxRecDepth 100000 in
theorem bounds_any {w : World} {v : Value} {t : List Int} (h : By w v t) : Calls Try.prog 74 #[v] w fun e w' => e = .returned (.bool (decide (t ≠ []))) ∧ w' = w := by
  obtain ⟨ao, c, rfl, h2, h3, h4, h5, h6⟩ := h.ex
  have hz : (decide (t ≠ [])) = decide ((0 : Int) < (t.length : Int)) := by
    cases t with
    | nil => rfl
    | cons a l => simp
  rw [hz]
  clear h h6
  have hz2 : decide ((0 : Int) < (t.length : Int)) = decide (0 < t.length) := by congr 1; exact propext ⟨fun h => by omega, fun h => by omega⟩
  rw [hz2]
  go_enter Try.func74, Try.ntmps74
  go_wp2
  go_ret
  exact ⟨rfl, rfl⟩
/-- a slice of pages -/
structure SpA (w : World) (F : Nat → Prop) (v : Value) (Q : List Pg) : Prop where
  ex : ∃ ao c, v = .slice ao Q.length c ∧ Q.length ≤ c ∧ c ≤ 9223372036854775807 ∧ ∀ j p, Q[j]? = some p → ∃ b o, ao = some ⟨b, o, none⟩ ∧ F b ∧ w.cell? ⟨b, o + j, none⟩ = some p.v
/-- a slice of entries -/
structure ESl (w : World) (q : Nat) (v : Value) (es : List En) : Prop where
  ex : ∃ ao c, v = .slice ao es.length c ∧ es.length ≤ c ∧ c ≤ 9223372036854775807 ∧ ∀ j e, es[j]? = some e → ∃ o, ao = some ⟨q, o, none⟩ ∧ w.cell? ⟨q, o + j * 2, none⟩ = some e.kv ∧ w.cell? ⟨q, o + j * 2 + 1, none⟩ = some e.vv
set_option maxHeartbeats 1000000 in
set_option maxRecDepth 100000 in
theorem within_any {w : World} {D : Nat → Prop} {p : Pg} {fv tv : Value} {f t : List Int} (A : PgA w D p) (S : Srt (kys p.es)) (hf : By w fv f) (ht : By w tv t) (hn : p.es.length ≤ 1000000) :
    Calls Try.prog 65 #[p.v, fv, tv] w fun e w' => ∃ v, e = .returned v ∧ ESl w' p.b v (wth p.es f t) ∧ Below w.heap.size w w' := by
  have t1 := placeOf_any A S hf hn
  have tb : ∀ w', Below w.heap.size w w' → Calls Try.prog 74 #[tv] w' _ := fun w' hB => bounds_any (ht.keep hB)
  have t2 : ∀ w', Below w.heap.size w w' → Calls Try.prog 45 #[p.v, tv] w' _ := fun w' hB => placeOf_any (A.keep hB) S (ht.keep hB) hn
  have hrow := A.row
  have hcm := hrow.le
  simp only [maxLen] at hcm
  have hcm1 := hcm.1
  have hcm2 := hcm.2
  have hl1 := plc_le (kys p.es) f
  have hl2 := plc_le (kys p.es) t
  have hkl : (kys p.es).length = p.es.length := by simp [kys]
  rw [hkl] at hl1 hl2
  have hfin : ∀ (ao : Option Addr) (k c y : Nat) (w' : World), wthE p.es t = y → y ≤ p.es.length → Below w.heap.size w w' → k = max (plc (kys p.es) f) y - plc (kys p.es) f → k ≤ c → c ≤ 9223372036854775807 → (k = 0 ∨ ao = some ⟨p.b, plc (kys p.es) f * 2, none⟩) → ESl w' p.b (.slice ao k c) (wth p.es f t) := fun ao k c y w' he hy hB hk hkc hc hao => by
    have hl : (wth p.es f t).length = k := by
      unfold wth; rw [he, cut_len hl1 hy, hk]
    refine ⟨ao, c, by rw [hl], by rw [hl]; exact hkc, hc, fun j e hj => ?_⟩
    have hjk := (List.getElem?_eq_some_iff.1 hj).1
    rw [hl] at hjk
    have hj' := cut_get (show (cut p.es (plc (kys p.es) f) (wthE p.es t))[j]? = some e from hj)
    have hk := (hrow.keep hB).cell (flat_k hj')
    have hv := (hrow.keep hB).cell (flat_v hj')
    refine ⟨plc (kys p.es) f * 2, hao.resolve_left (by omega), ?_, ?_⟩
    · rw [← Nat.add_mul]; exact hk
    · rw [← Nat.add_mul]; exact hv
  have hfin : Hid _ := hfin
  have hw0 : Hid (wthE p.es t = if t = [] then p.es.length else plc (kys p.es) t) := rfl
  generalize hx : plc (kys p.es) f = x at *
  have HX : Hid _ := hx
  generalize hy : plc (kys p.es) t = y at *
  have HY : Hid _ := hy
  generalize thr (kys p.es) f = bx at *
  generalize thr (kys p.es) t = by' at *
  simp only [Pg.v] at t1 t2 ⊢
  generalize hm : p.es.length = m at *
  have HM : Hid _ := hm
  have z0 : (0 : Int) ≤ (x : Int) := by omega
  have z1 : (x : Int) ≤ (m : Int) := by omega
  clear A S hf ht hrow hcm hkl hx hy hm
  by_cases h0 : t = []
  · have hd : decide (t ≠ []) = false := by simp [h0]
    rw [hd] at tb
    have he : Hid (wthE p.es t = m) := by show _ = _; rw [hw0.out, if_pos h0]
    clear h0 hd t2 hw0
    go_enter Try.func65, Try.ntmps65
    go_wp2_with (first
      | (go_at_call 45; refine t1.mono ?_; rintro e' w1 ⟨rfl, hB1⟩; have tb1 := tb w1 hB1; clear t1 tb)
      | (go_at_call 74; refine tb1.mono ?_; rintro e' w2 ⟨rfl, rfl⟩))
    all_goals (
      go_ret
      exact ⟨_, rfl, hfin.out _ _ _ m _ he.out (Nat.le_refl _) hB1 (by omega) (by omega) (by omega) (by first | exact .inr rfl | exact .inl (by omega) | exact .inl rfl), hB1⟩)
  · have hd : decide (t ≠ []) = true := by simp [h0]
    rw [hd] at tb
    have he : Hid (wthE p.es t = y) := by show _ = _; rw [hw0.out, if_neg h0]
    have mk : True := trivial
    clear h0 hd hw0
    go_enter Try.func65, Try.ntmps65
    go_wp2_with (first
      | (go_at_call 45; clear mk; refine t1.mono ?_; rintro e' w1 ⟨rfl, hB1⟩; have tb1 := tb w1 hB1; have t21 := t2 w1 hB1; clear t1 tb t2)
      | (go_at_call 74; refine tb1.mono ?_; rintro e' w2 ⟨rfl, rfl⟩)
      | (go_at_call 45; refine t21.mono ?_; rintro e' w3 ⟨rfl, hB3⟩; have hB := joinB hB1 hB3))
    all_goals (
      go_ret
      exact ⟨_, rfl, hfin.out _ _ _ y _ he.out (by omega) hB (by omega) (by omega) (by omega) (by first | exact .inr rfl | exact .inl (by omega) | exact .inl rfl), hB⟩)
theorem pgi_le {P : List (List En)} (k : List Int) : pgi P k ≤ P.length := by
  have h1 := plq_le (fks P) k
  simp only [fks, List.length_map] at h1
  unfold pgi fks
  omega
set_option maxHeartbeats 2000000 in
set_option maxRecDepth 100000 in
theorem span_any {w : World} {F D : Nat → Prop} {g : Nat} {L : List Pg} {fv tv : Value} {f t : List Int} (A : MapA w F D g L) (O : Ord (ens L)) (hf : By w fv f) (ht : By w tv t) (hn : L.length ≤ 100000000) :
    Calls Try.prog 64 #[.pointer (some ⟨g, 0, none⟩), fv, tv] w fun e w' => ∃ v, e = .returned v ∧ SpA w' F v (cut L (pgi (ens L) f) (spanE (ens L) t)) ∧ Below w.heap.size w w' := by
  have t1 := pageOf_any A.drew O hf.drew (by omega)
  have tb : ∀ w', Below w.heap.size w w' → Calls Try.prog 74 #[tv] w' _ := fun w' hB => bounds_any (ht.keep hB)
  have t2 : ∀ w', Below w.heap.size w w' → Calls Try.prog 44 #[.pointer (some ⟨g, 0, none⟩), tv] w' _ := fun w' hB => pageOf_any (A.keep hB) O (ht.keep hB) (by omega)
  obtain ⟨ao, c, hc, hc1, hc2, hat⟩ := A.rd
  have hel : (ens L).length = L.length := by simp [ens]
  have hl1 : pgi (ens L) f ≤ L.length := by rw [← hel]; exact pgi_le f
  have hl2 : pgi (ens L) t ≤ L.length := by rw [← hel]; exact pgi_le t
  have hFG : ∀ G, ao = some ⟨G, 0, none⟩ → F G := fun G e => by
    obtain ⟨pv, hb, hg, ⟨rfl, rfl⟩ | ⟨G', C, rfl, hG, hR⟩⟩ := A.top
    · have := hb.cell (i := 0) rfl
      rw [hc] at this
      cases this
      cases e
    · have := hb.cell (i := 0) rfl
      rw [hc] at this
      cases this
      cases e
      exact hG
  have hfin : ∀ (bo : Option Addr) (k d y : Nat) (w' : World), spanE (ens L) t = y → y ≤ L.length → Below w.heap.size w w' → k = max (pgi (ens L) f) y - pgi (ens L) f → k ≤ d → d ≤ 9223372036854775807 → (k = 0 ∨ ∀ b o, ao = some ⟨b, o, none⟩ → bo = some ⟨b, o + pgi (ens L) f, none⟩) → SpA w' F (.slice bo k d) (cut L (pgi (ens L) f) (spanE (ens L) t)) := fun bo k d y w' he hy hB hk hkd hd hbo => by
    have hl : (cut L (pgi (ens L) f) (spanE (ens L) t)).length = k := by rw [he, cut_len hl1 hy, hk]
    refine ⟨bo, d, by rw [hl], by rw [hl]; exact hkd, hd, fun j p hj => ?_⟩
    have hjk := (List.getElem?_eq_some_iff.1 hj).1
    rw [hl] at hjk
    have hj' := cut_get hj
    obtain ⟨G, rfl, cG⟩ := hat _ p hj'
    exact ⟨G, 0 + pgi (ens L) f, (hbo.resolve_left (by omega)) G 0 rfl, hFG G rfl, by
      rw [Nat.zero_add, hB.cell (p := ⟨G, pgi (ens L) f + j, none⟩) (cell_lt cG)]; exact cG⟩
  have hfin : Hid _ := hfin
  have hw0 : Hid (spanE (ens L) t = if t = [] then L.length else min (pgi (ens L) t + 1) L.length) := by show _ = _; unfold spanE; rw [hel]
  have hgl := cell_lt hc
  have hat : Hid _ := hat
  have hnil : Hid (ao = none ∨ ∃ G, ao = some ⟨G, 0, none⟩) := by
    obtain ⟨pv, hb, hg, ⟨rfl, rfl⟩ | ⟨G, C, rfl, hG, hR⟩⟩ := A.top
    · have := hb.cell (i := 0) rfl
      rw [hc] at this
      cases this
      exact .inl rfl
    · have := hb.cell (i := 0) rfl
      rw [hc] at this
      cases this
      exact .inr ⟨G, rfl⟩
  have hc0 : ao = none → c = 0 := by
    intro e
    obtain ⟨pv, hb, hg, ⟨rfl, rfl⟩ | ⟨G, C, rfl, hG, hR⟩⟩ := A.top
    · have := hb.cell (i := 0) rfl
      rw [hc] at this
      cases this
      rfl
    · have := hb.cell (i := 0) rfl
      rw [hc] at this
      cases this
      cases e
  generalize hx : pgi (ens L) f = x at *
  have HX : Hid _ := hx
  generalize hy : pgi (ens L) t = y at *
  have HY : Hid _ := hy
  obtain ⟨n, hnn⟩ : ∃ n, Hid (L.length = n) := ⟨_, rfl⟩
  rw [hnn.out] at hc hc1 hl1 hl2 hn hfin hw0
  have cgd : w.drew.cell? ⟨g, 0, none⟩ = some (.slice ao n c) := hc
  have z0 : (0 : Int) ≤ (x : Int) := by omega
  have z1 : (x : Int) ≤ (n : Int) := by omega
  have zw : IntKind.i64.wrap ((y : Int) + 1) = (y : Int) + 1 := by rw [IntKind.wrap_i64]; omega
  have hbd := belowD w
  have HN := hnil.out
  clear A O hf ht hx hy hel hFG
  by_cases h0 : t = []
  · have hd : decide (t ≠ []) = false := by simp [h0]
    rw [hd] at tb
    have he : Hid (spanE (ens L) t = n) := by show _ = _; rw [hw0.out, if_pos h0]
    clear h0 hd t2 hw0
    rcases HN with rfl | ⟨G, rfl⟩
    · obtain rfl : c = 0 := hc0 rfl
      obtain rfl : n = 0 := by omega
      obtain rfl : x = 0 := by omega
      go_enter Try.func64, Try.ntmps64
      go_wp2
      go_region_held3 (fun w' => w'.cell? ⟨g, 0, none⟩ = some (.slice none 0 0)) (assumption)
        (first
          | (go_at_call 44; refine t1.mono ?_; rintro e' w1 ⟨rfl, hB1⟩; have cg1 : w1.cell? ⟨g, 0, none⟩ = _ := (hB1.cell (p := ⟨g, 0, none⟩) hgl).trans cgd; have hB1' := joinB hbd hB1))
      have tb1 := tb w1 hB1'
      clear t1 tb
      go_wp2_with (go_at_call 74; refine tb1.mono ?_; rintro e' w2 ⟨rfl, rfl⟩)
      all_goals (
        go_ret
        exact ⟨_, rfl, hfin.out _ _ _ 0 _ he.out (by omega) hB1' (by omega) (by omega) (by omega) (by first | exact .inl (by omega) | exact .inr (fun b o e => by cases e; simp)), hB1'⟩)
    · clear hc0
      go_enter Try.func64, Try.ntmps64
      go_wp2
      go_region_held3 (fun w' => w'.cell? ⟨g, 0, none⟩ = some (.slice (some ⟨G, 0, none⟩) n c)) (assumption)
        (first
          | (go_at_call 44; refine t1.mono ?_; rintro e' w1 ⟨rfl, hB1⟩; have cg1 : w1.cell? ⟨g, 0, none⟩ = _ := (hB1.cell (p := ⟨g, 0, none⟩) hgl).trans cgd; have hB1' := joinB hbd hB1))
      have tb1 := tb w1 hB1'
      clear t1 tb
      go_wp2_with (go_at_call 74; refine tb1.mono ?_; rintro e' w2 ⟨rfl, rfl⟩)
      all_goals (
        go_ret
        exact ⟨_, rfl, hfin.out _ _ _ n _ he.out (by omega) hB1' (by omega) (by omega) (by omega) (by first | exact .inl (by omega) | exact .inr (fun b o e => by cases e; simp)), hB1'⟩)
  · have hd : decide (t ≠ []) = true := by simp [h0]
    rw [hd] at tb
    have he : Hid (spanE (ens L) t = min (y + 1) n) := by show _ = _; rw [hw0.out, if_neg h0]
    clear h0 hd hw0
    rcases HN with rfl | ⟨G, rfl⟩
    · obtain rfl : c = 0 := hc0 rfl
      obtain rfl : n = 0 := by omega
      obtain rfl : x = 0 := by omega
      go_enter Try.func64, Try.ntmps64
      go_wp2
      go_region_held3 (fun w' => w'.cell? ⟨g, 0, none⟩ = some (.slice none 0 0)) (assumption)
        (first
          | (go_at_call 44; refine t1.mono ?_; rintro e' w1 ⟨rfl, hB1⟩; have cg1 : w1.cell? ⟨g, 0, none⟩ = _ := (hB1.cell (p := ⟨g, 0, none⟩) hgl).trans cgd; have hB1' := joinB hbd hB1))
      have tb1 := tb w1 hB1'
      have t21 := t2 w1 hB1'
      clear t1 tb t2
      go_wp2_with (first
        | (go_at_call 74; refine tb1.mono ?_; rintro e' w2 ⟨rfl, rfl⟩)
        | (go_at_call 44; refine t21.mono ?_; rintro e' w3 ⟨rfl, hB3⟩; have cg3 : w3.cell? ⟨g, 0, none⟩ = _ := (hB3.cell (p := ⟨g, 0, none⟩) (cell_lt cg1)).trans cg1; have hB := joinB hB1' hB3))
      all_goals (
        go_ret
        exact ⟨_, rfl, hfin.out _ _ _ (min (y + 1) 0) _ he.out (by omega) hB (by omega) (by omega) (by omega) (by first | exact .inl (by omega) | exact .inr (fun b o e => by cases e; simp)), hB⟩)
    · clear hc0
      go_enter Try.func64, Try.ntmps64
      go_wp2
      go_region_held3 (fun w' => w'.cell? ⟨g, 0, none⟩ = some (.slice (some ⟨G, 0, none⟩) n c)) (assumption)
        (first
          | (go_at_call 44; refine t1.mono ?_; rintro e' w1 ⟨rfl, hB1⟩; have cg1 : w1.cell? ⟨g, 0, none⟩ = _ := (hB1.cell (p := ⟨g, 0, none⟩) hgl).trans cgd; have hB1' := joinB hbd hB1))
      have tb1 := tb w1 hB1'
      have t21 := t2 w1 hB1'
      clear t1 tb t2
      go_wp2_with (first
        | (go_at_call 74; refine tb1.mono ?_; rintro e' w2 ⟨rfl, rfl⟩)
        | (go_at_call 44; refine t21.mono ?_; rintro e' w3 ⟨rfl, hB3⟩; have cg3 : w3.cell? ⟨g, 0, none⟩ = _ := (hB3.cell (p := ⟨g, 0, none⟩) (cell_lt cg1)).trans cg1; have hB := joinB hB1' hB3))
      all_goals (
        go_ret
        exact ⟨_, rfl, hfin.out _ _ _ (min (y + 1) n) _ he.out (by omega) hB (by omega) (by omega) (by omega) (by first | exact .inl (by omega) | exact .inr (fun b o e => by cases e; simp)), hB⟩)
end Pg
end Go.Proofs.Ytjnjkgakdnjlmaa

namespace Go.Proofs.Ytjnjkgakdnjlmaa
namespace Pg
open Go.RowKit Go.Lib
attribute [local go_sem] Oper.semAt_some
theorem OB.chg {w w' : World} {D X : Nat → Prop} {v : Value} {l : List Int} (h : OB w D v l) (hc : Chg X w w') (hX : ∀ b, X b → ∀ cs, ¬ Blk w b cs 5) : OB w' D v l := by
  refine ⟨h.oct, h.ex.imp id ?_⟩
  rintro ⟨b, c, e, hd, hR⟩
  obtain ⟨cs, k⟩ := hR.kind
  exact ⟨b, c, e, hd, hR.chg hc fun x => hX b x cs k⟩
/-- what a walk over a map leans on -/
structure Wk (W : World) (X F D : Nat → Prop) (g : Nat) (L : List Pg) (bm bf bt : Nat) (fv tv : Value) (f t : List Int) : Prop where
  map : MapA W F D g L
  ord : Ord (ens L)
  few : ∀ es ∈ ens L, es.length ≤ 32
  big : L.length ≤ 100000000
  xF : ∀ b, X b → ¬ F b
  xU : ∀ b, X b → ∀ cs, ¬ Blk W b cs 5
  boxm : Blk W bm [.pointer (some ⟨g, 0, none⟩)] 25 ∧ ¬ X bm
  boxf : Blk W bf [fv] 33 ∧ ¬ X bf
  boxt : Blk W bt [tv] 33 ∧ ¬ X bt
  byf : ∃ Df, OB W Df fv f
  byt : ∃ Dt, OB W Dt tv t
theorem Wk.at {W V : World} {X F D : Nat → Prop} {g : Nat} {L : List Pg} {bm bf bt : Nat} {fv tv : Value} {f t : List Int} (h : Wk W X F D g L bm bf bt fv tv f t) (hc : Chg X W V) : MapA V F D g L ∧ By V fv f ∧ By V tv t ∧ V.cell? ⟨bm, 0, none⟩ = some (.pointer (some ⟨g, 0, none⟩)) ∧ V.cell? ⟨bf, 0, none⟩ = some fv ∧ V.cell? ⟨bt, 0, none⟩ = some tv := by
  obtain ⟨Df, hf⟩ := h.byf
  obtain ⟨Dt, ht⟩ := h.byt
  exact ⟨h.map.chg hc h.xF h.xU, (hf.chg hc h.xU).by, (ht.chg hc h.xU).by, (h.boxm.1.chg hc h.boxm.2).cell (i := 0) rfl, (h.boxf.1.chg hc h.boxf.2).cell (i := 0) rfl, (h.boxt.1.chg hc h.boxt.2).cell (i := 0) rfl⟩
theorem cut_mem {α : Type} {l : List α} {a b : Nat} {x : α} (h : x ∈ cut l a b) : x ∈ l := List.mem_of_mem_drop (List.mem_of_mem_take h)
/-- entries of pages, behind k of them -/
theorem flatMap_take {α β : Type} (l : List α) (f : α → List β) (k : Nat) (x : α) (h : l[k]? = some x) : (l.take (k + 1)).flatMap f = (l.take k).flatMap f ++ f x := by
  rw [List.take_add_one, h]; simp
theorem flatMap_at {α β : Type} (l : List α) (f : α → List β) (k j : Nat) (x : α) (y : β) (h : l[k]? = some x) (hj : (f x)[j]? = some y) : (l.flatMap f)[((l.take k).flatMap f).length + j]? = some y := by
  have hk := (List.getElem?_eq_some_iff.1 h).1
  have e : l.flatMap f = (l.take k).flatMap f ++ (f x ++ (l.drop (k + 1)).flatMap f) := by
    conv => lhs; rw [← List.take_append_drop (k + 1) l, List.flatMap_append, flatMap_take l f k x h]
    rw [List.append_assoc]
  rw [e, List.getElem?_append_right (by omega), Nat.add_sub_cancel_left, List.getElem?_append_left (List.getElem?_eq_some_iff.1 hj).1]
  exact hj
set_option maxHeartbeats 4000000 in
set_option maxRecDepth 100000 in
theorem rising_itr {Tp : TypeId → Prop} {W0 : World} {X F D : Nat → Prop} {g : Nat} {L : List Pg} {bm bf bt : Nat} {fv tv : Value} {f t : List Int} (K : Wk W0 X F D g L bm bf bt fv tv f t) :
    Itr Tp 63 #[.pointer (some ⟨bm, 0, none⟩), .pointer (some ⟨bf, 0, none⟩), .pointer (some ⟨bt, 0, none⟩)] (wlk (ens L) f t).length (fun i args _ _ => ∃ e, (wlk (ens L) f t)[i]? = some e ∧ args = #[.agg #[e.kv, e.vv]]) (fun V => Chg X W0 V) := by
  intro l J Jx W hJ hJx hRd hY h0
  obtain ⟨Am, hf, ht, cm, cf, ct⟩ := K.at (hRd 0 W h0)
  have tS := span_any Am K.ord hf ht K.big
  obtain ⟨Q, hQ⟩ : ∃ Q, Hid (cut L (pgi (ens L) f) (spanE (ens L) t) = Q) := ⟨_, rfl⟩
  rw [hQ.out] at tS
  have hQe : Hid (wlk (ens L) f t = (ens Q).flatMap fun es => wth es f t) := by
    show _ = _
    rw [← hQ.out]
    unfold wlk cut ens
    rw [List.map_take, List.map_drop]
  have hQm : ∀ p ∈ Q, p ∈ L := fun p hp => by rw [← hQ.out] at hp; exact List.mem_of_mem_drop (List.mem_of_mem_take hp)
  obtain ⟨E, hE⟩ : ∃ E, Hid (wlk (ens L) f t = E) := ⟨_, rfl⟩
  rw [hE.out] at hY ⊢
  have hQe2 : Hid (E = (ens Q).flatMap fun es => wth es f t) := by show _ = _; rw [← hE.out]; exact hQe.out
  refine (callsIn_wide (n := 0)).1 ?_
  refine callsIn_of_wp Try.func63 rfl trivial ?_ rfl
  simp only [Try.ntmps63, List.size_toArray, List.length_cons, List.length_nil, Nat.reduceAdd, Nat.reduceSub, Array.replicate_succ, Array.replicate_zero, List.push_toArray, List.append_toArray, List.nil_append, List.cons_append]
  gi_wp2_with (refine ⟨trivial, rfl, ?_⟩; gi_at_call 64; refine (callsIn_wide.2 tS).mono ?_; rintro e' w1 ⟨v1, rfl, hSp, hB1⟩; obtain ⟨ao, cc, rfl, hc1, hc2, hat⟩ := hSp.ex)
  have J1 := hJ 0 _ _ h0 (Rec.of hB1)
  clear tS h0 cm cf ct hf ht hSp
  have hat : Hid _ := hat
  have hWl : W.heap.size ≤ w1.heap.size := hB1.size
  have hCw : Hid (Chg X W0 w1) := hRd 0 _ J1
  obtain ⟨n, hnn⟩ : ∃ n, Hid (Q.length = n) := ⟨_, rfl⟩
  rw [hnn.out] at hc1 ⊢
  have hFlt : ∀ b, F b → b < W0.heap.size ∧ ¬ X b := fun b hb => ⟨K.map.lt hb, fun x => K.xF b x hb⟩
  have hcell : Hid (∀ j p, Q[j]? = some p → ∀ V, Chg X W0 V → ∃ b o, ao = some ⟨b, o, none⟩ ∧ V.cell? ⟨b, o + j, none⟩ = some p.v) := fun j p hj V hV => by
    obtain ⟨b, o, e, hF, hc⟩ := hat.out j p hj
    obtain ⟨h1, h2⟩ := hFlt b hF
    refine ⟨b, o, e, ?_⟩
    rw [World.cell?_of_block (w := W0) (a := ⟨b, o + j, none⟩) (hV.same b h1 h2), ← World.cell?_of_block (w := W0) (w' := w1) (a := ⟨b, o + j, none⟩) (hCw.out.same b h1 h2)]
    exact hc
  gi_loopw [14] (fun ti wr => ∃ a : Nat, a ≤ n ∧ ti = .int .i64 a ∧ W.heap.size ≤ wr.heap.size ∧ J ((((ens Q).take a).flatMap fun es => wth es f t).length) wr) (fun ti _ => n - (intOf ti).toNat)
  case atStart => exact ⟨0, Nat.zero_le _, rfl, hWl, J1⟩
  case round =>
    clear J1 hWl
    obtain ⟨a, ha, rfl, hsz, hJa⟩ := hrel
    by_cases hlt : a < n
    · obtain ⟨p, hp⟩ : ∃ p, Q[a]? = some p := ⟨Q[a]'(by have := hnn.out; omega), List.getElem?_eq_getElem _⟩
      obtain ⟨b, o, rfl, cP⟩ := hcell.out a p hp wr (hRd _ _ hJa)
      obtain ⟨Ap, hf, ht, cm, cf, ct⟩ := K.at (hRd _ _ hJa)
      have hpm := hQm p (List.mem_of_getElem? hp)
      have hpL : p.es ∈ ens L := List.mem_map.2 ⟨p, hpm, rfl⟩
      have hps := K.few _ hpL
      obtain ⟨pj, hpj⟩ := List.getElem?_of_mem hpL
      have tW := within_any (Ap.pages p hpm).1 (K.ord.page hpj) hf ht (by omega)
      have z1 : (a : Int) < n := by omega
      simp only [Pg.v] at cP tW
      gi_wp2_with (refine ⟨trivial, rfl, ?_⟩; gi_at_call 65; refine (callsIn_wide.2 tW).mono ?_; rintro e' w2 ⟨v2, rfl, hEs, hB2⟩; obtain ⟨ao2, cc2, rfl, hd1, hd2, hat2⟩ := hEs.ex)
      have J2 := hJ _ _ _ hJa (Rec.of hB2)
      have hsz2 : W.heap.size ≤ w2.heap.size := Nat.le_trans hsz hB2.size
      have hat2 : Hid _ := hat2
      have hCw2 : Hid (Chg X W0 w2) := hRd _ _ J2
      have hpF := (K.map.pages p hpm).2
      obtain ⟨es, hes⟩ : ∃ es, Hid (wth p.es f t = es) := ⟨_, rfl⟩
      rw [hes.out] at hd1 hat2 ⊢
      obtain ⟨m, hmm⟩ : ∃ m, Hid (es.length = m) := ⟨_, rfl⟩
      rw [hmm.out] at hd1 ⊢
      obtain ⟨bs, hbs⟩ : ∃ bs, Hid ((((ens Q).take a).flatMap fun es => wth es f t).length = bs) := ⟨_, rfl⟩
      rw [hbs.out] at J2
      have hcell2 : Hid (∀ j e, es[j]? = some e → ∀ V, Chg X W0 V → ∃ o, ao2 = some ⟨p.b, o, none⟩ ∧ V.cell? ⟨p.b, o + j * 2, none⟩ = some e.kv ∧ V.cell? ⟨p.b, o + j * 2 + 1, none⟩ = some e.vv) := fun j e hj V hV => by
        obtain ⟨o, e', hk, hv⟩ := hat2.out j e hj
        obtain ⟨h1, h2⟩ := hFlt p.b hpF
        have e1 : V.heap[p.b]? = w2.heap[p.b]? := (hV.same p.b h1 h2).trans (hCw2.out.same p.b h1 h2).symm
        exact ⟨o, e', by rw [World.cell?_of_block (w := w2) (a := ⟨p.b, o + j * 2, none⟩) e1]; exact hk, by rw [World.cell?_of_block (w := w2) (a := ⟨p.b, o + j * 2 + 1, none⟩) e1]; exact hv⟩
      have hEat : Hid (∀ j e, es[j]? = some e → E[bs + j]? = some e) := fun j e hj => by
        rw [hQe2.out, ← hbs.out]
        exact flatMap_at (ens Q) (fun es => wth es f t) a j p.es e (ens_get hp) (by rw [hes.out]; exact hj)
      clear hEs cm cf ct hf ht tW hat2 hB2 cP
      gi_loopw [23] (fun ti wv => ∃ c : Nat, c ≤ m ∧ ti = .int .i64 c ∧ W.heap.size ≤ wv.heap.size ∧ J (bs + c) wv) (fun ti _ => m - (intOf ti).toNat)
      case atStart => exact ⟨0, Nat.zero_le _, rfl, hsz2, J2⟩
      case round =>
        clear J2 hsz2
        rename World => wv
        obtain ⟨c, hc, rfl, hszv, hJc⟩ := hrel
        by_cases hltc : c < m
        · obtain ⟨e, he⟩ : ∃ e, es[c]? = some e := ⟨es[c]'(by have := hmm.out; omega), List.getElem?_eq_getElem _⟩
          obtain ⟨o2, rfl, ck, cv⟩ := hcell2.out c e he wv (hRd _ _ hJc)
          have z2 : (c : Int) < m := by omega
          have hem : e ∈ p.es := by
            have h1 := List.mem_of_getElem? he
            rw [← hes.out] at h1
            exact cut_mem h1
          have hEn := ((K.at (hRd _ _ hJc)).1.pages p hpm).1.ents e hem
          have hEi := hEat.out c e he
          have hbE : bs + c < E.length := (List.getElem?_eq_some_iff.1 hEi).1
          obtain ⟨ekv, ekl, evv, evl⟩ := e
          obtain ⟨ak, nk, hk1⟩ := hEn.k.shape
          obtain ⟨av, nv, hv1⟩ := hEn.v.shape
          simp only at hk1 hv1
          subst hk1 hv1
          have B3 := blk_new wv [.slice ak ekl.length nk, .slice av evl.length nv] 65
          have hb3 := below_alloc wv (.cells #[.slice ak ekl.length nk, .slice av evl.length nv] 65)
          have k3 := B3.cell (i := 0) rfl
          have v3 := B3.cell (i := 1) rfl
          obtain ⟨fn, tmps, assign, body, hy, hR⟩ := hY (bs + c) #[.agg #[.slice ak ekl.length nk, .slice av evl.length nv]] wv _ hbE hJc hszv hb3 ⟨_, hEi, rfl⟩
          have hs3 := hb3.size
          clear hEn B3 hb3 he hem hEi
          gi_wp2
          refine ⟨rfl, hR.mono ?_⟩
          rintro e' W4 ⟨hk4, ⟨rfl, hJ4⟩ | ⟨rfl, hJ4⟩⟩
          · gi_wp2
            go_roundw
            case rel => exact ⟨c + 1, by omega, by go_num, Nat.le_trans (Nat.le_trans hszv hs3) hk4.size, hJ4⟩
            case measure => simp [intOf]; omega
          · gi_wp2
            refine bodyPost_ret (results_none rfl _ _ _) rfl ?_
            exact ⟨⟨_, rfl⟩, Nat.le_trans (Nat.le_trans hszv hs3) hk4.size, .inr ⟨bs + c, hbE, hJ4⟩⟩
        · have hcm : c = m := by omega
          have HJ : Hid (J ((((ens Q).take (a + 1)).flatMap fun es => wth es f t).length) wv) := by
            show J _ wv
            rw [flatMap_take (ens Q) (fun es => wth es f t) a p.es (ens_get hp), List.length_append, hbs.out, hes.out, hmm.out, ← hcm]
            exact hJc
          have z2 : ¬ ((c : Int) < m) := by omega
          have HC : Hid _ := hcm
          clear hcm hJc
          gi_wp2
          go_roundw
          case rel => exact ⟨a + 1, by omega, by go_num, hszv, HJ.out⟩
          case measure => simp [intOf]; omega
    · have han : a = n := by omega
      have HJ : Hid (J E.length wr) := by
        show J _ wr
        have : (ens Q).take a = ens Q := List.take_of_length_le (by simp [ens]; have := hnn.out; omega)
        rw [this, ← hQe2.out] at hJa
        exact hJa
      have z1 : ¬ ((a : Int) < n) := by omega
      have HA : Hid _ := han
      clear han hJa
      gi_wp2
      go_end0
      exact ⟨⟨_, rfl⟩, hsz, .inl HJ.out⟩
end Pg
end Go.Proofs.Ytjnjkgakdnjlmaa

namespace Go.Proofs.Ytjnjkgakdnjlmaa
namespace Pg
open Go.RowKit Go.Lib
section
variable {F : Fence} {n : Nat} {P : Program} {ops : Array Oper} {Q : Exit → Act → World → Prop} {md : Region.Mode} {S : World → Prop}
/-- whatever order is picked, and S holds behind every step -/
def inH (F : Fence) (n : Nat) (P : Program) (md : Region.Mode) (ops : Array Oper) (Q : Exit → Act → World → Prop) (S : World → Prop) : Nat → Array Bool → Act → World → Prop
  | 0, listed, a, w => Region.ready md ops listed = [] ∧ Q .normal a w
  | fuel + 1, listed, a, w =>
    (Region.ready md ops listed = [] → Q .normal a w) ∧
    ∀ i ∈ Region.ready md ops listed, wpOpIn F n P ops Q i (fun a' w' => S w' ∧ inH F n P md ops Q S fuel (listed.setIfInBounds i true) a' w') a w
theorem any_of_inH : ∀ (fuel : Nat) (listed : Array Bool) (a : Act) (w : World), inH F n P md ops Q S fuel listed a w → wpAnyIn F n P md ops Q fuel listed a w
  | 0, _, _, _, h => h
  | fuel + 1, _, _, _, h => ⟨h.1, fun i hi => wpOpIn_mono (fun a' w' h' => any_of_inH fuel _ a' w' h'.2) (h.2 i hi)⟩
/-- no operation is a defer or a select -/
def tame (ops : Array Oper) : Bool := ops.all fun o => match o.op with | .defer _ => false | .select .. => false | _ => true
theorem tame_at (h : tame ops = true) {j : Nat} {o : Oper} (hj : ops[j]? = some o) : (∀ c, o.op ≠ .defer c) ∧ (∀ cs b, o.op ≠ .select cs b) := by
  unfold tame at h
  rw [Array.all_eq_true] at h
  obtain ⟨hl, rfl⟩ := Array.getElem?_eq_some_iff.1 hj
  have := h j hl
  refine ⟨fun c e => ?_, fun cs b e => ?_⟩
  · rw [e] at this; simp at this
  · rw [e] at this; simp at this
theorem yields_in {i : Nat} {o : Oper} {v : Value} {a : Act} (hF : ∀ f, F.fn f) (ht : tame ops = true) (hi : ops[i]? = some o) (hy : YieldsIf P ops S o v a) {K : Act → World → Prop} {w : World} (hS : S w) (h : K (a.put o.dst v) w) : wpOpIn F n P ops Q i K a w := by
  unfold wpOpIn
  simp only [hi]
  rcases hy with ⟨hw, hv⟩ | ⟨hw, rfl⟩
  · simp only [hw, if_true, Oper.wpIn, Oper.semAt_eq F.round a.eval o (tame_at ht hi).1, hv w hS, Oper.uponIn]
    exact ⟨fun f _ => hF f, h⟩
  · simp only [hw, Bool.false_eq_true, if_false]; exact ⟨fun f _ => hF f, h⟩
theorem put_in {j : Nat} {oi oj : Oper} {v : Value} (hF : ∀ f, F.fn f) (ht : tame ops = true) (hj : ops[j]? = some oj) (hap : oi.apart ops oj = true) (hsi : ∀ cs b, oi.op ≠ .select cs b)
    (hQ : ∀ c a w, Q (.panic c) (a.put oi.dst v) w → Q (.panic c) a w) {K : Act → World → Prop} {a : Act} {w : World}
    (hy : YieldsIf P ops S oi v a) (h : wpOpIn F n P ops Q j K (a.put oi.dst v) w) :
    wpOpIn F n P ops Q j (fun a' w' => YieldsIf P ops S oi v a' ∧ K (a'.put oi.dst v) w') a w := by
  obtain ⟨h1, h2, h3⟩ := Oper.apart_spec hap
  obtain ⟨hd, hsj⟩ := tame_at ht hj
  have keep : ∀ (a : Act), YieldsIf P ops S oi v a → ∀ u, YieldsIf P ops S oi v (a.put oj.dst u) := fun a hy u =>
    hy.of_same (execOp_put oi hsi a oj.dst u h3) (wanted_put oi a oj.dst u h3)
  have keepD : ∀ d, YieldsIf P ops S oi v { a with defers := d :: a.defers } := fun d => hy.of_same rfl rfl
  unfold wpOpIn at *
  simp only [hj] at *
  rw [wanted_put oj a oi.dst v h1] at h
  split
  · rename_i hw
    simp only [hw, if_true] at h
    unfold Oper.wpIn at *
    refine ⟨fun f _ => hF f, ?_⟩
    have h := h.2
    rw [Oper.semAt_eq _ _ _ hd, execOp_put oj hsj a oi.dst v h1] at h
    rw [Oper.semAt_eq _ _ _ hd]
    generalize (execOp a.eval oj).run P w = r at *
    cases r with
    | ok x w' =>
      cases x <;> simp only [Oper.uponIn] at h ⊢
      case value u => exact ⟨keep a hy u, by rw [← Act.put_comm a v u h2]; exact h⟩
      case skip => exact ⟨keep a hy _, by rw [← Act.put_comm a v undef h2]; exact h⟩
      case defer d =>
        refine ⟨keep _ (keepD d) _, ?_⟩
        rw [← Act.put_comm _ v undef h2, ← Act.put_defers]
        exact h
      case enter f args =>
        refine ⟨h.1, CallsIn.mono h.2 fun e w'' he => ?_⟩
        cases e with
        | returned u => exact ⟨keep a hy u, by rw [← Act.put_comm a v u h2]; exact he⟩
        | panicked c => exact hQ _ _ _ he
        | outgrown => exact he
      case row row args => exact ⟨h.1, RowsIn.mono h.2 fun u w'' he => ⟨keep a hy u, by rw [← Act.put_comm a v u h2]; exact he⟩⟩
      case round l f tmps assign body =>
        refine ⟨h.1, RoundIn.mono h.2 fun e w'' he => ?_⟩
        cases e with
        | returned u => exact ⟨keep a hy u, by rw [← Act.put_comm a v u h2]; exact he⟩
        | panicked c => exact hQ _ _ _ he
        | outgrown => exact he
    | halt x w' =>
      cases x <;> simp only [Oper.uponIn] at h ⊢
      case panic u => exact hQ _ _ _ h
  · rename_i hw
    simp only [hw] at h
    exact ⟨fun f _ => hF f, keep a hy _, by rw [← Act.put_comm a v undef h2]; exact h.2⟩
theorem inH_first {i : Nat} {oi : Oper} {v : Value} (hF : ∀ f, F.fn f) (ht : tame ops = true) (hi : ops[i]? = some oi)
    (hQ : ∀ c a w, Q (.panic c) (a.put oi.dst v) w → Q (.panic c) a w) :
    ∀ (fuel : Nat) (listed : Array Bool) (a : Act) (w : World),
      (∀ j oj, ops[j]? = some oj → j ≠ i → listed.getD j true = false → (∀ e ∈ oj.after, Region.binds md e = true → e.on ≠ i) → oi.apart ops oj = true) →
      i ∈ Region.ready md ops listed → YieldsIf P ops S oi v a → S w →
      inH F n P md ops Q S fuel (listed.setIfInBounds i true) (a.put oi.dst v) w → inH F n P md ops Q S (fuel + 1) listed a w := by
  intro fuel
  induction fuel with
  | zero =>
    intro listed a w _ hr hy hS H
    refine ⟨fun h => (by rw [h] at hr; cases hr), fun j hj => ?_⟩
    by_cases hji : j = i
    · subst hji; exact yields_in hF ht hi hy hS ⟨hS, H⟩
    · have := ready_mono hj hji
      rw [H.1] at this
      cases this
  | succ fuel ih =>
    intro listed a w hfree hr hy hS H
    refine ⟨fun h => (by rw [h] at hr; cases hr), fun j hj => ?_⟩
    by_cases hji : j = i
    · subst hji; exact yields_in hF ht hi hy hS ⟨hS, H⟩
    · have h1 := H.2 j (ready_mono hj hji)
      obtain ⟨hjun, oj, hoj, hall⟩ := mem_ready.1 hj
      have hnot : ∀ e ∈ oj.after, Region.binds md e = true → e.on ≠ i := fun e he hb heq => by
        have h1 := hall e he hb
        have h0 := (mem_ready.1 hr).1
        rw [heq] at h1
        rcases Nat.lt_or_ge i listed.size with h' | h'
        · simp [h'] at h0 h1; rw [h0] at h1; cases h1
        · simp [Array.getElem?_eq_none h'] at h1
      have h2 := put_in hF ht hoj (hfree j oj hoj hji hjun hnot) (tame_at ht hi).2 hQ hy h1
      have hfree' : ∀ k ok, ops[k]? = some ok → k ≠ i → (listed.setIfInBounds j true).getD k true = false →
          (∀ e ∈ ok.after, Region.binds md e = true → e.on ≠ i) → oi.apart ops ok = true := fun k ok hk hki hun hno => by
        refine hfree k ok hk hki ?_ hno
        by_cases hjk : j = k
        · subst hjk; exact hjun
        · rw [getD_set_ne true hjk] at hun; exact hun
      refine wpOpIn_mono (fun a' w' h3 => ⟨h3.2.1, ih (listed.setIfInBounds j true) a' w' hfree' (ready_mono hr (Ne.symm hji)) h3.1 h3.2.1 ?_⟩) h2
      rw [Array.setIfInBounds_comm _ _ hji]
      exact h3.2.2
end
section
variable {ops : Array Oper} {Q : Exit → Act → World → Prop} {S : World → Prop} {fuel : Nat} {listed : Array Bool} {a : Act} {w : World} {l n : Nat}
theorem ih_start {id : Nat} (hm : Try.prog.follows .mixedOrders = true) (h : inH (Fence.wide.inRound l) n Try.prog .any ops Q S ops.size (Array.replicate ops.size false) a w.drew) : (Code.region id ops true).wpIn (Fence.wide.inRound l) n Try.prog Q a w :=
  wpIn_region_any hm (any_of_inH _ _ _ _ h)
theorem ih_take (i : Nat) (d : Option Tmp) (v : Value) (ht : tame ops = true) (hc : rgChk ops listed a i d = true) (hy : ∀ w', S w' → (execOp a.eval (ops.getD i default)).run Try.prog w' = .ok (.value v) w')
    (hQ : ∀ c a w, Q (.panic c) (a.put d v) w → Q (.panic c) a w) (hS : S w)
    (h : inH (Fence.wide.inRound l) n Try.prog .any ops Q S fuel (listed.setIfInBounds i true) (a.put d v) w) : inH (Fence.wide.inRound l) n Try.prog .any ops Q S (fuel + 1) listed a w := by
  simp only [rgChk, Bool.and_eq_true, decide_eq_true_eq] at hc
  obtain ⟨⟨⟨⟨⟨_, h2⟩, h3⟩, h4⟩, h5⟩, h6⟩ := hc
  subst h6
  exact inH_first (fun _ => trivial) ht (at_getD h4) hQ fuel listed a w (Region.free_spec (at_getD h4) h2) (by simpa using h3) (.inl ⟨h5, hy⟩) hS h
theorem ih_load (i : Nat) (d : Option Tmp) (v : Value) (T : TypeId) (k g o : Nat) (ht : tame ops = true) (hc : rgChk ops listed a i d = true) (ho : (ops.getD i default).op = .load T (.tmp k)) (hp : a.eval (.tmp k) = .pointer (some ⟨g, o, none⟩))
    (hl : ∀ w', S w' → (loadVar T ⟨g, o, none⟩).run Try.prog w' = .ok v w')
    (hQ : ∀ c a w, Q (.panic c) (a.put d v) w → Q (.panic c) a w) (hS : S w)
    (h : inH (Fence.wide.inRound l) n Try.prog .any ops Q S fuel (listed.setIfInBounds i true) (a.put d v) w) : inH (Fence.wide.inRound l) n Try.prog .any ops Q S (fuel + 1) listed a w :=
  ih_take i d v ht hc (fun w' hS' => run_lp k ho hp (hl w' hS')) hQ hS h
theorem ih_call (i : Nat) (d : Option Tmp) (f : FuncId) (args : Array Value) {Qc : Ending → World → Prop} (ht : tame ops = true) (hc : rgLone ops listed a i d = true) (hrun : (execOp a.eval (ops.getD i default)).run Try.prog w = .ok (.enter f args) w)
    (hcall : Calls Try.prog f args w Qc) (hk : ∀ e w', Qc e w' → ∃ v, e = .returned v ∧ S w' ∧ inH (Fence.wide.inRound l) n Try.prog .any ops Q S fuel (listed.setIfInBounds i true) (a.put d v) w') :
    inH (Fence.wide.inRound l) n Try.prog .any ops Q S (fuel + 1) listed a w := by
  simp only [rgLone, Bool.and_eq_true, decide_eq_true_eq] at hc
  obtain ⟨⟨⟨h3, h4⟩, h5⟩, h6⟩ := hc
  subst h6
  refine ⟨fun h0 => absurd (h3 ▸ h0) (by simp), fun j hj => ?_⟩
  rw [h3] at hj
  obtain rfl : j = i := by simpa using hj
  unfold wpOpIn
  rw [at_getD h4]
  simp only [h5, if_true, Oper.wpIn]
  refine ⟨fun _ _ => trivial, ?_⟩
  rw [Oper.semAt_eq _ _ _ (tame_at ht (at_getD h4)).1, hrun]
  refine ⟨fun h => (by cases h), CallsIn.inRound l (callsIn_wide.2 (hcall.mono fun e w' he => ?_))⟩
  obtain ⟨v, rfl, hS', hw⟩ := hk e w' he
  exact ⟨hS', hw⟩
theorem ih_yield (i : Nat) (d : Option Tmp) (l2 : Nat) (args : Array Value) {R : Ending → World → Prop} (ht : tame ops = true) (hc : rgLone ops listed a i d = true) (hrun : (execOp a.eval (ops.getD i default)).run Try.prog w = (Instr.yield l2 args).run Try.prog w)
    (hy : YieldAt Fence.wide 0 Try.prog l2 args w R) (hk : ∀ e w', R e w' → ∃ v, e = .returned v ∧ S w' ∧ inH (Fence.wide.inRound l) n Try.prog .any ops Q S fuel (listed.setIfInBounds i true) (a.put d v) w') :
    inH (Fence.wide.inRound l) n Try.prog .any ops Q S (fuel + 1) listed a w := by
  simp only [rgLone, Bool.and_eq_true, decide_eq_true_eq] at hc
  obtain ⟨⟨⟨h3, h4⟩, h5⟩, h6⟩ := hc
  subst h6
  obtain ⟨fn, tmps, assign, body, hy, hR⟩ := hy
  refine ⟨fun h0 => absurd (h3 ▸ h0) (by simp), fun j hj => ?_⟩
  rw [h3] at hj
  obtain rfl : j = i := by simpa using hj
  unfold wpOpIn
  rw [at_getD h4]
  simp only [h5, if_true, Oper.wpIn]
  refine ⟨fun _ _ => trivial, ?_⟩
  rw [Oper.semAt_eq _ _ _ (tame_at ht (at_getD h4)).1, hrun, hy]
  have hR2 : RoundIn (Fence.wide.inRound l) (n - 1) Try.prog l2 fn tmps assign body w R := ⟨hR.1, fun c cs _ => hR.2 c cs (fun _ h => by cases h)⟩
  refine ⟨fun h => (by cases h), hR2.mono fun e w' he => ?_⟩
  obtain ⟨v, rfl, hS', hw⟩ := hk e w' he
  exact ⟨hS', hw⟩
theorem ih_done (hr : Region.ready .any ops listed = []) (h : Q .normal a w) : inH (Fence.wide.inRound l) n Try.prog .any ops Q S fuel listed a w := by
  cases fuel with
  | zero => exact ⟨hr, h⟩
  | succ k => exact ⟨fun _ => h, by rw [hr]; simp⟩
theorem ih_turn {S' : World → Prop} (hs : ∀ w, S' w → S w) : ∀ {fuel : Nat} {listed : Array Bool} {a : Act} {w : World}, inH (Fence.wide.inRound l) n Try.prog .any ops Q S' fuel listed a w → inH (Fence.wide.inRound l) n Try.prog .any ops Q S fuel listed a w
  | 0, _, _, _, h => h
  | _ + 1, _, _, _, h => ⟨h.1, fun i hi => wpOpIn_mono (fun _ _ h' => ⟨hs _ h'.1, ih_turn hs h'.2⟩) (h.2 i hi)⟩
end
end Pg
end Go.Proofs.Ytjnjkgakdnjlmaa

namespace Go.Proofs.Ytjnjkgakdnjlmaa
namespace Pg
open Go.RowKit Go.Lib
attribute [local go_sem] Oper.semAt_some
/-- arguments that are copies of the entry's bytes, made since -/
def ArC (E : List En) (i : Nat) (args : Array Value) (n : Nat) (V : World) : Prop :=
  ∃ e kv vv s, E[i]? = some e ∧ args = #[kv, vv] ∧ OB V (fun b => n ≤ b ∧ b < s) kv e.kl ∧ OB V (s ≤ ·) vv e.vl ∧ n ≤ s
def ArE (E : List En) (i : Nat) (args : Array Value) (_ : Nat) (_ : World) : Prop := ∃ e, E[i]? = some e ∧ args = #[.agg #[e.kv, e.vv]]
theorem OB.cel {W W' : World} {D : Nat → Prop} {v : Value} {l : List Int} (h : OB W D v l) (hc : Cel W W') : OB W' D v l := by
  refine ⟨h.oct, h.ex.imp id ?_⟩
  rintro ⟨b, c, e, hd, hR⟩
  obtain ⟨cs, k⟩ := hR.kind
  exact ⟨b, c, e, hd, hR.same ((hc.same b _ k.blk rfl).trans k.blk.symm)⟩
theorem ArC.cel {E : List En} {i : Nat} {args : Array Value} {n : Nat} {V W : World} (h : ArC E i args n V) (hc : Cel V W) : ArC E i args n W := by
  obtain ⟨e, kv, vv, s, h1, h2, h3, h4, h5⟩ := h
  exact ⟨e, kv, vv, s, h1, h2, h3.cel hc, h4.cel hc, h5⟩
theorem ld_f {w : World} {g : Nat} {v : Value} (c : Blk w g [v] 38) : (loadVar 38 ⟨g, 0, none⟩).run Try.prog w = .ok v w := by
  have c := c.cell (i := 0) rfl
  go_simp
theorem ld_b {w : World} {g o : Nat} {v : Value} (c : w.cell? ⟨g, o, none⟩ = some v) : (loadVar 33 ⟨g, o, none⟩).run Try.prog w = .ok v w := by go_simp
theorem OB.lt' {w : World} {D : Nat → Prop} {v : Value} {l : List Int} (h : OB w D v l) : OB w (fun b => D b ∧ b < w.heap.size) v l := by
  refine ⟨h.oct, h.ex.imp id ?_⟩
  rintro ⟨b, c, e, hd, hR⟩
  exact ⟨b, c, e, ⟨hd, hR.lt⟩, hR⟩
theorem run_yv2 {a : Act} {w : World} {o : Oper} {f x y l : Nat} {t1 t2 : TypeId} {u v : Value} (ho : o.op = .call { callee := .value (.tmp f), args := #[.tmp x, .tmp y], argTypes := #[t1, t2] }) (hf : a.eval (.tmp f) = .func (.yield l) #[] #[]) (hx : a.eval (.tmp x) = u) (hy : a.eval (.tmp y) = v) :
    (execOp a.eval o).run Try.prog w = (Instr.yield l #[u, v]).run Try.prog w := by
  have hx' : a.tmps[x]?.getD undef = u := by simpa [Act.eval] using hx
  have hy' : a.tmps[y]?.getD undef = v := by simpa [Act.eval] using hy
  simp only [execOp, ho, resolve, hf]
  simp [go_sem, hx', hy', invoke]
theorem rec_cel {B : Nat} {W W' : World} {b : Nat} {cs : List Value} {t : TypeId} (h : Blk W b cs t) (hr : Rec B W W') : Blk W' b cs t := ⟨hr.same b _ h.blk (.inr rfl)⟩
set_option maxHeartbeats 4000000 in
set_option maxRecDepth 100000 in
theorem copies_itr {Tp : TypeId → Prop} {gf bw N : Nat} {lb : Array Value} {E : List En} {D : Nat → Prop} {Rd : World → Prop} (IT : Itr Tp gf lb N (ArE E) Rd) (eg : ∀ args w, (callFunc gf args).run Try.prog w = .ok (.enter gf args) w) (hT : ¬ Tp 38) (hTe : ¬ Tp 65)
    (hbw : ∀ V, Rd V → V.cell? ⟨bw, 0, none⟩ = some (.func (.func gf) #[] lb)) (hEn : ∀ V, Rd V → ∀ e ∈ E, EnA V D e) (hbig : ∀ e ∈ E, e.kl.length ≤ 1000000000 ∧ e.vl.length ≤ 1000000000) :
    Itr Tp 62 #[.pointer (some ⟨bw, 0, none⟩)] N (ArC E) Rd := by
  intro l J Jx W hJ hJx hRd hY h0
  have cw := hbw _ (hRd 0 W h0)
  have J1 := hJ 0 _ _ h0 (Rec.of (below_alloc W (.cells #[.func (.yield l) #[] #[]] 38)))
  have cw1 := hbw _ (hRd 0 _ J1)
  have Y1 := blk_new W [.func (.yield l) #[] #[]] 38
  refine (callsIn_wide (n := 0)).1 ?_
  refine callsIn_of_wp_marks Try.func62 rfl trivial ?_ rfl
  simp only [Try.ntmps62, List.size_toArray, List.length_cons, List.length_nil, Nat.reduceAdd, Nat.reduceSub, Array.replicate_succ, Array.replicate_zero, List.push_toArray, List.append_toArray, List.nil_append, List.cons_append]
  gi_wp2
  have hs1 : (W.alloc (.cells #[.func (.yield l) #[] #[]] 38)).heap.size = W.heap.size + 1 := by simp
  generalize W.alloc (.cells #[.func (.yield l) #[] #[]] 38) = W1 at *
  refine rf_outer IT (by rfl) eg (fun i args n V V' h _ => h) (fun i args n V h => by obtain ⟨e, _, rfl⟩ := h; rfl)
    (fun i V => J i V ∧ W1.heap.size ≤ V.heap.size ∧ Blk V W.heap.size [.func (.yield l) #[] #[]] 38)
    (fun c i V => c = .ret ∧ Jx i V ∧ W1.heap.size ≤ V.heap.size)
    (fun i X Y hx hr => ⟨hJ i X Y hx.1 (hr.mono (by omega)), Nat.le_trans hx.2.1 hr.size, rec_cel hx.2.2 hr⟩)
    (fun c i X Y hx hr => ⟨hx.1, hJx i X Y hx.2.1 (hr.mono (by omega)), Nat.le_trans hx.2.2 hr.size⟩)
    (fun i V hv => hRd i V hv.1) ⟨J1, Nat.le_refl _, Y1⟩ ?_ ?_ ?_
  · rintro l2 i args V Wv hl hlV hrec hiN ⟨hJi, hsz, hY2⟩ hb ⟨e, he, rfl⟩
    have hem := List.mem_of_getElem? he
    have hEnV := hEn V (hRd i V hJi) e hem
    obtain ⟨hkb, hvb⟩ := hbig e hem
    obtain ⟨ekv, ekl, evv, evl⟩ := e
    obtain ⟨ak, nk, hk1⟩ := hEnV.k.shape
    obtain ⟨av, nv, hv1⟩ := hEnV.v.shape
    simp only at hk1 hv1
    subst hk1 hv1
    simp
    gi_wp2
    refine ⟨below_alloc Wv _, ?_⟩
    intro V2 W2 hJ2 hsz2 hYb hb2 _ hoth hsz3 hV2 r hrec2
    have hEn2 := (hEn V2 (hRd i V2 hJ2) _ hem).keep (joinB hb2 (belowD W2))
    have hEb : Blk W2 Wv.heap.size [.slice ak ekl.length nk, .slice av evl.length nv] 65 := (blk_new Wv [.slice ak ekl.length nk, .slice av evl.length nv] 65).same (hoth _ (by have := hb.size; omega))
    have hYW := hYb.keep hb2
    gi_wp2
    refine ih_start (S := fun w' => Blk w' W.heap.size [.func (.yield l) #[] #[]] 38 ∧ Blk w' Wv.heap.size [.slice ak ekl.length nk, .slice av evl.length nv] 65) (by kernel_rfl) ?_
    have hS := (show _ ∧ _ from ⟨hYW.drew, hEb.drew⟩)
    have q1 := hb.size
    have q2 := hb2.size
    refine ih_load 0 (some 6) (.func (.yield l) #[] #[]) 38 2 W.heap.size 0 (by kernel_rfl) (by kernel_rfl) (by kernel_rfl) (by kernel_rfl) (fun w' h => ld_f h.1) (fun _ _ _ h => h) hS ?_
    refine ih_take 1 (some 7) (.pointer (some ⟨Wv.heap.size, 0, none⟩)) (by kernel_rfl) (by kernel_rfl) (fun _ _ => by kernel_rfl) (fun _ _ _ h => h) hS ?_
    refine ih_load 2 (some 8) (.slice ak ekl.length nk) 33 7 Wv.heap.size 0 (by kernel_rfl) (by kernel_rfl) (by kernel_rfl) (by kernel_rfl) (fun w' h => ld_b (h.2.cell (i := 0) rfl)) (fun _ _ _ h => h) hS ?_
    refine ih_take 4 (some 10) (.pointer (some ⟨Wv.heap.size, 1, none⟩)) (by kernel_rfl) (by kernel_rfl) (fun _ _ => by kernel_rfl) (fun _ _ _ h => h) hS ?_
    refine ih_load 5 (some 11) (.slice av evl.length nv) 33 10 Wv.heap.size 1 (by kernel_rfl) (by kernel_rfl) (by kernel_rfl) (by kernel_rfl) (fun w' h => ld_b (h.2.cell (i := 1) rfl)) (fun _ _ _ h => h) hS ?_
    refine ih_call 3 (some 9) 33 #[.slice ak ekl.length nk] (by kernel_rfl) (by kernel_rfl) (by kernel_rfl) (clone_any hEn2.k.by hkb) ?_
    rintro e' w3 ⟨nkv, rfl, hO3, hB3⟩
    refine ⟨_, rfl, ⟨hS.1.keep hB3, hS.2.keep hB3⟩, ?_⟩
    replace hS := (show _ ∧ _ from ⟨hS.1.keep hB3, hS.2.keep hB3⟩)
    refine ih_call 6 (some 12) 33 #[.slice av evl.length nv] (by kernel_rfl) (by kernel_rfl) (by kernel_rfl) (clone_any (hEn2.v.keep hB3).by hvb) ?_
    rintro e' w4 ⟨nvv, rfl, hO4, hB4⟩
    refine ⟨_, rfl, ⟨hS.1.keep hB4, hS.2.keep hB4⟩, ?_⟩
    replace hS := (show _ ∧ _ from ⟨hS.1.keep hB4, hS.2.keep hB4⟩)
    have hBV : Below V2.heap.size V2 w4 := joinB (joinB (joinB hb2 (belowD W2)) hB3) hB4
    have hBW : Below W2.heap.size W2 w4 := joinB (joinB (belowD W2) hB3) hB4
    have hAr : ArC E i #[nkv, nvv] V2.heap.size w4 := ⟨_, nkv, nvv, w3.heap.size, he, rfl, (hO3.lt'.keep hB4).mono (fun b _ hb => ⟨Nat.le_trans hb2.size hb.1, hb.2⟩), hO4, Nat.le_trans hb2.size hB3.size⟩
    refine ih_yield 7 (some 13) l #[nkv, nvv] (by kernel_rfl) (by kernel_rfl) (run_yv2 (t1 := 33) (t2 := 33) (f := 6) (x := 9) (y := 12) (by kernel_rfl) (by kernel_rfl) (by kernel_rfl) (by kernel_rfl)) (hY i _ V2 w4 hiN hJ2 (by omega) hBV hAr) ?_
    rintro e' w5 ⟨hk5, h5⟩
    have hY5 := hk5.blk hS.1 (Nat.le_refl _) hT
    have hE5 := hk5.blk hS.2 (by omega) hTe
    have hkk : KeepsT Tp (W.heap.size + 1) W2 w5 := (KeepsT.of (B := W.heap.size + 1) hBW).trans (hk5.mono (by omega))
    have hsz5 : W.heap.size + 1 ≤ w5.heap.size := by have := hkk.size; omega
    rcases h5 with ⟨rfl, hJ5⟩ | ⟨rfl, hJ5⟩
    · refine ⟨_, rfl, ⟨hY5, hE5⟩, ?_⟩
      have hS := (show _ ∧ _ from ⟨hY5, hE5⟩)
      refine ih_take 8 (some 14) (.bool false) (by kernel_rfl) (by kernel_rfl) (fun _ _ => by kernel_rfl) (fun _ _ _ h => h) hS ?_
      refine ih_done (by kernel_rfl) ?_
      simp only [Act.put, List.setIfInBounds_toArray, List.set_cons_zero, List.set_cons_succ]
      gi_wp2
      exact ⟨hkk, hJ5, hsz5, hY5⟩
    · refine ⟨_, rfl, ⟨hY5, hE5⟩, ?_⟩
      have hS := (show _ ∧ _ from ⟨hY5, hE5⟩)
      refine ih_take 8 (some 14) (.bool true) (by kernel_rfl) (by kernel_rfl) (fun _ _ => by kernel_rfl) (fun _ _ _ h => h) hS ?_
      refine ih_done (by kernel_rfl) ?_
      simp only [Act.put, List.setIfInBounds_toArray, List.set_cons_zero, List.set_cons_succ]
      gi_wp2
      exact ⟨hkk, rfl, hJ5, hsz5⟩
  · rintro D' W' hD hK ⟨hJn, hsz, hYb⟩
    gi_wp2
    refine ⟨by simp, .inl ⟨_, _, rfl, run_takeDeferred hK, ?_⟩⟩
    exact ⟨_, results_none rfl _ _ _, ⟨_, rfl⟩, by simp; omega, .inl (hJ N _ _ hJn (Rec.put hK rfl (by omega) _))⟩
  · rintro D' c i W' hD hK hiN ⟨rfl, hJx', hsz⟩
    gi_wp2
    refine ⟨by simp, .inl ⟨_, _, rfl, run_takeDeferred hK, ?_⟩⟩
    exact ⟨_, results_none rfl _ _ _, ⟨_, rfl⟩, by simp; omega, .inr ⟨i, hiN, hJx (i + 1) _ _ hJx' (Rec.put hK rfl (by omega) _)⟩⟩
end Pg
end Go.Proofs.Ytjnjkgakdnjlmaa

namespace Go.Proofs.Ytjnjkgakdnjlmaa
namespace Pg
open Go.RowKit Go.Lib
attribute [local go_sem] Oper.semAt_some
def ArBP (Q : List Pg) (i : Nat) (args : Array Value) (_ : Nat) (_ : World) : Prop := ∃ p j, j + 1 + i = Q.length ∧ Q[j]? = some p ∧ args = #[.int .i64 (j : Int), p.v]
def ArBE (Q : List En) (i : Nat) (args : Array Value) (_ : Nat) (_ : World) : Prop := ∃ e j, j + 1 + i = Q.length ∧ Q[j]? = some e ∧ args = #[.int .i64 (j : Int), .agg #[e.kv, e.vv]]
set_option maxHeartbeats 4000000 in
set_option maxRecDepth 100000 in
theorem backP_itr {Tp : TypeId → Prop} {bs n c : Nat} {ao : Option Addr} {Q : List Pg} {Rd : World → Prop} (hn : Q.length = n) (hbig : n ≤ 100000000)
    (hb : ∀ V, Rd V → V.cell? ⟨bs, 0, none⟩ = some (.slice ao n c) ∧ ∀ j p, Q[j]? = some p → ∃ b o, ao = some ⟨b, o, none⟩ ∧ V.cell? ⟨b, o + j, none⟩ = some p.v) :
    Itr Tp 75 #[.pointer (some ⟨bs, 0, none⟩)] n (ArBP Q) Rd := by
  intro l J Jx W hJ hJx hRd hY h0
  have cb := (hb W (hRd 0 W h0)).1
  have hb : Hid _ := hb
  have hn : Hid _ := hn
  have w0 : IntKind.i64.wrap ((n : Int) - 1) = (n : Int) - 1 := by rw [IntKind.wrap_i64]; omega
  refine (callsIn_wide (n := 0)).1 ?_
  refine callsIn_of_wp Try.func75 rfl trivial ?_ rfl
  simp only [Try.ntmps75, List.size_toArray, List.length_cons, List.length_nil, Nat.reduceAdd, Nat.reduceSub, Array.replicate_succ, Array.replicate_zero, List.push_toArray, List.append_toArray, List.nil_append, List.cons_append]
  gi_wp2
  gi_loopw [3] (fun ti wr => ∃ i : Nat, i ≤ n ∧ ti = .int .i64 ((n : Int) - 1 - (i : Int)) ∧ W.heap.size ≤ wr.heap.size ∧ J i wr) (fun ti _ => (intOf ti + 1).toNat)
  case atStart => exact ⟨0, Nat.zero_le _, by simp, Nat.le_refl _, h0⟩
  case round =>
    clear cb
    obtain ⟨i, hi, rfl, hsz, hJi⟩ := hrel
    obtain ⟨cb, hat⟩ := hb.out wr (hRd _ _ hJi)
    by_cases hlt : i < n
    · obtain ⟨j, hj⟩ : ∃ j, j + 1 + i = n := ⟨n - 1 - i, by omega⟩
      obtain ⟨p, hp⟩ : ∃ p, Q[j]? = some p := ⟨Q[j]'(by have := hn.out; omega), List.getElem?_eq_getElem _⟩
      obtain ⟨b, o, rfl, cP⟩ := hat j p hp
      have ej : (n : Int) - 1 - (i : Int) = (j : Int) := by omega
      have HI : Hid (j + 1 + i = n) := hj
      have hY1 := hY i _ wr wr hlt hJi hsz (Below.refl _ _) ⟨p, j, by rw [hn.out]; exact hj, hp, rfl⟩
      obtain ⟨fn, tmps, assign, body, hy, hR⟩ := hY1
      rw [ej]
      have w1 : IntKind.i64.wrap ((j : Int) - 1) = (j : Int) - 1 := by rw [IntKind.wrap_i64]; omega
      have z1 : (j : Int) < n := by omega
      simp only [Pg.v] at cP hy
      clear hat ej hj
      gi_wp2
      refine ⟨rfl, hR.mono ?_⟩
      rintro e' W4 ⟨hk4, ⟨rfl, hJ4⟩ | ⟨rfl, hJ4⟩⟩
      · gi_wp2
        go_roundw
        case rel => exact ⟨i + 1, by omega, by have := HI.out; congr 1; omega, Nat.le_trans hsz hk4.size, hJ4⟩
        case measure => simp [intOf]
      · gi_wp2
        refine bodyPost_ret (results_none rfl _ _ _) rfl ?_
        exact ⟨⟨_, rfl⟩, Nat.le_trans hsz hk4.size, .inr ⟨i, hlt, hJ4⟩⟩
    · have hin : i = n := by omega
      have ej : (n : Int) - 1 - (i : Int) = -1 := by omega
      rw [ej]
      have HJ : Hid (J n wr) := by show J n wr; rw [← hin]; exact hJi
      clear hat ej hin hJi
      gi_wp2
      go_end0
      exact ⟨⟨_, rfl⟩, hsz, .inl HJ.out⟩
set_option maxHeartbeats 4000000 in
set_option maxRecDepth 100000 in
theorem backE_itr {Tp : TypeId → Prop} {bs n c q : Nat} {ao : Option Addr} {Q : List En} {Rd : World → Prop} (hn : Q.length = n) (hbig : n ≤ 100000000)
    (hb : ∀ V, Rd V → V.cell? ⟨bs, 0, none⟩ = some (.slice ao n c) ∧ ∀ j e, Q[j]? = some e → ∃ o, ao = some ⟨q, o, none⟩ ∧ V.cell? ⟨q, o + j * 2, none⟩ = some e.kv ∧ V.cell? ⟨q, o + j * 2 + 1, none⟩ = some e.vv) :
    Itr Tp 76 #[.pointer (some ⟨bs, 0, none⟩)] n (ArBE Q) Rd := by
  intro l J Jx W hJ hJx hRd hY h0
  have cb := (hb W (hRd 0 W h0)).1
  have hb : Hid _ := hb
  have hn : Hid _ := hn
  have w0 : IntKind.i64.wrap ((n : Int) - 1) = (n : Int) - 1 := by rw [IntKind.wrap_i64]; omega
  refine (callsIn_wide (n := 0)).1 ?_
  refine callsIn_of_wp Try.func76 rfl trivial ?_ rfl
  simp only [Try.ntmps76, List.size_toArray, List.length_cons, List.length_nil, Nat.reduceAdd, Nat.reduceSub, Array.replicate_succ, Array.replicate_zero, List.push_toArray, List.append_toArray, List.nil_append, List.cons_append]
  gi_wp2
  gi_loopw [3] (fun ti wr => ∃ i : Nat, i ≤ n ∧ ti = .int .i64 ((n : Int) - 1 - (i : Int)) ∧ W.heap.size ≤ wr.heap.size ∧ J i wr) (fun ti _ => (intOf ti + 1).toNat)
  case atStart => exact ⟨0, Nat.zero_le _, by simp, Nat.le_refl _, h0⟩
  case round =>
    clear cb
    obtain ⟨i, hi, rfl, hsz, hJi⟩ := hrel
    obtain ⟨cb, hat⟩ := hb.out wr (hRd _ _ hJi)
    by_cases hlt : i < n
    · obtain ⟨j, hj⟩ : ∃ j, j + 1 + i = n := ⟨n - 1 - i, by omega⟩
      obtain ⟨e, he⟩ : ∃ e, Q[j]? = some e := ⟨Q[j]'(by have := hn.out; omega), List.getElem?_eq_getElem _⟩
      obtain ⟨o, rfl, ck, cv⟩ := hat j e he
      have ej : (n : Int) - 1 - (i : Int) = (j : Int) := by omega
      have HI : Hid (j + 1 + i = n) := hj
      have hY1 := hY i _ wr wr hlt hJi hsz (Below.refl _ _) ⟨e, j, by rw [hn.out]; exact hj, he, rfl⟩
      obtain ⟨fn, tmps, assign, body, hy, hR⟩ := hY1
      rw [ej]
      have w1 : IntKind.i64.wrap ((j : Int) - 1) = (j : Int) - 1 := by rw [IntKind.wrap_i64]; omega
      have z1 : (j : Int) < n := by omega
      clear hat ej hj
      gi_wp2
      refine ⟨rfl, hR.mono ?_⟩
      rintro e' W4 ⟨hk4, ⟨rfl, hJ4⟩ | ⟨rfl, hJ4⟩⟩
      · gi_wp2
        go_roundw
        case rel => exact ⟨i + 1, by omega, by have := HI.out; congr 1; omega, Nat.le_trans hsz hk4.size, hJ4⟩
        case measure => simp [intOf]
      · gi_wp2
        refine bodyPost_ret (results_none rfl _ _ _) rfl ?_
        exact ⟨⟨_, rfl⟩, Nat.le_trans hsz hk4.size, .inr ⟨i, hlt, hJ4⟩⟩
    · have hin : i = n := by omega
      have ej : (n : Int) - 1 - (i : Int) = -1 := by omega
      rw [ej]
      have HJ : Hid (J n wr) := by show J n wr; rw [← hin]; exact hJi
      clear hat ej hin hJi
      gi_wp2
      go_end0
      exact ⟨⟨_, rfl⟩, hsz, .inl HJ.out⟩
set_option maxHeartbeats 1000000 in
set_option maxRecDepth 100000 in
theorem backP_mk {w : World} {ao : Option Addr} {n c : Nat} : Calls Try.prog 67 #[.slice ao n c] w fun e w' => e = .returned (.func (.func 75) #[] #[.pointer (some ⟨w.heap.size, 0, none⟩)]) ∧ Blk w' w.heap.size [.slice ao n c] 59 ∧ Below w.heap.size w w' := by
  go_enter Try.func67, Try.ntmps67
  go_wp2
  go_ret
  exact ⟨rfl, blk_new w _ _, below_alloc w _⟩
set_option maxHeartbeats 1000000 in
set_option maxRecDepth 100000 in
theorem backE_mk {w : World} {ao : Option Addr} {n c : Nat} : Calls Try.prog 68 #[.slice ao n c] w fun e w' => e = .returned (.func (.func 76) #[] #[.pointer (some ⟨w.heap.size, 0, none⟩)]) ∧ Blk w' w.heap.size [.slice ao n c] 66 ∧ Below w.heap.size w w' := by
  go_enter Try.func68, Try.ntmps68
  go_wp2
  go_ret
  exact ⟨rfl, blk_new w _ _, below_alloc w _⟩
end Pg
end Go.Proofs.Ytjnjkgakdnjlmaa
