/- gleanlaw6.KVPlays. -/
import Derived.Test.YtplminnejheceaaJra
import Derived.Test.YtplminnejheceaaJke
namespace Go.Proofs.Ytplminnejheceaa
namespace Kv
open Go.RowKit Go.Lib Pg
attribute [local go_sem] Oper.semAt_some
theorem ld_ii {w : World} {g o : Nat} {v : Value} (c : w.cell? ⟨g, o, none⟩ = some v) : (loadVar 3 ⟨g, o, none⟩).run Try.prog w = .ok v w := by go_simp
theorem run_bx {a : Act} {w : World} {o : Oper} {x : Nat} {u v i : Value} (ho : o.op = .box 31 (.tmp x)) (hx : a.eval (.tmp x) = .agg #[u, v, i]) : (execOp a.eval o).run Try.prog w = .ok (.value (.pointer (some ⟨w.heap.size, 0, none⟩))) (w.alloc (.cells #[u, v, i] 31)) := by
  have hx' : a.tmps[x]?.getD undef = .agg #[u, v, i] := by simpa [Act.eval] using hx
  simp only [execOp, ho]
  go_simp
/-- both are looked at: they are alike -/
structure Lk (w wr : World) (g q : Nat) (la : Option Addr) (el lc : Nat) (wa : Option Addr) (wl wc nn : Nat) : Prop where
  blk : Blk wr q [.slice la el lc, .slice wa wl wc, .int .i64 (nn : Nat)] 31
  dump : Calls Try.prog 15 #[.pointer (some ⟨g, 0, none⟩)] wr fun e w' => ∃ v, e = .returned v ∧ Below wr.heap.size wr w' ∧ Calls Try.prog 14 #[v, .slice la el lc] w' fun e w'' => e = .returned (.bool true) ∧ Below wr.heap.size wr w''
  rest : ∀ w', Below wr.heap.size wr w' → (Calls Try.prog 16 #[.pointer (some ⟨g, 0, none⟩)] w' fun e w'' => e = .returned (.int .i64 wl) ∧ w'' = w') ∧ (Calls Try.prog 17 #[.pointer (some ⟨g, 0, none⟩)] w' fun e w'' => e = .returned (.int .i64 nn) ∧ w'' = w')
theorem KP.lk {w wr : World} {g q nn N : Nat} {E : Ents} {W : List Ents} (h : KP w wr (ZO w) TR g E W nn N q E W nn) (hN : N ≤ 100000) : ∃ la el lc wa wl wc, Lk w wr g q la el lc wa wl wc nn := by
  obtain ⟨K9, X9, HK9⟩ := id h.ex
  obtain ⟨lv, wv, es9, RO9, he9⟩ := HK9.rs.ro
  obtain ⟨la, lc, rfl⟩ := RO9.row.shape
  obtain ⟨wa, wc, rfl⟩ := RO9.was.shape
  have hsz := h.size
  have hel : es9.length = E.length := by rw [← he9, List.length_map]
  have PL9 : PrA wr 0 (.slice la es9.length lc) es9 := RO9.row.a (B0 := 0) (Nat.zero_le _) (fun _ _ _ => Nat.zero_le _)
  refine ⟨la, _, lc, wa, _, wc, RO9.top, ?_, fun w' B => ⟨pdepth (h.keep B) rfl, pops (h.keep B)⟩⟩
  refine (sdump HK9.sa (by omega)).mono ?_
  rintro e w' ⟨v, es, rfl, P, he, B⟩
  refine ⟨v, rfl, B, ?_⟩
  refine (pairs_same P (PL9.keep B) (he.trans he9.symm) (fun e hx => h.gd.2 e.kl2 (by rw [← he]; exact List.mem_map_of_mem hx)) (by have : es.length = E.length := (by rw [← he, List.length_map]); omega)).mono ?_
  rintro e w'' ⟨rfl, B2⟩
  exact ⟨rfl, joinB B B2⟩
set_option maxHeartbeats 4000000 in
set_option maxRecDepth 100000 in
theorem kVPlays_walk {w : World} {ao : Option Addr} {n c : Nat} {ss : List Ste} (S : StesA w ao n ss) :
    Calls Try.prog 3 #[.slice ao n c] w fun e w' => e = .returned (.bool true) ∧ Below w.heap.size w w' := by
  have t1 := known_any (w := w)
  have t2 := fun w' (hB : Below w.heap.size w w') => light_any (c := c) (S.keep hB)
  have HS : Hid _ := S
  obtain ⟨l1, hl1⟩ : ∃ l1, Hid (lite n (hvy ss) = l1) := ⟨_, rfl⟩
  rw [hl1.out] at t2
  clear S
  by_cases hall : l1 = true
  · subst hall
    have hn := (lite_yes hl1.out).2
    have HL := hid3 (lite_yes hl1.out).1
    clear hl1
    go_enter Try.func3, Try.ntmps3
    go_wp2_with first
      | (go_at_call 9; refine t1.mono ?_; rintro e w1 ⟨rfl, B1⟩; clear t1)
      | (go_at_call 10; refine (t2 _ B1).mono ?_; rintro e w2 ⟨rfl, B2⟩; replace B1 := joinB B1 B2; clear t2 B2)
      | (go_at_call 11; refine (snew).mono ?_; rintro e w5 ⟨g, K, rfl, S5, hK5, B5⟩; have H5 := hid3 (KP.start B1 S5 hK5 B5); clear B1 S5 hK5 B5)
    go_loopw [3, 4, 5] (fun ts tr ti wr => ∃ k g q : Nat, k ≤ n ∧ ts = .pointer (some ⟨g, 0, none⟩) ∧ tr = .pointer (some ⟨q, 0, none⟩) ∧ ti = .int .i64 k ∧ Hid (∃ E W nn N, KP w wr (ZO w) TR g E W nn N q E W nn ∧ nn ≤ 40 * k ∧ N ≤ 2 * k)) (fun _ _ ti _ => n - (intOf ti).toNat)
    case atStart => exact ⟨0, _, _, Nat.zero_le _, rfl, rfl, rfl, _, _, _, _, H5.out, by omega, by omega⟩
    case round =>
      clear H5
      obtain ⟨k, g, q, hk, rfl, rfl, rfl, HX⟩ := hrel
      by_cases hlt : k < n
      · obtain ⟨E, W, nn, N, X, hnn, hN⟩ := HX.out
        obtain ⟨s, b, o, e1, rfl, C0, A0⟩ := HS.out.at hlt
        have C := C0.keep X.bel
        have c0 := C.c0
        have c1 := C.c1
        have c2 := C.c2
        have c3 := C.c3
        have hhv := hvy_mem e1
        have hhl := HL.out
        have HA := hid3 A0
        have HM := hid3 X
        have hk0 : (k : Int) < n := by omega
        clear C C0 A0 X HX e1
        by_cases h11 : s.what = 11
        · rw [h11] at c0
          clear h11 c1 c2 c3 HA
          have H2' := HM.out.drew
          obtain ⟨K9, X9, HK9⟩ := id H2'.ex
          obtain ⟨lv, wv, es9, RO9, he9⟩ := HK9.rs.ro
          obtain ⟨la, lc, rfl⟩ := RO9.row.shape
          obtain ⟨wa, wc, rfl⟩ := RO9.was.shape
          obtain ⟨el, hel2⟩ : ∃ el, Hid (es9.length = el) := ⟨_, rfl⟩
          obtain ⟨wl, hwl⟩ : ∃ wl, Hid (W.length = wl) := ⟨_, rfl⟩
          rw [hel2.out, hwl.out] at RO9
          replace RO9 := hid3 RO9
          replace he9 := hid3 he9
          replace HK9 := hid3 HK9
          clear H2'
          go_wp2_with fail
          refine rg_mid (X := Nat × Nat) (fun x => [(some 26, .pointer (some ⟨g, 0, none⟩)), (some 27, .pointer (some ⟨x.1, 0, none⟩)), (some 28, .pointer (some ⟨q, 0, none⟩)), (some 29, .pointer (some ⟨q, 0, none⟩)), (some 30, .pointer (some ⟨q, 0, none⟩)), (some 31, .slice la el lc), (some 32, .agg #[.slice la el lc, .slice none 0 0, .int .i64 0]), (some 33, .pointer (some ⟨x.2, 0, none⟩)), (some 3, .pointer (some ⟨x.1, 0, none⟩)), (some 4, .pointer (some ⟨x.2, 0, none⟩))]) (fun x w' => KP w w' (ZO w) TR x.1 E [] 0 N x.2 E [] 0) (fun u => Blk u q [.slice la el lc, .slice wa wl wc, .int .i64 (nn : Nat)] 31) (by kernel_rfl) RO9.out.top ?_ ?_
          · refine rg_take 0 (some 26) (.pointer (some ⟨g, 0, none⟩)) (by kernel_rfl) (fun _ _ => by kernel_rfl) (fun _ _ _ h => h) RO9.out.top ?_
            refine rg_take 2 (some 28) (.pointer (some ⟨q, 0, none⟩)) (by kernel_rfl) (fun _ _ => by kernel_rfl) (fun _ _ _ h => h) RO9.out.top ?_
            refine rg_take 3 (some 29) (.pointer (some ⟨q, 0, none⟩)) (by kernel_rfl) (fun _ _ => by kernel_rfl) (fun _ _ _ h => h) RO9.out.top ?_
            refine rg_take 4 (some 30) (.pointer (some ⟨q, 0, none⟩)) (by kernel_rfl) (fun _ _ => by kernel_rfl) (fun _ _ _ h => h) RO9.out.top ?_
            refine rg_load 5 (some 31) (.slice la el lc) 28 30 q 0 (by kernel_rfl) (by kernel_rfl) (by kernel_rfl) (fun u h => ld_ll (h.cell (i := 0) rfl)) (fun _ _ _ h => h) RO9.out.top ?_
            refine rg_take 6 (some 32) (.agg #[.slice la el lc, .slice none 0 0, .int .i64 0]) (by kernel_rfl) (fun _ _ => by kernel_rfl) (fun _ _ _ h => h) RO9.out.top ?_
            have al := below_alloc wr.drew (.cells #[.slice la el lc, .slice none 0 0, .int .i64 0] 31)
            have nb := blk_new wr.drew [.slice la el lc, .slice none 0 0, .int .i64 0] 31
            have hs1 := size_al wr.drew (.cells #[.slice la el lc, .slice none 0 0, .int .i64 0] 31)
            refine rg_ready [1, 7] (by kernel_rfl) (by simp) (ar_call 1 (some 27) 12 #[.pointer (some ⟨g, 0, none⟩)] (by kernel_rfl) (by kernel_rfl) (scopy HK9.out.sa (by omega)) ?_ (ar_val 7 (some 33) (.pointer (some ⟨wr.drew.heap.size, 0, none⟩)) (wr.drew.alloc (.cells #[.slice la el lc, .slice none 0 0, .int .i64 0] 31)) (by kernel_rfl) (run_bx (x := 32) (by kernel_rfl) (by kernel_rfl) ) (RO9.out.top.keep al) ?_ ar_nil))
            · rintro e' w3 ⟨g3, K3, rfl, S3, hK3, B3⟩
              have al3 := below_alloc w3 (.cells #[.slice la el lc, .slice none 0 0, .int .i64 0] 31)
              have nb3 := blk_new w3 [.slice la el lc, .slice none 0 0, .int .i64 0] 31
              refine ⟨_, rfl, RO9.out.top.keep B3, ?_⟩
              refine rg_take 8 (some 3) (.pointer (some ⟨g3, 0, none⟩)) (by kernel_rfl) (fun _ _ => by kernel_rfl) (fun _ _ _ h => h) (RO9.out.top.keep B3) ?_
              refine rg_ready [7] (by kernel_rfl) (by simp) (ar_val 7 (some 33) (.pointer (some ⟨w3.heap.size, 0, none⟩)) (w3.alloc (.cells #[.slice la el lc, .slice none 0 0, .int .i64 0] 31)) (by kernel_rfl) (run_bx (x := 32) (by kernel_rfl) (by kernel_rfl) ) ((RO9.out.top.keep B3).keep al3) ?_ ar_nil)
              refine rg_take 9 (some 4) (.pointer (some ⟨w3.heap.size, 0, none⟩)) (by kernel_rfl) (fun _ _ => by kernel_rfl) (fun _ _ _ h => h) ((RO9.out.top.keep B3).keep al3) ?_
              refine rg_done (by kernel_rfl) ?_
              exact ⟨(g3, w3.heap.size), by kernel_rfl, HK9.out.fresh RO9.out he9.out (S3.keep al3) (fun b hb => ⟨hK3 b hb, by have := S3.lt hb; omega⟩) nb3 B3.size (joinB B3 al3)⟩
            · refine rg_ready [1] (by kernel_rfl) (by simp) (ar_call 1 (some 27) 12 #[.pointer (some ⟨g, 0, none⟩)] (by kernel_rfl) (by kernel_rfl) (scopy (HK9.out.sa.keep al) (by omega)) ?_ ar_nil)
              rintro e' w3 ⟨g3, K3, rfl, S3, hK3, B3⟩
              refine ⟨_, rfl, (RO9.out.top.keep al).keep B3, ?_⟩
              refine rg_take 8 (some 3) (.pointer (some ⟨g3, 0, none⟩)) (by kernel_rfl) (fun _ _ => by kernel_rfl) (fun _ _ _ h => h) ((RO9.out.top.keep al).keep B3) ?_
              refine rg_take 9 (some 4) (.pointer (some ⟨wr.drew.heap.size, 0, none⟩)) (by kernel_rfl) (fun _ _ => by kernel_rfl) (fun _ _ _ h => h) ((RO9.out.top.keep al).keep B3) ?_
              refine rg_done (by kernel_rfl) ?_
              exact ⟨(g3, wr.drew.heap.size), by kernel_rfl, HK9.out.fresh RO9.out he9.out S3 (fun b hb => ⟨by have := hK3 b hb; omega, by have := hK3 b hb; omega⟩) (nb.keep B3) (Nat.le_refl _) (joinB al B3)⟩
          rintro ⟨g', q'⟩ w6 H6
          dsimp only at H6
          obtain ⟨nz, hnz⟩ : ∃ nz : Nat, Hid (0 = nz) := ⟨_, rfl⟩
          have H6n : KP w w6 (ZO w) TR g' E [] nz N q' E [] nz := by rw [← hnz.out]; exact H6
          clear H6
          simp only [putAll, Act.put, List.setIfInBounds_toArray, List.set_cons_zero, List.set_cons_succ]
          rename_i hK0
          refine hK0 _ _ ?_
          clear hK0 RO9 he9 HK9 HM
          go_wp2_with fail
          obtain ⟨la, el, lc, wa, wl, wc, L9⟩ := H6n.drew.lk (by omega)
          replace L9 := hid3 L9
          have H9 := hid3 H6n.drew
          clear H6n
          refine rg_start (S := fun u => Blk u q' [.slice la el lc, .slice wa wl wc, .int .i64 (nz : Nat)] 31) (by kernel_rfl) L9.out.blk ?_
          refine rg_take 0 (some 42) (.pointer (some ⟨g', 0, none⟩)) (by kernel_rfl) (fun _ _ => by kernel_rfl) (fun _ _ _ h => h) L9.out.blk ?_
          refine rg_take 2 (some 44) (.pointer (some ⟨q', 0, none⟩)) (by kernel_rfl) (fun _ _ => by kernel_rfl) (fun _ _ _ h => h) L9.out.blk ?_
          refine rg_take 3 (some 45) (.pointer (some ⟨q', 0, none⟩)) (by kernel_rfl) (fun _ _ => by kernel_rfl) (fun _ _ _ h => h) L9.out.blk ?_
          refine rg_take 4 (some 46) (.pointer (some ⟨q', 0, none⟩)) (by kernel_rfl) (fun _ _ => by kernel_rfl) (fun _ _ _ h => h) L9.out.blk ?_
          refine rg_load 5 (some 47) (.slice la el lc) 28 46 q' 0 (by kernel_rfl) (by kernel_rfl) (by kernel_rfl) (fun u h => ld_ll (h.cell (i := 0) rfl)) (fun _ _ _ h => h) L9.out.blk ?_
          refine rg_call 1 (some 43) 15 #[.pointer (some ⟨g', 0, none⟩)] (by kernel_rfl) (by kernel_rfl) (L9.out.dump) ?_
          rintro e' w7 ⟨v7, rfl, B7, U7⟩
          refine ⟨_, rfl, L9.out.blk.keep B7, ?_⟩
          refine rg_call 6 (some 48) 14 #[v7, .slice la el lc] (by kernel_rfl) (by kernel_rfl) (U7) ?_
          rintro e' w8 ⟨rfl, B8⟩
          replace B8 := hid3 B8
          refine ⟨_, rfl, (L9.out.blk.keep B8.out), ?_⟩
          refine rg_take 7 (some 49) (.bool false) (by kernel_rfl) (fun _ _ => by kernel_rfl) (fun _ _ _ h => h) (L9.out.blk.keep B8.out) ?_
          refine rg_take 8 (some 50) (.bool false) (by kernel_rfl) (fun _ _ => by kernel_rfl) (fun _ _ _ h => h) (L9.out.blk.keep B8.out) ?_
          refine rg_take 9 (some 51) (.pointer (some ⟨g', 0, none⟩)) (by kernel_rfl) (fun _ _ => by kernel_rfl) (fun _ _ _ h => h) (L9.out.blk.keep B8.out) ?_
          refine rg_take 11 (some 53) (.pointer (some ⟨q', 0, none⟩)) (by kernel_rfl) (fun _ _ => by kernel_rfl) (fun _ _ _ h => h) (L9.out.blk.keep B8.out) ?_
          refine rg_take 12 (some 54) (.pointer (some ⟨q', 0, none⟩)) (by kernel_rfl) (fun _ _ => by kernel_rfl) (fun _ _ _ h => h) (L9.out.blk.keep B8.out) ?_
          refine rg_take 13 (some 55) (.pointer (some ⟨q', 1, none⟩)) (by kernel_rfl) (fun _ _ => by kernel_rfl) (fun _ _ _ h => h) (L9.out.blk.keep B8.out) ?_
          refine rg_load 14 (some 56) (.slice wa wl wc) 29 55 q' 1 (by kernel_rfl) (by kernel_rfl) (by kernel_rfl) (fun u h => ld_ww (h.cell (i := 1) rfl)) (fun _ _ _ h => h) (L9.out.blk.keep B8.out) ?_
          refine rg_take 15 (some 57) (.int .i64 wl) (by kernel_rfl) (fun _ _ => by kernel_rfl) (fun _ _ _ h => h) (L9.out.blk.keep B8.out) ?_
          refine rg_call 10 (some 52) 16 #[.pointer (some ⟨g', 0, none⟩)] (by kernel_rfl) (by kernel_rfl) ((L9.out.rest _ B8.out).1) ?_
          rintro e' w9 ⟨rfl, e9⟩
          replace e9 := e9.symm
          subst e9
          refine ⟨_, rfl, (L9.out.blk.keep B8.out), ?_⟩
          refine rg_eq 16 (some 58) (.bool ((wl : Int) != wl)) (.bool false) (by rw [bne_self_eq_false]) (by kernel_rfl) (fun _ _ => by kernel_rfl) (fun _ _ _ h => h) (L9.out.blk.keep B8.out) ?_
          refine rg_take 17 (some 59) (.bool false) (by kernel_rfl) (fun _ _ => by kernel_rfl) (fun _ _ _ h => h) (L9.out.blk.keep B8.out) ?_
          refine rg_take 18 (some 60) (.bool false) (by kernel_rfl) (fun _ _ => by kernel_rfl) (fun _ _ _ h => h) (L9.out.blk.keep B8.out) ?_
          refine rg_take 19 (some 61) (.pointer (some ⟨g', 0, none⟩)) (by kernel_rfl) (fun _ _ => by kernel_rfl) (fun _ _ _ h => h) (L9.out.blk.keep B8.out) ?_
          refine rg_take 21 (some 63) (.pointer (some ⟨q', 0, none⟩)) (by kernel_rfl) (fun _ _ => by kernel_rfl) (fun _ _ _ h => h) (L9.out.blk.keep B8.out) ?_
          refine rg_take 22 (some 64) (.pointer (some ⟨q', 0, none⟩)) (by kernel_rfl) (fun _ _ => by kernel_rfl) (fun _ _ _ h => h) (L9.out.blk.keep B8.out) ?_
          refine rg_take 23 (some 65) (.pointer (some ⟨q', 2, none⟩)) (by kernel_rfl) (fun _ _ => by kernel_rfl) (fun _ _ _ h => h) (L9.out.blk.keep B8.out) ?_
          refine rg_load 24 (some 66) (.int .i64 (nz : Nat)) 3 65 q' 2 (by kernel_rfl) (by kernel_rfl) (by kernel_rfl) (fun u h => ld_ii (h.cell (i := 2) rfl)) (fun _ _ _ h => h) (L9.out.blk.keep B8.out) ?_
          refine rg_call 20 (some 62) 17 #[.pointer (some ⟨g', 0, none⟩)] (by kernel_rfl) (by kernel_rfl) ((L9.out.rest _ B8.out).2) ?_
          rintro e' w9 ⟨rfl, e9⟩
          replace e9 := e9.symm
          subst e9
          refine ⟨_, rfl, (L9.out.blk.keep B8.out), ?_⟩
          refine rg_eq 25 (some 67) (.bool (((nz : Nat) : Int) != (nz : Nat))) (.bool false) (by rw [bne_self_eq_false]) (by kernel_rfl) (fun _ _ => by kernel_rfl) (fun _ _ _ h => h) (L9.out.blk.keep B8.out) ?_
          refine rg_take 26 (some 68) (.bool false) (by kernel_rfl) (fun _ _ => by kernel_rfl) (fun _ _ _ h => h) (L9.out.blk.keep B8.out) ?_
          refine rg_done (by kernel_rfl) ?_
          simp only [Act.put, List.setIfInBounds_toArray, List.set_cons_zero, List.set_cons_succ]
          go_wp2
          go_roundw
          case rel => exact ⟨k + 1, g', q', by omega, rfl, rfl, by go_num, E, [], nz, N, H9.out.keep B8.out, by have := hnz.out; omega, by omega⟩
          case measure => simp [intOf]; omega
        · have q11 : (s.what = 11) = False := eq_false h11
          have hkb := HA.out.k
          have hvb := HA.out.v
          have U := does_any (wh := s.what) (nm := s.num) HM.out hkb hvb (by omega) (by omega) (by omega) (by omega)
          clear hkb hvb HM
          go_wp2_with (go_at_call 13; go_must (refine U.mono ?_); rintro e w6 ⟨rfl, E', W', nn', N', H6, hn6, hN6⟩; clear U)
          obtain ⟨la, el, lc, wa, wl, wc, L9⟩ := H6.drew.lk (by omega)
          replace L9 := hid3 L9
          have H9 := hid3 H6.drew
          clear H6
          refine rg_start (S := fun u => Blk u q [.slice la el lc, .slice wa wl wc, .int .i64 (nn' : Nat)] 31) (by kernel_rfl) L9.out.blk ?_
          refine rg_take 0 (some 42) (.pointer (some ⟨g, 0, none⟩)) (by kernel_rfl) (fun _ _ => by kernel_rfl) (fun _ _ _ h => h) L9.out.blk ?_
          refine rg_take 2 (some 44) (.pointer (some ⟨q, 0, none⟩)) (by kernel_rfl) (fun _ _ => by kernel_rfl) (fun _ _ _ h => h) L9.out.blk ?_
          refine rg_take 3 (some 45) (.pointer (some ⟨q, 0, none⟩)) (by kernel_rfl) (fun _ _ => by kernel_rfl) (fun _ _ _ h => h) L9.out.blk ?_
          refine rg_take 4 (some 46) (.pointer (some ⟨q, 0, none⟩)) (by kernel_rfl) (fun _ _ => by kernel_rfl) (fun _ _ _ h => h) L9.out.blk ?_
          refine rg_load 5 (some 47) (.slice la el lc) 28 46 q 0 (by kernel_rfl) (by kernel_rfl) (by kernel_rfl) (fun u h => ld_ll (h.cell (i := 0) rfl)) (fun _ _ _ h => h) L9.out.blk ?_
          refine rg_call 1 (some 43) 15 #[.pointer (some ⟨g, 0, none⟩)] (by kernel_rfl) (by kernel_rfl) (L9.out.dump) ?_
          rintro e' w7 ⟨v7, rfl, B7, U7⟩
          refine ⟨_, rfl, L9.out.blk.keep B7, ?_⟩
          refine rg_call 6 (some 48) 14 #[v7, .slice la el lc] (by kernel_rfl) (by kernel_rfl) (U7) ?_
          rintro e' w8 ⟨rfl, B8⟩
          replace B8 := hid3 B8
          refine ⟨_, rfl, (L9.out.blk.keep B8.out), ?_⟩
          refine rg_take 7 (some 49) (.bool false) (by kernel_rfl) (fun _ _ => by kernel_rfl) (fun _ _ _ h => h) (L9.out.blk.keep B8.out) ?_
          refine rg_take 8 (some 50) (.bool false) (by kernel_rfl) (fun _ _ => by kernel_rfl) (fun _ _ _ h => h) (L9.out.blk.keep B8.out) ?_
          refine rg_take 9 (some 51) (.pointer (some ⟨g, 0, none⟩)) (by kernel_rfl) (fun _ _ => by kernel_rfl) (fun _ _ _ h => h) (L9.out.blk.keep B8.out) ?_
          refine rg_take 11 (some 53) (.pointer (some ⟨q, 0, none⟩)) (by kernel_rfl) (fun _ _ => by kernel_rfl) (fun _ _ _ h => h) (L9.out.blk.keep B8.out) ?_
          refine rg_take 12 (some 54) (.pointer (some ⟨q, 0, none⟩)) (by kernel_rfl) (fun _ _ => by kernel_rfl) (fun _ _ _ h => h) (L9.out.blk.keep B8.out) ?_
          refine rg_take 13 (some 55) (.pointer (some ⟨q, 1, none⟩)) (by kernel_rfl) (fun _ _ => by kernel_rfl) (fun _ _ _ h => h) (L9.out.blk.keep B8.out) ?_
          refine rg_load 14 (some 56) (.slice wa wl wc) 29 55 q 1 (by kernel_rfl) (by kernel_rfl) (by kernel_rfl) (fun u h => ld_ww (h.cell (i := 1) rfl)) (fun _ _ _ h => h) (L9.out.blk.keep B8.out) ?_
          refine rg_take 15 (some 57) (.int .i64 wl) (by kernel_rfl) (fun _ _ => by kernel_rfl) (fun _ _ _ h => h) (L9.out.blk.keep B8.out) ?_
          refine rg_call 10 (some 52) 16 #[.pointer (some ⟨g, 0, none⟩)] (by kernel_rfl) (by kernel_rfl) ((L9.out.rest _ B8.out).1) ?_
          rintro e' w9 ⟨rfl, e9⟩
          replace e9 := e9.symm
          subst e9
          refine ⟨_, rfl, (L9.out.blk.keep B8.out), ?_⟩
          refine rg_eq 16 (some 58) (.bool ((wl : Int) != wl)) (.bool false) (by rw [bne_self_eq_false]) (by kernel_rfl) (fun _ _ => by kernel_rfl) (fun _ _ _ h => h) (L9.out.blk.keep B8.out) ?_
          refine rg_take 17 (some 59) (.bool false) (by kernel_rfl) (fun _ _ => by kernel_rfl) (fun _ _ _ h => h) (L9.out.blk.keep B8.out) ?_
          refine rg_take 18 (some 60) (.bool false) (by kernel_rfl) (fun _ _ => by kernel_rfl) (fun _ _ _ h => h) (L9.out.blk.keep B8.out) ?_
          refine rg_take 19 (some 61) (.pointer (some ⟨g, 0, none⟩)) (by kernel_rfl) (fun _ _ => by kernel_rfl) (fun _ _ _ h => h) (L9.out.blk.keep B8.out) ?_
          refine rg_take 21 (some 63) (.pointer (some ⟨q, 0, none⟩)) (by kernel_rfl) (fun _ _ => by kernel_rfl) (fun _ _ _ h => h) (L9.out.blk.keep B8.out) ?_
          refine rg_take 22 (some 64) (.pointer (some ⟨q, 0, none⟩)) (by kernel_rfl) (fun _ _ => by kernel_rfl) (fun _ _ _ h => h) (L9.out.blk.keep B8.out) ?_
          refine rg_take 23 (some 65) (.pointer (some ⟨q, 2, none⟩)) (by kernel_rfl) (fun _ _ => by kernel_rfl) (fun _ _ _ h => h) (L9.out.blk.keep B8.out) ?_
          refine rg_load 24 (some 66) (.int .i64 (nn' : Nat)) 3 65 q 2 (by kernel_rfl) (by kernel_rfl) (by kernel_rfl) (fun u h => ld_ii (h.cell (i := 2) rfl)) (fun _ _ _ h => h) (L9.out.blk.keep B8.out) ?_
          refine rg_call 20 (some 62) 17 #[.pointer (some ⟨g, 0, none⟩)] (by kernel_rfl) (by kernel_rfl) ((L9.out.rest _ B8.out).2) ?_
          rintro e' w9 ⟨rfl, e9⟩
          replace e9 := e9.symm
          subst e9
          refine ⟨_, rfl, (L9.out.blk.keep B8.out), ?_⟩
          refine rg_eq 25 (some 67) (.bool (((nn' : Nat) : Int) != (nn' : Nat))) (.bool false) (by rw [bne_self_eq_false]) (by kernel_rfl) (fun _ _ => by kernel_rfl) (fun _ _ _ h => h) (L9.out.blk.keep B8.out) ?_
          refine rg_take 26 (some 68) (.bool false) (by kernel_rfl) (fun _ _ => by kernel_rfl) (fun _ _ _ h => h) (L9.out.blk.keep B8.out) ?_
          refine rg_done (by kernel_rfl) ?_
          simp only [Act.put, List.setIfInBounds_toArray, List.set_cons_zero, List.set_cons_succ]
          go_wp2
          go_roundw
          case rel => exact ⟨k + 1, g, q, by omega, rfl, rfl, by go_num, E', W', nn', N', H9.out.keep B8.out, by omega, by omega⟩
          case measure => simp [intOf]; omega
      · have : k = n := by omega
        subst this
        obtain ⟨E, W, nn, N, X, hnn, hN⟩ := HX.out
        have hB := hid3 X.bel
        clear X HX
        have hk0 : ¬ ((k : Int) < k) := by omega
        go_wp2
        go_ret
        exact ⟨rfl, hB.out⟩
  · have : l1 = false := by simpa using hall
    subst this
    go_enter Try.func3, Try.ntmps3
    go_wp2_with first
      | (go_at_call 9; refine t1.mono ?_; rintro e w1 ⟨rfl, B1⟩; clear t1)
      | (go_at_call 10; refine (t2 _ B1).mono ?_; rintro e w2 ⟨rfl, B2⟩; replace B1 := joinB B1 B2; clear t2 B2)
    go_ret
    exact ⟨rfl, B1⟩
end Kv
end Go.Proofs.Ytplminnejheceaa
