/- Several texts, joined: PgRm, PgSm, PgRj, PgRk, PgRl, PgRn, PgRo, PgRq, PgRr. -/
import Derived.Test.YtjnjkgakdnjlmaaJda
namespace Go.Proofs.Ytjnjkgakdnjlmaa
namespace Pg
open Go.RowKit Go.Lib
theorem abs_kys (P : List (List En)) : kys P.flatten = (abs P).flatten.map Prod.fst := by rw [abs_flat, kl2_fst]
theorem Ord.abs {P P' : List (List En)} (h : Pg.abs P = Pg.abs P') (O : Ord P) : Ord P' := by
  refine ⟨fun es he hn => ?_, ?_⟩
  · have hm : es.map En.kl2 ∈ Pg.abs P := by rw [h]; exact List.mem_map.2 ⟨es, he, rfl⟩
    obtain ⟨es0, h1, h2⟩ := List.mem_map.1 hm
    rw [hn] at h2
    exact O.full es0 h1 (List.map_eq_nil_iff.1 h2)
  · rw [abs_kys, ← h, ← abs_kys]
    exact O.rise
theorem Shq.abs {P P' : List (List En)} (h : Pg.abs P = Pg.abs P') (S : Shq P) : Shq P' := by
  refine ⟨fun es he => ?_, ?_⟩
  · have hm : es.map En.kl2 ∈ Pg.abs P := by rw [h]; exact List.mem_map.2 ⟨es, he, rfl⟩
    obtain ⟨es0, h1, h2⟩ := List.mem_map.1 hm
    have := congrArg List.length h2
    rw [List.length_map, List.length_map] at this
    rw [← this]
    exact S.one es0 h1
  · rw [← abs_sizes, ← h, abs_sizes]
    exact S.two
theorem small_abs {P P' : List (List En)} (h : Pg.abs P = Pg.abs P') (hs : ∀ es ∈ P, ∀ e ∈ es, e.kl.length ≤ 1000000000 ∧ e.vl.length ≤ 1000000000) : ∀ es ∈ P', ∀ e ∈ es, e.kl.length ≤ 1000000000 ∧ e.vl.length ≤ 1000000000 := by
  rw [small_flat] at hs ⊢
  refine small_of (l := (Pg.abs P').flatten) (abs_flat P').symm (fun x hx => ?_)
  rw [← h, abs_flat] at hx
  obtain ⟨e, he, rfl⟩ := List.mem_map.1 hx
  exact hs e he
/-- at g lies the document's map with the pages Q, of N entries at most -/
structure Rm (w : World) (F D : Nat → Prop) (g : Nat) (Q : List (List KV)) (N : Nat) : Prop where
  ex : ∃ L, abs (ens L) = Q ∧ RfM w F D g L ∧ Ord (ens L) ∧ Shq (ens L) ∧ (ens L).flatten.length ≤ N ∧ ∀ es ∈ ens L, ∀ e ∈ es, e.kl.length ≤ 1000000000 ∧ e.vl.length ≤ 1000000000
theorem Rm.keep {w w' : World} {F D : Nat → Prop} {g N : Nat} {Q : List (List KV)} (M : Rm w F D g Q N) (hb : Below w.heap.size w w') : Rm w' F D g Q N := by
  obtain ⟨L, e, A, r⟩ := M.ex
  exact ⟨L, e, A.keep hb, r⟩
theorem Rm.lt {w : World} {F D : Nat → Prop} {g N : Nat} {Q : List (List KV)} (M : Rm w F D g Q N) {b : Nat} (hb : F b) : b < w.heap.size := by
  obtain ⟨L, _, A, _⟩ := M.ex
  exact A.lt hb
theorem setQ_small {P : List (List En)} (O : Ord P) {e : En} (r : ∀ es ∈ P, ∀ e ∈ es, e.kl.length ≤ 1000000000 ∧ e.vl.length ≤ 1000000000) (hkl : e.kl.length ≤ 1000000000) (hvl : e.vl.length ≤ 1000000000) : ∀ es ∈ setQ P e, ∀ x ∈ es, x.kl.length ≤ 1000000000 ∧ x.vl.length ≤ 1000000000 := by
  rw [small_flat] at r ⊢
  intro x hx
  cases hh : has P e.kl
  · obtain ⟨X, Y, e2, e3, _⟩ := set_flat_new O hh
    rw [e3] at hx
    rw [e2] at r
    rcases List.mem_append.1 hx with h | h
    · exact r x (List.mem_append_left _ h)
    · rcases List.mem_cons.1 h with h | h
      · subst h; exact ⟨hkl, hvl⟩
      · exact r x (List.mem_append_right _ h)
  · obtain ⟨X, y, Y, e2, hy, e3⟩ := set_flat_old O hh
    rw [e3] at hx
    rw [e2] at r
    rcases List.mem_append.1 hx with h | h
    · exact r x (List.mem_append_left _ h)
    · rcases List.mem_cons.1 h with h | h
      · subst h; exact ⟨by simp only; rw [hy]; exact hkl, hvl⟩
      · exact r x (List.mem_append_right _ (List.mem_cons_of_mem _ h))
theorem Rm.after {w' : World} {F' D' : Nat → Prop} {g N : Nat} {L L' : List Pg} {k v : List Int} (O : Ord (ens L)) (S : Shq (ens L)) (n : (ens L).flatten.length ≤ N) (r : ∀ es ∈ ens L, ∀ e ∈ es, e.kl.length ≤ 1000000000 ∧ e.vl.length ≤ 1000000000) (hkl : k.length ≤ 1000000000) (hvl : v.length ≤ 1000000000) (h : abs (ens L') = aset (abs (ens L)) k v) (A : RfM w' F' D' g L') : Rm w' F' D' g (aset (abs (ens L)) k v) (N + 1) := by
  have e : abs (setQ (ens L) ⟨undef, k, undef, v⟩) = abs (ens L') := by rw [abs_set, h]
  refine ⟨L', h, A, (O.set _).abs e, (S.set O _).abs e, ?_, small_abs e (setQ_small O r hkl hvl)⟩
  have hl := congrArg (fun Q => Q.flatten.length) e
  simp only [abs_flat, List.length_map] at hl
  rw [← hl, len_set O]
  split <;> omega
theorem rm_set {w : World} {F D : Nat → Prop} {g N : Nat} {Q : List (List KV)} {ka va : Option Addr} {kc vc : Nat} {k v : List Int} (M : Rm w F D g Q N) (hk : By w (.slice ka k.length kc) k) (hv : By w (.slice va v.length vc) v) (hkl : k.length ≤ 1000000000) (hvl : v.length ≤ 1000000000) (hN : N ≤ 100000000) :
    Calls Try.prog 13 #[.pointer (some ⟨g, 0, none⟩), .slice ka k.length kc, .slice va v.length vc] w fun e w' => e = .returned (.bool (!ahas Q k)) ∧ ∃ F', Rm w' F' (fun b => D b ∨ w.heap.size ≤ b) g (aset Q k v) (N + 1) ∧ (∀ b, F' b → F b ∨ w.heap.size ≤ b) ∧ Chg F w w' := by
  obtain ⟨L, rfl, A, O, S, n, r⟩ := M.ex
  have hs : ∀ es ∈ ens L, es.length ≤ 32 := fun es he => (S.one es he).2
  have hb : ∀ es ∈ ens L, ∀ e ∈ es, e.kl.length ≤ 1000000000 := fun es he e hee => (r es he e hee).1
  rw [abs_has]
  by_cases hL : L = []
  · subst hL
    refine (rset_first A hk hv hkl hvl).mono fun e w' ⟨he, F', L', nk, nv, e1, A', hF, hc⟩ => ⟨he, F', Rm.after O S n r hkl hvl ?_ A', hF, hc⟩
    rw [e1]; rfl
  · obtain ⟨p0, hp, hpe⟩ := at_page hL k
    have hhas : has (ens L) k = thr (kys p0.es) k := by rw [has_thr (ens_ne hL), hpe]
    rw [hhas]
    cases ht : thr (kys p0.es) k
    · have hq : ∀ nk nv, abs (insQ (ens L) (pgi (ens L) k) (plc (kys p0.es) k) ⟨nk, k, nv, v⟩) = aset (abs (ens L)) k v := fun nk nv => by
        rw [← abs_set (ens L) ⟨nk, k, nv, v⟩]
        unfold setQ
        rw [if_neg (ens_ne hL)]
        simp only [hpe, ht]
        rfl
      by_cases hfew : p0.es.length < 32
      · exact (rset_ins A O hk hv hkl hvl (S.few n hN) hs hb hp ht hfew).mono fun e w' ⟨he, F', L', nk, nv, e1, A', hF, hc⟩ => ⟨he, F', Rm.after O S n r hkl hvl (by rw [e1]; exact hq nk nv) A', hF, hc⟩
      · have h32 : p0.es.length = 32 := by
          have := hs p0.es (List.mem_map.2 ⟨p0, List.mem_of_getElem? hp, rfl⟩)
          omega
        exact (rset_split A O hk hv hkl hvl (S.few n hN) hs hb hp ht h32).mono fun e w' ⟨he, F', L', nk, nv, e1, A', hF, hc⟩ => ⟨he, F', Rm.after O S n r hkl hvl (by rw [e1]; exact hq nk nv) A', hF, hc⟩
    · refine (rset_old A O hk hv hkl hvl (S.few n hN) hs hb hp ht).mono fun e w' ⟨he, nk, nv, A', hc⟩ => ⟨he, F, Rm.after O S n r hkl hvl ?_ A', fun b hb => .inl hb, hc⟩
      obtain ⟨x, hx, hxk⟩ := thr_get ht
      rw [← abs_set (ens L) ⟨nk, k, nv, v⟩, ens_set]
      unfold setQ
      rw [if_neg (ens_ne hL)]
      simp only [hpe, ht, if_true]
      rw [modify_at hx, abs_set_at, abs_set_at, List.map_set, List.map_set]
      simp only [En.kl2, hxk]
theorem rm_get {w : World} {F D : Nat → Prop} {g N : Nat} {Q : List (List KV)} {ka : Option Addr} {kc : Nat} {k : List Int} (M : Rm w F D g Q N) (hk : By w (.slice ka k.length kc) k) (hkl : k.length ≤ 1000000000) (hN : N ≤ 100000000) :
    Calls Try.prog 17 #[.pointer (some ⟨g, 0, none⟩), .slice ka k.length kc] w fun e w' => ∃ v, e = .returned (.tuple #[v, .bool (ahas Q k)]) ∧ OB w' (w.heap.size ≤ ·) v (if ahas Q k then agot Q k else []) ∧ Below w.heap.size w w' := by
  obtain ⟨L, rfl, A, O, S, n, r⟩ := M.ex
  rw [abs_has, abs_got]
  exact rGet A O hk hkl (S.few n hN) (fun es he => (S.one es he).2) r
theorem rm_all {w : World} {F D : Nat → Prop} {g N : Nat} {Q : List (List KV)} (M : Rm w F D g Q N) (hN : N ≤ 100000000) :
    Calls Try.prog 41 #[.pointer (some ⟨g, 0, none⟩)] w fun e w' => ∃ v es, e = .returned v ∧ Pq w' w.heap.size D v es ∧ es.map En.kl2 = Q.flatten ∧ Below w.heap.size w w' := by
  obtain ⟨L, rfl, A, O, S, n, r⟩ := M.ex
  exact (rAll A O.full (by omega) (S.few n hN)).mono fun e w' ⟨v, he, hP, hB⟩ => ⟨v, _, he, hP, (abs_flat _).symm, hB⟩
theorem rm_shape {w : World} {F D : Nat → Prop} {g N : Nat} {Q : List (List KV)} (M : Rm w F D g Q N) (hN : N ≤ 100000000) :
    Calls Try.prog 43 #[.pointer (some ⟨g, 0, none⟩)] w fun e w' => ∃ v, e = .returned v ∧ IntN w' w.heap.size v (Q.map fun es => (es.length : Int)) ∧ Below w.heap.size w w' := by
  obtain ⟨L, rfl, A, O, S, n, r⟩ := M.ex
  rw [abs_ints]
  exact rShape A (S.few n hN)
theorem rm_walk {w : World} {F D : Nat → Prop} {g N : Nat} {Q : List (List KV)} (M : Rm w F D g Q N) (hN : N ≤ 6000) {fa : Option Addr} {fc : Nat} {f : List Int} (hf : By w (.slice fa f.length fc) f) {ta : Option Addr} {tc : Nat} {t : List Int} (ht : By w (.slice ta t.length tc) t) :
    Calls Try.prog 23 #[.pointer (some ⟨g, 0, none⟩), .slice fa f.length fc, .slice ta t.length tc] w fun e w' => ∃ v es, e = .returned v ∧ Pq w' w.heap.size D v es ∧ es.map En.kl2 = Q.flatten.filter (abtw f t) ∧ Below w.heap.size w w' := by
  obtain ⟨L, rfl, A, O, S, n, r⟩ := M.ex
  refine (rWalk A O.full (by omega) (S.few n (by omega)) r hf ht).mono fun e w' ⟨v, he, hP, hB⟩ => ⟨v, _, he, hP, ?_, hB⟩
  rw [abs_flat, List.filter_map]
  rfl
end Pg
end Go.Proofs.Ytjnjkgakdnjlmaa

namespace Go.Proofs.Ytjnjkgakdnjlmaa
namespace Pg
open Go.RowKit Go.Lib
attribute [local go_sem] Oper.semAt_some
set_option maxHeartbeats 4000000 in
set_option maxRecDepth 100000 in
theorem same_any {w : World} {F D F2 D2 : Nat → Prop} {g h N N2 : Nat} {Q : List (List KV)} (M : Mp w F D g Q N) (R : Rm w F2 D2 h Q N2) (hN : N ≤ 100000000) (hN2 : N2 ≤ 100000000) :
    Calls Try.prog 26 #[.pointer (some ⟨g, 0, none⟩), .pointer (some ⟨h, 0, none⟩)] w fun e w' => e = .returned (.bool true) ∧ Below w.heap.size w w' := by
  have hQ := M.len
  have hsm : Hid _ := M.small
  have hQm : (Q.map fun es => (es.length : Int)).length ≤ 1000000000 := by
    rw [List.length_map]
    have h1 : ∀ {Q : List (List KV)}, (∀ es ∈ Q, es ≠ []) → Q.length ≤ Q.flatten.length := fun {Q} hne => by
      induction Q with
      | nil => exact Nat.le_refl _
      | cons a Q ih =>
        have h2 := ih (fun es he => hne es (List.mem_cons_of_mem _ he))
        have h3 := List.length_pos_iff.2 (hne a List.mem_cons_self)
        simp only [List.flatten_cons, List.length_append, List.length_cons]
        omega
    have := h1 M.ne
    omega
  have HM : Hid _ := M
  have HR : Hid _ := R
  have t1 := mpages M hN
  obtain ⟨Z, hZ⟩ : ∃ Z, Hid ((Q.map fun es => (es.length : Int)) = Z) := ⟨_, rfl⟩
  rw [hZ.out] at t1 hQm
  have t2 := fun w' (hB : Below w.heap.size w w') => rm_shape (R.keep hB) hN2
  rw [hZ.out] at t2
  obtain ⟨q, hq⟩ : ∃ q, Hid (Q.flatten.length = q) := ⟨_, rfl⟩
  have t3 := fun w' (hB : Below w.heap.size w w') => mlen (M.keep hB) hN
  have t4 := fun w' (hB : Below w.heap.size w w') => rm_all (R.keep hB) hN2
  have t5 := fun w' (hB : Below w.heap.size w w') => mup (n := 1073741824) (M.keep hB) hN (By.nil _) (By.nil _) (by decide) (by decide) (by decide) (by decide)
  rw [hq.out] at t3
  rw [filter_all, take_all (by omega)] at t5
  obtain ⟨m, hm⟩ : ∃ m, Hid (Z.length = m) := ⟨_, rfl⟩
  rw [hm.out] at hQm
  clear M R
  go_enter Try.func26, Try.ntmps26
  go_wp2_with first
    | (go_at_call 30; go_must (refine t1.mono ?_); rintro e w1 ⟨v1, rfl, V1, B1⟩; obtain ⟨b1, c1, e1, hl1, R1⟩ := id V1.ex; rw [hm.out] at e1 R1; subst e1)
    | (go_at_call 43; go_must (refine (t2 _ B1).mono ?_); rintro e w2 ⟨v2, rfl, V2, B2⟩; obtain ⟨a2, n2, c2, rfl⟩ := IntN.sh V2; replace V2 : Hid (IntN w2 w1.heap.size (.slice a2 n2 c2) Z) := V2)
    | (go_at_call 31; go_must (refine (ints_n (V1.keep B2) V2.out (by have := hm.out; omega) (by have := hm.out; omega)).mono ?_); rintro e w3 ⟨rfl, B3⟩; rw [decide_eq_true rfl]; have B03 := joinB (joinB B1 B2) B3)
    | (go_at_call 29; go_must (refine (t3 _ B03).mono ?_); rintro e w4 ⟨rfl, rfl⟩)
    | (go_at_call 41; go_must (refine (t4 _ B03).mono ?_); rintro e w5 ⟨v5, es5, rfl, P5, E5, B5⟩; obtain ⟨a5, n5, c5, e5⟩ := P5.sh; have hn5 : n5 = q := (by obtain ⟨x, y, z⟩ := P5.shape; rw [z] at e5; have hh := congrArg (fun l => l.length) E5; simp only [List.length_map] at hh; rw [hq.out] at hh; cases e5; exact hh); subst hn5; subst e5; clear P5 E5)
  have B05 := joinB B03 B5
  have R5 := R1.keep (joinB (joinB B2 B3) B5)
  have HI : Hid (∃ Y : List Int, Y.length = m ∧ Rw w5 3 1 b1 m c1 (Y.map (Value.int .i64))) := ⟨Z, hm.out, R5⟩
  have HB5 : Hid _ := B05
  clear R5 B05 B5 B03 B3 V2 B2 R1 V1 B1 t1 t2 t3
  go_loopw [6] (fun ti wr => ∃ i : Nat, i ≤ m ∧ ti = .int .i64 i ∧ Hid (∃ Y : List Int, Y.length = m ∧ Rw wr 3 1 b1 m c1 (Y.map (Value.int .i64))) ∧ Hid (Below w.heap.size w wr)) (fun ti _ => m - (intOf ti).toNat)
  case atStart => exact ⟨0, Nat.zero_le _, rfl, HI, HB5⟩
  case round =>
    obtain ⟨i, hi, rfl, HY, HB⟩ := hrel
    obtain ⟨Y, hY, RY⟩ := HY.out
    have hwl := HB.out.size
    by_cases hlt : i < m
    · obtain ⟨y, hy⟩ : ∃ y, Y[i]? = some y := ⟨Y[i]'(by omega), List.getElem?_eq_getElem _⟩
      have c5 := RY.cell (i := i) (v := .int .i64 y) (by rw [List.getElem?_map, hy]; rfl)
      have f5 := RY.free i
      have HN : Hid (∃ Y' : List Int, Y'.length = m ∧ Rw (wr.setCell ⟨b1, i, none⟩ (.int .i64 (-1))) 3 1 b1 m c1 (Y'.map (Value.int .i64))) := ⟨Y.set i (-1), by rw [List.length_set]; exact hY, (RY.set i (by rw [List.length_map]; omega) (.int .i64 (-1))).to (by rw [List.map_set])⟩
      have HBN : Hid (Below w.heap.size w (wr.setCell ⟨b1, i, none⟩ (.int .i64 (-1)))) := HB.out.trans (((Chg.refl (fun x => x = b1) wr).cell (g := b1) (i := i) (.inl rfl) (.int .i64 (-1))).below (fun b e => by have e' : b = b1 := e; omega) hwl)
      have hi0 : (i : Int) < m := by omega
      clear RY HY hy hY
      go_wp2
      go_roundw
      case rel => exact ⟨i + 1, by omega, by go_num, HN, HBN⟩
      case measure => simp [intOf]; omega
    · obtain rfl : i = m := by omega
      clear RY HY hY
      go_wp2_with first
        | (go_at_call 21; go_must (refine (t5 _ HB.out).mono ?_); rintro e w6 ⟨v6, es6, rfl, P6, E6, B6⟩; obtain ⟨a6, n6, c6, rfl⟩ := P6.sh; replace P6 := hid P6; replace E6 := hid E6; have B06 := HB.out.trans (B6.mono hwl))
        | (go_at_call 41; go_must (refine (t4 _ B06).mono ?_); rintro e w7 ⟨v7, es7, rfl, P7, E7, B7⟩; obtain ⟨a7, n7, c7, rfl⟩ := P7.sh; replace P7 := hid P7; replace E7 := hid E7)
        | (go_at_call 20; go_must (refine (pairs_same (P6.out.keep B7) (P7.out.a (B0 := 0) (Nat.zero_le _) (fun _ _ _ => Nat.zero_le _)) (E6.out.trans E7.out.symm) (small_of E6.out hsm.out) (by rw [← List.length_map (f := En.kl2), E6.out]; omega)).mono ?_); rintro e w8 ⟨rfl, B8⟩)
      go_ret
      exact ⟨rfl, B06.trans ((joinB B7 B8).mono B06.size)⟩
end Pg
end Go.Proofs.Ytjnjkgakdnjlmaa

namespace Go.Proofs.Ytjnjkgakdnjlmaa
namespace Pg
open Go.RowKit Go.Lib
attribute [local go_sem] Oper.semAt_some
theorem run_apc {a : Act} {w w' : World} {o : Oper} {y : Nat} {v r : Value} (hty : o.type = 44) (ho : o.op = .call { callee := .builtin .append, args := #[.const (.slice none 0 0), .tmp y], argTypes := #[44, 44] }) (hy : a.eval (.tmp y) = v) (hr : (Builtin.append_ #[44, 44] 44 #[.slice none 0 0, v]).run Try.prog w = .ok r w') : (execOp a.eval o).run Try.prog w = .ok (.value r) w' := by
  have hy' : a.tmps.getD y undef = v := hy
  unfold execOp
  simp only [hty, ho, resolve, invoke, builtin, Sem.run_bind, Sem.run_pure, Result.andThen_ok, List.map_toArray, List.map_cons, List.map_nil, Act.eval, hy', hr]
theorem pcells4 {w w' : World} {g G i j l : Nat} {x y z : Value} (h : w.cell? ⟨g, i, none⟩ = some x ∧ w.cell? ⟨G, j, none⟩ = some y ∧ w.cell? ⟨G, l, none⟩ = some z) (h1 : g < w.heap.size) (h2 : G < w.heap.size) (hb : Below w.heap.size w w') : w'.cell? ⟨g, i, none⟩ = some x ∧ w'.cell? ⟨G, j, none⟩ = some y ∧ w'.cell? ⟨G, l, none⟩ = some z :=
  ⟨(hb.cell (p := ⟨g, i, none⟩) h1).trans h.1, (hb.cell (p := ⟨G, j, none⟩) h2).trans h.2.1, (hb.cell (p := ⟨G, l, none⟩) h2).trans h.2.2⟩
set_option maxHeartbeats 2000000 in
set_option maxRecDepth 100000 in
theorem rjoin_neg {w : World} {g : Nat} : Calls Try.prog 38 #[.pointer (some ⟨g, 0, none⟩), .int .i64 (-1)] w fun e w' => e = .returned (.bool false) ∧ Below w.heap.size w w' := by
  go_enter Try.func38, Try.ntmps38
  go_wp2_with fail
  have hS := trivial
  refine rg_start (S := fun _ => True) (by kernel_rfl) hS ?_
  refine rg_take 0 (some 6) (.int .i64 (-1)) (by kernel_rfl) (fun _ _ => by kernel_rfl) (fun _ _ _ h => h) hS ?_
  refine rg_take 1 (some 7) (.bool true) (by kernel_rfl) (fun _ _ => by kernel_rfl) (fun _ _ _ h => h) hS ?_
  refine rg_take 2 (some 8) (.bool true) (by kernel_rfl) (fun _ _ => by kernel_rfl) (fun _ _ _ h => h) hS ?_
  refine rg_skip 3 (some 9) (by kernel_rfl) (fun _ _ _ h => h) hS ?_
  refine rg_skip 4 (some 10) (by kernel_rfl) (fun _ _ _ h => h) hS ?_
  refine rg_skip 5 (some 11) (by kernel_rfl) (fun _ _ _ h => h) hS ?_
  refine rg_skip 6 (some 12) (by kernel_rfl) (fun _ _ _ h => h) hS ?_
  refine rg_skip 7 (some 13) (by kernel_rfl) (fun _ _ _ h => h) hS ?_
  refine rg_skip 8 (some 14) (by kernel_rfl) (fun _ _ _ h => h) hS ?_
  refine rg_skip 9 (some 15) (by kernel_rfl) (fun _ _ _ h => h) hS ?_
  refine rg_skip 10 (some 16) (by kernel_rfl) (fun _ _ _ h => h) hS ?_
  refine rg_take 11 (some 17) (.bool true) (by kernel_rfl) (fun _ _ => by kernel_rfl) (fun _ _ _ h => h) hS ?_
  refine rg_take 12 (some 18) (.bool true) (by kernel_rfl) (fun _ _ => by kernel_rfl) (fun _ _ _ h => h) hS ?_
  refine rg_skip 13 (some 19) (by kernel_rfl) (fun _ _ _ h => h) hS ?_
  refine rg_skip 14 (some 20) (by kernel_rfl) (fun _ _ _ h => h) hS ?_
  refine rg_skip 15 (some 21) (by kernel_rfl) (fun _ _ _ h => h) hS ?_
  refine rg_skip 16 (some 22) (by kernel_rfl) (fun _ _ _ h => h) hS ?_
  refine rg_skip 17 (some 23) (by kernel_rfl) (fun _ _ _ h => h) hS ?_
  refine rg_skip 18 (some 24) (by kernel_rfl) (fun _ _ _ h => h) hS ?_
  refine rg_skip 19 (some 25) (by kernel_rfl) (fun _ _ _ h => h) hS ?_
  refine rg_skip 20 (some 26) (by kernel_rfl) (fun _ _ _ h => h) hS ?_
  refine rg_skip 21 (some 27) (by kernel_rfl) (fun _ _ _ h => h) hS ?_
  refine rg_skip 22 (some 28) (by kernel_rfl) (fun _ _ _ h => h) hS ?_
  refine rg_skip 23 (some 29) (by kernel_rfl) (fun _ _ _ h => h) hS ?_
  refine rg_skip 24 (some 30) (by kernel_rfl) (fun _ _ _ h => h) hS ?_
  refine rg_skip 25 (some 31) (by kernel_rfl) (fun _ _ _ h => h) hS ?_
  refine rg_skip 26 (some 32) (by kernel_rfl) (fun _ _ _ h => h) hS ?_
  refine rg_skip 27 (some 33) (by kernel_rfl) (fun _ _ _ h => h) hS ?_
  refine rg_skip 28 (some 34) (by kernel_rfl) (fun _ _ _ h => h) hS ?_
  refine rg_skip 29 (some 35) (by kernel_rfl) (fun _ _ _ h => h) hS ?_
  refine rg_skip 30 (some 36) (by kernel_rfl) (fun _ _ _ h => h) hS ?_
  refine rg_skip 31 (some 37) (by kernel_rfl) (fun _ _ _ h => h) hS ?_
  refine rg_take 32 (some 38) (.bool true) (by kernel_rfl) (fun _ _ => by kernel_rfl) (fun _ _ _ h => h) hS ?_
  refine rg_done (by kernel_rfl) ?_
  simp only [Act.put, List.setIfInBounds_toArray, List.set_cons_zero, List.set_cons_succ]
  go_wp2
  go_ret
  exact ⟨rfl, belowD w⟩
set_option maxHeartbeats 2000000 in
set_option maxRecDepth 100000 in
theorem rjoin_end {w : World} {F D : Nat → Prop} {g p : Nat} {L : List Pg} (A : RfM w F D g L) (hp : L.length ≤ p + 1) (hp2 : p ≤ 100000000) : Calls Try.prog 38 #[.pointer (some ⟨g, 0, none⟩), .int .i64 p] w fun e w' => e = .returned (.bool false) ∧ Below w.heap.size w w' := by
  obtain ⟨ao, C, hc, -⟩ := A.rd
  obtain ⟨n, hnn⟩ : ∃ n, Hid (L.length = n) := ⟨_, rfl⟩
  rw [hnn.out] at hc hp
  have HC : Hid (w.drew.cell? ⟨g, 0, none⟩ = some (.slice ao n C)) := hc
  clear A hc
  go_enter Try.func38, Try.ntmps38
  go_wp2_with fail
  have hS := HC.out
  have w1 : IntKind.i64.wrap ((p : Int) + 1) = (p : Int) + 1 := by rw [IntKind.wrap_i64]; omega
  refine rg_start (S := fun w' => w'.cell? ⟨g, 0, none⟩ = some (.slice ao n C)) (by kernel_rfl) hS ?_
  refine rg_take 0 (some 6) (.int .i64 p) (by kernel_rfl) (fun _ _ => by kernel_rfl) (fun _ _ _ h => h) hS ?_
  refine rg_eq 1 (some 7) (.bool (decide ((p : Int) < 0))) (.bool false) (by rw [decide_eq_false (by omega)]) (by kernel_rfl) (fun _ _ => by kernel_rfl) (fun _ _ _ h => h) hS ?_
  refine rg_take 2 (some 8) (.bool false) (by kernel_rfl) (fun _ _ => by kernel_rfl) (fun _ _ _ h => h) hS ?_
  refine rg_take 3 (some 9) (.int .i64 p) (by kernel_rfl) (fun _ _ => by kernel_rfl) (fun _ _ _ h => h) hS ?_
  refine rg_eq 4 (some 10) (.int .i64 (IntKind.i64.wrap ((p : Int) + 1))) (.int .i64 ((p : Int) + 1)) (by rw [w1]) (by kernel_rfl) (fun _ _ => by kernel_rfl) (fun _ _ _ h => h) hS ?_
  refine rg_take 5 (some 11) (.pointer (some ⟨g, 0, none⟩)) (by kernel_rfl) (fun _ _ => by kernel_rfl) (fun _ _ _ h => h) hS ?_
  refine rg_take 6 (some 12) (.pointer (some ⟨g, 0, none⟩)) (by kernel_rfl) (fun _ _ => by kernel_rfl) (fun _ _ _ h => h) hS ?_
  refine rg_take 7 (some 13) (.pointer (some ⟨g, 0, none⟩)) (by kernel_rfl) (fun _ _ => by kernel_rfl) (fun _ _ _ h => h) hS ?_
  refine rg_load 8 (some 14) (.slice ao n C) 29 13 (g) (0) (by kernel_rfl) (by kernel_rfl) (by kernel_rfl) (fun w' h => ld_oo h) (fun _ _ _ h => h) hS ?_
  refine rg_take 9 (some 15) (.int .i64 n) (by kernel_rfl) (fun _ _ => by kernel_rfl) (fun _ _ _ h => h) hS ?_
  refine rg_eq 10 (some 16) (.bool (decide ((n : Int) ≤ (p : Int) + 1))) (.bool true) (by rw [decide_eq_true (by omega)]) (by kernel_rfl) (fun _ _ => by kernel_rfl) (fun _ _ _ h => h) hS ?_
  refine rg_take 11 (some 17) (.bool true) (by kernel_rfl) (fun _ _ => by kernel_rfl) (fun _ _ _ h => h) hS ?_
  refine rg_take 12 (some 18) (.bool true) (by kernel_rfl) (fun _ _ => by kernel_rfl) (fun _ _ _ h => h) hS ?_
  refine rg_skip 13 (some 19) (by kernel_rfl) (fun _ _ _ h => h) hS ?_
  refine rg_skip 14 (some 20) (by kernel_rfl) (fun _ _ _ h => h) hS ?_
  refine rg_skip 15 (some 21) (by kernel_rfl) (fun _ _ _ h => h) hS ?_
  refine rg_skip 16 (some 22) (by kernel_rfl) (fun _ _ _ h => h) hS ?_
  refine rg_skip 17 (some 23) (by kernel_rfl) (fun _ _ _ h => h) hS ?_
  refine rg_skip 18 (some 24) (by kernel_rfl) (fun _ _ _ h => h) hS ?_
  refine rg_skip 19 (some 25) (by kernel_rfl) (fun _ _ _ h => h) hS ?_
  refine rg_skip 20 (some 26) (by kernel_rfl) (fun _ _ _ h => h) hS ?_
  refine rg_skip 21 (some 27) (by kernel_rfl) (fun _ _ _ h => h) hS ?_
  refine rg_skip 22 (some 28) (by kernel_rfl) (fun _ _ _ h => h) hS ?_
  refine rg_skip 23 (some 29) (by kernel_rfl) (fun _ _ _ h => h) hS ?_
  refine rg_skip 24 (some 30) (by kernel_rfl) (fun _ _ _ h => h) hS ?_
  refine rg_skip 25 (some 31) (by kernel_rfl) (fun _ _ _ h => h) hS ?_
  refine rg_skip 26 (some 32) (by kernel_rfl) (fun _ _ _ h => h) hS ?_
  refine rg_skip 27 (some 33) (by kernel_rfl) (fun _ _ _ h => h) hS ?_
  refine rg_skip 28 (some 34) (by kernel_rfl) (fun _ _ _ h => h) hS ?_
  refine rg_skip 29 (some 35) (by kernel_rfl) (fun _ _ _ h => h) hS ?_
  refine rg_skip 30 (some 36) (by kernel_rfl) (fun _ _ _ h => h) hS ?_
  refine rg_skip 31 (some 37) (by kernel_rfl) (fun _ _ _ h => h) hS ?_
  refine rg_take 32 (some 38) (.bool true) (by kernel_rfl) (fun _ _ => by kernel_rfl) (fun _ _ _ h => h) hS ?_
  refine rg_done (by kernel_rfl) ?_
  simp only [Act.put, List.setIfInBounds_toArray, List.set_cons_zero, List.set_cons_succ]
  go_wp2
  go_ret
  exact ⟨rfl, belowD w⟩
set_option maxHeartbeats 2000000 in
set_option maxRecDepth 100000 in
theorem rjoin_no {w : World} {F D : Nat → Prop} {g p : Nat} {L : List Pg} {a b : Pg} (A : RfM w F D g L) (ha : L[p]? = some a) (hb : L[p + 1]? = some b) (hn : L.length ≤ 100000000) (hxy : a.es.length ≤ 32 ∧ b.es.length ≤ 32 ∧ 16 < a.es.length + b.es.length) : Calls Try.prog 38 #[.pointer (some ⟨g, 0, none⟩), .int .i64 p] w fun e w' => e = .returned (.bool false) ∧ Below w.heap.size w w' := by
  obtain ⟨G, Cc, hg, hFg, hFG, hR⟩ := A.opn (fun e => by subst e; simp at ha)
  obtain ⟨n, hnn⟩ : ∃ n, Hid (L.length = n) := ⟨_, rfl⟩
  obtain ⟨C, hCC⟩ : ∃ C, Hid (Cc = C) := ⟨_, rfl⟩
  rw [hCC.out] at hg hR
  have hpn : p + 1 < n := by rw [← hnn.out]; exact (List.getElem?_eq_some_iff.1 hb).1
  obtain ⟨x, hx⟩ : ∃ x, Hid (a.es.length = x) := ⟨_, rfl⟩
  obtain ⟨y, hy⟩ : ∃ y, Hid (b.es.length = y) := ⟨_, rfl⟩
  have q1 : w.cell? ⟨g, 0, none⟩ = some (.slice (some ⟨G, 0, none⟩) n C) := by have := hg.cell (i := 0) rfl; rw [hnn.out] at this; exact this
  have q2 : w.cell? ⟨G, p, none⟩ = some (.slice (some ⟨a.b, 0, none⟩) x a.c) := by rw [← hx.out]; exact hR.cell (by rw [List.getElem?_map, ha]; rfl)
  have q3 : w.cell? ⟨G, p + 1, none⟩ = some (.slice (some ⟨b.b, 0, none⟩) y b.c) := by rw [← hy.out]; exact hR.cell (by rw [List.getElem?_map, hb]; rfl)
  have HQ : Hid (w.drew.cell? ⟨g, 0, none⟩ = some (.slice (some ⟨G, 0, none⟩) n C) ∧ w.drew.cell? ⟨G, p, none⟩ = some (.slice (some ⟨a.b, 0, none⟩) x a.c) ∧ w.drew.cell? ⟨G, p + 1, none⟩ = some (.slice (some ⟨b.b, 0, none⟩) y b.c)) := ⟨q1, q2, q3⟩
  rw [hnn.out] at hn
  rw [hx.out, hy.out] at hxy
  clear A hg hR ha hb q1 q2 q3
  go_enter Try.func38, Try.ntmps38
  go_wp2_with fail
  have hS := HQ.out
  have w1 : IntKind.i64.wrap ((p : Int) + 1) = (p : Int) + 1 := by rw [IntKind.wrap_i64]; omega
  have w2 : IntKind.i64.wrap ((x : Int) + y) = (x : Int) + y := by rw [IntKind.wrap_i64]; omega
  refine rg_start (S := fun w' => w'.cell? ⟨g, 0, none⟩ = some (.slice (some ⟨G, 0, none⟩) n C) ∧ w'.cell? ⟨G, p, none⟩ = some (.slice (some ⟨a.b, 0, none⟩) x a.c) ∧ w'.cell? ⟨G, p + 1, none⟩ = some (.slice (some ⟨b.b, 0, none⟩) y b.c)) (by kernel_rfl) hS ?_
  refine rg_take 0 (some 6) (.int .i64 p) (by kernel_rfl) (fun _ _ => by kernel_rfl) (fun _ _ _ h => h) hS ?_
  refine rg_eq 1 (some 7) (.bool (decide ((p : Int) < 0))) (.bool false) (by rw [decide_eq_false (by omega)]) (by kernel_rfl) (fun _ _ => by kernel_rfl) (fun _ _ _ h => h) hS ?_
  refine rg_take 2 (some 8) (.bool false) (by kernel_rfl) (fun _ _ => by kernel_rfl) (fun _ _ _ h => h) hS ?_
  refine rg_take 3 (some 9) (.int .i64 p) (by kernel_rfl) (fun _ _ => by kernel_rfl) (fun _ _ _ h => h) hS ?_
  refine rg_eq 4 (some 10) (.int .i64 (IntKind.i64.wrap ((p : Int) + 1))) (.int .i64 ((p : Int) + 1)) (by rw [w1]) (by kernel_rfl) (fun _ _ => by kernel_rfl) (fun _ _ _ h => h) hS ?_
  refine rg_take 5 (some 11) (.pointer (some ⟨g, 0, none⟩)) (by kernel_rfl) (fun _ _ => by kernel_rfl) (fun _ _ _ h => h) hS ?_
  refine rg_take 6 (some 12) (.pointer (some ⟨g, 0, none⟩)) (by kernel_rfl) (fun _ _ => by kernel_rfl) (fun _ _ _ h => h) hS ?_
  refine rg_take 7 (some 13) (.pointer (some ⟨g, 0, none⟩)) (by kernel_rfl) (fun _ _ => by kernel_rfl) (fun _ _ _ h => h) hS ?_
  refine rg_load 8 (some 14) (.slice (some ⟨G, 0, none⟩) n C) 29 13 (g) (0) (by kernel_rfl) (by kernel_rfl) (by kernel_rfl) (fun w' h => ld_oo h.1) (fun _ _ _ h => h) hS ?_
  refine rg_take 9 (some 15) (.int .i64 n) (by kernel_rfl) (fun _ _ => by kernel_rfl) (fun _ _ _ h => h) hS ?_
  refine rg_eq 10 (some 16) (.bool (decide ((n : Int) ≤ (p : Int) + 1))) (.bool false) (by rw [decide_eq_false (by omega)]) (by kernel_rfl) (fun _ _ => by kernel_rfl) (fun _ _ _ h => h) hS ?_
  refine rg_take 11 (some 17) (.bool false) (by kernel_rfl) (fun _ _ => by kernel_rfl) (fun _ _ _ h => h) hS ?_
  refine rg_take 12 (some 18) (.bool false) (by kernel_rfl) (fun _ _ => by kernel_rfl) (fun _ _ _ h => h) hS ?_
  refine rg_take 13 (some 19) (.pointer (some ⟨g, 0, none⟩)) (by kernel_rfl) (fun _ _ => by kernel_rfl) (fun _ _ _ h => h) hS ?_
  refine rg_take 14 (some 20) (.pointer (some ⟨g, 0, none⟩)) (by kernel_rfl) (fun _ _ => by kernel_rfl) (fun _ _ _ h => h) hS ?_
  refine rg_take 15 (some 21) (.pointer (some ⟨g, 0, none⟩)) (by kernel_rfl) (fun _ _ => by kernel_rfl) (fun _ _ _ h => h) hS ?_
  refine rg_load 16 (some 22) (.slice (some ⟨G, 0, none⟩) n C) 29 21 (g) (0) (by kernel_rfl) (by kernel_rfl) (by kernel_rfl) (fun w' h => ld_oo h.1) (fun _ _ _ h => h) hS ?_
  refine rg_take 17 (some 23) (.int .i64 p) (by kernel_rfl) (fun _ _ => by kernel_rfl) (fun _ _ _ h => h) hS ?_
  refine rg_take 18 (some 24) (.pointer (some ⟨G, p, none⟩)) (by kernel_rfl) (fun _ _ => run_io (x := 22) (y := 23) (k := p) (n := n) (c := C) (by kernel_rfl) (by kernel_rfl) (by kernel_rfl) rfl (by omega)) (fun _ _ _ h => h) hS ?_
  refine rg_load 19 (some 25) (.slice (some ⟨a.b, 0, none⟩) x a.c) 44 24 (G) (p) (by kernel_rfl) (by kernel_rfl) (by kernel_rfl) (fun w' h => ld_op h.2.1) (fun _ _ _ h => h) hS ?_
  refine rg_take 20 (some 26) (.int .i64 x) (by kernel_rfl) (fun _ _ => by kernel_rfl) (fun _ _ _ h => h) hS ?_
  refine rg_take 21 (some 27) (.pointer (some ⟨g, 0, none⟩)) (by kernel_rfl) (fun _ _ => by kernel_rfl) (fun _ _ _ h => h) hS ?_
  refine rg_take 22 (some 28) (.pointer (some ⟨g, 0, none⟩)) (by kernel_rfl) (fun _ _ => by kernel_rfl) (fun _ _ _ h => h) hS ?_
  refine rg_take 23 (some 29) (.pointer (some ⟨g, 0, none⟩)) (by kernel_rfl) (fun _ _ => by kernel_rfl) (fun _ _ _ h => h) hS ?_
  refine rg_load 24 (some 30) (.slice (some ⟨G, 0, none⟩) n C) 29 29 (g) (0) (by kernel_rfl) (by kernel_rfl) (by kernel_rfl) (fun w' h => ld_oo h.1) (fun _ _ _ h => h) hS ?_
  refine rg_take 25 (some 31) (.int .i64 p) (by kernel_rfl) (fun _ _ => by kernel_rfl) (fun _ _ _ h => h) hS ?_
  refine rg_eq 26 (some 32) (.int .i64 (IntKind.i64.wrap ((p : Int) + 1))) (.int .i64 ((p : Int) + 1)) (by rw [w1]) (by kernel_rfl) (fun _ _ => by kernel_rfl) (fun _ _ _ h => h) hS ?_
  refine rg_take 27 (some 33) (.pointer (some ⟨G, p + 1, none⟩)) (by kernel_rfl) (fun _ _ => run_io (x := 30) (y := 32) (k := p + 1) (n := n) (c := C) (z := (p : Int) + 1) (by kernel_rfl) (by kernel_rfl) (by kernel_rfl) (by omega) (by omega)) (fun _ _ _ h => h) hS ?_
  refine rg_load 28 (some 34) (.slice (some ⟨b.b, 0, none⟩) y b.c) 44 33 (G) (p + 1) (by kernel_rfl) (by kernel_rfl) (by kernel_rfl) (fun w' h => ld_op h.2.2) (fun _ _ _ h => h) hS ?_
  refine rg_take 29 (some 35) (.int .i64 y) (by kernel_rfl) (fun _ _ => by kernel_rfl) (fun _ _ _ h => h) hS ?_
  refine rg_eq 30 (some 36) (.int .i64 (IntKind.i64.wrap ((x : Int) + y))) (.int .i64 ((x : Int) + y)) (by rw [w2]) (by kernel_rfl) (fun _ _ => by kernel_rfl) (fun _ _ _ h => h) hS ?_
  refine rg_eq 31 (some 37) (.bool (decide ((16 : Int) < (x : Int) + y))) (.bool true) (by rw [decide_eq_true (by omega)]) (by kernel_rfl) (fun _ _ => by kernel_rfl) (fun _ _ _ h => h) hS ?_
  refine rg_take 32 (some 38) (.bool true) (by kernel_rfl) (fun _ _ => by kernel_rfl) (fun _ _ _ h => h) hS ?_
  refine rg_done (by kernel_rfl) ?_
  simp only [Act.put, List.setIfInBounds_toArray, List.set_cons_zero, List.set_cons_succ]
  go_wp2
  go_ret
  exact ⟨rfl, belowD w⟩
/-- a page laid in a page's place; its block is no page's -/
theorem RfM.laid2 {w : World} {F D : Nat → Prop} {g G C p b7 c7 : Nat} {L : List Pg} {es : List En} (A : RfM w F D g L) (hg : Blk w g [.slice (some ⟨G, 0, none⟩) L.length C] 31) (hFg : F g) (hFG : F G) (hR : Rw w 44 1 G L.length C (L.map Pg.v)) (hp : p < L.length) (hn : RpA w D ⟨b7, c7, es⟩) (hb7 : b7 ∉ L.map Pg.b) :
    RfM (w.setCell ⟨G, p, none⟩ (Pg.v ⟨b7, c7, es⟩)) (fun b => F b ∨ b = b7) D g (L.set p ⟨b7, c7, es⟩) ∧ Chg F w (w.setCell ⟨G, p, none⟩ (Pg.v ⟨b7, c7, es⟩)) := by
  obtain ⟨csG, kG⟩ := hR.kind
  have hne : g ≠ G := blk_ne hg kG (by decide)
  have hr : ∀ {E : TypeId} {k b n c : Nat} {xs : List Value}, Rw w E k b n c xs → E ≠ 44 → Rw (w.setCell ⟨G, p, none⟩ (Pg.v ⟨b7, c7, es⟩)) E k b n c xs := fun {E k b n c xs} h hE => by
    obtain ⟨cs, kk⟩ := h.kind
    exact h.same (Below.heap_setCell w _ _ b (show b ≠ G from blk_ne kk kG hE))
  have ho : ∀ {v : Value} {l : List Int}, OB w D v l → OB (w.setCell ⟨G, p, none⟩ (Pg.v ⟨b7, c7, es⟩)) D v l := fun h => ⟨h.oct, h.ex.imp id (fun ⟨b, c, e, hd, hRR⟩ => ⟨b, c, e, hd, hr hRR (by decide)⟩)⟩
  have hrow : ∀ {q : Pg}, RpA w D q → RpA (w.setCell ⟨G, p, none⟩ (Pg.v ⟨b7, c7, es⟩)) D q := fun {q} h => ⟨hr h.row (by decide), fun e he => ⟨ho (h.ents e he).k, ho (h.ents e he).v⟩⟩
  refine ⟨⟨⟨_, hg.off hne _, .inl hFg, .inr ⟨G, C, by rw [List.length_set], .inl hFG, ?_⟩⟩, fun q hq => ?_, ?_, fun b hF => ?_⟩, (Chg.refl F w).cell (.inl hFG) _⟩
  · rw [List.length_set, List.map_set]
    exact hR.set p (by rw [List.length_map]; exact hp) _
  · rcases List.mem_or_eq_of_mem_set hq with h | rfl
    · obtain ⟨h1, h2⟩ := A.pages q h
      exact ⟨hrow h1, .inl h2⟩
    · exact ⟨hrow hn, .inr rfl⟩
  · rw [List.map_set]
    exact nodup_new A.apart hb7 p
  · rcases hF with hF | rfl
    · obtain ⟨cs, tt, hk, ht⟩ := A.kind b hF
      by_cases e : b = G
      · subst e
        obtain ⟨cs', k'⟩ := (hR.set p (by rw [List.length_map]; exact hp) (Pg.v ⟨b7, c7, es⟩)).kind
        exact ⟨cs', _, k', by decide⟩
      · exact ⟨cs, tt, hk.off e _, ht⟩
    · obtain ⟨cs', k'⟩ := (hrow hn).row.kind
      exact ⟨cs', _, k', by decide⟩
set_option maxHeartbeats 4000000 in
set_option maxRecDepth 100000 in
theorem rjoin_yes {w : World} {F D : Nat → Prop} {g p : Nat} {L : List Pg} {a b : Pg} (A : RfM w F D g L) (ha : L[p]? = some a) (hb : L[p + 1]? = some b) (hn : L.length ≤ 100000000) (hxy : a.es.length ≤ 16 ∧ b.es.length ≤ 16 ∧ a.es.length + b.es.length ≤ 16) (ha0 : a.es ≠ []) (hb0 : b.es ≠ []) : Calls Try.prog 38 #[.pointer (some ⟨g, 0, none⟩), .int .i64 p] w fun e w' => e = .returned (.bool true) ∧ ∃ F' L', ens L' = jnQ (ens L) p ∧ RfM w' F' D g L' ∧ (∀ b, F' b → F b ∨ w.heap.size ≤ b) ∧ Chg F w w' := by
  obtain ⟨G, Cc, hg, hFg, hFG, hR⟩ := A.opn (fun e => by subst e; simp at ha)
  obtain ⟨n, hnn⟩ : ∃ n, Hid (L.length = n) := ⟨_, rfl⟩
  obtain ⟨C, hCC⟩ : ∃ C, Hid (Cc = C) := ⟨_, rfl⟩
  rw [hCC.out] at hg hR
  have hpn : p + 1 < n := by rw [← hnn.out]; exact (List.getElem?_eq_some_iff.1 hb).1
  obtain ⟨x, hx⟩ : ∃ x, Hid (a.es.length = x) := ⟨_, rfl⟩
  obtain ⟨y, hy⟩ : ∃ y, Hid (b.es.length = y) := ⟨_, rfl⟩
  have q1 : w.cell? ⟨g, 0, none⟩ = some (.slice (some ⟨G, 0, none⟩) n C) := by have := hg.cell (i := 0) rfl; rw [hnn.out] at this; exact this
  have q2 : w.cell? ⟨G, p, none⟩ = some (.slice (some ⟨a.b, 0, none⟩) x a.c) := by rw [← hx.out]; exact hR.cell (by rw [List.getElem?_map, ha]; rfl)
  have q3 : w.cell? ⟨G, p + 1, none⟩ = some (.slice (some ⟨b.b, 0, none⟩) y b.c) := by rw [← hy.out]; exact hR.cell (by rw [List.getElem?_map, hb]; rfl)
  have HQ : Hid (w.drew.cell? ⟨g, 0, none⟩ = some (.slice (some ⟨G, 0, none⟩) n C) ∧ w.drew.cell? ⟨G, p, none⟩ = some (.slice (some ⟨a.b, 0, none⟩) x a.c) ∧ w.drew.cell? ⟨G, p + 1, none⟩ = some (.slice (some ⟨b.b, 0, none⟩) y b.c)) := ⟨q1, q2, q3⟩
  rw [hnn.out] at hn
  rw [hx.out, hy.out] at hxy
  have HA : Hid _ := A
  have HGB : Hid _ := hg
  have HR : Hid _ := hR
  have hl1' := hg.lt
  have hl2' := hR.lt
  have RPa := (A.pages a (List.mem_of_getElem? ha)).1
  have RPb := (A.pages b (List.mem_of_getElem? hb)).1
  have HRPa : Hid _ := RPa
  have HRPb : Hid _ := RPb
  have HPa : Hid _ := ha
  have HPb : Hid _ := hb
  clear A hg hR ha hb q1 q2 q3 RPa RPb
  go_enter Try.func38, Try.ntmps38
  go_wp2_with fail
  have hS := HQ.out
  have w1 : IntKind.i64.wrap ((p : Int) + 1) = (p : Int) + 1 := by rw [IntKind.wrap_i64]; omega
  have w2 : IntKind.i64.wrap ((x : Int) + y) = (x : Int) + y := by rw [IntKind.wrap_i64]; omega
  refine rg_start (S := fun w' => w'.cell? ⟨g, 0, none⟩ = some (.slice (some ⟨G, 0, none⟩) n C) ∧ w'.cell? ⟨G, p, none⟩ = some (.slice (some ⟨a.b, 0, none⟩) x a.c) ∧ w'.cell? ⟨G, p + 1, none⟩ = some (.slice (some ⟨b.b, 0, none⟩) y b.c)) (by kernel_rfl) hS ?_
  refine rg_take 0 (some 6) (.int .i64 p) (by kernel_rfl) (fun _ _ => by kernel_rfl) (fun _ _ _ h => h) hS ?_
  refine rg_eq 1 (some 7) (.bool (decide ((p : Int) < 0))) (.bool false) (by rw [decide_eq_false (by omega)]) (by kernel_rfl) (fun _ _ => by kernel_rfl) (fun _ _ _ h => h) hS ?_
  refine rg_take 2 (some 8) (.bool false) (by kernel_rfl) (fun _ _ => by kernel_rfl) (fun _ _ _ h => h) hS ?_
  refine rg_take 3 (some 9) (.int .i64 p) (by kernel_rfl) (fun _ _ => by kernel_rfl) (fun _ _ _ h => h) hS ?_
  refine rg_eq 4 (some 10) (.int .i64 (IntKind.i64.wrap ((p : Int) + 1))) (.int .i64 ((p : Int) + 1)) (by rw [w1]) (by kernel_rfl) (fun _ _ => by kernel_rfl) (fun _ _ _ h => h) hS ?_
  refine rg_take 5 (some 11) (.pointer (some ⟨g, 0, none⟩)) (by kernel_rfl) (fun _ _ => by kernel_rfl) (fun _ _ _ h => h) hS ?_
  refine rg_take 6 (some 12) (.pointer (some ⟨g, 0, none⟩)) (by kernel_rfl) (fun _ _ => by kernel_rfl) (fun _ _ _ h => h) hS ?_
  refine rg_take 7 (some 13) (.pointer (some ⟨g, 0, none⟩)) (by kernel_rfl) (fun _ _ => by kernel_rfl) (fun _ _ _ h => h) hS ?_
  refine rg_load 8 (some 14) (.slice (some ⟨G, 0, none⟩) n C) 29 13 (g) (0) (by kernel_rfl) (by kernel_rfl) (by kernel_rfl) (fun w' h => ld_oo h.1) (fun _ _ _ h => h) hS ?_
  refine rg_take 9 (some 15) (.int .i64 n) (by kernel_rfl) (fun _ _ => by kernel_rfl) (fun _ _ _ h => h) hS ?_
  refine rg_eq 10 (some 16) (.bool (decide ((n : Int) ≤ (p : Int) + 1))) (.bool false) (by rw [decide_eq_false (by omega)]) (by kernel_rfl) (fun _ _ => by kernel_rfl) (fun _ _ _ h => h) hS ?_
  refine rg_take 11 (some 17) (.bool false) (by kernel_rfl) (fun _ _ => by kernel_rfl) (fun _ _ _ h => h) hS ?_
  refine rg_take 12 (some 18) (.bool false) (by kernel_rfl) (fun _ _ => by kernel_rfl) (fun _ _ _ h => h) hS ?_
  refine rg_take 13 (some 19) (.pointer (some ⟨g, 0, none⟩)) (by kernel_rfl) (fun _ _ => by kernel_rfl) (fun _ _ _ h => h) hS ?_
  refine rg_take 14 (some 20) (.pointer (some ⟨g, 0, none⟩)) (by kernel_rfl) (fun _ _ => by kernel_rfl) (fun _ _ _ h => h) hS ?_
  refine rg_take 15 (some 21) (.pointer (some ⟨g, 0, none⟩)) (by kernel_rfl) (fun _ _ => by kernel_rfl) (fun _ _ _ h => h) hS ?_
  refine rg_load 16 (some 22) (.slice (some ⟨G, 0, none⟩) n C) 29 21 (g) (0) (by kernel_rfl) (by kernel_rfl) (by kernel_rfl) (fun w' h => ld_oo h.1) (fun _ _ _ h => h) hS ?_
  refine rg_take 17 (some 23) (.int .i64 p) (by kernel_rfl) (fun _ _ => by kernel_rfl) (fun _ _ _ h => h) hS ?_
  refine rg_take 18 (some 24) (.pointer (some ⟨G, p, none⟩)) (by kernel_rfl) (fun _ _ => run_io (x := 22) (y := 23) (k := p) (n := n) (c := C) (by kernel_rfl) (by kernel_rfl) (by kernel_rfl) rfl (by omega)) (fun _ _ _ h => h) hS ?_
  refine rg_load 19 (some 25) (.slice (some ⟨a.b, 0, none⟩) x a.c) 44 24 (G) (p) (by kernel_rfl) (by kernel_rfl) (by kernel_rfl) (fun w' h => ld_op h.2.1) (fun _ _ _ h => h) hS ?_
  refine rg_take 20 (some 26) (.int .i64 x) (by kernel_rfl) (fun _ _ => by kernel_rfl) (fun _ _ _ h => h) hS ?_
  refine rg_take 21 (some 27) (.pointer (some ⟨g, 0, none⟩)) (by kernel_rfl) (fun _ _ => by kernel_rfl) (fun _ _ _ h => h) hS ?_
  refine rg_take 22 (some 28) (.pointer (some ⟨g, 0, none⟩)) (by kernel_rfl) (fun _ _ => by kernel_rfl) (fun _ _ _ h => h) hS ?_
  refine rg_take 23 (some 29) (.pointer (some ⟨g, 0, none⟩)) (by kernel_rfl) (fun _ _ => by kernel_rfl) (fun _ _ _ h => h) hS ?_
  refine rg_load 24 (some 30) (.slice (some ⟨G, 0, none⟩) n C) 29 29 (g) (0) (by kernel_rfl) (by kernel_rfl) (by kernel_rfl) (fun w' h => ld_oo h.1) (fun _ _ _ h => h) hS ?_
  refine rg_take 25 (some 31) (.int .i64 p) (by kernel_rfl) (fun _ _ => by kernel_rfl) (fun _ _ _ h => h) hS ?_
  refine rg_eq 26 (some 32) (.int .i64 (IntKind.i64.wrap ((p : Int) + 1))) (.int .i64 ((p : Int) + 1)) (by rw [w1]) (by kernel_rfl) (fun _ _ => by kernel_rfl) (fun _ _ _ h => h) hS ?_
  refine rg_take 27 (some 33) (.pointer (some ⟨G, p + 1, none⟩)) (by kernel_rfl) (fun _ _ => run_io (x := 30) (y := 32) (k := p + 1) (n := n) (c := C) (z := (p : Int) + 1) (by kernel_rfl) (by kernel_rfl) (by kernel_rfl) (by omega) (by omega)) (fun _ _ _ h => h) hS ?_
  refine rg_load 28 (some 34) (.slice (some ⟨b.b, 0, none⟩) y b.c) 44 33 (G) (p + 1) (by kernel_rfl) (by kernel_rfl) (by kernel_rfl) (fun w' h => ld_op h.2.2) (fun _ _ _ h => h) hS ?_
  refine rg_take 29 (some 35) (.int .i64 y) (by kernel_rfl) (fun _ _ => by kernel_rfl) (fun _ _ _ h => h) hS ?_
  refine rg_eq 30 (some 36) (.int .i64 (IntKind.i64.wrap ((x : Int) + y))) (.int .i64 ((x : Int) + y)) (by rw [w2]) (by kernel_rfl) (fun _ _ => by kernel_rfl) (fun _ _ _ h => h) hS ?_
  refine rg_eq 31 (some 37) (.bool (decide ((16 : Int) < (x : Int) + y))) (.bool false) (by rw [decide_eq_false (by omega)]) (by kernel_rfl) (fun _ _ => by kernel_rfl) (fun _ _ _ h => h) hS ?_
  refine rg_take 32 (some 38) (.bool false) (by kernel_rfl) (fun _ _ => by kernel_rfl) (fun _ _ _ h => h) hS ?_
  refine rg_done (by kernel_rfl) ?_
  simp only [Act.put, List.setIfInBounds_toArray, List.set_cons_zero, List.set_cons_succ]
  go_wp2_with fail
  have bD := joinB (belowD w) (belowD w.drew)
  have RPa := HRPa.out.keep bD
  have RPb := HRPb.out.keep bD
  obtain ⟨v5, w5, hr5, P5, S5⟩ := app_pairs (w := w.drew.drew) (es2 := a.es) (a := ⟨a.b, 0, none⟩) (cc := a.c) (Pq.nil w.drew.drew w.heap.size D) (Nat.le_refl _) RPa.ents ha0 (by simp; have := hx.out; omega) RPa.cells
  have b5 := S5.below (Nat.le_refl _)
  obtain ⟨v7, w7, hr7, P7, S7⟩ := app_pairs (es2 := b.es) (a := ⟨b.b, 0, none⟩) (cc := b.c) P5 b5.size (RPb.keep b5).ents hb0 (by simp; have := hx.out; have := hy.out; omega) (RPb.keep b5).cells
  have b7 := b5.trans (S7.below b5.size)
  rw [hx.out] at hr5
  rw [hy.out] at hr7
  obtain ⟨x5, y5, z5, rfl⟩ := P5.sh
  obtain ⟨bb, cc, e7, hl7, R7⟩ := P7.ex.resolve_left (fun h => by have := h.2; simp at this; exact ha0 this.1)
  rw [List.nil_append] at e7 R7 P7
  obtain ⟨m7, hm7⟩ : ∃ m7, Hid ((a.es ++ b.es).length = m7) := ⟨_, rfl⟩
  rw [hm7.out] at e7
  subst e7
  have hS : (fun w' => w'.cell? ⟨g, 0, none⟩ = some (.slice (some ⟨G, 0, none⟩) n C) ∧ w'.cell? ⟨G, p, none⟩ = some (.slice (some ⟨a.b, 0, none⟩) x a.c) ∧ w'.cell? ⟨G, p + 1, none⟩ = some (.slice (some ⟨b.b, 0, none⟩) y b.c)) w.drew.drew := HQ.out
  have hl1 : g < w.drew.drew.heap.size := hl1'
  have hl2 : G < w.drew.drew.heap.size := hl2'
  refine rg_start (S := fun w' => w'.cell? ⟨g, 0, none⟩ = some (.slice (some ⟨G, 0, none⟩) n C) ∧ w'.cell? ⟨G, p, none⟩ = some (.slice (some ⟨a.b, 0, none⟩) x a.c) ∧ w'.cell? ⟨G, p + 1, none⟩ = some (.slice (some ⟨b.b, 0, none⟩) y b.c)) (by kernel_rfl) hS ?_
  refine rg_take 0 (some 39) (.pointer (some ⟨g, 0, none⟩)) (by kernel_rfl) (fun _ _ => by kernel_rfl) (fun _ _ _ h => h) hS ?_
  refine rg_take 1 (some 40) (.pointer (some ⟨g, 0, none⟩)) (by kernel_rfl) (fun _ _ => by kernel_rfl) (fun _ _ _ h => h) hS ?_
  refine rg_take 2 (some 41) (.pointer (some ⟨g, 0, none⟩)) (by kernel_rfl) (fun _ _ => by kernel_rfl) (fun _ _ _ h => h) hS ?_
  refine rg_load 3 (some 42) (.slice (some ⟨G, 0, none⟩) n C) 29 41 (g) (0) (by kernel_rfl) (by kernel_rfl) (by kernel_rfl) (fun w' h => ld_oo h.1) (fun _ _ _ h => h) hS ?_
  refine rg_take 4 (some 43) (.int .i64 p) (by kernel_rfl) (fun _ _ => by kernel_rfl) (fun _ _ _ h => h) hS ?_
  refine rg_take 5 (some 44) (.pointer (some ⟨G, p, none⟩)) (by kernel_rfl) (fun _ _ => run_io (x := 42) (y := 43) (k := p) (n := n) (c := C) (by kernel_rfl) (by kernel_rfl) (by kernel_rfl) rfl (by omega)) (fun _ _ _ h => h) hS ?_
  refine rg_load 6 (some 45) (.slice (some ⟨a.b, 0, none⟩) x a.c) 44 44 (G) (p) (by kernel_rfl) (by kernel_rfl) (by kernel_rfl) (fun w' h => ld_op h.2.1) (fun _ _ _ h => h) hS ?_
  refine rg_take 8 (some 47) (.pointer (some ⟨g, 0, none⟩)) (by kernel_rfl) (fun _ _ => by kernel_rfl) (fun _ _ _ h => h) hS ?_
  refine rg_take 9 (some 48) (.pointer (some ⟨g, 0, none⟩)) (by kernel_rfl) (fun _ _ => by kernel_rfl) (fun _ _ _ h => h) hS ?_
  refine rg_take 10 (some 49) (.pointer (some ⟨g, 0, none⟩)) (by kernel_rfl) (fun _ _ => by kernel_rfl) (fun _ _ _ h => h) hS ?_
  refine rg_load 11 (some 50) (.slice (some ⟨G, 0, none⟩) n C) 29 49 (g) (0) (by kernel_rfl) (by kernel_rfl) (by kernel_rfl) (fun w' h => ld_oo h.1) (fun _ _ _ h => h) hS ?_
  refine rg_take 12 (some 51) (.int .i64 p) (by kernel_rfl) (fun _ _ => by kernel_rfl) (fun _ _ _ h => h) hS ?_
  refine rg_eq 13 (some 52) (.int .i64 (IntKind.i64.wrap ((p : Int) + 1))) (.int .i64 ((p : Int) + 1)) (by rw [w1]) (by kernel_rfl) (fun _ _ => by kernel_rfl) (fun _ _ _ h => h) hS ?_
  refine rg_take 14 (some 53) (.pointer (some ⟨G, p + 1, none⟩)) (by kernel_rfl) (fun _ _ => run_io (x := 50) (y := 52) (k := p + 1) (n := n) (c := C) (z := (p : Int) + 1) (by kernel_rfl) (by kernel_rfl) (by kernel_rfl) (by omega) (by omega)) (fun _ _ _ h => h) hS ?_
  refine rg_load 15 (some 54) (.slice (some ⟨b.b, 0, none⟩) y b.c) 44 53 (G) (p + 1) (by kernel_rfl) (by kernel_rfl) (by kernel_rfl) (fun w' h => ld_op h.2.2) (fun _ _ _ h => h) hS ?_
  refine rg_ready [7] (by kernel_rfl) (by simp) (ar_val 7 (some 46) (.slice x5 y5 z5) (w5) (by kernel_rfl) (run_apc (y := 45) (by kernel_rfl) (by kernel_rfl) (by kernel_rfl) hr5) (pcells4 hS hl1 hl2 b5) ?_ ar_nil)
  have hS0 := hS
  replace hS := pcells4 hS hl1 hl2 b5
  refine rg_ready [16] (by kernel_rfl) (by simp) (ar_val 16 (some 55) (.slice (some ⟨bb, 0, none⟩) m7 cc) (w7) (by kernel_rfl) (run_ap (x := 46) (y := 54) (T := 44) (ty := 44) (by kernel_rfl) (by kernel_rfl) (by kernel_rfl) (by kernel_rfl) hr7) (pcells4 hS0 hl1 hl2 b7) ?_ ar_nil)
  replace hS := pcells4 hS0 hl1 hl2 b7
  refine rg_take 17 (some 5) (.slice (some ⟨bb, 0, none⟩) m7 cc) (by kernel_rfl) (fun _ _ => by kernel_rfl) (fun _ _ _ h => h) hS ?_
  refine rg_done (by kernel_rfl) ?_
  simp only [Act.put, List.setIfInBounds_toArray, List.set_cons_zero, List.set_cons_succ]
  have B07 : Below w.heap.size w w7 := joinB bD b7
  have A7 := HA.out.keep B07
  have tP := put_rfm (lc := 0) (p := p + 1) A7 HPb.out (by rw [hnn.out]; exact hn) (Hd.nil w7 D) (by decide)
  rw [show ((p + 1 : Nat) : Int) = (p : Int) + 1 by omega] at tP
  have HN7 : Hid (RpA w7 D ⟨bb, cc, a.es ++ b.es⟩) := ⟨R7, P7.ents⟩
  clear hr5 hr7 P5 S5 S7 R7 P7
  have hbl : bb < w7.heap.size := HN7.out.row.lt
  have HPa2 : Hid ((ens L)[p]? = some a.es) := by show _ = _; rw [ens, List.getElem?_map, HPa.out]; rfl
  have HPb2 : Hid ((ens L)[p + 1]? = some b.es) := by show _ = _; rw [ens, List.getElem?_map, HPb.out]; rfl
  have hlenL : Hid ((ens L).length = n) := by show _ = _; rw [← hnn.out]; simp [ens]
  go_wp2_with (go_at_call 36; go_must (refine tP.mono ?_); rintro e' w8 ⟨rfl, F8, L8, hL8, A8, hF8, hC8⟩; have hl8 : L8.length + 1 = n := (by have h1 := congrArg List.length hL8; simp only [ens, List.length_map, List.length_append, List.length_take, List.length_drop, List.length_nil] at h1; have h2 := hnn.out; omega); obtain ⟨G8, C8, hg8, hFg8, hFG8, hR8⟩ := A8.opn (fun e => by rw [e] at hl8; simp at hl8; omega); obtain ⟨l8, hl8e⟩ : ∃ l8, Hid (L8.length = l8) := ⟨_, rfl⟩; have hp8 : p < l8 := (by have := hl8e.out; omega); have hp80 : (p : Int) < l8 := (by omega); obtain ⟨q8, hq8⟩ : ∃ q8, L8[p]? = some q8 := ⟨L8[p]'(by have := hl8e.out; omega), List.getElem?_eq_getElem _⟩; have d8 := hg8.cell (i := 0) rfl; have d9 : w8.cell? ⟨G8, p, none⟩ = some (.slice (some ⟨q8.b, 0, none⟩) q8.es.length q8.c) := hR8.cell (by rw [List.getElem?_map, hq8]; rfl); have f9 := hR8.free p; rw [hl8e.out] at d8)
  go_ret
  have hnb : bb ∉ L8.map Pg.b := fun hm => by
    obtain ⟨q, h1, h2⟩ := List.mem_map.1 hm
    rcases hF8 q.b (A8.pages q h1).2 with h | h
    · have := HA.out.lt h
      rw [h2] at this
      have h3 : w.heap.size ≤ bb := hl7
      omega
    · omega
  have hN8 : RpA w8 D ⟨bb, cc, a.es ++ b.es⟩ := by
    have hk : ∀ x, F x → ∀ cs, ¬ Blk w7 x cs 5 := fun x hx cs k => by
      obtain ⟨cs', t', h1, h2⟩ := A7.kind x hx
      exact h2 (h1.eq k).2
    refine ⟨HN7.out.row.chg hC8 (fun hf => ?_), fun e he => ⟨(HN7.out.ents e he).k.chg hC8 hk, (HN7.out.ents e he).v.chg hC8 hk⟩⟩
    have := HA.out.lt hf
    have h3 : w.heap.size ≤ bb := hl7
    simp only at this
    omega
  have h9 := A8.laid2 (C := C8) hg8 hFg8 hFG8 hR8 (p := p) (by omega) hN8 hnb
  have hv9 : Pg.v ⟨bb, cc, a.es ++ b.es⟩ = .slice (some ⟨bb, 0, none⟩) m7 cc := by unfold Pg.v; rw [hm7.out]
  rw [hv9] at h9
  refine ⟨rfl, fun x => F8 x ∨ x = bb, L8.set p ⟨bb, cc, a.es ++ b.es⟩, ?_, h9.1, fun x hx => ?_, ?_⟩
  · rw [ens_set, hL8]
    unfold jnQ
    rw [List.getD_eq_getElem?_getD, List.getD_eq_getElem?_getD, HPa2.out, HPb2.out, List.take_add_one, HPa2.out, List.append_nil]
    have hA : ((ens L).take p).length = p := by rw [List.length_take]; have := hlenL.out; omega
    simp only [Option.toList_some, Option.getD_some]
    rw [List.append_assoc, List.set_append_right _ _ (by omega), hA, Nat.sub_self]
    simp
  · rcases hx with h | h
    · rcases hF8 x h with h | h
      · exact .inl h
      · have := B07.size
        exact .inr (by omega)
    · rw [h]; exact .inr hl7
  · refine ((Chg.of (F := F) B07).trans hC8 (fun _ _ h => h)).trans h9.2 (fun x hx hf => ?_)
    rcases hF8 x hf with h | h
    · exact h
    · have := B07.size
      omega
end Pg
end Go.Proofs.Ytjnjkgakdnjlmaa

namespace Go.Proofs.Ytjnjkgakdnjlmaa
namespace Pg
open Go.RowKit Go.Lib
attribute [local go_sem] Oper.semAt_some
theorem run_slh {a : Act} {w : World} {op : Oper} {x y n c b i : Nat} (ho : op.op = .slice 44 (.tmp x) none (some (.tmp y)) none) (hx : a.eval (.tmp x) = .slice (some ⟨b, 0, none⟩) n c) (hy : a.eval (.tmp y) = .int .i64 i) (hc : i ≤ c) : (execOp a.eval op).run Try.prog w = .ok (.value (.slice (some ⟨b, 0, none⟩) i c)) w := by
  have h1 : ¬ ((c : Int) < i) := by omega
  have h2 : (i : Int) ≤ c := by omega
  have h3 : ¬ ((i : Int) < 0) := by omega
  have hy' : a.tmps[y]?.getD undef = .int .i64 i := by simpa [Act.eval] using hy
  obtain ⟨i0, hi, hz0, hs0, hb0⟩ := info_parts (P := Try.prog) KQ.inf
  simp only [execOp, ho, hx]
  go_simp
theorem run_sll {a : Act} {w : World} {op : Oper} {x y n c b i : Nat} {z : Int} (ho : op.op = .slice 44 (.tmp x) (some (.tmp y)) none none) (hx : a.eval (.tmp x) = .slice (some ⟨b, 0, none⟩) n c) (hy : a.eval (.tmp y) = .int .i64 z) (hz : z = (i : Int)) (hn : i ≤ n) (hnc : n ≤ c) : (execOp a.eval op).run Try.prog w = .ok (.value (.slice (some ⟨b, if c = i then 0 else i * 2, none⟩) (n - i) (c - i))) w := by
  subst hz
  have h1 : ¬ ((n : Int) < i) := by omega
  have h2 : (i : Int) ≤ n := by omega
  have h3 : ¬ ((i : Int) < 0) := by omega
  have h4 : (n : Int) ≤ c := by omega
  have h8 : (i : Int) ≤ c := by omega
  have hy' : a.tmps[y]?.getD undef = .int .i64 i := by simpa [Act.eval] using hy
  obtain ⟨i0, hi, hz0, hs0, hb0⟩ := info_parts (P := Try.prog) KQ.inf
  by_cases hC : c = i
  · subst hC
    obtain rfl : n = c := by omega
    simp only [execOp, ho, hx, if_true]
    go_simp
  · have h5 : ¬ (c - i = 0) := by omega
    have h6 : ¬ ((c : Int) = i) := by omega
    have h7 : ¬ (c ≤ i) := by omega
    simp only [execOp, ho, hx, if_neg hC]
    go_simp
/-- a page without its entry at i, built by two appends -/
theorem page_cut {W : World} {D : Nat → Prop} {p0 : Pg} {i : Nat} (RP : RpA W D p0) (hi : i < p0.es.length) (hl : p0.es.length ≤ 1000) :
    ∃ v5 w5 v7 w7, (Builtin.append_ #[44, 44] 44 #[.slice none 0 0, .slice (some ⟨p0.b, 0, none⟩) i p0.c]).run Try.prog W = .ok v5 w5 ∧
      (Builtin.append_ #[44, 44] 44 #[v5, .slice (some ⟨p0.b, if p0.c = i + 1 then 0 else (i + 1) * 2, none⟩) (p0.es.length - (i + 1)) (p0.c - (i + 1))]).run Try.prog w5 = .ok v7 w7 ∧
      Pq w7 W.heap.size D v7 (p0.es.take i ++ p0.es.drop (i + 1)) ∧ Below W.heap.size W w5 ∧ Below W.heap.size W w7 ∧ (∃ a n c, v5 = .slice a n c) := by
  obtain ⟨v5, w5, hr5, P5, S5⟩ := app_pairs0 (w := W) (es2 := p0.es.take i) (a := ⟨p0.b, 0, none⟩) (cc := p0.c) (Pq.nil W W.heap.size D) (Nat.le_refl _) (fun x hx => RP.ents x (List.mem_of_mem_take hx)) (by simp; omega) (fun j u hj => RP.cells j u (flat_take_at hj))
  rw [List.length_take, Nat.min_eq_left (by omega)] at hr5
  have b5 := S5.below (Nat.le_refl _)
  rw [List.nil_append] at P5
  have RP5 := RP.keep b5
  have hcl := RP.row.le
  obtain ⟨v7, w7, hr7, P7, S7⟩ := app_pairs0 (es2 := p0.es.drop (i + 1)) (a := ⟨p0.b, if p0.c = i + 1 then 0 else (i + 1) * 2, none⟩) (cc := p0.c - (i + 1)) P5 b5.size (fun x hx => RP5.ents x (List.mem_of_mem_drop hx)) (by simp; omega) (fun j u hj => by
    by_cases hC : p0.c = i + 1
    · have : p0.es.drop (i + 1) = [] := List.drop_eq_nil_of_le (by omega)
      rw [this] at hj
      simp [flat] at hj
    · rw [if_neg hC, adr0]
      exact RP5.row.cell (flat_drop_at hj))
  rw [List.length_drop] at hr7
  exact ⟨v5, w5, v7, w7, hr5, hr7, P7, b5, b5.trans (S7.below b5.size), P5.sh⟩
end Pg
end Go.Proofs.Ytjnjkgakdnjlmaa

namespace Go.Proofs.Ytjnjkgakdnjlmaa
namespace Pg
open Go.RowKit Go.Lib
attribute [local go_sem] Oper.semAt_some
theorem put_hole {w : World} {F D : Nat → Prop} {g G C p m lc : Nat} {L : List Pg} {p0 : Pg} {pv0 : Value} {lo : Option Addr} {xs : List (List En)} (hp : L[p]? = some p0) (hg : Blk w g [.slice (some ⟨G, 0, none⟩) L.length C] 31) (hFg : F g) (hR' : Rw w 44 1 G L.length C ((L.take p).map Pg.v ++ [pv0] ++ (L.drop (p + 1)).map Pg.v)) (hpg : ∀ q ∈ L.take p ++ L.drop (p + 1), RpA w D q ∧ F q.b) (hap : (L.map Pg.b).Nodup) (hkd : ∀ b, F b → ∃ cs t, Blk w b cs t ∧ t ≠ 5) (hn : L.length ≤ 100000000) (hX : Hd w D lo m xs) (hm : m ≤ 1000) :
    Calls Try.prog 36 #[.pointer (some ⟨g, 0, none⟩), .int .i64 p, .slice lo m lc] w fun e w' => e = .returned (.tuple #[]) ∧ ∃ F' L', ens L' = (ens L).take p ++ xs ++ (ens L).drop (p + 1) ∧ RfM w' F' D g L' ∧ (∀ b, F' b → F b ∨ w.heap.size ≤ b) ∧ Chg F w w' := by
  have hpl := (List.getElem?_eq_some_iff.1 hp).1
  have hsp := split_at hp
  refine (put_any (lc := lc) hg hR' (by rw [List.length_take]; omega) hn hX hm).mono fun e w' ⟨he, v, X', kg, hXe, hRo, hXp, hXn, hc⟩ => ⟨he, fun b => F b ∨ (w.heap.size ≤ b ∧ ∃ cs t, Blk w' b cs t ∧ t ≠ 5), L.take p ++ X' ++ L.drop (p + 1), ?_, ⟨⟨v, kg, .inl hFg, ?_⟩, fun q hq => ?_, ?_, fun b hb => ?_⟩, fun b hb => hb.imp id (fun h => h.1), hc.mono (fun b _ e => by have e' : b = g := e; rw [e']; exact hFg)⟩
  · rw [← hXe]
    simp [ens, List.map_take, List.map_drop]
  · rcases hRo.ex with ⟨e1, e2⟩ | ⟨G', C', e1, hl, hRR⟩
    · exact .inl ⟨e1, e2⟩
    · obtain ⟨cs, k⟩ := hRR.kind
      exact .inr ⟨G', C', e1, .inr ⟨hl, cs, _, k, by decide⟩, hRR⟩
  · rcases List.mem_append.1 hq with hq | hq
    · rcases List.mem_append.1 hq with hq | hq
      · obtain ⟨h1, h2⟩ := hpg q (List.mem_append_left _ hq)
        exact ⟨h1.chgg hg hc, .inl h2⟩
      · obtain ⟨h1, h2⟩ := hXp q hq
        obtain ⟨cs, k⟩ := h1.row.kind
        exact ⟨h1, .inr ⟨h2, cs, _, k, by decide⟩⟩
    · obtain ⟨h1, h2⟩ := hpg q (List.mem_append_right _ hq)
      exact ⟨h1.chgg hg hc, .inl h2⟩
  · have h0 := hap
    rw [hsp, List.map_append, List.map_append, List.nodup_append, List.nodup_append] at h0
    obtain ⟨⟨h1, _, _⟩, h3, h4⟩ := h0
    have hold : ∀ x ∈ L.take p ++ L.drop (p + 1), x.b < w.heap.size := fun x hx => (hpg x hx).1.row.lt
    rw [List.map_append, List.map_append, List.nodup_append, List.nodup_append]
    refine ⟨⟨h1, hXn, fun x hx y hy => ?_⟩, h3, fun x hx y hy => ?_⟩
    · obtain ⟨q, hq, rfl⟩ := List.mem_map.1 hx
      obtain ⟨r, hr, rfl⟩ := List.mem_map.1 hy
      have := hold q (List.mem_append_left _ hq)
      have := (hXp r hr).2
      omega
    · rcases List.mem_append.1 hx with hx | hx
      · exact h4 x (List.mem_append_left _ hx) y hy
      · obtain ⟨q, hq, rfl⟩ := List.mem_map.1 hx
        obtain ⟨r, hr, rfl⟩ := List.mem_map.1 hy
        have := (hXp q hq).2
        have := hold r (List.mem_append_right _ hr)
        omega
  · rcases hb with hb | ⟨_, h⟩
    · by_cases e : b = g
      · subst e; exact ⟨_, _, kg, by decide⟩
      · obtain ⟨cs, t, hk, ht⟩ := hkd b hb
        exact ⟨cs, t, hk.chg hc e, ht⟩
    · exact h
theorem jnb_iff {L : List Pg} {p : Nat} : jnb (ens L) p = true ↔ ∃ a b, L[p]? = some a ∧ L[p + 1]? = some b ∧ a.es.length + b.es.length ≤ 16 := by
  unfold jnb
  rw [Bool.and_eq_true, decide_eq_true_eq, decide_eq_true_eq]
  constructor
  · rintro ⟨h1, h2⟩
    simp only [ens, List.length_map] at h1
    have ea : L[p]? = some (L[p]'(by omega)) := List.getElem?_eq_getElem _
    have eb : L[p + 1]? = some (L[p + 1]'h1) := List.getElem?_eq_getElem _
    rw [ens_getD ea, ens_getD eb] at h2
    exact ⟨_, _, ea, eb, h2⟩
  · rintro ⟨a, b, ea, eb, h⟩
    rw [ens_getD ea, ens_getD eb]
    refine ⟨?_, h⟩
    simp only [ens, List.length_map]
    exact (List.getElem?_eq_some_iff.1 eb).1
theorem rjoin {w : World} {F D : Nat → Prop} {g p : Nat} {L : List Pg} (A : RfM w F D g L) (hn : L.length ≤ 100000000) (hp : p ≤ 100000000) (hs : ∀ es ∈ ens L, es ≠ [] ∧ es.length ≤ 32) :
    Calls Try.prog 38 #[.pointer (some ⟨g, 0, none⟩), .int .i64 p] w fun e w' => e = .returned (.bool (jnb (ens L) p)) ∧ ∃ F' L', ens L' = (if jnb (ens L) p then jnQ (ens L) p else ens L) ∧ RfM w' F' D g L' ∧ (∀ b, F' b → F b ∨ w.heap.size ≤ b) ∧ Chg F w w' := by
  have hmem : ∀ {i : Nat} {a : Pg}, L[i]? = some a → a.es ≠ [] ∧ a.es.length ≤ 32 := fun {i a} h => hs a.es (List.mem_map.2 ⟨a, List.mem_of_getElem? h, rfl⟩)
  cases hj : jnb (ens L) p
  · have no : ∀ {Q : Ending → World → Prop}, Calls Try.prog 38 #[.pointer (some ⟨g, 0, none⟩), .int .i64 p] w Q → (∀ e w', Q e w' → e = .returned (.bool false) ∧ Below w.heap.size w w') → Calls Try.prog 38 #[.pointer (some ⟨g, 0, none⟩), .int .i64 p] w fun e w' => e = .returned (.bool false) ∧ ∃ F' L', ens L' = (if false = true then jnQ (ens L) p else ens L) ∧ RfM w' F' D g L' ∧ (∀ b, F' b → F b ∨ w.heap.size ≤ b) ∧ Chg F w w' := fun hc hq => hc.mono fun e w' h => by
      obtain ⟨h1, h2⟩ := hq e w' h
      exact ⟨h1, F, L, rfl, A.keep h2, fun b hb => .inl hb, Chg.of h2⟩
    by_cases hl : p + 1 < L.length
    · have ea : L[p]? = some (L[p]'(by omega)) := List.getElem?_eq_getElem _
      have eb : L[p + 1]? = some (L[p + 1]'hl) := List.getElem?_eq_getElem _
      refine no (rjoin_no A ea eb hn ⟨(hmem ea).2, (hmem eb).2, ?_⟩) (fun _ _ h => h)
      rcases Nat.lt_or_ge 16 ((L[p]'(by omega)).es.length + (L[p + 1]'hl).es.length) with h | h
      · exact h
      · rw [jnb_iff.2 ⟨_, _, ea, eb, h⟩] at hj
        cases hj
    · exact no (rjoin_end A (by omega) hp) (fun _ _ h => h)
  · obtain ⟨a, b, ea, eb, h⟩ := jnb_iff.1 hj
    exact rjoin_yes A ea eb hn ⟨by omega, by omega, h⟩ (hmem ea).1 (hmem eb).1
end Pg
end Go.Proofs.Ytjnjkgakdnjlmaa

namespace Go.Proofs.Ytjnjkgakdnjlmaa
namespace Pg
open Go.RowKit Go.Lib
attribute [local go_sem] Oper.semAt_some
theorem pcells5 {w w' : World} {g G i j : Nat} {x y : Value} (h : w.cell? ⟨g, i, none⟩ = some x ∧ w.cell? ⟨G, j, none⟩ = some y) (h1 : g < w.heap.size) (h2 : G < w.heap.size) (hb : Below w.heap.size w w') : w'.cell? ⟨g, i, none⟩ = some x ∧ w'.cell? ⟨G, j, none⟩ = some y :=
  ⟨(hb.cell (p := ⟨g, i, none⟩) h1).trans h.1, (hb.cell (p := ⟨G, j, none⟩) h2).trans h.2⟩
set_option maxHeartbeats 4000000 in
set_option maxRecDepth 100000 in
theorem rdel_no {w : World} {F D : Nat → Prop} {g : Nat} {L : List Pg} {p0 : Pg} {ka : Option Addr} {kc : Nat} {k : List Int} (A : RfM w F D g L) (O : Ord (ens L)) (hk : By w (.slice ka k.length kc) k) (hkl : k.length ≤ 1000000000) (hn : L.length ≤ 100000000) (hs : ∀ es ∈ ens L, es.length ≤ 32) (hb : ∀ es ∈ ens L, ∀ e ∈ es, e.kl.length ≤ 1000000000) (hp : L[pgi (ens L) k]? = some p0) (ht : thr (kys p0.es) k = false) :
    Calls Try.prog 15 #[.pointer (some ⟨g, 0, none⟩), .slice ka k.length kc] w fun e w' => e = .returned (.bool false) ∧ Below w.heap.size w w' := by
  have t1 := rfind A O hk hkl hn hs hb hp
  rw [ht] at t1
  clear A O hk hs hb hp ht
  go_enter Try.func15, Try.ntmps15
  go_wp2_with (go_at_call 35; refine t1.mono ?_; rintro e w1 ⟨rfl, B1⟩)
  go_ret
  exact ⟨rfl, B1⟩
set_option maxHeartbeats 4000000 in
set_option maxRecDepth 100000 in
theorem rdel_none {w : World} {F D : Nat → Prop} {g : Nat} {ka : Option Addr} {kn kc : Nat} (A : RfM w F D g []) :
    Calls Try.prog 15 #[.pointer (some ⟨g, 0, none⟩), .slice ka kn kc] w fun e w' => e = .returned (.bool false) ∧ Below w.heap.size w w' := by
  have t1 := rfind0 (ka := ka) (kn := kn) (kc := kc) A
  go_enter Try.func15, Try.ntmps15
  go_wp2_with (go_at_call 35; refine t1.mono ?_; rintro e w1 ⟨rfl, B1⟩)
  go_ret
  exact ⟨rfl, B1⟩
set_option maxHeartbeats 8000000 in
set_option maxRecDepth 100000 in
theorem rdel_left {w : World} {F D : Nat → Prop} {g : Nat} {L : List Pg} {p0 : Pg} {ka : Option Addr} {kc : Nat} {k : List Int} (A : RfM w F D g L) (O : Ord (ens L)) (hk : By w (.slice ka k.length kc) k) (hkl : k.length ≤ 1000000000) (hn : L.length ≤ 100000000) (hs : ∀ es ∈ ens L, es.length ≤ 32) (hb : ∀ es ∈ ens L, ∀ e ∈ es, e.kl.length ≤ 1000000000) (hp : L[pgi (ens L) k]? = some p0) (ht : thr (kys p0.es) k = true) (hleft : p0.es.take (plc (kys p0.es) k) ++ p0.es.drop (plc (kys p0.es) k + 1) ≠ []) :
    Calls Try.prog 15 #[.pointer (some ⟨g, 0, none⟩), .slice ka k.length kc] w fun e w' => e = .returned (.bool true) ∧ ∃ F' L', ens L' = rmQ (ens L) (pgi (ens L) k) (plc (kys p0.es) k) ∧ RfM w' F' D g L' ∧ (∀ b, F' b → F b ∨ w.heap.size ≤ b) ∧ Chg F w w' := by
  have t1 := rfind A O hk hkl hn hs hb hp
  rw [ht] at t1
  have hpm := List.mem_of_getElem? hp
  obtain ⟨e0, he0, hek0⟩ := thr_get ht
  have hq0 := (List.getElem?_eq_some_iff.1 he0).1
  have hpl := (List.getElem?_eq_some_iff.1 hp).1
  obtain ⟨i, hi⟩ : ∃ i, Hid (plc (kys p0.es) k = i) := ⟨_, rfl⟩
  obtain ⟨p, hpp⟩ : ∃ p, Hid (pgi (ens L) k = p) := ⟨_, rfl⟩
  rw [hi.out] at hq0
  rw [hpp.out] at hpl hp
  rw [hi.out, hpp.out] at t1 ⊢
  have hL : L ≠ [] := fun e => by subst e; simp at hp
  obtain ⟨G, C, hg, hFg, hFG, hR⟩ := A.opn hL
  have HGB : Hid _ := hg
  have HR : Hid _ := hR
  have HA : Hid _ := A
  have HPI : Hid (L[p]? = some p0) := hp
  have hcG : w.cell? ⟨G, p, none⟩ = some (.slice (some ⟨p0.b, 0, none⟩) p0.es.length p0.c) := hR.cell (by rw [List.getElem?_map, hp]; rfl)
  have hRP := (A.pages p0 hpm).1
  have HRP : Hid _ := hRP
  have HEN : Hid ((ens L)[p]? = some p0.es) := by show _ = _; rw [ens, List.getElem?_map, hp]; rfl
  have hm32 := hs p0.es (List.mem_map.2 ⟨p0, hpm, rfl⟩)
  have hgl := hg.lt
  have hGl := hR.lt
  have hcl := hRP.row.le
  have hc0 := hg.cell (i := 0) rfl
  obtain ⟨n, hnn⟩ : ∃ n, Hid (L.length = n) := ⟨_, rfl⟩
  rw [hnn.out] at hpl hn hc0
  obtain ⟨m, hm⟩ : ∃ m, Hid (p0.es.length = m) := ⟨_, rfl⟩
  rw [hm.out] at hq0 hcl hcG hm32
  have HC : Hid _ := hc0
  have HCG : Hid _ := hcG
  obtain ⟨kn, hkn⟩ : ∃ kn, Hid (k.length = kn) := ⟨_, rfl⟩
  rw [hkn.out] at t1 ⊢
  have HOS : Hid (∀ es ∈ ens L, es ≠ [] ∧ es.length ≤ 32) := fun es he => ⟨O.full es he, hs es he⟩
  clear hk A O hs hb hg hR hRP hp hpm he0 hek0 hc0 hcG
  go_enter Try.func15, Try.ntmps15
  go_wp2_with (go_at_call 35; refine t1.mono ?_; rintro e w1 ⟨rfl, B1⟩)
  have B1D := joinB B1 (belowD w1)
  have RP := HRP.out.keep B1D
  obtain ⟨v5, w5, v7, w7, hr5, hr7, P7, b5, b7, ⟨x5, y5, z5, rfl⟩⟩ := page_cut (i := i) RP (by rw [hm.out]; exact hq0) (by rw [hm.out]; omega)
  rw [hm.out] at hr7
  obtain ⟨x7, y7, z7, hv7⟩ := P7.sh
  subst hv7
  have hS : (fun w' => w'.cell? ⟨g, 0, none⟩ = some (.slice (some ⟨G, 0, none⟩) n C) ∧ w'.cell? ⟨G, p, none⟩ = some (.slice (some ⟨p0.b, 0, none⟩) m p0.c)) w1.drew := ⟨(B1D.cell (p := ⟨g, 0, none⟩) hgl).trans HC.out, (B1D.cell (p := ⟨G, p, none⟩) hGl).trans HCG.out⟩
  have hl1 : g < w1.drew.heap.size := Nat.lt_of_lt_of_le hgl B1.size
  have hl2 : G < w1.drew.heap.size := Nat.lt_of_lt_of_le hGl B1.size
  have w9 : IntKind.i64.wrap ((i : Int) + 1) = (i : Int) + 1 := by rw [IntKind.wrap_i64]; omega
  refine rg_start (S := fun w' => w'.cell? ⟨g, 0, none⟩ = some (.slice (some ⟨G, 0, none⟩) n C) ∧ w'.cell? ⟨G, p, none⟩ = some (.slice (some ⟨p0.b, 0, none⟩) m p0.c)) (by kernel_rfl) hS ?_
  refine rg_take 0 (some 18) (.pointer (some ⟨g, 0, none⟩)) (by kernel_rfl) (fun _ _ => by kernel_rfl) (fun _ _ _ h => h) hS ?_
  refine rg_take 1 (some 19) (.pointer (some ⟨g, 0, none⟩)) (by kernel_rfl) (fun _ _ => by kernel_rfl) (fun _ _ _ h => h) hS ?_
  refine rg_take 2 (some 20) (.pointer (some ⟨g, 0, none⟩)) (by kernel_rfl) (fun _ _ => by kernel_rfl) (fun _ _ _ h => h) hS ?_
  refine rg_load 3 (some 21) (.slice (some ⟨G, 0, none⟩) n C) 29 20 (g) (0) (by kernel_rfl) (by kernel_rfl) (by kernel_rfl) (fun w' h => ld_oo h.1) (fun _ _ _ h => h) hS ?_
  refine rg_take 4 (some 22) (.int .i64 p) (by kernel_rfl) (fun _ _ => by kernel_rfl) (fun _ _ _ h => h) hS ?_
  refine rg_take 5 (some 23) (.pointer (some ⟨G, p, none⟩)) (by kernel_rfl) (fun _ _ => run_io (x := 21) (y := 22) (k := p) (n := n) (c := C) (by kernel_rfl) (by kernel_rfl) (by kernel_rfl) rfl hpl) (fun _ _ _ h => h) hS ?_
  refine rg_load 6 (some 24) (.slice (some ⟨p0.b, 0, none⟩) m p0.c) 44 23 (G) (p) (by kernel_rfl) (by kernel_rfl) (by kernel_rfl) (fun w' h => ld_op h.2) (fun _ _ _ h => h) hS ?_
  refine rg_take 7 (some 25) (.int .i64 i) (by kernel_rfl) (fun _ _ => by kernel_rfl) (fun _ _ _ h => h) hS ?_
  refine rg_take 8 (some 26) (.slice (some ⟨p0.b, 0, none⟩) i p0.c) (by kernel_rfl) (fun _ _ => run_slh (x := 24) (y := 25) (n := m) (by kernel_rfl) (by kernel_rfl) (by kernel_rfl) (by omega)) (fun _ _ _ h => h) hS ?_
  refine rg_take 10 (some 28) (.pointer (some ⟨g, 0, none⟩)) (by kernel_rfl) (fun _ _ => by kernel_rfl) (fun _ _ _ h => h) hS ?_
  refine rg_take 11 (some 29) (.pointer (some ⟨g, 0, none⟩)) (by kernel_rfl) (fun _ _ => by kernel_rfl) (fun _ _ _ h => h) hS ?_
  refine rg_take 12 (some 30) (.pointer (some ⟨g, 0, none⟩)) (by kernel_rfl) (fun _ _ => by kernel_rfl) (fun _ _ _ h => h) hS ?_
  refine rg_load 13 (some 31) (.slice (some ⟨G, 0, none⟩) n C) 29 30 (g) (0) (by kernel_rfl) (by kernel_rfl) (by kernel_rfl) (fun w' h => ld_oo h.1) (fun _ _ _ h => h) hS ?_
  refine rg_take 14 (some 32) (.int .i64 p) (by kernel_rfl) (fun _ _ => by kernel_rfl) (fun _ _ _ h => h) hS ?_
  refine rg_take 15 (some 33) (.pointer (some ⟨G, p, none⟩)) (by kernel_rfl) (fun _ _ => run_io (x := 31) (y := 32) (k := p) (n := n) (c := C) (by kernel_rfl) (by kernel_rfl) (by kernel_rfl) rfl hpl) (fun _ _ _ h => h) hS ?_
  refine rg_load 16 (some 34) (.slice (some ⟨p0.b, 0, none⟩) m p0.c) 44 33 (G) (p) (by kernel_rfl) (by kernel_rfl) (by kernel_rfl) (fun w' h => ld_op h.2) (fun _ _ _ h => h) hS ?_
  refine rg_take 17 (some 35) (.int .i64 i) (by kernel_rfl) (fun _ _ => by kernel_rfl) (fun _ _ _ h => h) hS ?_
  refine rg_eq 18 (some 36) (.int .i64 (IntKind.i64.wrap ((i : Int) + 1))) (.int .i64 ((i : Int) + 1)) (by rw [w9]) (by kernel_rfl) (fun _ _ => by kernel_rfl) (fun _ _ _ h => h) hS ?_
  refine rg_take 19 (some 37) (.slice (some ⟨p0.b, if p0.c = i + 1 then 0 else (i + 1) * 2, none⟩) (m - (i + 1)) (p0.c - (i + 1))) (by kernel_rfl) (fun _ _ => run_sll (x := 34) (y := 36) (n := m) (i := i + 1) (z := (i : Int) + 1) (by kernel_rfl) (by kernel_rfl) (by kernel_rfl) (by omega) (by omega) (by omega)) (fun _ _ _ h => h) hS ?_
  refine rg_ready [9] (by kernel_rfl) (by simp) (ar_val 9 (some 27) (.slice x5 y5 z5) (w5) (by kernel_rfl) (run_apc (y := 26) (by kernel_rfl) (by kernel_rfl) (by kernel_rfl) hr5) (pcells5 hS hl1 hl2 b5) ?_ ar_nil)
  have hS0 := hS
  replace hS := pcells5 hS hl1 hl2 b5
  refine rg_ready [20] (by kernel_rfl) (by simp) (ar_val 20 (some 38) (.slice x7 y7 z7) (w7) (by kernel_rfl) (run_ap (x := 27) (y := 37) (T := 44) (ty := 44) (by kernel_rfl) (by kernel_rfl) (by kernel_rfl) (by kernel_rfl) hr7) (pcells5 hS0 hl1 hl2 b7) ?_ ar_nil)
  replace hS := pcells5 hS0 hl1 hl2 b7
  refine rg_take 21 (some 8) (.slice x7 y7 z7) (by kernel_rfl) (fun _ _ => by kernel_rfl) (fun _ _ _ h => h) hS ?_
  refine rg_done (by kernel_rfl) ?_
  simp only [Act.put, List.setIfInBounds_toArray, List.set_cons_zero, List.set_cons_succ]
  clear hr7
  generalize (if p0.c = i + 1 then 0 else (i + 1) * 2) = oo
  have B07 : Below w.heap.size w w7 := joinB B1D b7
  have g7 := HGB.out.keep B07
  have R7G := HR.out.keep B07
  have d7 : w7.cell? ⟨g, 0, none⟩ = some (.slice (some ⟨G, 0, none⟩) n C) := hS.1
  have d8 := hS.2
  have f8 := R7G.free p
  have hpl0 : (p : Int) < n := by omega
  have hp7 : p < (L.map Pg.v).length := by rw [List.length_map, hnn.out]; exact hpl
  rw [hi.out] at hleft
  obtain ⟨es7, hes7⟩ : ∃ es7, Hid (p0.es.take i ++ p0.es.drop (i + 1) = es7) := ⟨_, rfl⟩
  rw [hes7.out] at P7 hleft
  obtain ⟨bb, cc, e7, hl7, R7⟩ := P7.ex.resolve_left (fun h => hleft h.2)
  have hl7' : w1.heap.size ≤ bb := hl7
  injection e7 with e71 e72 e73
  subst e71 e73
  have hm7 : Hid (es7.length = y7) := e72.symm
  clear e72
  have hm70 : 0 < y7 := by rw [← hm7.out]; exact List.length_pos_iff.2 hleft
  have hm71 : y7 ≤ 32 := by
    rw [← hm7.out, ← hes7.out, List.length_append, List.length_take, List.length_drop, hm.out]
    omega
  have hm72 : ¬ ((y7 : Int) = 0) := by omega
  have A7 := HA.out.keep B07
  have hnb : bb ∉ L.map Pg.b := fun hmm => by
    obtain ⟨q, h1, h2⟩ := List.mem_map.1 hmm
    have := (HA.out.pages q h1).1.row.lt
    have := B1.size
    omega
  have h8 := A7.laid2 (C := C) g7 hFg hFG R7G (p := p) (by rw [hnn.out]; exact hpl) (b7 := bb) (c7 := z7) (es := es7) ⟨R7, P7.ents⟩ hnb
  have hv8 : Pg.v ⟨bb, z7, es7⟩ = .slice (some ⟨bb, 0, none⟩) y7 z7 := by unfold Pg.v; rw [hm7.out]
  rw [hv8] at h8
  obtain ⟨L8, hL8⟩ : ∃ L8, Hid (L.set p ⟨bb, z7, es7⟩ = L8) := ⟨_, rfl⟩
  rw [hL8.out] at h8
  have hE8 : Hid (ens L8 = (ens L).set p es7) := by show _ = _; rw [← hL8.out, ens_set]
  have hn8 : L8.length ≤ 100000000 := by rw [← hL8.out, List.length_set, hnn.out]; exact hn
  have hs8 : ∀ es ∈ ens L8, es ≠ [] ∧ es.length ≤ 32 := fun es he => by
    rw [hE8.out] at he
    rcases List.mem_or_eq_of_mem_set he with h | rfl
    · exact HOS.out es h
    · exact ⟨hleft, by rw [hm7.out]; exact hm71⟩
  have tJ := rjoin (p := p) h8.1 hn8 (by omega) hs8
  have HC78 : Hid _ := h8.2
  have hFF : ∀ x, (F x ∨ x = bb) → F x ∨ w.heap.size ≤ x := fun x hx => hx.imp id (fun e => by have := B1.size; omega)
  have hFb : ∀ x, x < w.heap.size → (F x ∨ x = bb) → F x := fun x hx h => h.elim id (fun e => by have := B1.size; omega)
  have hgd : (ens L).getD p [] = p0.es := by rw [List.getD_eq_getElem?_getD, HEN.out]; rfl
  have hrm : Hid (rmQ (ens L) p i = if jnb (ens L8) p then jnQ (ens L8) p else if 1 ≤ p ∧ jnb (ens L8) (p - 1) then jnQ (ens L8) (p - 1) else ens L8) := by
    show _ = _
    unfold rmQ
    simp only [hgd, hes7.out]
    rw [if_neg hleft, hE8.out]
  have HB07 : Hid _ := B07
  clear hr5 P7 R7 hl7 hnb hgd h8 R7G A7
  cases hj : jnb (ens L8) p
  · rw [hj] at tJ
    simp only [Bool.false_eq_true, if_false] at tJ
    cases p with
    | zero =>
      go_wp2_with first
        | (go_at_call 38; refine tJ.mono ?_; rintro e' w9 ⟨rfl, F9, L9, hL9, A9, hF9, hC9⟩; clear tJ)
        | (go_at_call 38; refine rjoin_neg.mono ?_; rintro e' w10 ⟨rfl, B10⟩)
      go_ret
      refine ⟨rfl, F9, L9, ?_, A9.keep B10, fun x hx => ?_, ?_⟩
      · rw [hrm.out, hj, hL9]; simp
      · rcases hF9 x hx with h | h
        · exact hFF x h
        · exact .inr (by have h1 := HC78.out.size; have h2 := HB07.out.size; omega)
      · exact (((Chg.of (F := F) HB07.out).trans HC78.out (fun _ _ h => h)).trans hC9 hFb).trans (Chg.of (F := fun _ => False) B10) (fun _ _ h => h.elim)
    | succ p' =>
      have w10' : IntKind.i64.wrap (((p' + 1 : Nat) : Int) - 1) = (p' : Int) := by rw [IntKind.wrap_i64]; omega
      go_wp2_with first
        | (go_at_call 38; have gate := tJ; clear gate; refine tJ.mono ?_; rintro e' w9 ⟨rfl, F9, L9, hL9, A9, hF9, hC9⟩; clear tJ; have tK := rjoin (p := p') A9 (by have h1 := congrArg List.length hL9; simp only [ens, List.length_map] at h1; omega) (by omega) (by rw [hL9]; exact hs8))
        | (go_at_call 38; go_must (refine tK.mono ?_); rintro e' w10 ⟨rfl, F10, L10, hL10, A10, hF10, hC10⟩)
      go_ret
      refine ⟨rfl, F10, L10, ?_, A10, fun x hx => ?_, ?_⟩
      · rw [hrm.out, hj, hL10, hL9]
        simp
      · have h1 := HC78.out.size
        have h2 := HB07.out.size
        have h3 := hC9.size
        rcases hF10 x hx with h | h
        · rcases hF9 x h with h | h
          · exact hFF x h
          · exact .inr (by omega)
        · exact .inr (by omega)
      · refine (((Chg.of (F := F) HB07.out).trans HC78.out (fun _ _ h => h)).trans hC9 hFb).trans hC10 (fun x hx hf => ?_)
        rcases hF9 x hf with h | h
        · exact hFb x hx h
        · have h1 := HC78.out.size
          have h2 := HB07.out.size
          omega
  · rw [hj] at tJ
    simp only [if_true] at tJ
    go_wp2_with (go_at_call 38; refine tJ.mono ?_; rintro e' w9 ⟨rfl, F9, L9, hL9, A9, hF9, hC9⟩)
    go_ret
    refine ⟨rfl, F9, L9, ?_, A9, fun x hx => ?_, ?_⟩
    · rw [hrm.out, hj, hL9]; simp
    · rcases hF9 x hx with h | h
      · exact hFF x h
      · exact .inr (by have h1 := HC78.out.size; have h2 := HB07.out.size; omega)
    · exact ((Chg.of (F := F) HB07.out).trans HC78.out (fun _ _ h => h)).trans hC9 hFb
theorem RpA.cellG {w : World} {D : Nat → Prop} {q : Pg} (h : RpA w D q) {G p : Nat} {cs : List Value} (kG : Blk w G cs 44) (u : Value) : RpA (w.setCell ⟨G, p, none⟩ u) D q := by
  have hr : ∀ {E : TypeId} {k b n c : Nat} {xs : List Value}, Rw w E k b n c xs → E ≠ 44 → Rw (w.setCell ⟨G, p, none⟩ u) E k b n c xs := fun {E k b n c xs} h hE => by
    obtain ⟨cs, kk⟩ := h.kind
    exact h.same (Below.heap_setCell w _ _ b (show b ≠ G from blk_ne kk kG hE))
  have ho : ∀ {v : Value} {l : List Int}, OB w D v l → OB (w.setCell ⟨G, p, none⟩ u) D v l := fun h => ⟨h.oct, h.ex.imp id (fun ⟨b, c, e, hd, hRR⟩ => ⟨b, c, e, hd, hr hRR (by decide)⟩)⟩
  exact ⟨hr h.row (by decide), fun e he => ⟨ho (h.ents e he).k, ho (h.ents e he).v⟩⟩
set_option maxHeartbeats 8000000 in
set_option maxRecDepth 100000 in
theorem rdel_gone {w : World} {F D : Nat → Prop} {g : Nat} {L : List Pg} {p0 : Pg} {ka : Option Addr} {kc : Nat} {k : List Int} (A : RfM w F D g L) (O : Ord (ens L)) (hk : By w (.slice ka k.length kc) k) (hkl : k.length ≤ 1000000000) (hn : L.length ≤ 100000000) (hs : ∀ es ∈ ens L, es.length ≤ 32) (hb : ∀ es ∈ ens L, ∀ e ∈ es, e.kl.length ≤ 1000000000) (hp : L[pgi (ens L) k]? = some p0) (ht : thr (kys p0.es) k = true) (hgone : p0.es.take (plc (kys p0.es) k) ++ p0.es.drop (plc (kys p0.es) k + 1) = []) :
    Calls Try.prog 15 #[.pointer (some ⟨g, 0, none⟩), .slice ka k.length kc] w fun e w' => e = .returned (.bool true) ∧ ∃ F' L', ens L' = rmQ (ens L) (pgi (ens L) k) (plc (kys p0.es) k) ∧ RfM w' F' D g L' ∧ (∀ b, F' b → F b ∨ w.heap.size ≤ b) ∧ Chg F w w' := by
  have t1 := rfind A O hk hkl hn hs hb hp
  rw [ht] at t1
  have hpm := List.mem_of_getElem? hp
  obtain ⟨e0, he0, hek0⟩ := thr_get ht
  have hq0 := (List.getElem?_eq_some_iff.1 he0).1
  have hpl := (List.getElem?_eq_some_iff.1 hp).1
  obtain ⟨i, hi⟩ : ∃ i, Hid (plc (kys p0.es) k = i) := ⟨_, rfl⟩
  obtain ⟨p, hpp⟩ : ∃ p, Hid (pgi (ens L) k = p) := ⟨_, rfl⟩
  rw [hi.out] at hq0
  rw [hpp.out] at hpl hp
  rw [hi.out, hpp.out] at t1 ⊢
  have hL : L ≠ [] := fun e => by subst e; simp at hp
  obtain ⟨G, C, hg, hFg, hFG, hR⟩ := A.opn hL
  have HGB : Hid _ := hg
  have HR : Hid _ := hR
  have HA : Hid _ := A
  have HPI : Hid (L[p]? = some p0) := hp
  have hcG : w.cell? ⟨G, p, none⟩ = some (.slice (some ⟨p0.b, 0, none⟩) p0.es.length p0.c) := hR.cell (by rw [List.getElem?_map, hp]; rfl)
  have hRP := (A.pages p0 hpm).1
  have HRP : Hid _ := hRP
  have HEN : Hid ((ens L)[p]? = some p0.es) := by show _ = _; rw [ens, List.getElem?_map, hp]; rfl
  have hm32 := hs p0.es (List.mem_map.2 ⟨p0, hpm, rfl⟩)
  have hgl := hg.lt
  have hGl := hR.lt
  have hcl := hRP.row.le
  have hc0 := hg.cell (i := 0) rfl
  obtain ⟨n, hnn⟩ : ∃ n, Hid (L.length = n) := ⟨_, rfl⟩
  rw [hnn.out] at hpl hn hc0
  obtain ⟨m, hm⟩ : ∃ m, Hid (p0.es.length = m) := ⟨_, rfl⟩
  rw [hm.out] at hq0 hcl hcG hm32
  have HC : Hid _ := hc0
  have HCG : Hid _ := hcG
  obtain ⟨kn, hkn⟩ : ∃ kn, Hid (k.length = kn) := ⟨_, rfl⟩
  rw [hkn.out] at t1 ⊢
  have HOS : Hid (∀ es ∈ ens L, es ≠ [] ∧ es.length ≤ 32) := fun es he => ⟨O.full es he, hs es he⟩
  clear hk A O hs hb hg hR hRP hp hpm he0 hek0 hc0 hcG
  go_enter Try.func15, Try.ntmps15
  go_wp2_with (go_at_call 35; refine t1.mono ?_; rintro e w1 ⟨rfl, B1⟩)
  have B1D := joinB B1 (belowD w1)
  have RP := HRP.out.keep B1D
  obtain ⟨v5, w5, v7, w7, hr5, hr7, P7, b5, b7, ⟨x5, y5, z5, rfl⟩⟩ := page_cut (i := i) RP (by rw [hm.out]; exact hq0) (by rw [hm.out]; omega)
  rw [hm.out] at hr7
  obtain ⟨x7, y7, z7, hv7⟩ := P7.sh
  subst hv7
  have hS : (fun w' => w'.cell? ⟨g, 0, none⟩ = some (.slice (some ⟨G, 0, none⟩) n C) ∧ w'.cell? ⟨G, p, none⟩ = some (.slice (some ⟨p0.b, 0, none⟩) m p0.c)) w1.drew := ⟨(B1D.cell (p := ⟨g, 0, none⟩) hgl).trans HC.out, (B1D.cell (p := ⟨G, p, none⟩) hGl).trans HCG.out⟩
  have hl1 : g < w1.drew.heap.size := Nat.lt_of_lt_of_le hgl B1.size
  have hl2 : G < w1.drew.heap.size := Nat.lt_of_lt_of_le hGl B1.size
  have w9 : IntKind.i64.wrap ((i : Int) + 1) = (i : Int) + 1 := by rw [IntKind.wrap_i64]; omega
  refine rg_start (S := fun w' => w'.cell? ⟨g, 0, none⟩ = some (.slice (some ⟨G, 0, none⟩) n C) ∧ w'.cell? ⟨G, p, none⟩ = some (.slice (some ⟨p0.b, 0, none⟩) m p0.c)) (by kernel_rfl) hS ?_
  refine rg_take 0 (some 18) (.pointer (some ⟨g, 0, none⟩)) (by kernel_rfl) (fun _ _ => by kernel_rfl) (fun _ _ _ h => h) hS ?_
  refine rg_take 1 (some 19) (.pointer (some ⟨g, 0, none⟩)) (by kernel_rfl) (fun _ _ => by kernel_rfl) (fun _ _ _ h => h) hS ?_
  refine rg_take 2 (some 20) (.pointer (some ⟨g, 0, none⟩)) (by kernel_rfl) (fun _ _ => by kernel_rfl) (fun _ _ _ h => h) hS ?_
  refine rg_load 3 (some 21) (.slice (some ⟨G, 0, none⟩) n C) 29 20 (g) (0) (by kernel_rfl) (by kernel_rfl) (by kernel_rfl) (fun w' h => ld_oo h.1) (fun _ _ _ h => h) hS ?_
  refine rg_take 4 (some 22) (.int .i64 p) (by kernel_rfl) (fun _ _ => by kernel_rfl) (fun _ _ _ h => h) hS ?_
  refine rg_take 5 (some 23) (.pointer (some ⟨G, p, none⟩)) (by kernel_rfl) (fun _ _ => run_io (x := 21) (y := 22) (k := p) (n := n) (c := C) (by kernel_rfl) (by kernel_rfl) (by kernel_rfl) rfl hpl) (fun _ _ _ h => h) hS ?_
  refine rg_load 6 (some 24) (.slice (some ⟨p0.b, 0, none⟩) m p0.c) 44 23 (G) (p) (by kernel_rfl) (by kernel_rfl) (by kernel_rfl) (fun w' h => ld_op h.2) (fun _ _ _ h => h) hS ?_
  refine rg_take 7 (some 25) (.int .i64 i) (by kernel_rfl) (fun _ _ => by kernel_rfl) (fun _ _ _ h => h) hS ?_
  refine rg_take 8 (some 26) (.slice (some ⟨p0.b, 0, none⟩) i p0.c) (by kernel_rfl) (fun _ _ => run_slh (x := 24) (y := 25) (n := m) (by kernel_rfl) (by kernel_rfl) (by kernel_rfl) (by omega)) (fun _ _ _ h => h) hS ?_
  refine rg_take 10 (some 28) (.pointer (some ⟨g, 0, none⟩)) (by kernel_rfl) (fun _ _ => by kernel_rfl) (fun _ _ _ h => h) hS ?_
  refine rg_take 11 (some 29) (.pointer (some ⟨g, 0, none⟩)) (by kernel_rfl) (fun _ _ => by kernel_rfl) (fun _ _ _ h => h) hS ?_
  refine rg_take 12 (some 30) (.pointer (some ⟨g, 0, none⟩)) (by kernel_rfl) (fun _ _ => by kernel_rfl) (fun _ _ _ h => h) hS ?_
  refine rg_load 13 (some 31) (.slice (some ⟨G, 0, none⟩) n C) 29 30 (g) (0) (by kernel_rfl) (by kernel_rfl) (by kernel_rfl) (fun w' h => ld_oo h.1) (fun _ _ _ h => h) hS ?_
  refine rg_take 14 (some 32) (.int .i64 p) (by kernel_rfl) (fun _ _ => by kernel_rfl) (fun _ _ _ h => h) hS ?_
  refine rg_take 15 (some 33) (.pointer (some ⟨G, p, none⟩)) (by kernel_rfl) (fun _ _ => run_io (x := 31) (y := 32) (k := p) (n := n) (c := C) (by kernel_rfl) (by kernel_rfl) (by kernel_rfl) rfl hpl) (fun _ _ _ h => h) hS ?_
  refine rg_load 16 (some 34) (.slice (some ⟨p0.b, 0, none⟩) m p0.c) 44 33 (G) (p) (by kernel_rfl) (by kernel_rfl) (by kernel_rfl) (fun w' h => ld_op h.2) (fun _ _ _ h => h) hS ?_
  refine rg_take 17 (some 35) (.int .i64 i) (by kernel_rfl) (fun _ _ => by kernel_rfl) (fun _ _ _ h => h) hS ?_
  refine rg_eq 18 (some 36) (.int .i64 (IntKind.i64.wrap ((i : Int) + 1))) (.int .i64 ((i : Int) + 1)) (by rw [w9]) (by kernel_rfl) (fun _ _ => by kernel_rfl) (fun _ _ _ h => h) hS ?_
  refine rg_take 19 (some 37) (.slice (some ⟨p0.b, if p0.c = i + 1 then 0 else (i + 1) * 2, none⟩) (m - (i + 1)) (p0.c - (i + 1))) (by kernel_rfl) (fun _ _ => run_sll (x := 34) (y := 36) (n := m) (i := i + 1) (z := (i : Int) + 1) (by kernel_rfl) (by kernel_rfl) (by kernel_rfl) (by omega) (by omega) (by omega)) (fun _ _ _ h => h) hS ?_
  refine rg_ready [9] (by kernel_rfl) (by simp) (ar_val 9 (some 27) (.slice x5 y5 z5) (w5) (by kernel_rfl) (run_apc (y := 26) (by kernel_rfl) (by kernel_rfl) (by kernel_rfl) hr5) (pcells5 hS hl1 hl2 b5) ?_ ar_nil)
  have hS0 := hS
  replace hS := pcells5 hS hl1 hl2 b5
  refine rg_ready [20] (by kernel_rfl) (by simp) (ar_val 20 (some 38) (.slice x7 y7 z7) (w7) (by kernel_rfl) (run_ap (x := 27) (y := 37) (T := 44) (ty := 44) (by kernel_rfl) (by kernel_rfl) (by kernel_rfl) (by kernel_rfl) hr7) (pcells5 hS0 hl1 hl2 b7) ?_ ar_nil)
  replace hS := pcells5 hS0 hl1 hl2 b7
  refine rg_take 21 (some 8) (.slice x7 y7 z7) (by kernel_rfl) (fun _ _ => by kernel_rfl) (fun _ _ _ h => h) hS ?_
  refine rg_done (by kernel_rfl) ?_
  simp only [Act.put, List.setIfInBounds_toArray, List.set_cons_zero, List.set_cons_succ]
  clear hr7
  generalize (if p0.c = i + 1 then 0 else (i + 1) * 2) = oo
  have B07 : Below w.heap.size w w7 := joinB B1D b7
  have g7 := HGB.out.keep B07
  have R7G := HR.out.keep B07
  have d7 : w7.cell? ⟨g, 0, none⟩ = some (.slice (some ⟨G, 0, none⟩) n C) := hS.1
  have d8 := hS.2
  have f8 := R7G.free p
  have hpl0 : (p : Int) < n := by omega
  have hp7 : p < (L.map Pg.v).length := by rw [List.length_map, hnn.out]; exact hpl
  rw [hi.out] at hgone
  rw [hgone] at P7
  have hy7 : y7 = 0 := by
    rcases P7.ex with ⟨h, _⟩ | ⟨bb, cc, h, _⟩
    · injection h
    · injection h
  subst hy7
  obtain ⟨dG, kG⟩ := R7G.kind
  have A7 := HA.out.keep B07
  have hne : g ≠ G := blk_ne g7 kG (by decide)
  have R8 := (R7G.set p hp7 (.slice x7 0 z7)).to (show (L.map Pg.v).set p (.slice x7 0 z7) = (L.take p).map Pg.v ++ [.slice x7 0 z7] ++ (L.drop (p + 1)).map Pg.v by
    rw [List.set_eq_take_append_cons_drop, if_pos hp7, List.map_take, List.map_drop]
    simp)
  have tP := put_hole (w := w7.setCell ⟨G, p, none⟩ (.slice x7 0 z7)) (F := F) (D := D) (lc := 0) (pv0 := .slice x7 0 z7) HPI.out (g7.off hne _) hFg R8 (fun q hq => by
      have hqL : q ∈ L := by
        rcases List.mem_append.1 hq with h | h
        · exact List.mem_of_mem_take h
        · exact List.mem_of_mem_drop h
      obtain ⟨h1, h2⟩ := A7.pages q hqL
      exact ⟨h1.cellG kG _, h2⟩) A7.apart (fun x hx => by
      by_cases e : x = G
      · subst e
        obtain ⟨cs', k'⟩ := R8.kind
        exact ⟨cs', _, k', by decide⟩
      · obtain ⟨cs, tt, h1, h2⟩ := A7.kind x hx
        exact ⟨cs, tt, h1.off e _, h2⟩) (by rw [hnn.out]; exact hn) (Hd.nil _ D) (by decide)
  have HC78 : Hid (Chg F w7 (w7.setCell ⟨G, p, none⟩ (.slice x7 0 z7))) := (Chg.refl F w7).cell (.inl hFG) _
  have hgd : (ens L).getD p [] = p0.es := by rw [List.getD_eq_getElem?_getD, HEN.out]; rfl
  have hrm : Hid (rmQ (ens L) p i = (ens L).take p ++ [] ++ (ens L).drop (p + 1)) := by
    show _ = _
    unfold rmQ
    simp only [hgd, hgone]
    rw [if_pos trivial, List.append_nil]
  have HB07 : Hid _ := B07
  clear hr5 P7 R7G A7 R8 hgd
  go_wp2_with (go_at_call 36; go_must (refine tP.mono ?_); rintro e' w9 ⟨rfl, F9, L9, hL9, A9, hF9, hC9⟩)
  go_ret
  refine ⟨rfl, F9, L9, by rw [hrm.out]; exact hL9, A9, fun x hx => ?_, ((Chg.of (F := F) HB07.out).trans HC78.out (fun _ _ h => h)).trans hC9 (fun _ _ h => h)⟩
  rcases hF9 x hx with h | h
  · exact .inl h
  · have h1 := HC78.out.size
    have h2 := HB07.out.size
    exact .inr (by omega)
end Pg
end Go.Proofs.Ytjnjkgakdnjlmaa

namespace Go.Proofs.Ytjnjkgakdnjlmaa
namespace Pg
open Go.RowKit Go.Lib
theorem rm_del {w : World} {F D : Nat → Prop} {g N : Nat} {Q : List (List KV)} {ka : Option Addr} {kc : Nat} {k : List Int} (M : Rm w F D g Q N) (hk : By w (.slice ka k.length kc) k) (hkl : k.length ≤ 1000000000) (hN : N ≤ 100000000) :
    Calls Try.prog 15 #[.pointer (some ⟨g, 0, none⟩), .slice ka k.length kc] w fun e w' => e = .returned (.bool (ahas Q k)) ∧ ∃ F', Rm w' F' D g (adel Q k) N ∧ (∀ b, F' b → F b ∨ w.heap.size ≤ b) ∧ Chg F w w' := by
  obtain ⟨L, rfl, A, O, S, n, r⟩ := M.ex
  have hs : ∀ es ∈ ens L, es.length ≤ 32 := fun es he => (S.one es he).2
  have hb : ∀ es ∈ ens L, ∀ e ∈ es, e.kl.length ≤ 1000000000 := fun es he e hee => (r es he e hee).1
  rw [abs_has]
  have stay : ∀ {w' : World}, has (ens L) k = false → Below w.heap.size w w' → ∃ F', Rm w' F' D g (adel (abs (ens L)) k) N ∧ (∀ b, F' b → F b ∨ w.heap.size ≤ b) ∧ Chg F w w' := fun {w'} hh hB => by
    rw [adel_none (by rw [abs_has]; exact hh)]
    exact ⟨F, M.keep hB, fun b hb => .inl hb, Chg.of hB⟩
  by_cases hL : L = []
  · subst hL
    exact (rdel_none A).mono fun e w' ⟨he, hB⟩ => ⟨he, stay rfl hB⟩
  · obtain ⟨p0, hp, hpe⟩ := at_page hL k
    have hhas : has (ens L) k = thr (kys p0.es) k := by rw [has_thr (ens_ne hL), hpe]
    cases ht : thr (kys p0.es) k
    · rw [ht] at hhas
      rw [hhas]
      exact (rdel_no A O hk hkl (S.few n hN) hs hb hp ht).mono fun e w' ⟨he, hB⟩ => ⟨he, stay hhas hB⟩
    · rw [ht] at hhas
      rw [hhas]
      have hq : rmQ (ens L) (pgi (ens L) k) (plc (kys p0.es) k) = delQ (ens L) k := by unfold delQ; rw [hhas, hpe]; rfl
      have fin : ∀ {w' : World}, (∃ F' L', ens L' = rmQ (ens L) (pgi (ens L) k) (plc (kys p0.es) k) ∧ RfM w' F' D g L' ∧ (∀ b, F' b → F b ∨ w.heap.size ≤ b) ∧ Chg F w w') → ∃ F', Rm w' F' D g (adel (abs (ens L)) k) N ∧ (∀ b, F' b → F b ∨ w.heap.size ≤ b) ∧ Chg F w w' := fun {w'} ⟨F', L', e1, A', hF, hc⟩ => by
        rw [hq] at e1
        refine ⟨F', ⟨L', by rw [e1, abs_del], A', by rw [e1]; exact O.del _, by rw [e1]; exact S.del O _, ?_, ?_⟩, hF, hc⟩
        · rw [e1]
          obtain ⟨X, x, Y, e2, _, e3⟩ := del_flat O hhas
          rw [e2] at n
          rw [e3]
          simp only [List.length_append, List.length_cons] at n ⊢
          omega
        · rw [e1]
          rw [small_flat] at r ⊢
          intro x hx
          obtain ⟨X, y, Y, e2, _, e3⟩ := del_flat O hhas
          rw [e3] at hx
          rw [e2] at r
          rcases List.mem_append.1 hx with h | h
          · exact r x (List.mem_append_left _ h)
          · exact r x (List.mem_append_right _ (List.mem_cons_of_mem _ h))
      by_cases hg0 : p0.es.take (plc (kys p0.es) k) ++ p0.es.drop (plc (kys p0.es) k + 1) = []
      · exact (rdel_gone A O hk hkl (S.few n hN) hs hb hp ht hg0).mono fun e w' ⟨he, h⟩ => ⟨he, fin h⟩
      · exact (rdel_left A O hk hkl (S.few n hN) hs hb hp ht hg0).mono fun e w' ⟨he, h⟩ => ⟨he, fin h⟩
theorem RfM.noU {w : World} {F D : Nat → Prop} {g : Nat} {L : List Pg} (h : RfM w F D g L) {b : Nat} (hb : F b) (cs : List Value) : ¬ Blk w b cs 5 := fun k => by
  obtain ⟨cs', t, hk, ht⟩ := h.kind b hb
  exact ht (hk.eq k).2
theorem RfM.mono {w : World} {F D D' : Nat → Prop} {g : Nat} {L : List Pg} (h : RfM w F D g L) (hD : ∀ b, b < w.heap.size → D b → D' b) : RfM w F D' g L :=
  ⟨h.top, fun p hp => ⟨⟨(h.pages p hp).1.row, fun e he => ((h.pages p hp).1.ents e he).mono hD⟩, (h.pages p hp).2⟩, h.apart, h.kind⟩
theorem Rm.noU {w : World} {F D : Nat → Prop} {g N : Nat} {Q : List (List KV)} (M : Rm w F D g Q N) {b : Nat} (hb : F b) (cs : List Value) : ¬ Blk w b cs 5 := by
  obtain ⟨L, _, A, _⟩ := M.ex
  exact A.noU hb cs
theorem Rm.same {w w' : World} {F D : Nat → Prop} {g N : Nat} {Q : List (List KV)} (M : Rm w F D g Q N) (h1 : ∀ b, F b → w'.heap[b]? = w.heap[b]?) (h2 : ∀ b, b < w.heap.size → D b → (∃ cs, Blk w b cs 5) → w'.heap[b]? = w.heap[b]?) : Rm w' F D g Q N := by
  obtain ⟨L, e, A, r⟩ := M.ex
  exact ⟨L, e, A.same h1 h2, r⟩
theorem Rm.chg {w w' : World} {F D F' : Nat → Prop} {g N : Nat} {Q : List (List KV)} (M : Rm w F D g Q N) (hc : Chg F' w w') (h1 : ∀ b, F' b → ¬ F b) (h2 : ∀ b, F' b → ∀ cs, ¬ Blk w b cs 5) : Rm w' F D g Q N :=
  M.same (fun b hF => hc.same b (M.lt hF) fun f => h1 b f hF) (fun b hl _ hk => hc.same b hl fun f => by obtain ⟨cs, k⟩ := hk; exact h2 b f cs k)
theorem Rm.mono {w : World} {F D D' : Nat → Prop} {g N : Nat} {Q : List (List KV)} (M : Rm w F D g Q N) (hD : ∀ b, b < w.heap.size → D b → D' b) : Rm w F D' g Q N := by
  obtain ⟨L, e, A, r⟩ := M.ex
  exact ⟨L, e, A.mono hD, r⟩
theorem Rm.more {w : World} {F D : Nat → Prop} {g N N' : Nat} {Q : List (List KV)} (M : Rm w F D g Q N) (h : N ≤ N') : Rm w F D g Q N' := by
  obtain ⟨L, e, A, O, S, n, r⟩ := M.ex
  exact ⟨L, e, A, O, S, by omega, r⟩
/-- what is written over of other bytes leaves both kinds of maps -/
theorem Rm.spd {w w' : World} {F D D2 : Nat → Prop} {g N : Nat} {Q : List (List KV)} (M : Rm w F D g Q N) (h : Spd D2 w w') (hD : ∀ b, D b → ¬ D2 b) : Rm w' F D g Q N :=
  M.same (fun b hF => h.chg.same b (M.lt hF) (fun ⟨_, cs, k⟩ => M.noU hF cs k)) (fun b hl hd _ => h.chg.same b hl (fun ⟨h1, _⟩ => hD b hd h1))
theorem Mp.spd {w w' : World} {F D D2 : Nat → Prop} {g N : Nat} {Q : List (List KV)} (M : Mp w F D g Q N) (h : Spd D2 w w') (hD : ∀ b, D b → ¬ D2 b) : Mp w' F D g Q N :=
  M.same (fun b hF => h.chg.same b (M.lt hF) (fun ⟨_, cs, k⟩ => M.noU hF cs k)) (fun b hl hd _ => h.chg.same b hl (fun ⟨h1, _⟩ => hD b hd h1))
end Pg
end Go.Proofs.Ytjnjkgakdnjlmaa

namespace Go.Proofs.Ytjnjkgakdnjlmaa
namespace Pg
open Go.RowKit Go.Lib
attribute [local go_sem] Oper.semAt_some
theorem run_oo1 {a : Act} {w : World} {o : Oper} {k : Nat} {x : Option Addr} {n c : Nat} (ho : o.op = .buildSlice 29 1 #[(0, .tmp k)]) (hk : a.eval (.tmp k) = .slice x n c) : (execOp a.eval o).run Try.prog w = .ok (.value (.slice (some ⟨w.heap.size, 0, none⟩) 1 1)) (w.alloc (.cells #[.slice x n c] 44)) := by
  have hk' : a.tmps[k]?.getD undef = .slice x n c := by simpa [Act.eval] using hk
  simp only [execOp, ho]
  go_simp
theorem run_soo {a : Act} {w : World} {o : Oper} (k q : Nat) {g n c : Nat} {u : Value} {ao : Option Addr} (ho : o.op = .store 29 (.tmp k) (.tmp q)) (hp : a.eval (.tmp k) = .pointer (some ⟨g, 0, none⟩)) (hq : a.eval (.tmp q) = .slice ao n c) (hc : w.cell? ⟨g, 0, none⟩ = some u) (hf : w.frozen? ⟨g, 0, none⟩ = false) :
    (execOp a.eval o).run Try.prog w = .ok .skip (w.setCell ⟨g, 0, none⟩ (.slice ao n c)) := by
  simp only [execOp, ho, hp, hq]
  go_simp
set_option maxHeartbeats 8000000 in
set_option maxRecDepth 100000 in
theorem rCopy {w : World} {F D : Nat → Prop} {g : Nat} {L : List Pg} (A : RfM w F D g L) (hs : ∀ es ∈ ens L, es ≠ [] ∧ es.length ≤ 32) (hn : L.length ≤ 100000000) :
    Calls Try.prog 25 #[.pointer (some ⟨g, 0, none⟩)] w fun e w' => ∃ o F' L', e = .returned (.pointer (some ⟨o, 0, none⟩)) ∧ ens L' = ens L ∧ RfM w' F' D o L' ∧ (∀ b, F' b → w.heap.size ≤ b) ∧ Below w.heap.size w w' := by
  obtain ⟨am, C, hc, hat⟩ := A.rd
  have hgl := cell_lt hc
  obtain ⟨n, hnn⟩ : ∃ n, Hid (L.length = n) := ⟨_, rfl⟩
  rw [hnn.out] at hc hn
  have HA : Hid _ := A
  have HC : Hid _ := hc
  have HAT : Hid _ := hat
  have HSS : Hid _ := hs
  have hlen : Hid ((ens L).length = n) := by show _ = _; rw [← hnn.out]; simp [ens]
  clear A hc hat hs
  go_enter Try.func25, Try.ntmps25
  go_wp2_with fail
  obtain ⟨o, ho⟩ : ∃ o, Hid (w.heap.size = o) := ⟨_, rfl⟩
  have k0 := blk_new w [.slice none 0 0] 31
  have b0 := below_alloc w (.cells #[.slice none 0 0] 31)
  rw [ho.out] at k0 ⊢
  go_loopw [4] (fun ti wr => ∃ k : Nat, k ≤ n ∧ ti = .int .i64 k ∧ Hid (∃ v X', Blk wr o [v] 31 ∧ ens X' = (ens L).take k ∧ Ro wr w.heap.size v X' ∧ (∀ q ∈ X', RpA wr D q ∧ w.heap.size ≤ q.b ∧ q.b < wr.heap.size) ∧ (X'.map Pg.b).Nodup) ∧ Hid (Below w.heap.size w wr)) (fun ti _ => n - (intOf ti).toNat)
  case atStart => exact ⟨0, Nat.zero_le _, rfl, ⟨_, [], k0, by simp [ens], Ro.nil _ _, fun q hq => by simp at hq, List.nodup_nil⟩, b0⟩
  case round =>
    obtain ⟨k, hk, rfl, HI, HB⟩ := hrel
    obtain ⟨v, X', ko, hXe, hRo, hXp, hXn⟩ := HI.out
    obtain ⟨ao, nb, cb, hv⟩ := hRo.sh
    subst hv
    have hwl := HB.out.size
    have hXl : X'.length = k := by
      have h1 := congrArg List.length hXe
      rw [List.length_take, hlen.out] at h1
      simp [ens] at h1
      omega
    have c0 : wr.cell? ⟨g, 0, none⟩ = some (.slice am n C) := (HB.out.cell (p := ⟨g, 0, none⟩) hgl).trans HC.out
    by_cases hlt : k < n
    · obtain ⟨p, hp⟩ : ∃ p, L[k]? = some p := ⟨L[k]'(by have := hnn.out; omega), List.getElem?_eq_getElem _⟩
      obtain ⟨G, rfl, cG⟩ := HAT.out k p hp
      have hpm := List.mem_of_getElem? hp
      have hes : (ens L)[k]? = some p.es := by rw [ens, List.getElem?_map, hp]; rfl
      obtain ⟨hp0, hp32⟩ := HSS.out p.es (List.mem_of_getElem? hes)
      obtain ⟨m, hm⟩ : ∃ m, Hid (p.es.length = m) := ⟨_, rfl⟩
      have hGl := cell_lt cG
      have cG' : wr.cell? ⟨G, k, none⟩ = some (.slice (some ⟨p.b, 0, none⟩) m p.c) := by rw [← hm.out]; exact (HB.out.cell (p := ⟨G, k, none⟩) hGl).trans cG
      have RP := ((HA.out.pages p hpm).1.keep HB.out).keep (belowD wr)
      obtain ⟨c2, w2, hr2, R2, b2⟩ := app_nil (w := wr.drew) KQ 44 ⟨p.b, 0, none⟩ p.es.length p.c (flat p.es) (flat_len p.es) RP.cells (List.length_pos_iff.2 hp0) (by omega) (by omega)
      have hq : RpA w2 D ⟨wr.heap.size, c2, p.es⟩ := ⟨R2, fun e he => (RP.ents e he).keep b2⟩
      have b3 := below_alloc w2 (.cells #[Pg.v ⟨wr.heap.size, c2, p.es⟩] 44)
      have b23 := joinB b2 b3
      have hwd : wr.drew.heap.size = wr.heap.size := rfl
      obtain ⟨ov4, w4, hr4, R4, S4⟩ := app_ro (L2 := [⟨wr.heap.size, c2, p.es⟩]) (a := ⟨w2.heap.size, 0, none⟩) (cc := 1) (((hRo.keep (belowD wr)).keep b23)) (Nat.le_trans hwl b23.size) (by simp; omega) (fun j u hj => by
        match j with
        | 0 => exact (blk_new w2 [Pg.v ⟨wr.heap.size, c2, p.es⟩] 44).cell (i := 0) hj
        | j + 1 => simp at hj)
      have hqv : Pg.v ⟨wr.heap.size, c2, p.es⟩ = .slice (some ⟨wr.heap.size, 0, none⟩) m c2 := by unfold Pg.v; rw [hm.out]
      rw [hqv] at hr4 S4 b3 b23
      simp only [List.length_singleton] at hr4
      rw [hm.out] at hr2
      have ko4 := S4.blk ((ko.keep (belowD wr)).keep b23) (by decide)
      have hlw : wr.heap.size < w2.heap.size := R2.lt
      have hol : o < wr.heap.size := ko.lt
      have hog : g ≠ o := by have := ho.out; omega
      have hoG : G ≠ o := by have := ho.out; omega
      obtain ⟨a4, n4, c4, rfl⟩ := R4.sh
      have hb4 : Below w.heap.size w w4 := ((HB.out.trans ((belowD wr).mono hwl)).trans (b23.mono hwl)).trans (S4.below (Nat.le_trans hwl b23.size))
      have HN : Hid (∃ v X', Blk (w4.setCell ⟨o, 0, none⟩ (.slice a4 n4 c4)) o [v] 31 ∧ ens X' = (ens L).take (k + 1) ∧ Ro (w4.setCell ⟨o, 0, none⟩ (.slice a4 n4 c4)) w.heap.size v X' ∧ (∀ q ∈ X', RpA (w4.setCell ⟨o, 0, none⟩ (.slice a4 n4 c4)) D q ∧ w.heap.size ≤ q.b ∧ q.b < (w4.setCell ⟨o, 0, none⟩ (.slice a4 n4 c4)).heap.size) ∧ (X'.map Pg.b).Nodup) := by
        have hsz := ((Chg.refl (fun x => x = o) w4).cell (g := o) (i := 0) (.inl rfl) (.slice a4 n4 c4)).size
        have hne : ∀ {q : Pg}, RpA w4 D q → q.b ≠ o := fun {q} h => by
          obtain ⟨cs, kk⟩ := h.row.kind
          exact blk_ne kk ko4 (by decide)
        refine ⟨_, X' ++ [⟨wr.heap.size, c2, p.es⟩], ko4.setCell _, ?_, ⟨R4.ex.imp id (fun ⟨G', C', e, hl, hRR⟩ => ⟨G', C', e, hl, hRR.same (Below.heap_setCell w4 _ _ G' (by
          obtain ⟨cs, kk⟩ := hRR.kind
          exact blk_ne kk ko4 (by decide)))⟩)⟩, fun q hqm => ?_, ?_⟩
        · rw [ens, List.map_append, ← ens, hXe, List.take_add_one, hes]; rfl
        · rcases List.mem_append.1 hqm with h | h
          · obtain ⟨h1, h2, h3⟩ := hXp q h
            have h4 := S4.rp ((h1.keep (belowD wr)).keep b23)
            exact ⟨h4.cellg ko4 (hne h4) _, h2, by have := b23.size; have := S4.chg.size; have h5 : wr.drew.heap.size = wr.heap.size := rfl; omega⟩
          · simp at h
            subst h
            have h4 := S4.rp (hq.keep b3)
            exact ⟨h4.cellg ko4 (hne h4) _, hwl, by have := b3.size; have := S4.chg.size; show wr.heap.size < _; omega⟩
        · rw [List.map_append, List.nodup_append]
          refine ⟨hXn, by simp, fun x hx y hy => ?_⟩
          simp at hy
          obtain ⟨q, h1, rfl⟩ := List.mem_map.1 hx
          have := (hXp q h1).2.2
          omega
      have HBN : Hid (Below w.heap.size w (w4.setCell ⟨o, 0, none⟩ (.slice a4 n4 c4))) := hb4.trans (((Chg.refl (fun x => x = o) w4).cell (g := o) (i := 0) (.inl rfl) (.slice a4 n4 c4)).below (fun b e => by have e' : b = o := e; have := ho.out; omega) hb4.size)
      have hS : (fun w' => w'.cell? ⟨g, 0, none⟩ = some (.slice (some ⟨G, 0, none⟩) n C) ∧ w'.cell? ⟨G, k, none⟩ = some (.slice (some ⟨p.b, 0, none⟩) m p.c)) wr.drew := ⟨c0, cG'⟩
      have hl1 : g < wr.drew.heap.size := Nat.lt_of_lt_of_le hgl hwl
      have hl2 : G < wr.drew.heap.size := Nat.lt_of_lt_of_le hGl hwl
      have hS2 := pcells5 hS hl1 hl2 b2
      have hS3 := pcells5 hS hl1 hl2 b23
      have hS4 : (fun w' => w'.cell? ⟨g, 0, none⟩ = some (.slice (some ⟨G, 0, none⟩) n C) ∧ w'.cell? ⟨G, k, none⟩ = some (.slice (some ⟨p.b, 0, none⟩) m p.c)) w4 := ⟨(hb4.cell (p := ⟨g, 0, none⟩) hgl).trans HC.out, by rw [← hm.out]; exact (hb4.cell (p := ⟨G, k, none⟩) hGl).trans cG⟩
      have hS5 : (fun w' => w'.cell? ⟨g, 0, none⟩ = some (.slice (some ⟨G, 0, none⟩) n C) ∧ w'.cell? ⟨G, k, none⟩ = some (.slice (some ⟨p.b, 0, none⟩) m p.c)) (w4.setCell ⟨o, 0, none⟩ (.slice a4 n4 c4)) := ⟨(World.cell?_of_block (Below.heap_setCell w4 _ _ g hog)).trans hS4.1, (World.cell?_of_block (Below.heap_setCell w4 _ _ G hoG)).trans hS4.2⟩
      have co1 := (ko.keep (belowD wr)).cell (i := 0) rfl
      have co2 := ((ko.keep (belowD wr)).keep b2).cell (i := 0) rfl
      have co3 := ((ko.keep (belowD wr)).keep b23).cell (i := 0) rfl
      have co4 := ko4.cell (i := 0) rfl
      have fo4 := ko4.free 0
      have hk0 : (k : Int) < n := by omega
      have H1 : Hid ((fun w' => w'.cell? ⟨g, 0, none⟩ = some (.slice (some ⟨G, 0, none⟩) n C) ∧ w'.cell? ⟨G, k, none⟩ = some (.slice (some ⟨p.b, 0, none⟩) m p.c)) wr.drew ∧ (fun w' => w'.cell? ⟨g, 0, none⟩ = some (.slice (some ⟨G, 0, none⟩) n C) ∧ w'.cell? ⟨G, k, none⟩ = some (.slice (some ⟨p.b, 0, none⟩) m p.c)) w2 ∧ (fun w' => w'.cell? ⟨g, 0, none⟩ = some (.slice (some ⟨G, 0, none⟩) n C) ∧ w'.cell? ⟨G, k, none⟩ = some (.slice (some ⟨p.b, 0, none⟩) m p.c)) (w2.alloc (.cells #[.slice (some ⟨wr.heap.size, 0, none⟩) m c2] 44)) ∧ (fun w' => w'.cell? ⟨g, 0, none⟩ = some (.slice (some ⟨G, 0, none⟩) n C) ∧ w'.cell? ⟨G, k, none⟩ = some (.slice (some ⟨p.b, 0, none⟩) m p.c)) w4 ∧ (fun w' => w'.cell? ⟨g, 0, none⟩ = some (.slice (some ⟨G, 0, none⟩) n C) ∧ w'.cell? ⟨G, k, none⟩ = some (.slice (some ⟨p.b, 0, none⟩) m p.c)) (w4.setCell ⟨o, 0, none⟩ (.slice a4 n4 c4))) := ⟨hS, hS2, hS3, hS4, hS5⟩
      have H2 : Hid (wr.drew.cell? ⟨o, 0, none⟩ = some (.slice ao nb cb) ∧ w2.cell? ⟨o, 0, none⟩ = some (.slice ao nb cb) ∧ (w2.alloc (.cells #[.slice (some ⟨wr.heap.size, 0, none⟩) m c2] 44)).cell? ⟨o, 0, none⟩ = some (.slice ao nb cb) ∧ w4.cell? ⟨o, 0, none⟩ = some (.slice ao nb cb) ∧ w4.frozen? ⟨o, 0, none⟩ = false) := ⟨co1, co2, co3, co4, fo4⟩
      have H3 : Hid _ := hr2
      have H4 : Hid _ := hr4
      clear hS hS2 hS3 hS4 hS5 co1 co2 co3 co4 fo4 hr2 hr4 R2 b2 hq b3 b23 R4 S4 ko4 RP hRo hXp hXn hXe HI hb4 hes hp hpm cG ko
      go_wp2_with fail
      obtain ⟨hS, hS2, hS3, hS4, hS5⟩ := H1.out
      obtain ⟨co1, co2, co3, co4, fo4⟩ := H2.out
      have hr2 := H3.out
      have hr4 := H4.out
      refine rg_start (S := fun w' => w'.cell? ⟨g, 0, none⟩ = some (.slice (some ⟨G, 0, none⟩) n C) ∧ w'.cell? ⟨G, k, none⟩ = some (.slice (some ⟨p.b, 0, none⟩) m p.c)) (by kernel_rfl) hS ?_
      refine rg_take 0 (some 16) (.pointer (some ⟨o, 0, none⟩)) (by kernel_rfl) (fun _ _ => by kernel_rfl) (fun _ _ _ h => h) hS ?_
      refine rg_take 1 (some 17) (.pointer (some ⟨o, 0, none⟩)) (by kernel_rfl) (fun _ _ => by kernel_rfl) (fun _ _ _ h => h) hS ?_
      refine rg_take 2 (some 18) (.pointer (some ⟨o, 0, none⟩)) (by kernel_rfl) (fun _ _ => by kernel_rfl) (fun _ _ _ h => h) hS ?_
      refine rg_take 3 (some 19) (.pointer (some ⟨o, 0, none⟩)) (by kernel_rfl) (fun _ _ => by kernel_rfl) (fun _ _ _ h => h) hS ?_
      refine rg_take 5 (some 21) (.pointer (some ⟨g, 0, none⟩)) (by kernel_rfl) (fun _ _ => by kernel_rfl) (fun _ _ _ h => h) hS ?_
      refine rg_take 6 (some 22) (.pointer (some ⟨g, 0, none⟩)) (by kernel_rfl) (fun _ _ => by kernel_rfl) (fun _ _ _ h => h) hS ?_
      refine rg_take 7 (some 23) (.pointer (some ⟨g, 0, none⟩)) (by kernel_rfl) (fun _ _ => by kernel_rfl) (fun _ _ _ h => h) hS ?_
      refine rg_load 8 (some 24) (.slice (some ⟨G, 0, none⟩) n C) 29 23 g 0 (by kernel_rfl) (by kernel_rfl) (by kernel_rfl) (fun w' h => ld_oo h.1) (fun _ _ _ h => h) hS ?_
      refine rg_take 9 (some 25) (.int .i64 k) (by kernel_rfl) (fun _ _ => by kernel_rfl) (fun _ _ _ h => h) hS ?_
      refine rg_take 10 (some 26) (.pointer (some ⟨G, k, none⟩)) (by kernel_rfl) (fun _ _ => run_io (x := 24) (y := 25) (k := k) (n := n) (c := C) (by kernel_rfl) (by kernel_rfl) (by kernel_rfl) rfl hlt) (fun _ _ _ h => h) hS ?_
      refine rg_load 11 (some 27) (.slice (some ⟨p.b, 0, none⟩) m p.c) 44 26 G k (by kernel_rfl) (by kernel_rfl) (by kernel_rfl) (fun w' h => ld_op h.2) (fun _ _ _ h => h) hS ?_
      refine rg_ready [4, 12] (by kernel_rfl) (by simp) (ar_val 4 (some 20) (.slice ao nb cb) _ (by kernel_rfl) (run_lp (T := 29) 19 (by kernel_rfl) (by kernel_rfl) (ld_oo co1)) hS ?_ (ar_val 12 (some 28) (.slice (some ⟨wr.heap.size, 0, none⟩) m c2) w2 (by kernel_rfl) (run_apc (y := 27) (by kernel_rfl) (by kernel_rfl) (by kernel_rfl) hr2) hS2 ?_ ar_nil))
      · refine rg_ready [12] (by kernel_rfl) (by simp) (ar_val 12 (some 28) (.slice (some ⟨wr.heap.size, 0, none⟩) m c2) w2 (by kernel_rfl) (run_apc (y := 27) (by kernel_rfl) (by kernel_rfl) (by kernel_rfl) hr2) hS2 ?_ ar_nil)
        refine rg_ready [13] (by kernel_rfl) (by simp) (ar_val 13 (some 29) (.slice (some ⟨w2.heap.size, 0, none⟩) 1 1) (w2.alloc (.cells #[.slice (some ⟨wr.heap.size, 0, none⟩) m c2] 44)) (by kernel_rfl) (run_oo1 (k := 28) (by kernel_rfl) (by kernel_rfl)) hS3 ?_ ar_nil)
        refine rg_ready [14] (by kernel_rfl) (by simp) (ar_val 14 (some 30) (.slice a4 n4 c4) w4 (by kernel_rfl) (run_ap (x := 20) (y := 29) (T := 29) (ty := 29) (by kernel_rfl) (by kernel_rfl) (by kernel_rfl) (by kernel_rfl) hr4) hS4 ?_ ar_nil)
        refine rg_take 15 (some 31) (.pointer (some ⟨o, 0, none⟩)) (by kernel_rfl) (fun _ _ => by kernel_rfl) (fun _ _ _ h => h) hS4 ?_
        refine rg_take 16 (some 32) (.pointer (some ⟨o, 0, none⟩)) (by kernel_rfl) (fun _ _ => by kernel_rfl) (fun _ _ _ h => h) hS4 ?_
        refine rg_ready [17] (by kernel_rfl) (by simp) (ar_void 17 (w4.setCell ⟨o, 0, none⟩ (.slice a4 n4 c4)) (by kernel_rfl) (run_soo 32 30 (by kernel_rfl) (by kernel_rfl) (by kernel_rfl) co4 fo4) hS5 ?_ ar_nil)
        refine rg_done (by kernel_rfl) ?_
        simp only [Act.put, List.setIfInBounds_toArray, List.set_cons_zero, List.set_cons_succ]
        go_wp2
        go_roundw
        case rel => exact ⟨k + 1, by omega, by go_num, HN, HBN⟩
        case measure => simp [intOf]; omega
      · refine rg_ready [4, 13] (by kernel_rfl) (by simp) (ar_val 4 (some 20) (.slice ao nb cb) _ (by kernel_rfl) (run_lp (T := 29) 19 (by kernel_rfl) (by kernel_rfl) (ld_oo co2)) hS2 ?_ (ar_val 13 (some 29) (.slice (some ⟨w2.heap.size, 0, none⟩) 1 1) (w2.alloc (.cells #[.slice (some ⟨wr.heap.size, 0, none⟩) m c2] 44)) (by kernel_rfl) (run_oo1 (k := 28) (by kernel_rfl) (by kernel_rfl)) hS3 ?_ ar_nil))
        · refine rg_ready [13] (by kernel_rfl) (by simp) (ar_val 13 (some 29) (.slice (some ⟨w2.heap.size, 0, none⟩) 1 1) (w2.alloc (.cells #[.slice (some ⟨wr.heap.size, 0, none⟩) m c2] 44)) (by kernel_rfl) (run_oo1 (k := 28) (by kernel_rfl) (by kernel_rfl)) hS3 ?_ ar_nil)
          refine rg_ready [14] (by kernel_rfl) (by simp) (ar_val 14 (some 30) (.slice a4 n4 c4) w4 (by kernel_rfl) (run_ap (x := 20) (y := 29) (T := 29) (ty := 29) (by kernel_rfl) (by kernel_rfl) (by kernel_rfl) (by kernel_rfl) hr4) hS4 ?_ ar_nil)
          refine rg_take 15 (some 31) (.pointer (some ⟨o, 0, none⟩)) (by kernel_rfl) (fun _ _ => by kernel_rfl) (fun _ _ _ h => h) hS4 ?_
          refine rg_take 16 (some 32) (.pointer (some ⟨o, 0, none⟩)) (by kernel_rfl) (fun _ _ => by kernel_rfl) (fun _ _ _ h => h) hS4 ?_
          refine rg_ready [17] (by kernel_rfl) (by simp) (ar_void 17 (w4.setCell ⟨o, 0, none⟩ (.slice a4 n4 c4)) (by kernel_rfl) (run_soo 32 30 (by kernel_rfl) (by kernel_rfl) (by kernel_rfl) co4 fo4) hS5 ?_ ar_nil)
          refine rg_done (by kernel_rfl) ?_
          simp only [Act.put, List.setIfInBounds_toArray, List.set_cons_zero, List.set_cons_succ]
          go_wp2
          go_roundw
          case rel => exact ⟨k + 1, by omega, by go_num, HN, HBN⟩
          case measure => simp [intOf]; omega
        · refine rg_ready [4] (by kernel_rfl) (by simp) (ar_val 4 (some 20) (.slice ao nb cb) _ (by kernel_rfl) (run_lp (T := 29) 19 (by kernel_rfl) (by kernel_rfl) (ld_oo co3)) hS3 ?_ ar_nil)
          refine rg_ready [14] (by kernel_rfl) (by simp) (ar_val 14 (some 30) (.slice a4 n4 c4) w4 (by kernel_rfl) (run_ap (x := 20) (y := 29) (T := 29) (ty := 29) (by kernel_rfl) (by kernel_rfl) (by kernel_rfl) (by kernel_rfl) hr4) hS4 ?_ ar_nil)
          refine rg_take 15 (some 31) (.pointer (some ⟨o, 0, none⟩)) (by kernel_rfl) (fun _ _ => by kernel_rfl) (fun _ _ _ h => h) hS4 ?_
          refine rg_take 16 (some 32) (.pointer (some ⟨o, 0, none⟩)) (by kernel_rfl) (fun _ _ => by kernel_rfl) (fun _ _ _ h => h) hS4 ?_
          refine rg_ready [17] (by kernel_rfl) (by simp) (ar_void 17 (w4.setCell ⟨o, 0, none⟩ (.slice a4 n4 c4)) (by kernel_rfl) (run_soo 32 30 (by kernel_rfl) (by kernel_rfl) (by kernel_rfl) co4 fo4) hS5 ?_ ar_nil)
          refine rg_done (by kernel_rfl) ?_
          simp only [Act.put, List.setIfInBounds_toArray, List.set_cons_zero, List.set_cons_succ]
          go_wp2
          go_roundw
          case rel => exact ⟨k + 1, by omega, by go_num, HN, HBN⟩
          case measure => simp [intOf]; omega
    · obtain rfl : k = n := by omega
      rw [List.take_of_length_le (by have := hlen.out; omega)] at hXe
      have HF : Hid (∃ F', RfM wr F' D o X' ∧ ∀ b, F' b → w.heap.size ≤ b) := by
        refine ⟨fun b => w.heap.size ≤ b ∧ ∃ cs t, Blk wr b cs t ∧ t ≠ 5, ⟨⟨_, ko, ⟨by have := ho.out; omega, _, _, ko, by decide⟩, hRo.ex.imp id (fun ⟨G', C', e, hl, hRR⟩ => ⟨G', C', e, ⟨hl, by obtain ⟨cs, kk⟩ := hRR.kind; exact ⟨cs, _, kk, by decide⟩⟩, hRR⟩)⟩, fun q hq => ?_, hXn, fun b hb => hb.2⟩, fun b hb => hb.1⟩
        obtain ⟨h1, h2, _⟩ := hXp q hq
        obtain ⟨cs, kk⟩ := h1.row.kind
        exact ⟨h1, h2, cs, _, kk, by decide⟩
      have HXE : Hid _ := hXe
      clear hXe hRo hXp hXn ko HI
      go_wp2
      go_ret
      obtain ⟨F', h1, h2⟩ := HF.out
      exact ⟨o, F', X', rfl, HXE.out, h1, h2, HB.out⟩
end Pg
end Go.Proofs.Ytjnjkgakdnjlmaa

namespace Go.Proofs.Ytjnjkgakdnjlmaa
namespace Pg
open Go.RowKit Go.Lib
theorem rm_copy {w : World} {F D : Nat → Prop} {g N : Nat} {Q : List (List KV)} (M : Rm w F D g Q N) (hN : N ≤ 100000000) :
    Calls Try.prog 25 #[.pointer (some ⟨g, 0, none⟩)] w fun e w' => ∃ g' F', e = .returned (.pointer (some ⟨g', 0, none⟩)) ∧ Rm w' F' D g' Q N ∧ (∀ b, F' b → w.heap.size ≤ b) ∧ Below w.heap.size w w' := by
  obtain ⟨L, rfl, A, O, S, n, r⟩ := M.ex
  refine (rCopy A (fun es he => ⟨O.full es he, (S.one es he).2⟩) (S.few n hN)).mono fun e w' ⟨g', F', L', he, e1, A', hF, B⟩ => ?_
  exact ⟨g', F', he, ⟨L', by rw [e1], A', by rw [e1]; exact O, by rw [e1]; exact S, by rw [e1]; exact n, by rw [e1]; exact r⟩, hF, B⟩
/-- a new empty one -/
theorem rm_new (w : World) (g : Nat) (D : Nat → Prop) (h : Blk w g [.slice none 0 0] 31) : Rm w (· = g) D g [] 0 :=
  ⟨[], rfl, ⟨⟨_, h, rfl, .inl ⟨rfl, rfl⟩⟩, fun p hp => by simp at hp, List.nodup_nil, fun b hb => ⟨_, _, hb ▸ h, by decide⟩⟩, ⟨fun _ h => by simp [ens] at h, List.Pairwise.nil⟩, Shq.nil, Nat.le_refl _, fun _ h => by simp [ens] at h⟩
end Pg
end Go.Proofs.Ytjnjkgakdnjlmaa
