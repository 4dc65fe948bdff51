/- Several texts, joined: KvW, KvX, KvY, KvZ, KvAa, KvAb. -/
import Derived.Test.YtplminnejheceaaJka
import Derived.Test.YtplminnejheceaaPgIe
import Derived.Shelf.Abstract
import Derived.Shelf.RegionOpen
import Derived.OwnWalkIn
import Derived.TacticsInMore
import Derived.LoopNIn
import Derived.LoopIn
namespace Go.Proofs.Ytplminnejheceaa
namespace Kv
open Go.RowKit Go.Lib Pg
attribute [local go_sem] Oper.semAt_some
theorem rem_none {E : Ents} {k : List Int} (h : Rise E) (hn : (look E k).isSome = false) : rem E k = E := by
  obtain ⟨X, Y, c, ⟨rfl, e⟩ | ⟨x, rfl, e⟩⟩ := h.cut k
  · exact c.rem0
  · rw [e] at hn; cases hn
theorem sdepth {w : World} {K D : Nat → Prop} {g n N : Nat} {E : Ents} {W : List Ents} (h : SA w K D g E W n N) :
    Calls Try.prog 16 #[.pointer (some ⟨g, 0, none⟩)] w fun e w' => e = .returned (.int .i64 W.length) ∧ w' = w := by
  obtain ⟨F, V, m, Q, jv, T, oj, hX, hE, hB⟩ := h.open
  have hl := hB.len
  simp at hl
  rw [← hl]
  exact xdepth hX
theorem sops {w : World} {K D : Nat → Prop} {g n N : Nat} {E : Ents} {W : List Ents} (h : SA w K D g E W n N) :
    Calls Try.prog 17 #[.pointer (some ⟨g, 0, none⟩)] w fun e w' => e = .returned (.int .i64 n) ∧ w' = w := by
  obtain ⟨F, V, m, Q, jv, T, oj, hX, hE, hB⟩ := h.open
  exact xops hX
set_option maxHeartbeats 2000000 in
set_option maxRecDepth 100000 in
theorem sget {w : World} {K D : Nat → Prop} {g n N : Nat} {E : Ents} {W : List Ents} {kv : Value} {k : List Int} (h : SA w K D g E W n N) (hk : BK w K kv k) (hn : n ≤ 4000000000000000000) (hN : N ≤ 100000000) :
    Calls Try.prog 28 #[.pointer (some ⟨g, 0, none⟩), kv] w fun e w' => ∃ v, e = .returned (.tuple #[v, .bool (look E k).isSome]) ∧ OB w' (w.heap.size ≤ ·) v ((look E k).getD []) ∧ SA w' K D g E W (n + 1) N ∧ Chg K w w' := by
  obtain ⟨F, V, m, Q, jv, T, oj, hX, rfl, hB⟩ := h.open
  obtain ⟨ao, c, rfl⟩ := hk.shape
  have u := xcount hX hn
  have HX := hid3 hX
  have HB := hid3 hB
  have HK := hid3 hk
  clear hX hB hk h
  obtain ⟨kn, hkn⟩ : ∃ kn, Hid (k.length = kn) := ⟨_, rfl⟩
  rw [hkn.out] at HK ⊢
  have ug := fun w' (X : SX w' K D F V g m Q jv T oj (n + 1) N) (hk : By w' (.slice ao kn c) k) => xget_key X hk hN
  obtain ⟨r, hr⟩ : ∃ r, (look Q.flatten k).isSome = r := ⟨_, rfl⟩
  obtain ⟨L, hL⟩ : ∃ L, (look Q.flatten k).getD [] = L := ⟨_, rfl⟩
  rw [hr, hL] at ug ⊢
  clear hr hL
  go_enter Try.func28, Try.ntmps28
  go_wp2_with first
    | (go_at_call 45; go_must (refine u.mono ?_); rintro e w1 ⟨rfl, X1, C1⟩; have c0 := X1.blk.cell (i := 0) rfl)
    | (go_at_call 55; go_must (refine (ug _ X1 (HK.out _ (HX.out.kg C1))).mono ?_); rintro e w2 ⟨v, rfl, O, B⟩; obtain ⟨a1, c1, rfl⟩ : ∃ a1 c1, v = .slice a1 L.length c1 := (by obtain ⟨a1, c1, e, _⟩ := O.by.ex; exact ⟨a1, c1, e⟩); generalize L.length = ln at *)
  go_ret2
  exact ⟨_, rfl, O.mono (fun b _ h => by have := C1.size; have h' : w1.heap.size ≤ b := h; show w.heap.size ≤ b; omega), (X1.keep B).shut rfl HB.out, chgJoin (HX.out.kg C1) (Chg.of B)⟩
set_option maxHeartbeats 2000000 in
set_option maxRecDepth 100000 in
theorem shas {w : World} {K D : Nat → Prop} {g n N : Nat} {E : Ents} {W : List Ents} {kv : Value} {k : List Int} (h : SA w K D g E W n N) (hk : BK w K kv k) (hn : n ≤ 4000000000000000000) (hN : N ≤ 100000000) :
    Calls Try.prog 29 #[.pointer (some ⟨g, 0, none⟩), kv] w fun e w' => e = .returned (.bool (look E k).isSome) ∧ SA w' K D g E W (n + 1) N ∧ Chg K w w' := by
  obtain ⟨F, V, m, Q, jv, T, oj, hX, rfl, hB⟩ := h.open
  obtain ⟨ao, c, rfl⟩ := hk.shape
  have u := xcount hX hn
  have HX := hid3 hX
  have HB := hid3 hB
  have HK := hid3 hk
  clear hX hB hk h
  obtain ⟨kn, hkn⟩ : ∃ kn, Hid (k.length = kn) := ⟨_, rfl⟩
  rw [hkn.out] at HK ⊢
  have ug := fun w' (X : SX w' K D F V g m Q jv T oj (n + 1) N) (hk : By w' (.slice ao kn c) k) => xholds X hk hN
  obtain ⟨r, hr⟩ : ∃ r, (look Q.flatten k).isSome = r := ⟨_, rfl⟩
  rw [hr] at ug ⊢
  clear hr
  go_enter Try.func29, Try.ntmps29
  go_wp2_with first
    | (go_at_call 45; go_must (refine u.mono ?_); rintro e w1 ⟨rfl, X1, C1⟩)
    | (go_at_call 48; go_must (refine (ug _ X1 (HK.out _ (HX.out.kg C1))).mono ?_); rintro e w2 ⟨rfl, B⟩)
  go_ret
  exact ⟨rfl, (X1.keep B).shut rfl HB.out, chgJoin (HX.out.kg C1) (Chg.of B)⟩
set_option maxHeartbeats 4000000 in
set_option maxRecDepth 100000 in
theorem sdel_no {w : World} {K D F V : Nat → Prop} {g m n N : Nat} {Q : List (List KV)} {jv : Value} {T : List Jr} {oj : Option Nat} {W : List Ents} {kv : Value} {k : List Int} (hX : SX w K D F V g m Q jv T oj n N) (hB : Back (T.reverse.map Jr.U) W Q.flatten) (hk : BK w K kv k) (hn : n ≤ 4000000000000000000) (hN : N + 2 ≤ 100000000) (hr : (look Q.flatten k).isSome = false) :
    Calls Try.prog 20 #[.pointer (some ⟨g, 0, none⟩), kv] w (Ends w K D g (rem Q.flatten k) W (n + 1) (N + 2) (.bool false)) := by
  obtain ⟨ao, c, rfl⟩ := hk.shape
  have u := xcount hX hn
  have HX := hid3 hX
  have HB := hid3 hB
  have HK := hid3 hk
  have hN' : N ≤ 99999998 := by omega
  replace hN : N ≤ 100000000 := by omega
  clear hX hB hk
  obtain ⟨kn, hkn⟩ : ∃ kn, Hid (k.length = kn) := ⟨_, rfl⟩
  rw [hkn.out] at HK ⊢
  go_enter Try.func20, Try.ntmps20
  go_wp2_with first
    | (go_at_call 45; go_must (refine u.mono ?_); rintro e w1 ⟨rfl, X1, C1⟩; have uh := xholds X1 (HK.out _ (HX.out.kg C1)) hN; rw [hr] at uh)
    | (go_at_call 48; go_must (refine uh.mono ?_); rintro e w2 ⟨rfl, B2⟩; clear uh; replace X1 := X1.keep B2; have C3 := chgJoin (HX.out.kg C1) (Chg.of B2))
  go_ret
  have e := rem_none HX.out.map.ord.flat hr
  exact ⟨rfl, K, ((X1.shut e.symm (by rw [e]; exact HB.out)).more (by omega)).mono (fun _ _ h => .inl h), fun b h => .inl h, C3⟩
set_option maxHeartbeats 4000000 in
set_option maxRecDepth 100000 in
theorem sdel_nil {w : World} {K D F V : Nat → Prop} {g m n N : Nat} {Q : List (List KV)} {jv : Value} {oj : Option Nat} {W : List Ents} {kv : Value} {k : List Int} (hX : SX w K D F V g m Q jv [] oj n N) (hB : Back ([].reverse.map Jr.U) W Q.flatten) (hk : BK w K kv k) (hn : n ≤ 4000000000000000000) (hN : N + 2 ≤ 100000000) (hr : (look Q.flatten k).isSome = true) :
    Calls Try.prog 20 #[.pointer (some ⟨g, 0, none⟩), kv] w (Ends w K D g (rem Q.flatten k) W (n + 1) (N + 2) (.bool true)) := by
  obtain ⟨ao, c, rfl⟩ := hk.shape
  have u := xcount hX hn
  have HX := hid3 hX
  have HB := hid3 hB
  have HK := hid3 hk
  have hN' : N ≤ 99999998 := by omega
  replace hN : N ≤ 100000000 := by omega
  clear hX hB hk
  obtain ⟨kn, hkn⟩ : ∃ kn, Hid (k.length = kn) := ⟨_, rfl⟩
  rw [hkn.out] at HK ⊢
  go_enter Try.func20, Try.ntmps20
  go_wp2_with first
    | (go_at_call 45; go_must (refine u.mono ?_); rintro e w1 ⟨rfl, X1, C1⟩; have uh := xholds X1 (HK.out _ (HX.out.kg C1)) hN; rw [hr] at uh)
    | (go_at_call 48; go_must (refine uh.mono ?_); rintro e w2 ⟨rfl, B2⟩; clear uh; replace X1 := X1.keep B2; have C3 := chgJoin (HX.out.kg C1) (Chg.of B2))
    | (go_at_call 46; go_must (refine (xremember0 X1).mono ?_); rintro e y ⟨rfl, hy⟩; replace hy := hy.symm; subst hy; have c0 := X1.blk.cell (i := 0) rfl; have us := mdel X1.map (HK.out _ C3) (by omega); rw [look_has X1.map.ord, hr] at us)
    | (go_at_call 49; go_must (refine us.mono ?_); rintro e w4 ⟨rfl, F', M', hF, hC⟩)
  go_ret
  have X3 := X1.mapped (N' := N) (by have := X1.tot; have := rem_len (E := Q.flatten) k; rw [pages_rem X1.map.ord]; omega) M' hF (fun _ h => h) hC
  refine ⟨rfl, _, ((X3.shut (E := rem Q.flatten k) (W := W) (pages_rem X1.map.ord k) (back_nil HB.out)).more (by omega)).mono (fun b _ hb => ?_), fun b hb => ?_, ?_⟩
  · exact .inl hb
  · rcases hb with ⟨hb, _⟩ | hb
    · exact .inl hb
    · rcases hF b hb with h1 | h1
      · exact .inl (X1.own.map b h1)
      · exact .inr (by have := C3.size; omega)
  · exact chgJoin C3 (hC.mono (fun b _ h => X1.own.map b h))
set_option maxHeartbeats 4000000 in
set_option maxRecDepth 100000 in
theorem sdel_jrn {w : World} {K D F V : Nat → Prop} {g m n N : Nat} {Q : List (List KV)} {jv : Value} {T0 : List Jr} {j : Jr} {oj : Option Nat} {W : List Ents} {kv : Value} {k : List Int} (hX : SX w K D F V g m Q jv (T0 ++ [j]) oj n N) (hB : Back ((T0 ++ [j]).reverse.map Jr.U) W Q.flatten) (hk : BK w K kv k) (hn : n ≤ 4000000000000000000) (hN : N + 2 ≤ 100000000) (hkl : k.length ≤ 1000000000) (hr : (look Q.flatten k).isSome = true) :
    Calls Try.prog 20 #[.pointer (some ⟨g, 0, none⟩), kv] w (Ends w K D g (rem Q.flatten k) W (n + 1) (N + 2) (.bool true)) := by
  obtain ⟨ao, c, rfl⟩ := hk.shape
  have u := xcount hX hn
  have HX := hid3 hX
  have HB := hid3 hB
  have HK := hid3 hk
  replace hkl := hid3 hkl
  have hN' : N ≤ 99999998 := by omega
  replace hN : N ≤ 100000000 := by omega
  clear hX hB hk
  obtain ⟨kn, hkn⟩ : ∃ kn, Hid (k.length = kn) := ⟨_, rfl⟩
  rw [hkn.out] at HK ⊢
  go_enter Try.func20, Try.ntmps20
  go_wp2_with first
    | (go_at_call 45; go_must (refine u.mono ?_); rintro e w1 ⟨rfl, X1, C1⟩; have uh := xholds X1 (HK.out _ (HX.out.kg C1)) hN; rw [hr] at uh)
    | (go_at_call 48; go_must (refine uh.mono ?_); rintro e w2 ⟨rfl, B2⟩; clear uh; replace X1 := X1.keep B2; have C3 := chgJoin (HX.out.kg C1) (Chg.of B2))
    | (go_at_call 46; go_must (refine (xremember X1 (HK.out _ C3) (by have := hkl.out; omega) hN).mono ?_); rintro e w3 ⟨rfl, K2, V2, j', hj', X2, hK2, C2⟩; have C4 := chgJoin C3 C2; have c0 := X2.blk.cell (i := 0) rfl; have us := mdel X2.map (HK.out _ C4) (by omega); rw [look_has X2.map.ord, hr] at us)
    | (go_at_call 49; go_must (refine us.mono ?_); rintro e w4 ⟨rfl, F', M', hF, hC⟩)
  go_ret
  have X3 := X2.mapped (N' := N + 1) (by have := X2.tot; have := rem_len (E := Q.flatten) k; rw [pages_rem X2.map.ord]; omega) M' hF (fun _ h => h) hC
  refine ⟨rfl, _, ((X3.shut (E := rem Q.flatten k) (W := W) (pages_rem X2.map.ord k) (back_push HB.out hj' (undo_rem HX.out.map.ord.flat k))).more (by omega)).mono (fun b _ hb => ?_), fun b hb => ?_, ?_⟩
  · rcases hb with hb | hb
    · exact .inl hb
    · exact .inr (by have := C3.size; omega)
  · rcases hb with ⟨hb, _⟩ | hb
    · exact (hK2 b hb).imp id (fun h => by have := C3.size; omega)
    · rcases hF b hb with h1 | h1
      · exact (hK2 b (X2.own.map b h1)).imp id (fun h => by have := C3.size; omega)
      · exact .inr (by have := C4.size; omega)
  · exact C4.trans hC (fun b hb h => (hK2 b (X2.own.map b h)).elim id (fun h => by have := C3.size; omega))
theorem sdel {w : World} {K D : Nat → Prop} {g n N : Nat} {E : Ents} {W : List Ents} {kv : Value} {k : List Int} (h : SA w K D g E W n N) (hk : BK w K kv k) (hkl : k.length ≤ 1000000000) (hn : n ≤ 4000000000000000000) (hN : N + 2 ≤ 100000000) :
    Calls Try.prog 20 #[.pointer (some ⟨g, 0, none⟩), kv] w (Ends w K D g (rem E k) W (n + 1) (N + 2) (.bool (look E k).isSome)) := by
  obtain ⟨F, V, m, Q, jv, T, oj, hX, rfl, hB⟩ := h.open
  cases hr : (look Q.flatten k).isSome with
  | false => exact sdel_no hX hB hk hn hN hr
  | true =>
    rcases List.eq_nil_or_concat T with rfl | ⟨T0, j, rfl⟩
    · exact sdel_nil hX hB hk hn hN hr
    · rw [List.concat_eq_append] at hX hB
      exact sdel_jrn hX hB hk hn hN hkl hr
set_option maxHeartbeats 2000000 in
set_option maxRecDepth 100000 in
theorem scopy {w : World} {K D : Nat → Prop} {g n N : Nat} {E : Ents} {W : List Ents} (h : SA w K D g E W n N) (hN : N ≤ 100000000) :
    Calls Try.prog 12 #[.pointer (some ⟨g, 0, none⟩)] w fun e w' => ∃ g' K', e = .returned (.pointer (some ⟨g', 0, none⟩)) ∧ SA w' K' D g' E [] 0 N ∧ (∀ b, K' b → w.heap.size ≤ b) ∧ Below w.heap.size w w' := by
  obtain ⟨F, V, m, Q, jv, T, oj, hX, rfl, hB⟩ := h.open
  have u := mcopy hX.map hN
  have c0 := hX.blk.cell (i := 0) rfl
  clear hX hB h
  go_enter Try.func12, Try.ntmps12
  go_wp2_with (go_at_call 31; refine u.mono ?_; rintro e w1 ⟨g', F', rfl, M, hF, B⟩)
  go_ret
  have al := below_alloc w1 (.cells #[.pointer (some ⟨g', 0, none⟩), .slice none 0 0, .int .i64 0] 67)
  have bl := blk_new w1 [.pointer (some ⟨g', 0, none⟩), .slice none 0 0, .int .i64 0] 67
  have M2 := M.keep al
  refine ⟨w1.heap.size, fun b => F' b ∨ b = w1.heap.size, rfl, ⟨_, fun _ => False, _, _, _, [], none, bl, M2, rfl, ⟨.inl ⟨rfl, rfl, rfl⟩, fun _ h => by simp at h, List.nodup_nil⟩, trivial, by have := M.len; simp only [tot, List.map_nil, List.sum_nil]; omega, by decide, ?_⟩, fun b hb => hb.elim (hF b) (fun e => by have := B.size; omega), joinB B al⟩
  refine ⟨.inr rfl, fun b hb => .inl hb, fun _ h => h.elim, (fun _ h => by cases h), (fun _ h => by simp at h), fun b hb => ?_, (fun h => by have := M.lt h; omega), fun _ h => h.elim, (fun _ h => by cases h), (fun _ h => by simp at h), fun _ h => h.elim⟩
  rcases hb with hb | rfl
  · obtain ⟨L, _, A, _⟩ := M2.ex
    exact A.kind _ hb
  · exact ⟨_, _, bl, by decide⟩
end Kv
end Go.Proofs.Ytplminnejheceaa

namespace Go.Proofs.Ytplminnejheceaa
namespace Kv
open Go.RowKit Go.Lib Pg
attribute [local go_sem] Oper.semAt_some
/-- the list of journals is turned -/
theorem SX.rows {w w2 : World} {K D F V : Nat → Prop} {g m : Nat} {Q : List (List KV)} {jv jv' : Value} {T T' : List Jr} {oj oj' : Option Nat} {n N : Nat} (h : SX w K D F V g m Q jv T oj n N) (hb : Blk w2 g [.pointer (some ⟨m, 0, none⟩), jv', .int .i64 n] 67) (hc : Chg (fun b => oj = some b ∨ b = g) w w2)
    (hrow : (oj' = none ∧ jv' = .slice none 0 0 ∧ T' = []) ∨ ∃ b c, oj' = some b ∧ jv' = .slice (some ⟨b, 0, none⟩) T'.length c ∧ Rw w2 77 1 b T'.length c (T'.map Jr.v)) (hT : ∀ j ∈ T', j ∈ T ∨ (j.U = [] ∧ j.v = .slice none 0 0 ∧ j.o = none)) (hap : (T'.filterMap Jr.o).Nodup) (ho : ∀ b, oj' = some b → oj = some b ∨ w.heap.size ≤ b) (ht : Kv.tot T' + Q.flatten.length ≤ N) (hl : T'.length ≤ 16) :
    SX w2 (fun b => (K b ∧ ¬ oj = some b) ∨ oj' = some b) D F V g m Q jv' T' oj' n N ∧ ∀ j ∈ T, JrA w2 V D g j := by
  have hx : ∀ b cs t, Blk w b cs t → t ≠ 67 → t ≠ 77 → w2.heap[b]? = w.heap[b]? := fun b cs t k h1 h2 => hc.same b k.lt (fun e => by
    rcases e with e | e
    · obtain ⟨cs', k'⟩ := h.jn.kind e
      exact h2 (k.eq k').2
    · subst e
      exact h1 (k.eq h.blk).2)
  have hnF : ∀ b, (oj = some b ∨ b = g) → ¬ F b := fun b e => e.elim (h.own.njrn b) (fun e => by subst e; exact h.own.ntop)
  have hst : Stay V D w w2 := ⟨fun b cs t _ k ht => hx b cs t k (by rcases ht with e | e <;> subst e <;> decide) (by rcases ht with e | e <;> subst e <;> decide), fun b _ _ k => by obtain ⟨cs, k⟩ := k; exact hx b cs _ k (by decide) (by decide)⟩
  have hJ : ∀ j ∈ T, JrA w2 V D g j := fun j hj => (h.jn.each j hj).stay hst (fun b e => by obtain ⟨cs, k⟩ := (h.jn.each j hj).kind e; exact hx b cs _ k (by decide) (by decide))
  have nj : ∀ b cs t, Blk w b cs t → t ≠ 77 → ¬ oj = some b := fun b cs t k h1 e => by
    obtain ⟨cs', k'⟩ := h.jn.kind e
    exact h1 (k.eq k').2
  have hTo : ∀ j ∈ T', ∀ b, j.o = some b → j ∈ T := fun j hj b e => (hT j hj).elim id (fun h => by rw [h.2.2] at e; cases e)
  refine ⟨⟨hb, h.map.same (fun b hF => hc.same b (h.map.lt hF) (fun e => hnF b e hF)) (fun b _ _ k => by obtain ⟨cs, k⟩ := k; exact hx b cs _ k (by decide) (by decide)), ⟨hrow, fun j hj => ?_, hap⟩, ht, hl, ?_⟩, hJ⟩
  · rcases hT j hj with h0 | ⟨h1, h2, h3⟩
    · exact hJ j h0
    · exact ⟨[], by rw [h1]; exact CloL.nil _ _ _ _, .inl ⟨h3, h2, h1⟩⟩
  · refine ⟨.inl ⟨h.own.top, nj g _ _ h.blk (by decide)⟩, fun b hb => .inl ⟨h.own.map b hb, fun e => h.own.njrn b e hb⟩, fun b hb => ?_, fun b hb => .inr hb, fun j hj b e => ?_, fun b hb => ?_, h.own.ntop, h.own.nvar, fun b e => ?_, fun j hj b e => h.own.nbck j (hTo j hj b e) b e, fun b hv => by
      obtain ⟨cs, t, k, ht⟩ := h.own.vk b hv
      exact ⟨cs, t, k.same (hst.var b cs t hv k ht), ht⟩⟩
    · obtain ⟨cs, t, k, ht⟩ := h.own.vk b hb
      exact .inl ⟨h.own.var b hb, nj b cs t k (by rcases ht with e | e <;> subst e <;> decide)⟩
    · have hj' := hTo j hj b e
      obtain ⟨cs, k⟩ := (h.jn.each j hj').kind e
      exact .inl ⟨h.own.bck j hj' b e, nj b cs _ k (by decide)⟩
    · rcases hb with ⟨hK, hn⟩ | hb'
      · by_cases e : b = g
        · subst e; exact ⟨_, _, hb, by decide⟩
        · obtain ⟨cs, t, k, ht⟩ := h.own.kind b hK
          exact ⟨cs, t, k.chg hc (fun e2 => e2.elim hn e), ht⟩
      · rcases hrow with ⟨e, _⟩ | ⟨b', c, e, _, hR⟩
        · rw [hb'] at e; cases e
        · rw [hb'] at e; cases e
          obtain ⟨cs, k⟩ := hR.kind
          exact ⟨cs, _, k, by decide⟩
    · rcases ho b e with h1 | h1
      · exact h.own.njrn b h1
      · intro hF; have := h.map.lt hF; omega
/-- a journal more -/
theorem app_jrn {w : World} {V D : Nat → Prop} {g : Nat} {jv : Value} {T : List Jr} {oj : Option Nat} (h : JnA w V D g jv T oj) (hl : T.length ≤ 16) {a : Addr} (ha : w.cell? (a.add 0) = some (.slice none 0 0)) :
    ∃ jb c' w', (Builtin.append_ #[60, 60] 60 #[jv, .slice (some a) 1 1]).run Try.prog w = .ok (.slice (some ⟨jb, 0, none⟩) (T.length + 1) c') w' ∧ (oj = some jb ∨ jb = w.heap.size) ∧ Rw w' 77 1 jb (T.length + 1) c' (T.map Jr.v ++ [.slice none 0 0]) ∧ Chg (fun b => oj = some b) w w' := by
  have hcell : ∀ j u, [Value.slice none 0 0][j]? = some u → w.cell? (a.add j) = some u := fun j u hj => by
    have : j = 0 := by have := (List.getElem?_eq_some_iff.1 hj).1; simp at this; omega
    subst this
    simp at hj; subst hj; exact ha
  rcases h.row with ⟨e1, e2, e3⟩ | ⟨b, c, e1, e2, hR⟩
  · subst e3
    obtain ⟨c', W, h1, hR', hB⟩ := app_nil (w := w) KJ 60 a 1 1 [.slice none 0 0] rfl hcell (by decide) (by decide) (by decide)
    exact ⟨_, c', W, by rw [e2]; exact h1, .inr rfl, hR', Chg.of hB⟩
  · obtain ⟨b', c', W, h1, hb', hR', hCh⟩ := app_row KJ 60 hR a 1 1 [.slice none 0 0] rfl hcell (fun v hv => by simp at hv; subst hv; rfl) (by omega) (by omega)
    exact ⟨b', c', W, by rw [e2]; exact h1, hb'.imp (fun e => by rw [e1, e]) id, hR', hCh.mono (fun x _ e => by have e' : x = b := e; rw [e1, e'])⟩
set_option maxHeartbeats 2000000 in
set_option maxRecDepth 100000 in
theorem sbegin_full {w : World} {K D : Nat → Prop} {g n N : Nat} {E : Ents} {W : List Ents} (h : SA w K D g E W n N) (hW : W.length = 16) :
    Calls Try.prog 19 #[.pointer (some ⟨g, 0, none⟩)] w fun e w' => e = .returned (.int .i64 62) ∧ w' = w := by
  have u := sdepth h
  rw [hW] at u
  clear h hW
  go_enter Try.func19, Try.ntmps19
  go_wp2_with (go_at_call 16; go_must (refine u.mono ?_); rintro e y ⟨rfl, hy⟩; replace hy := hy.symm; subst hy)
  go_ret
  exact ⟨rfl, rfl⟩
set_option maxHeartbeats 2000000 in
set_option maxRecDepth 100000 in
theorem sbegin_ok {w : World} {K D : Nat → Prop} {g n N : Nat} {E : Ents} {W : List Ents} (h : SA w K D g E W n N) (hW : ¬ W.length = 16) :
    Calls Try.prog 19 #[.pointer (some ⟨g, 0, none⟩)] w (Ends w K D g E (E :: W) n N (.int .i64 0)) := by
  have u := sdepth h
  have hWl : W.length ≤ 16 := h.depth
  obtain ⟨F, V, m, Q, jv, T, oj, hX, rfl, hB⟩ := h.open
  have hTl : T.length = W.length := by have := hB.len; simp at this; exact this
  have al := below_alloc w (.cells #[.slice none 0 0] 77)
  have bl := blk_new w [.slice none 0 0] 77
  have X1 := hX.keep al
  obtain ⟨jb, c', w2, hr, hjb, hR, hC⟩ := app_jrn X1.jn X1.len (a := ⟨w.heap.size, 0, none⟩) (bl.cell (i := 0) rfl)
  have hg : ¬ oj = some g := fun e => by
    obtain ⟨cs, k⟩ := X1.jn.kind e
    exact absurd (X1.blk.eq k).2 (by decide)
  have bg := X1.blk.chg hC hg
  have c1 := hX.blk.cell (i := 1) rfl
  have f1 := bg.free 1
  have cg1 := bg.cell (i := 1) rfl
  obtain ⟨a1, c2, hjv⟩ := hX.jn.shape
  have FIN : Hid (∃ K', SA (w2.setCell ⟨g, 1, none⟩ (.slice (some ⟨jb, 0, none⟩) (T.length + 1) c')) K' (fun b => D b ∨ w.heap.size ≤ b) g Q.flatten (Q.flatten :: W) n N ∧ (∀ b, K' b → K b ∨ w.heap.size ≤ b) ∧ Chg K w (w2.setCell ⟨g, 1, none⟩ (.slice (some ⟨jb, 0, none⟩) (T.length + 1) c'))) := by
    have hC2 : Chg (fun b => oj = some b ∨ b = g) (w.alloc (.cells #[.slice none 0 0] 77)) (w2.setCell ⟨g, 1, none⟩ (.slice (some ⟨jb, 0, none⟩) (T.length + 1) c')) := (hC.mono (fun b _ e => .inl e)).cell (.inl (.inr rfl)) _
    have hjg : jb ≠ g := fun e => by
      subst e
      obtain ⟨cs, k⟩ := hR.kind
      exact absurd (bg.eq k).2 (by decide)
    have S := (X1.rows (jv' := .slice (some ⟨jb, 0, none⟩) (T.length + 1) c') (T' := T ++ [⟨[], .slice none 0 0, none⟩]) (oj' := some jb) (bg.setCell (i := 1) _) hC2 (.inr ⟨jb, c', rfl, by simp, by
      have := hR.same (w' := w2.setCell ⟨g, 1, none⟩ (.slice (some ⟨jb, 0, none⟩) (T.length + 1) c')) (Below.heap_setCell _ _ _ _ hjg)
      simpa using this⟩) (fun j hj => by
        rcases List.mem_append.1 hj with h | h
        · exact .inl h
        · simp at h; subst h; exact .inr ⟨rfl, rfl, rfl⟩) (by rw [fm_snoc]; simpa using X1.jn.apart) (fun b e => by cases e; exact hjb.imp id (fun e => by omega)) (by rw [tot_snoc]; simpa using X1.tot) (by simp; omega)).1
    refine ⟨_, (S.shut rfl (W := Q.flatten :: W) ?_).mono (fun _ _ h => .inl h), fun b hb => ?_, ?_⟩
    · rw [List.reverse_append]
      simp only [List.reverse_cons, List.reverse_nil, List.nil_append, List.cons_append, List.map_cons]
      exact ⟨rfl, hB⟩
    · rcases hb with ⟨h1, _⟩ | h1
      · exact .inl h1
      · cases h1
        rcases hjb with e | e
        · exact .inl (hX.own.jrn _ e)
        · exact .inr (by have := al.size; omega)
    · exact (Chg.of (F := K) al).trans hC2 (fun b _ e => e.elim (hX.own.jrn b) (fun e => by subst e; exact hX.own.top))
  subst hjv
  rw [hTl] at c1 cg1 hr FIN
  have hW2 : ¬ ((W.length : Int) = 16) := by omega
  clear hX X1 hB h hR hC bg hjb hg bl
  obtain ⟨q, hq⟩ : ∃ q, W.length = q := ⟨_, rfl⟩
  rw [hq] at u c1 cg1 hr FIN hW2 hWl
  clear hq hTl hW
  go_enter Try.func19, Try.ntmps19
  go_wp2_with first
    | (go_at_call 16; go_must (refine u.mono ?_); rintro e y ⟨rfl, hy⟩; replace hy := hy.symm; subst hy)
    | (at_builtin; refine Lib.wpList_append_run _ rfl _ _ _ _ rfl _ _ rfl rfl _ _ hr ?_)
  go_ret
  exact ⟨rfl, FIN.out⟩
end Kv
end Go.Proofs.Ytplminnejheceaa

namespace Go.Proofs.Ytplminnejheceaa
namespace Kv
open Go.RowKit Go.Lib Pg
attribute [local go_sem] Oper.semAt_some
theorem kres_cell {fn : Func} {p : Tmp} {ty : TypeId} (h : fn.results = #[.cell p ty]) {tmps : Array Value} {w : World} {g : Nat} {v : Value} (hp : tmps.getD p undef = .pointer (some ⟨g, 0, none⟩)) (hl : (loadVar ty ⟨g, 0, none⟩).run Try.prog w = .ok v w) : (results fn tmps).run Try.prog w = .ok v w := by
  have hp' : tmps[p]?.getD undef = .pointer (some ⟨g, 0, none⟩) := by simpa using hp
  simp [results, h, hp', asAddr, hl]
theorem ld_jn {w : World} {g o : Nat} {v : Value} (c : w.cell? ⟨g, o, none⟩ = some v) : (loadVar 77 ⟨g, o, none⟩).run Try.prog w = .ok (.agg #[v]) w := by
  go_simp
theorem jr_shape {w : World} {V D : Nat → Prop} {g : Nat} {j : Jr} (h : JrA w V D g j) : ∃ a n c, j.v = .slice a n c := by
  obtain ⟨cs, _, ⟨_, e, _⟩ | ⟨b, c, _, e, _⟩⟩ := h
  · exact ⟨_, _, _, e⟩
  · exact ⟨_, _, _, e⟩
theorem SX.same {w w' : World} {K D F V : Nat → Prop} {g m : Nat} {Q : List (List KV)} {jv : Value} {T : List Jr} {oj : Option Nat} {n N : Nat} (h : SX w K D F V g m Q jv T oj n N) (h1 : ∀ b, K b → w'.heap[b]? = w.heap[b]?) (h2 : ∀ b, b < w.heap.size → D b → (∃ cs, Blk w b cs 5) → w'.heap[b]? = w.heap[b]?) : SX w' K D F V g m Q jv T oj n N :=
  ⟨h.blk.same (h1 g h.own.top), h.map.same (fun b hF => h1 b (h.own.map b hF)) h2, h.jn.stay ⟨fun b _ _ hv _ _ => h1 b (h.own.var b hv), h2⟩ (fun b e => h1 b (h.own.jrn b e)) (fun j hj b e => h1 b (h.own.bck j hj b e)), h.tot, h.len, h.own.same h1⟩
set_option maxHeartbeats 4000000 in
set_option maxRecDepth 100000 in
theorem xend {w : World} {K D F V : Nat → Prop} {g m : Nat} {Q : List (List KV)} {jv : Value} {T0 : List Jr} {j : Jr} {oj : Option Nat} {n N : Nat} (h : SX w K D F V g m Q jv (T0 ++ [j]) oj n N) :
    Calls Try.prog 51 #[.pointer (some ⟨g, 0, none⟩)] w fun e w' => e = .returned (.agg #[j.v]) ∧ ∃ K' jv', SX w' K' D F V g m Q jv' T0 oj n N ∧ JrA w' V D g j ∧ (∀ b, K' b → K b ∨ w.heap.size ≤ b) ∧ Chg K w w' := by
  obtain ⟨jb, c, rfl, rfl, hR⟩ := h.jn.last
  obtain ⟨a1, n1, c1, hjv⟩ := jr_shape (h.jn.each j (by simp))
  have hlen : T0.length ≤ 15 := by have := h.len; simp at this; omega
  have hle := hR.le
  -- the two variables ahead
  have al0 := below_alloc w (.cells #[.slice none 0 0] 77)
  have s0 : (w.alloc (.cells #[.slice none 0 0] 77)).heap.size = w.heap.size + 1 := by simp
  have cg1 := (h.blk.keep al0).cell (i := 1) rfl
  have cj := (hR.keep al0).cell (i := T0.length) (v := j.v) (by simp)
  rw [hjv] at cj
  have al1 := below_alloc (w.alloc (.cells #[.slice none 0 0] 77)) (.cells #[.slice a1 n1 c1] 77)
  have X2 := (h.keep al0).keep al1
  have R2 := (hR.keep al0).keep al1
  have z0 := (blk_new w [.slice none 0 0] 77).keep al1
  have z1 := blk_new (w.alloc (.cells #[.slice none 0 0] 77)) [.slice a1 n1 c1] 77
  rw [s0] at z1
  have cg2 := X2.blk.cell (i := 1) rfl
  have ud := delJ R2 (i := T0.length) (by omega) (fun v hv => by
    obtain ⟨t, ht, rfl⟩ := List.mem_map.1 hv
    obtain ⟨a, n, c, e⟩ := jr_shape (X2.jn.each t ht)
    rw [e]; rfl)
  rw [show T0.length + 1 - 1 = T0.length by omega] at ud
  have jlt : jb < w.heap.size := hR.lt
  have glt : g < w.heap.size := h.blk.lt
  have hgj : g ≠ jb := fun e => by
    subst e
    obtain ⟨cs, k⟩ := hR.kind
    exact absurd (h.blk.eq k).2 (by decide)
  have HX2 := hid3 X2
  have HZ0 := hid3 z0
  have HZ1 := hid3 z1
  have HAL := hid3 (joinB al0 al1)
  have HX := hid3 h
  have HJV := hid3 hjv
  rw [hjv]
  clear X2 R2 z0 z1 h hR al1 hjv hle
  have hq : (T0.length : Int) ≤ 15 := by omega
  obtain ⟨q, hqq⟩ : ∃ q, Hid (T0.length = q) := ⟨_, rfl⟩
  rw [hqq.out] at cg1 cj cg2 ud hq
  clear hlen
  go_enter Try.func51, Try.ntmps51
  go_wp2_with (go_at_call 69; go_must (refine ud.mono ?_); rintro e w3 ⟨rfl, R3, C3⟩; have bg := HX2.out.blk.chg C3 hgj; have z0 := HZ0.out.chg C3 (by omega); have z1 := HZ1.out.chg C3 (by omega); have d1 := bg.cell (i := 1) rfl; have d2 := bg.free 1; have d3 := z0.cell (i := 0) rfl; have d4 := z0.free 0; have d5 := z1.cell (i := 0) rfl; replace bg := hid3 bg; replace z0 := hid3 z0; replace z1 := hid3 z1; replace R3 := hid3 R3; replace C3 := hid3 C3)
  have hne : w.heap.size ≠ g := by omega
  have b4 := (z0.out.off hne (i := 1) (.slice (some ⟨jb, 0, none⟩) q c)).setCell (i := 0) (.slice a1 n1 c1)
  refine bodyPost_ret (kres_cell rfl rfl (ld_jn (b4.cell (i := 0) rfl))) rfl ?_
  refine ⟨rfl, ?_⟩
  have hC4 : Chg (fun b => some jb = some b ∨ b = g) ((w.alloc (.cells #[.slice none 0 0] 77)).alloc (.cells #[.slice a1 n1 c1] 77)) (w3.setCell ⟨g, 1, none⟩ (.slice (some ⟨jb, 0, none⟩) q c)) := (C3.out.mono (fun b _ e => .inl (by have e' : b = jb := e; rw [e']))).cell (.inl (.inr rfl)) _
  have hR4 := R3.out.same (w' := w3.setCell ⟨g, 1, none⟩ (.slice (some ⟨jb, 0, none⟩) q c)) (Below.heap_setCell _ _ _ _ (fun e => hgj e.symm))
  have hap := HX2.out.jn.apart
  rw [fm_snoc, nodup_snoc] at hap
  obtain ⟨S4, J4⟩ := HX2.out.rows (jv' := .slice (some ⟨jb, 0, none⟩) q c) (T' := T0) (oj' := some jb) (bg.out.setCell (i := 1) _) hC4 (.inr ⟨jb, c, rfl, by rw [hqq.out], by
    rw [hqq.out]
    have e : (List.map Jr.v (T0 ++ [j])).take (q * 1) ++ (List.map Jr.v (T0 ++ [j])).drop ((q + 1) * 1) = T0.map Jr.v := by
      rw [Nat.mul_one, Nat.mul_one, ← hqq.out, List.map_append, List.take_left' (by simp), List.drop_of_length_le (by simp), List.append_nil]
    rw [e] at hR4
    exact hR4⟩) (fun t ht => .inl (List.mem_append_left _ ht)) hap.1 (fun b e => .inl e) (by have := HX2.out.tot; rw [tot_snoc] at this; omega) (by have := HX2.out.len; simp at this; omega)
  have hx : ∀ b, b ≠ w.heap.size → ((w3.setCell ⟨g, 1, none⟩ (.slice (some ⟨jb, 0, none⟩) q c)).setCell ⟨w.heap.size, 0, none⟩ (.slice a1 n1 c1)).heap[b]? = (w3.setCell ⟨g, 1, none⟩ (.slice (some ⟨jb, 0, none⟩) q c)).heap[b]? := fun b hb => Below.heap_setCell _ _ _ _ hb
  have bx := z0.out.off hne (i := 1) (.slice (some ⟨jb, 0, none⟩) q c)
  have hu : ∀ b, (∃ cs, Blk (w3.setCell ⟨g, 1, none⟩ (.slice (some ⟨jb, 0, none⟩) q c)) b cs 5) → b ≠ w.heap.size := fun b hk e => by
    obtain ⟨cs, k⟩ := hk
    subst e
    exact absurd (bx.eq k).2 (by decide)
  have hK : ∀ b, K b → b < w.heap.size := fun b hb => by obtain ⟨cs, t, k, _⟩ := HX.out.own.kind b hb; exact k.lt
  have hKb : ∀ b, ((K b ∧ ¬ some jb = some b) ∨ some jb = some b) → K b := fun b hb => by
    rcases hb with ⟨h1, _⟩ | h1
    · exact h1
    · cases h1; exact HX.out.own.jrn _ rfl
  have hst : Stay V D (w3.setCell ⟨g, 1, none⟩ (.slice (some ⟨jb, 0, none⟩) q c)) ((w3.setCell ⟨g, 1, none⟩ (.slice (some ⟨jb, 0, none⟩) q c)).setCell ⟨w.heap.size, 0, none⟩ (.slice a1 n1 c1)) := ⟨fun b _ _ hv _ _ => hx b (by have := hK b (HX.out.own.var b hv); omega), fun b _ _ k => hx b (hu b k)⟩
  refine ⟨_, _, S4.same (fun b hb => hx b (by have := hK b (hKb b hb); omega)) (fun b _ _ k => hx b (hu b k)), (J4 j (by simp)).stay hst (fun b e => hx b (by have := hK b (HX.out.own.bck j (by simp) b e); omega)), fun b hb => .inl (hKb b hb), ?_⟩
  have h5 := (Chg.of (F := K) HAL.out).trans hC4 (fun b _ e => e.elim (fun e => by cases e; exact HX.out.own.jrn _ rfl) (fun e => by subst e; exact HX.out.own.top))
  exact h5.cell (.inr (Nat.le_refl _)) _
theorem back_merge {T1 : List Jr} {j1 j j' : Jr} {W : List Ents} {E : Ents} (h : Back ((T1 ++ [j1] ++ [j]).reverse.map Jr.U) W E) (hj : j'.U = j1.U ++ j.U) : Back ((T1 ++ [j']).reverse.map Jr.U) W.tail E := by
  rw [List.reverse_append, List.reverse_append] at h
  rw [List.reverse_append]
  simp only [List.reverse_cons, List.reverse_nil, List.nil_append, List.cons_append, List.map_cons] at h ⊢
  match W, h with
  | e2 :: e1 :: W, ⟨h1, h2, h3⟩ => exact ⟨by rw [hj, undos_app, h1]; exact h2, h3⟩
theorem lies_of {w : World} {V D : Nat → Prop} {g : Nat} {j : Jr} (h : JrA w V D g j) : ∃ cs, CloL w V D g j.U cs ∧ Lies w j.v cs := by
  obtain ⟨cs, hC, ⟨e1, e2, e3⟩ | ⟨b, c, e1, e2, hR⟩⟩ := h
  · exact ⟨cs, hC, .inl ⟨e2, List.eq_nil_of_length_eq_zero (by rw [hC.1, e3]; rfl)⟩⟩
  · exact ⟨cs, hC, .inr ⟨_, c, by rw [hC.1]; exact e2, fun i x hx => by rw [Addr.add_lit, Nat.zero_add]; exact hR.cell hx⟩⟩
set_option maxHeartbeats 2000000 in
set_option maxRecDepth 100000 in
theorem xnote0 {w : World} {K D F V : Nat → Prop} {g m : Nat} {Q : List (List KV)} {jv bv : Value} {oj : Option Nat} {n N : Nat} (h : SX w K D F V g m Q jv [] oj n N) :
    Calls Try.prog 50 #[.pointer (some ⟨g, 0, none⟩), bv] w fun e w' => e = .returned (.tuple #[]) ∧ w' = w := by
  have ud := xdepth h
  clear h
  go_enter Try.func50, Try.ntmps50
  go_wp2_with (go_at_call 16; go_must (refine ud.mono ?_); rintro e y ⟨rfl, hy⟩; replace hy := hy.symm; subst hy)
  go_end0
  exact ⟨rfl, rfl⟩
set_option maxHeartbeats 2000000 in
set_option maxRecDepth 100000 in
theorem scommit_no {w : World} {K D : Nat → Prop} {g n N : Nat} {E : Ents} (h : SA w K D g E [] n N) :
    Calls Try.prog 21 #[.pointer (some ⟨g, 0, none⟩)] w fun e w' => e = .returned (.int .i64 62) ∧ w' = w := by
  have u := sdepth h
  clear h
  go_enter Try.func21, Try.ntmps21
  go_wp2_with (go_at_call 16; go_must (refine u.mono ?_); rintro e y ⟨rfl, hy⟩; replace hy := hy.symm; subst hy)
  go_ret
  exact ⟨rfl, rfl⟩
theorem xcommit1 {w : World} {K D F V : Nat → Prop} {g m : Nat} {Q : List (List KV)} {jv bv : Value} {T0 : List Jr} {j : Jr} {oj : Option Nat} {n N : Nat} (h : SX w K D F V g m Q jv T0 oj n N) (hj : JrA w V D g j) (hv : j.v = bv) (ht : Kv.tot T0 + j.U.length + Q.flatten.length ≤ N) (hN : N ≤ 100000000) {W : List Ents} (hB : Back ((T0 ++ [j]).reverse.map Jr.U) W Q.flatten) :
    Calls Try.prog 50 #[.pointer (some ⟨g, 0, none⟩), bv] w fun e w' => e = .returned (.tuple #[]) ∧ ∃ K', SA w' K' D g Q.flatten W.tail n N ∧ (∀ b, K' b → K b ∨ w.heap.size ≤ b) ∧ Chg K w w' := by
  rcases List.eq_nil_or_concat T0 with rfl | ⟨T1, j1, rfl⟩
  · refine (xnote0 h).mono ?_
    rintro e w' ⟨rfl, rfl⟩
    refine ⟨rfl, K, h.shut rfl ?_, fun b => .inl, Chg.refl _ _⟩
    match W, hB with
    | e :: W, ⟨_, h2⟩ => exact back_nil h2
  · rw [List.concat_eq_append] at h hB ht
    obtain ⟨cs, hC, hL⟩ := lies_of hj
    subst hv
    refine (xnote (N' := N) h hC hL (Nat.le_refl _) ht (by omega)).mono ?_
    rintro e w' ⟨rfl, K', j', hj', X, hK, hc⟩
    exact ⟨rfl, K', X.shut rfl (back_merge hB hj'), hK, hc⟩
set_option maxHeartbeats 2000000 in
set_option maxRecDepth 100000 in
theorem scommit_ok {w : World} {K D : Nat → Prop} {g n N : Nat} {E : Ents} {W : List Ents} (h : SA w K D g E W n N) (hW : W ≠ []) (hN : N ≤ 100000000) :
    Calls Try.prog 21 #[.pointer (some ⟨g, 0, none⟩)] w (Ends w K D g E W.tail n N (.int .i64 0)) := by
  have u := sdepth h
  obtain ⟨F, V, m, Q, jv, T, oj, hX, rfl, hB⟩ := h.open
  have hTl : T.length = W.length := by have := hB.len; simp at this; exact this
  rcases List.eq_nil_or_concat T with rfl | ⟨T0, j, rfl⟩
  · exact absurd (List.eq_nil_of_length_eq_zero hTl.symm) hW
  · rw [List.concat_eq_append] at hX hB hTl
    have ue := xend hX
    have ht : Kv.tot T0 + j.U.length + Q.flatten.length ≤ N := by have := hX.tot; rw [tot_snoc] at this; exact this
    obtain ⟨a1, n1, c1, hjv⟩ := jr_shape (hX.jn.each j (by simp))
    rw [hjv] at ue
    have HJ := hid3 hjv
    have HB := hid3 hB
    have HT := hid3 ht
    have hW2 : ¬ ((W.length : Int) = 0) := by have := List.length_pos_iff.2 hW; omega
    clear hX hB h hTl hW hjv ht
    obtain ⟨q, hq⟩ : ∃ q, W.length = q := ⟨_, rfl⟩
    rw [hq] at u hW2
    clear hq
    have hfld : ∀ w, (Instr.field 77 (.agg #[.slice a1 n1 c1]) 0).run Try.prog w = .ok (.slice a1 n1 c1) w := fun w => by kernel_rfl
    go_enter Try.func21, Try.ntmps21
    go_wp2_with first
      | (go_at_call 16; go_must (refine u.mono ?_); rintro e y ⟨rfl, hy⟩; replace hy := hy.symm; subst hy)
      | (go_at_call 51; go_must (refine ue.mono ?_); rintro e w1 ⟨rfl, K1, jv1, X1, J1, hK1, C1⟩)
      | (go_at_call 50; go_must (refine (xcommit1 X1 J1 HJ.out HT.out hN HB.out).mono ?_); rintro e w2 ⟨rfl, K2, S2, hK2, C2⟩)
    go_ret
    refine ⟨rfl, K2, S2.mono (fun _ _ h => .inl h), fun b hb => ?_, C1.trans C2 (fun b hb e => (hK1 b e).elim id (fun h => by omega))⟩
    rcases hK2 b hb with h1 | h1
    · exact hK1 b h1
    · exact .inr (by have := C1.size; omega)
end Kv
end Go.Proofs.Ytplminnejheceaa

namespace Go.Proofs.Ytplminnejheceaa
namespace Kv
open Go.RowKit Go.Lib Pg
attribute [local go_sem] Oper.semAt_some
def ArBF (Q : List Value) (i : Nat) (args : Array Value) (_ : Nat) (_ : World) : Prop := ∃ p j, j + 1 + i = Q.length ∧ Q[j]? = some p ∧ args = #[.int .i64 (j : Int), p]
set_option maxHeartbeats 4000000 in
set_option maxRecDepth 100000 in
theorem backF_itr {Tp : TypeId → Prop} {bs n c : Nat} {ao : Option Addr} {Q : List Value} {Rd : World → Prop} (hn : Q.length = n) (hbig : n ≤ 1000000000) (hsh : ∀ p ∈ Q, ∃ f cap, p = .func (.func f) #[] cap)
    (hb : ∀ V, Rd V → V.cell? ⟨bs, 0, none⟩ = some (.slice ao n c) ∧ ∀ j p, Q[j]? = some p → ∃ b o, ao = some ⟨b, o, none⟩ ∧ V.cell? ⟨b, o + j, none⟩ = some p) :
    Itr Tp 70 #[.pointer (some ⟨bs, 0, none⟩)] n (ArBF Q) Rd := by
  intro l J Jx W hJ hJx hRd hY h0
  have cb := (hb W (hRd 0 W h0)).1
  have hb : Hid _ := hb
  have hn : Hid _ := hn
  replace hsh := hid3 hsh
  have w0 : IntKind.i64.wrap ((n : Int) - 1) = (n : Int) - 1 := by rw [IntKind.wrap_i64]; omega
  refine (callsIn_wide (n := 0)).1 ?_
  refine callsIn_of_wp Try.func70 rfl trivial ?_ rfl
  simp only [Try.ntmps70, List.size_toArray, List.length_cons, List.length_nil, Nat.reduceAdd, Nat.reduceSub, Array.replicate_succ, Array.replicate_zero, List.push_toArray, List.append_toArray, List.nil_append, List.cons_append]
  gi_wp2
  gi_loopw [3] (fun ti wr => ∃ i : Nat, i ≤ n ∧ ti = .int .i64 ((n : Int) - 1 - (i : Int)) ∧ W.heap.size ≤ wr.heap.size ∧ J i wr) (fun ti _ => (intOf ti + 1).toNat)
  case atStart => exact ⟨0, Nat.zero_le _, by simp, Nat.le_refl _, h0⟩
  case round =>
    clear cb
    obtain ⟨i, hi, rfl, hsz, hJi⟩ := hrel
    obtain ⟨cb, hat⟩ := hb.out wr (hRd _ _ hJi)
    by_cases hlt : i < n
    · obtain ⟨j, hj⟩ : ∃ j, j + 1 + i = n := ⟨n - 1 - i, by omega⟩
      obtain ⟨p, hp⟩ : ∃ p, Q[j]? = some p := ⟨Q[j]'(by have := hn.out; omega), List.getElem?_eq_getElem _⟩
      obtain ⟨b, o, rfl, cP⟩ := hat j p hp
      obtain ⟨f, cap, rfl⟩ := hsh.out p (List.mem_of_getElem? hp)
      have ej : (n : Int) - 1 - (i : Int) = (j : Int) := by omega
      have HI : Hid (j + 1 + i = n) := hj
      have hY1 := hY i _ wr wr hlt hJi hsz (Below.refl _ _) ⟨_, j, by rw [hn.out]; exact hj, hp, rfl⟩
      obtain ⟨fn, tmps, assign, body, hy, hR⟩ := hY1
      rw [ej]
      have w1 : IntKind.i64.wrap ((j : Int) - 1) = (j : Int) - 1 := by rw [IntKind.wrap_i64]; omega
      have z1 : (j : Int) < n := by omega
      clear hat ej hj
      gi_wp2
      refine ⟨rfl, hR.mono ?_⟩
      rintro e' W4 ⟨hk4, ⟨rfl, hJ4⟩ | ⟨rfl, hJ4⟩⟩
      · gi_wp2
        go_roundw
        case rel => exact ⟨i + 1, by omega, by have := HI.out; congr 1; omega, Nat.le_trans hsz hk4.size, hJ4⟩
        case measure => simp [intOf]
      · gi_wp2
        refine bodyPost_ret (results_none rfl _ _ _) rfl ?_
        exact ⟨⟨_, rfl⟩, Nat.le_trans hsz hk4.size, .inr ⟨i, hlt, hJ4⟩⟩
    · have hin : i = n := by omega
      have ej : (n : Int) - 1 - (i : Int) = -1 := by omega
      rw [ej]
      have HJ : Hid (J n wr) := by show J n wr; rw [← hin]; exact hJi
      clear hat ej hin hJi
      gi_wp2
      go_end0
      exact ⟨⟨_, rfl⟩, hsz, .inl HJ.out⟩
set_option maxHeartbeats 1000000 in
set_option maxRecDepth 100000 in
theorem backF_mk {w : World} {ao : Option Addr} {n c : Nat} : Calls Try.prog 52 #[.slice ao n c] w fun e w' => e = .returned (.func (.func 70) #[] #[.pointer (some ⟨w.heap.size, 0, none⟩)]) ∧ Blk w' w.heap.size [.slice ao n c] 75 ∧ Below w.heap.size w w' := by
  go_enter Try.func52, Try.ntmps52
  go_wp2
  go_ret
  exact ⟨rfl, blk_new w _ _, below_alloc w _⟩
end Kv
end Go.Proofs.Ytplminnejheceaa

namespace Go.Proofs.Ytplminnejheceaa
namespace Kv
open Go.RowKit Go.Lib Pg
attribute [local go_sem] Oper.semAt_some
/-- where the closures of a journal lie -/
def RowC (w : World) (F : Nat → Prop) (v : Value) (cs : List Value) : Prop := (v = .slice none 0 0 ∧ cs = []) ∨ ∃ b c, v = .slice (some ⟨b, 0, none⟩) cs.length c ∧ Rw w 1 1 b cs.length c cs ∧ ¬ F b
/-- behind i rounds of Rollback -/
structure RbI (w w2 : World) (K D F V : Nat → Prop) (g m : Nat) (Q : List (List KV)) (jv : Value) (T0 : List Jr) (oj : Option Nat) (n N : Nat) (j : Jr) (cs : List Value) (bs i : Nat) (X : World) : Prop where
  ex : ∃ K' D' F' Q', SX X K' D' F' V g m Q' jv T0 oj n N ∧ CloL X V D' g j.U cs ∧ RowC X F' j.v cs ∧ Blk X bs [j.v] 75 ∧ Q'.flatten = undos (j.U.drop (j.U.length - i)) Q.flatten ∧ Kv.tot T0 + Q'.flatten.length + (j.U.length - i) ≤ N ∧ (∀ b, K' b → K b ∨ w.heap.size ≤ b) ∧ (∀ b, D' b → D b ∨ w.heap.size ≤ b) ∧ (∀ b, F' b → F b ∨ w2.heap.size ≤ b) ∧ Chg K w X ∧ w2.heap.size ≤ X.heap.size
theorem SX.rcd {w w' : World} {B : Nat} {K D F V : Nat → Prop} {g m : Nat} {Q : List (List KV)} {jv : Value} {T : List Jr} {oj : Option Nat} {n N : Nat} (h : SX w K D F V g m Q jv T oj n N) (hr : Rec B w w') : SX w' K D F V g m Q jv T oj n N :=
  h.same (fun b hb => by obtain ⟨cs, t, k, _⟩ := h.own.kind b hb; rw [(hr.blk k).blk, k.blk]) (fun b _ _ hk => by obtain ⟨cs, k⟩ := hk; rw [(hr.blk k).blk, k.blk])
theorem CloL.rcd {w w' : World} {B : Nat} {V D : Nat → Prop} {g : Nat} {U : List Und} {cs : List Value} (h : CloL w V D g U cs) (hr : Rec B w w') : CloL w' V D g U cs :=
  h.stay ⟨fun b _ _ _ k _ => by rw [(hr.blk k).blk, k.blk], fun b _ _ hk => by obtain ⟨cs, k⟩ := hk; rw [(hr.blk k).blk, k.blk]⟩
theorem Rw.rcd {w w' : World} {B : Nat} {E : TypeId} {k b n c : Nat} {xs : List Value} (h : Rw w E k b n c xs) (hr : Rec B w w') : Rw w' E k b n c xs := by
  obtain ⟨cs, hk⟩ := h.kind
  exact h.same (by rw [(hr.blk hk).blk, hk.blk])
theorem chg_rcd {w w1 w' : World} {B : Nat} {K : Nat → Prop} (h : Chg K w w1) (hr : Rec B w1 w') (hB : w.heap.size ≤ B) : Chg K w w' :=
  ⟨hr.os.trans h.os, hr.tape.trans h.tape, hr.output.trans h.output, Nat.le_trans h.size hr.size, fun b hb hk => by
    have e := h.same b hb hk
    rw [← e]
    have hlt : b < w1.heap.size := Nat.lt_of_lt_of_le hb h.size
    rw [Array.getElem?_eq_getElem hlt]
    exact hr.same b _ (Array.getElem?_eq_getElem hlt) (.inl (by omega))⟩
theorem RbI.rcd {w w2 : World} {K D F V : Nat → Prop} {g m : Nat} {Q : List (List KV)} {jv : Value} {T0 : List Jr} {oj : Option Nat} {n N : Nat} {j : Jr} {cs : List Value} {bs i : Nat} {X Y : World} (h : RbI w w2 K D F V g m Q jv T0 oj n N j cs bs i X) (hr : Rec w2.heap.size X Y) (hw : w.heap.size ≤ w2.heap.size) : RbI w w2 K D F V g m Q jv T0 oj n N j cs bs i Y := by
  obtain ⟨K', D', F', Q', h1, h2, h3, h4, h5, h6, h7, h8, h9, h10, h11⟩ := h.ex
  refine ⟨K', D', F', Q', h1.rcd hr, h2.rcd hr, h3.imp id ?_, hr.blk h4, h5, h6, h7, h8, h9, chg_rcd h10 hr hw, Nat.le_trans h11 hr.size⟩
  rintro ⟨b, c, e, hR, hn⟩
  exact ⟨b, c, e, Rw.rcd hR hr, hn⟩
theorem RbI.keep {w w2 : World} {K D F V : Nat → Prop} {g m : Nat} {Q : List (List KV)} {jv : Value} {T0 : List Jr} {oj : Option Nat} {n N : Nat} {j : Jr} {cs : List Value} {bs i : Nat} {X Y : World} (h : RbI w w2 K D F V g m Q jv T0 oj n N j cs bs i X) (hb : Below X.heap.size X Y) (hw : w.heap.size ≤ w2.heap.size) : RbI w w2 K D F V g m Q jv T0 oj n N j cs bs i Y := h.rcd (Rec.of hb) hw
theorem drop_back {α : Type} {U : List α} {i jj : Nat} {u : α} (hj : jj + 1 + i = U.length) (hu : U[jj]? = some u) : U.drop (U.length - (i + 1)) = u :: U.drop (U.length - i) := by
  have e1 : U.length - (i + 1) = jj := by omega
  have e2 : U.length - i = jj + 1 := by omega
  obtain ⟨hlt, rfl⟩ := List.getElem?_eq_some_iff.1 hu
  rw [e1, e2]
  exact List.drop_eq_getElem_cons hlt
/-- one round -/
theorem RbI.step {w w2 : World} {K D F V : Nat → Prop} {g m : Nat} {Q : List (List KV)} {jv : Value} {T0 : List Jr} {oj : Option Nat} {n N : Nat} {j : Jr} {cs : List Value} {bs i jj : Nat} {X : World} {p : Value} (h : RbI w w2 K D F V g m Q jv T0 oj n N j cs bs i X) (hbs : bs < w2.heap.size) (hbF : ¬ F bs) (hj : jj + 1 + i = cs.length) (hp : cs[jj]? = some p) (hN : N ≤ 100000000) (hw : w.heap.size ≤ w2.heap.size) :
    ∃ f cap, p = .func (.func f) #[] cap ∧ (f = 78 ∨ f = 79) ∧ Calls Try.prog f cap X fun e Y => e = .returned (.tuple #[]) ∧ RbI w w2 K D F V g m Q jv T0 oj n N j cs bs (i + 1) Y ∧ KeepsT (fun t => t ≠ 5) w2.heap.size X Y := by
  obtain ⟨K', D', F', Q', h1, h2, h3, h4, h5, h6, h7, h8, h9, h10, h11⟩ := h.ex
  have hlen := h2.1
  obtain ⟨u, hu⟩ : ∃ u, j.U[jj]? = some u := ⟨j.U[jj]'(by omega), List.getElem?_eq_getElem _⟩
  have hC := h2.2 jj u p hu hp
  obtain ⟨f, cap, e, hcall⟩ := clo_any h1 hC hN (by omega)
  refine ⟨f, cap, e, ?_, hcall.mono ?_⟩
  · obtain ⟨s1, s2, kv, v1, v2, b1, b2, ok, ⟨_, e2⟩ | ⟨s3, vv, x, v3, b3, ov, _, e2⟩⟩ := hC.ex
    · rw [e] at e2; cases e2; exact .inl rfl
    · rw [e] at e2; cases e2; exact .inr rfl
  · rintro e Y ⟨rfl, F2, Q2, S2, hQ2, hF2, hc⟩
    have hFm : ∀ b, F' b → K' b := h1.own.map
    have hst : Stay V D' X Y := ⟨fun b _ _ hv k _ => hc.same b k.lt (h1.own.nvar b hv), fun b hl _ k => hc.same b hl (fun f => by obtain ⟨cs, k⟩ := k; exact h1.map.noU f cs k)⟩
    have hnb : ¬ F' bs := fun hf => (h9 bs hf).elim hbF (fun h => by omega)
    refine ⟨rfl, ⟨_, _, F2, Q2, S2, (h2.stay hst).mono (fun _ h => h) (fun _ _ h => .inl h), ?_, h4.chg hc hnb, ?_, ?_, fun b hb => ?_, fun b hb => ?_, fun b hb => ?_, ?_, ?_⟩, ?_⟩
    · rcases h3 with h | ⟨b, c, e, hR, hn⟩
      · exact .inl h
      · exact .inr ⟨b, c, e, hR.chg hc hn, fun hf => (hF2 b hf).elim hn (fun h => by have := hR.lt; omega)⟩
    · rw [hQ2, h5, drop_back (by omega) hu]; rfl
    · have := undo_len h1.map.ord.flat u
      rw [hQ2]
      have h12 : Q'.flatten.length = Q'.flatten.length := rfl
      omega
    · rcases hb with ⟨hb, _⟩ | hb
      · exact h7 b hb
      · rcases hF2 b hb with h | h
        · exact h7 b (hFm b h)
        · exact .inr (by omega)
    · rcases hb with hb | hb
      · exact h8 b hb
      · exact .inr (by omega)
    · rcases hF2 b hb with h | h
      · exact h9 b h
      · exact .inr (by omega)
    · exact h10.trans hc (fun b hb hf => (h7 b (hFm b hf)).elim id (fun h => by omega))
    · exact Nat.le_trans h11 hc.size
    · refine ⟨hc.size, fun k o _ hk ho => (hc.same k (lt_of_block hk) (fun hf => ?_)).trans hk⟩
      obtain ⟨cs', t, kb, ht⟩ := h1.own.kind k (hFm k hf)
      rw [kb.blk] at hk
      cases hk
      exact ho _ _ _ rfl ht
end Kv
end Go.Proofs.Ytplminnejheceaa

namespace Go.Proofs.Ytplminnejheceaa
namespace Kv
open Go.RowKit Go.Lib Pg
attribute [local go_sem] Oper.semAt_some
set_option maxHeartbeats 2000000 in
set_option maxRecDepth 100000 in
theorem srollback_no {w : World} {K D : Nat → Prop} {g n N : Nat} {E : Ents} (h : SA w K D g E [] n N) :
    Calls Try.prog 22 #[.pointer (some ⟨g, 0, none⟩)] w fun e w' => e = .returned (.int .i64 62) ∧ w' = w := by
  have u := sdepth h
  clear h
  go_enter Try.func22, Try.ntmps22
  go_wp2_with (go_at_call 16; go_must (refine u.mono ?_); rintro e y ⟨rfl, hy⟩; replace hy := hy.symm; subst hy)
  go_ret
  exact ⟨rfl, rfl⟩
set_option maxHeartbeats 4000000 in
set_option maxRecDepth 100000 in
theorem srollback_ok {w : World} {K D : Nat → Prop} {g n N : Nat} {E e0 : Ents} {W : List Ents} (h : SA w K D g E (e0 :: W) n N) (hN : N ≤ 100000000) :
    Calls Try.prog 22 #[.pointer (some ⟨g, 0, none⟩)] w (Ends w K D g e0 W n N (.int .i64 0)) := by
  have u := sdepth h
  obtain ⟨F, V, m, Q, jv, T, oj, hX, rfl, hB⟩ := h.open
  rcases List.eq_nil_or_concat T with rfl | ⟨T0, j, rfl⟩
  · exact hB.elim
  rw [List.concat_eq_append] at hX hB
  have ue := xend hX
  have htot := hX.tot
  rw [tot_snoc] at htot
  rw [List.reverse_append] at hB
  obtain ⟨hB1, hB2⟩ : undos j.U Q.flatten = e0 ∧ Back (T0.reverse.map Jr.U) W e0 := hB
  have hlt0 : ∀ b, K b → b < w.heap.size := fun b hb => by obtain ⟨cs, t, k, _⟩ := hX.own.kind b hb; exact k.lt
  obtain ⟨a1, n1, c1, hjv⟩ := jr_shape (hX.jn.each j (by simp))
  rw [hjv] at ue
  have HV := hid3 hjv
  have HX := hid3 hX
  have H1 := hid3 hB1
  have H2 := hid3 hB2
  have hlW : ¬ (((e0 :: W).length : Int) = 0) := by simp; omega
  clear h hX hjv hB1 hB2
  generalize (e0 :: W).length = q at *
  have hfld : ∀ w, (Instr.field 77 (.agg #[.slice a1 n1 c1]) 0).run Try.prog w = .ok (.slice a1 n1 c1) w := fun w => by kernel_rfl
  refine (callsIn_wide (n := 0)).1 ?_
  refine callsIn_of_wp_marks Try.func22 rfl trivial ?_ rfl
  simp only [Try.ntmps22, List.size_toArray, List.length_cons, List.length_nil, Nat.reduceAdd, Nat.reduceSub, Array.replicate_succ, Array.replicate_zero, List.push_toArray, List.append_toArray, List.nil_append, List.cons_append]
  gi_wp2_with (first
    | (refine ⟨trivial, rfl, ?_⟩; gi_at_call 16; refine (callsIn_wide.2 u).mono ?_; rintro e' y ⟨rfl, hy⟩; replace hy := hy.symm; subst hy)
    | (refine ⟨trivial, rfl, ?_⟩; gi_at_call 51; refine (callsIn_wide.2 ue).mono ?_; rintro e' w1 ⟨rfl, K1, jv1, X1, J1, hK1, C1⟩)
    | (refine ⟨trivial, rfl, ?_⟩; gi_at_call 52; refine (callsIn_wide.2 backF_mk).mono ?_; rintro e' w2 ⟨rfl, hBx, hB2⟩))
  have hs1 : w.heap.size ≤ w1.heap.size := C1.size
  have hs2 : w1.heap.size < w2.heap.size := hBx.lt
  have hw2 : w.heap.size ≤ w2.heap.size := by omega
  obtain ⟨cs, hC, hr⟩ := J1
  have hU : cs.length = j.U.length := hC.1
  have hFK : ∀ b, F b → b < w.heap.size := fun b hb => hlt0 b (HX.out.own.map b hb)
  have hrow : RowC w2 F j.v cs := by
    rcases hr with ⟨_, e2, e3⟩ | ⟨b, c, e1, e2, hR⟩
    · exact .inl ⟨e2, List.eq_nil_of_length_eq_zero (by rw [hU, e3]; rfl)⟩
    · exact .inr ⟨b, c, by rw [hU]; exact e2, by rw [hU]; exact hR.keep hB2, HX.out.own.nbck j (by simp) b e1⟩
  have hsh : ∀ p ∈ cs, ∃ f cap, p = .func (.func f) #[] cap := fun p hp => by
    obtain ⟨i, hi⟩ := List.getElem?_of_mem hp
    have hlt := (List.getElem?_eq_some_iff.1 hi).1
    obtain ⟨s1, s2, kv, v1, v2, b1, b2, ok, ⟨_, e2⟩ | ⟨s3, vv, x, v3, b3, ov, _, e2⟩⟩ := (hC.2 i (j.U[i]'(by omega)) p (List.getElem?_eq_getElem _) hi).ex
    · exact ⟨_, _, e2⟩
    · exact ⟨_, _, e2⟩
  have hlen9 : cs.length ≤ 1000000000 := by omega
  have hn1 : n1 = cs.length := by
    have e := HV.out
    rcases hrow with ⟨e2, e3⟩ | ⟨b, c, e2, _⟩
    · rw [e2] at e; cases e; rw [e3]; rfl
    · rw [e2] at e; cases e; rfl
  subst hn1
  have I0 : RbI w w2 K D F V g m Q jv1 T0 oj n N j cs w1.heap.size 0 w2 := ⟨K1, D, F, Q, X1.keep hB2, hC.stay ⟨fun b _ _ _ k _ => hB2.block b k.lt, fun b hl _ _ => hB2.block b hl⟩, hrow, by rw [HV.out]; exact hBx, by rw [Nat.sub_zero, List.drop_of_length_le (Nat.le_refl _)]; rfl, by omega, hK1, fun _ h => .inl h, fun _ h => .inl h, C1.trans (Chg.of (F := K) hB2) (fun _ _ h => h), Nat.le_refl _⟩
  have hbF : ¬ F w1.heap.size := fun hf => by have := hFK _ hf; omega
  have IT := backF_itr (Tp := fun t => t ≠ 5) (bs := w1.heap.size) (c := c1) (ao := a1) (Q := cs) (n := cs.length) (Rd := fun X => ∃ i, RbI w w2 K D F V g m Q jv1 T0 oj n N j cs w1.heap.size i X) rfl hlen9 hsh (fun X ⟨i, hI⟩ => by
    obtain ⟨K', D', F', Q', h1, h2, h3, h4, -⟩ := hI.ex
    rw [HV.out] at h4
    refine ⟨h4.cell (i := 0) rfl, fun jj p hp => ?_⟩
    rcases h3 with ⟨_, e⟩ | ⟨b, c, e2, hR, _⟩
    · rw [e] at hp; simp at hp
    · have e := HV.out
      rw [e2] at e
      cases e
      exact ⟨b, 0, rfl, by rw [Nat.zero_add]; exact hR.cell hp⟩)
  replace H1 := hid3 H1.out
  have HI0 := hid3 I0
  clear X1 hC hr hrow hsh I0 hBx hB2
  refine rf_outer IT (by rfl) (enters_of Try.func70 (by kernel_rfl) rfl) (fun i args n V V' h _ => h) (fun i args n V h => by obtain ⟨p, j, _, _, rfl⟩ := h; rfl)
    (fun i X => RbI w w2 K D F V g m Q jv1 T0 oj n N j cs w1.heap.size i X) (fun _ _ _ => False)
    (fun i A B hx hr => hx.rcd hr hw2) (fun _ _ _ _ hx _ => hx) (fun i X hx => ⟨i, hx⟩) HI0.out ?_ ?_ ?_
  · rintro l2 i args V' Wv hl2 hlV hrec hiN hI hb ⟨p, jj, hj, hp, rfl⟩
    obtain ⟨f, cap, hpf, hff, -⟩ := hI.step hs2 hbF hj hp hN hw2
    subst hpf
    simp
    gi_wp2
    refine ⟨Below.refl _ _, ?_⟩
    intro V2 W2 hI2 hb2 hAr2 hoth hsz3 hV2 r hrec2
    obtain ⟨f', cap', hpf, -, hcall⟩ := (hI2.keep hb2 hw2).step hs2 hbF hj hp hN hw2
    cases hpf
    clear hI hb hI2 hb2 hAr2 hoth
    rcases hff with rfl | rfl
    · gi_wp2_with (refine ⟨trivial, rfl, ?_⟩; gi_at_call 78; refine (CallsIn.inRound l2 (callsIn_wide.2 hcall)).mono ?_; rintro e' w5 ⟨rfl, hI5, hK5⟩)
      exact ⟨hK5, hI5⟩
    · gi_wp2_with (refine ⟨trivial, rfl, ?_⟩; gi_at_call 79; refine (CallsIn.inRound l2 (callsIn_wide.2 hcall)).mono ?_; rintro e' w5 ⟨rfl, hI5, hK5⟩)
      exact ⟨hK5, hI5⟩
  · rintro D' W' hD hK hI
    gi_wp2
    refine ⟨by simp, .inl ⟨_, _, rfl, run_takeDeferred hK, ?_⟩⟩
    have R3 := Rec.put (B := w2.heap.size) hK rfl hD (.deferred none)
    obtain ⟨K', D2, F', Q', h1, h2, h3, h4, h5, h6, h7, h8, h9, h10, h11⟩ := (hI.rcd R3 hw2).ex
    refine ⟨_, results_tmp rfl _ _ _, ?_⟩
    rw [hU, Nat.sub_self, List.drop_zero, H1.out] at h5
    exact ⟨rfl, K', (h1.shut h5 H2.out).mono (fun b _ h => h8 b h), h7, h10⟩
  · rintro D' c i W' hD hK hi hF
    exact hF.elim
theorem srollback {w : World} {K D : Nat → Prop} {g n N : Nat} {E : Ents} {W : List Ents} (h : SA w K D g E W n N) (hN : N ≤ 100000000) :
    Calls Try.prog 22 #[.pointer (some ⟨g, 0, none⟩)] w (Ends w K D g (W.headD E) W.tail n N (.int .i64 (if W = [] then 62 else 0))) := by
  cases W with
  | nil =>
    refine (srollback_no h).mono ?_
    rintro e w' ⟨rfl, rfl⟩
    exact ⟨by simp, K, h.mono (fun _ _ h => .inl h), fun _ => .inl, Chg.refl _ _⟩
  | cons e0 W => simpa using srollback_ok h hN
theorem scommit {w : World} {K D : Nat → Prop} {g n N : Nat} {E : Ents} {W : List Ents} (h : SA w K D g E W n N) (hN : N ≤ 100000000) :
    Calls Try.prog 21 #[.pointer (some ⟨g, 0, none⟩)] w (Ends w K D g E W.tail n N (.int .i64 (if W = [] then 62 else 0))) := by
  cases W with
  | nil =>
    refine (scommit_no h).mono ?_
    rintro e w' ⟨rfl, rfl⟩
    exact ⟨by simp, K, h.mono (fun _ _ h => .inl h), fun _ => .inl, Chg.refl _ _⟩
  | cons e0 W => simpa using scommit_ok h (by simp) hN
theorem sbegin {w : World} {K D : Nat → Prop} {g n N : Nat} {E : Ents} {W : List Ents} (h : SA w K D g E W n N) :
    Calls Try.prog 19 #[.pointer (some ⟨g, 0, none⟩)] w (Ends w K D g E (if W.length = 16 then W else E :: W) n N (.int .i64 (if W.length = 16 then 62 else 0))) := by
  by_cases hW : W.length = 16
  · rw [if_pos hW, if_pos hW]
    refine (sbegin_full h hW).mono ?_
    rintro e w' ⟨rfl, rfl⟩
    exact ⟨rfl, K, h.mono (fun _ _ h => .inl h), fun _ => .inl, Chg.refl _ _⟩
  · rw [if_neg hW, if_neg hW]; exact sbegin_ok h hW
end Kv
end Go.Proofs.Ytplminnejheceaa
