/- Several texts, joined: KvW, KvX, KvY, KvZ, KvAa, KvAb, KvBa, KvBb, KvBc, KvBh, KvBd, KvBe, KvCa. -/
import Derived.Test.YtpoifdokmjhclaaGreatJyh
import Derived.Test.YtpoifdokmjhclaaGreatJyg
import Derived.Shelf.Abstract
import Derived.Shelf.RegionOpen
import Derived.OwnWalkIn
import Derived.TacticsInMore
import Derived.LoopNIn
import Derived.LoopIn
namespace Go.Proofs.YtpoifdokmjhclaaGreat
namespace Kv
open Go.RowKit Go.Lib Pg
attribute [local go_sem] Oper.semAt_some
theorem rem_none {E : Ents} {k : List Int} (h : Rise E) (hn : (look E k).isSome = false) : rem E k = E := by
  obtain ⟨X, Y, c, ⟨rfl, e⟩ | ⟨x, rfl, e⟩⟩ := h.cut k
  · exact c.rem0
  · rw [e] at hn; cases hn
theorem sdepth {w : World} {K D : Nat → Prop} {g n N : Nat} {E : Ents} {W : List Ents} (h : SA w K D g E W n N) :
    Calls Tryz.prog 158 #[.pointer (some ⟨g, 0, none⟩)] w fun e w' => e = .returned (.int .i64 W.length) ∧ w' = w := by
  obtain ⟨F, V, m, Q, jv, T, oj, hX, hE, hB⟩ := h.open
  have hl := hB.len
  simp at hl
  rw [← hl]
  exact xdepth hX
set_option maxHeartbeats 2000000 in
set_option maxRecDepth 100000 in
theorem sget {w : World} {K D : Nat → Prop} {g n N : Nat} {E : Ents} {W : List Ents} {kv : Value} {k : List Int} (h : SA w K D g E W n N) (hk : BK w K kv k) (hn : n ≤ 4000000000000000000) (hN : N ≤ 100000000) :
    Calls Tryz.prog 39 #[.pointer (some ⟨g, 0, none⟩), kv] w fun e w' => ∃ v, e = .returned (.tuple #[v, .bool (look E k).isSome]) ∧ OB w' (w.heap.size ≤ ·) v ((look E k).getD []) ∧ SA w' K D g E W (n + 1) N ∧ Chg K w w' := by
  obtain ⟨F, V, m, Q, jv, T, oj, hX, rfl, hB⟩ := h.open
  obtain ⟨ao, c, rfl⟩ := hk.shape
  have u := xcount hX hn
  have HX := hid3 hX
  have HB := hid3 hB
  have HK := hid3 hk
  clear hX hB hk h
  obtain ⟨kn, hkn⟩ : ∃ kn, Hid (k.length = kn) := ⟨_, rfl⟩
  rw [hkn.out] at HK ⊢
  have ug := fun w' (X : SX w' K D F V g m Q jv T oj (n + 1) N) (hk : By w' (.slice ao kn c) k) => xget_key X hk hN
  obtain ⟨r, hr⟩ : ∃ r, (look Q.flatten k).isSome = r := ⟨_, rfl⟩
  obtain ⟨L, hL⟩ : ∃ L, (look Q.flatten k).getD [] = L := ⟨_, rfl⟩
  rw [hr, hL] at ug ⊢
  clear hr hL
  go_enter Tryz.func39, Tryz.ntmps39
  go_wp2_with first
    | (go_at_call 70; go_must (refine u.mono ?_); rintro e w1 ⟨rfl, X1, C1⟩; have c0 := X1.blk.cell (i := 0) rfl)
    | (go_at_call 71; go_must (refine (ug _ X1 (HK.out _ (HX.out.kg C1))).mono ?_); rintro e w2 ⟨v, rfl, O, B⟩; obtain ⟨a1, c1, rfl⟩ : ∃ a1 c1, v = .slice a1 L.length c1 := (by obtain ⟨a1, c1, e, _⟩ := O.by.ex; exact ⟨a1, c1, e⟩); generalize L.length = ln at *)
  go_ret2
  exact ⟨_, rfl, O.mono (fun b _ h => by have := C1.size; have h' : w1.heap.size ≤ b := h; show w.heap.size ≤ b; omega), (X1.keep B).shut rfl HB.out, chgJoin (HX.out.kg C1) (Chg.of B)⟩
set_option maxHeartbeats 2000000 in
set_option maxRecDepth 100000 in
theorem shas {w : World} {K D : Nat → Prop} {g n N : Nat} {E : Ents} {W : List Ents} {kv : Value} {k : List Int} (h : SA w K D g E W n N) (hk : BK w K kv k) (hn : n ≤ 4000000000000000000) (hN : N ≤ 100000000) :
    Calls Tryz.prog 94 #[.pointer (some ⟨g, 0, none⟩), kv] w fun e w' => e = .returned (.bool (look E k).isSome) ∧ SA w' K D g E W (n + 1) N ∧ Chg K w w' := by
  obtain ⟨F, V, m, Q, jv, T, oj, hX, rfl, hB⟩ := h.open
  obtain ⟨ao, c, rfl⟩ := hk.shape
  have u := xcount hX hn
  have HX := hid3 hX
  have HB := hid3 hB
  have HK := hid3 hk
  clear hX hB hk h
  obtain ⟨kn, hkn⟩ : ∃ kn, Hid (k.length = kn) := ⟨_, rfl⟩
  rw [hkn.out] at HK ⊢
  have ug := fun w' (X : SX w' K D F V g m Q jv T oj (n + 1) N) (hk : By w' (.slice ao kn c) k) => xholds X hk hN
  obtain ⟨r, hr⟩ : ∃ r, (look Q.flatten k).isSome = r := ⟨_, rfl⟩
  rw [hr] at ug ⊢
  clear hr
  go_enter Tryz.func94, Tryz.ntmps94
  go_wp2_with first
    | (go_at_call 70; go_must (refine u.mono ?_); rintro e w1 ⟨rfl, X1, C1⟩)
    | (go_at_call 138; go_must (refine (ug _ X1 (HK.out _ (HX.out.kg C1))).mono ?_); rintro e w2 ⟨rfl, B⟩)
  go_ret
  exact ⟨rfl, (X1.keep B).shut rfl HB.out, chgJoin (HX.out.kg C1) (Chg.of B)⟩
set_option maxHeartbeats 4000000 in
set_option maxRecDepth 100000 in
theorem sdel_no {w : World} {K D F V : Nat → Prop} {g m n N : Nat} {Q : List (List KV)} {jv : Value} {T : List Jr} {oj : Option Nat} {W : List Ents} {kv : Value} {k : List Int} (hX : SX w K D F V g m Q jv T oj n N) (hB : Back (T.reverse.map Jr.U) W Q.flatten) (hk : BK w K kv k) (hn : n ≤ 4000000000000000000) (hN : N + 2 ≤ 100000000) (hr : (look Q.flatten k).isSome = false) :
    Calls Tryz.prog 131 #[.pointer (some ⟨g, 0, none⟩), kv] w (Ends w K D g (rem Q.flatten k) W (n + 1) (N + 2) (.bool false)) := by
  obtain ⟨ao, c, rfl⟩ := hk.shape
  have u := xcount hX hn
  have HX := hid3 hX
  have HB := hid3 hB
  have HK := hid3 hk
  have hN' : N ≤ 99999998 := by omega
  replace hN : N ≤ 100000000 := by omega
  clear hX hB hk
  obtain ⟨kn, hkn⟩ : ∃ kn, Hid (k.length = kn) := ⟨_, rfl⟩
  rw [hkn.out] at HK ⊢
  go_enter Tryz.func131, Tryz.ntmps131
  go_wp2_with first
    | (go_at_call 70; go_must (refine u.mono ?_); rintro e w1 ⟨rfl, X1, C1⟩; have uh := xholds X1 (HK.out _ (HX.out.kg C1)) hN; rw [hr] at uh)
    | (go_at_call 138; go_must (refine uh.mono ?_); rintro e w2 ⟨rfl, B2⟩; clear uh; replace X1 := X1.keep B2; have C3 := chgJoin (HX.out.kg C1) (Chg.of B2))
  go_ret
  have e := rem_none HX.out.map.ord.flat hr
  exact ⟨rfl, K, ((X1.shut e.symm (by rw [e]; exact HB.out)).more (by omega)).mono (fun _ _ h => .inl h), fun b h => .inl h, C3⟩
set_option maxHeartbeats 4000000 in
set_option maxRecDepth 100000 in
theorem sdel_nil {w : World} {K D F V : Nat → Prop} {g m n N : Nat} {Q : List (List KV)} {jv : Value} {oj : Option Nat} {W : List Ents} {kv : Value} {k : List Int} (hX : SX w K D F V g m Q jv [] oj n N) (hB : Back ([].reverse.map Jr.U) W Q.flatten) (hk : BK w K kv k) (hn : n ≤ 4000000000000000000) (hN : N + 2 ≤ 100000000) (hr : (look Q.flatten k).isSome = true) :
    Calls Tryz.prog 131 #[.pointer (some ⟨g, 0, none⟩), kv] w (Ends w K D g (rem Q.flatten k) W (n + 1) (N + 2) (.bool true)) := by
  obtain ⟨ao, c, rfl⟩ := hk.shape
  have u := xcount hX hn
  have HX := hid3 hX
  have HB := hid3 hB
  have HK := hid3 hk
  have hN' : N ≤ 99999998 := by omega
  replace hN : N ≤ 100000000 := by omega
  clear hX hB hk
  obtain ⟨kn, hkn⟩ : ∃ kn, Hid (k.length = kn) := ⟨_, rfl⟩
  rw [hkn.out] at HK ⊢
  go_enter Tryz.func131, Tryz.ntmps131
  go_wp2_with first
    | (go_at_call 70; go_must (refine u.mono ?_); rintro e w1 ⟨rfl, X1, C1⟩; have uh := xholds X1 (HK.out _ (HX.out.kg C1)) hN; rw [hr] at uh)
    | (go_at_call 138; go_must (refine uh.mono ?_); rintro e w2 ⟨rfl, B2⟩; clear uh; replace X1 := X1.keep B2; have C3 := chgJoin (HX.out.kg C1) (Chg.of B2))
    | (go_at_call 125; go_must (refine (xremember0 X1).mono ?_); rintro e y ⟨rfl, hy⟩; replace hy := hy.symm; subst hy; have c0 := X1.blk.cell (i := 0) rfl; have us := mdel X1.map (HK.out _ C3) (by omega); rw [look_has X1.map.ord, hr] at us)
    | (go_at_call 171; go_must (refine us.mono ?_); rintro e w4 ⟨rfl, F', M', hF, hC⟩)
  go_ret
  have X3 := X1.mapped (N' := N) (by have := X1.tot; have := rem_len (E := Q.flatten) k; rw [pages_rem X1.map.ord]; omega) M' hF (fun _ h => h) hC
  refine ⟨rfl, _, ((X3.shut (E := rem Q.flatten k) (W := W) (pages_rem X1.map.ord k) (back_nil HB.out)).more (by omega)).mono (fun b _ hb => ?_), fun b hb => ?_, ?_⟩
  · exact .inl hb
  · rcases hb with ⟨hb, _⟩ | hb
    · exact .inl hb
    · rcases hF b hb with h1 | h1
      · exact .inl (X1.own.map b h1)
      · exact .inr (by have := C3.size; omega)
  · exact chgJoin C3 (hC.mono (fun b _ h => X1.own.map b h))
set_option maxHeartbeats 4000000 in
set_option maxRecDepth 100000 in
theorem sdel_jrn {w : World} {K D F V : Nat → Prop} {g m n N : Nat} {Q : List (List KV)} {jv : Value} {T0 : List Jr} {j : Jr} {oj : Option Nat} {W : List Ents} {kv : Value} {k : List Int} (hX : SX w K D F V g m Q jv (T0 ++ [j]) oj n N) (hB : Back ((T0 ++ [j]).reverse.map Jr.U) W Q.flatten) (hk : BK w K kv k) (hn : n ≤ 4000000000000000000) (hN : N + 2 ≤ 100000000) (hkl : k.length ≤ 1000000000) (hr : (look Q.flatten k).isSome = true) :
    Calls Tryz.prog 131 #[.pointer (some ⟨g, 0, none⟩), kv] w (Ends w K D g (rem Q.flatten k) W (n + 1) (N + 2) (.bool true)) := by
  obtain ⟨ao, c, rfl⟩ := hk.shape
  have u := xcount hX hn
  have HX := hid3 hX
  have HB := hid3 hB
  have HK := hid3 hk
  replace hkl := hid3 hkl
  have hN' : N ≤ 99999998 := by omega
  replace hN : N ≤ 100000000 := by omega
  clear hX hB hk
  obtain ⟨kn, hkn⟩ : ∃ kn, Hid (k.length = kn) := ⟨_, rfl⟩
  rw [hkn.out] at HK ⊢
  go_enter Tryz.func131, Tryz.ntmps131
  go_wp2_with first
    | (go_at_call 70; go_must (refine u.mono ?_); rintro e w1 ⟨rfl, X1, C1⟩; have uh := xholds X1 (HK.out _ (HX.out.kg C1)) hN; rw [hr] at uh)
    | (go_at_call 138; go_must (refine uh.mono ?_); rintro e w2 ⟨rfl, B2⟩; clear uh; replace X1 := X1.keep B2; have C3 := chgJoin (HX.out.kg C1) (Chg.of B2))
    | (go_at_call 125; go_must (refine (xremember X1 (HK.out _ C3) (by have := hkl.out; omega) hN).mono ?_); rintro e w3 ⟨rfl, K2, V2, j', hj', X2, hK2, C2⟩; have C4 := chgJoin C3 C2; have c0 := X2.blk.cell (i := 0) rfl; have us := mdel X2.map (HK.out _ C4) (by omega); rw [look_has X2.map.ord, hr] at us)
    | (go_at_call 171; go_must (refine us.mono ?_); rintro e w4 ⟨rfl, F', M', hF, hC⟩)
  go_ret
  have X3 := X2.mapped (N' := N + 1) (by have := X2.tot; have := rem_len (E := Q.flatten) k; rw [pages_rem X2.map.ord]; omega) M' hF (fun _ h => h) hC
  refine ⟨rfl, _, ((X3.shut (E := rem Q.flatten k) (W := W) (pages_rem X2.map.ord k) (back_push HB.out hj' (undo_rem HX.out.map.ord.flat k))).more (by omega)).mono (fun b _ hb => ?_), fun b hb => ?_, ?_⟩
  · rcases hb with hb | hb
    · exact .inl hb
    · exact .inr (by have := C3.size; omega)
  · rcases hb with ⟨hb, _⟩ | hb
    · exact (hK2 b hb).imp id (fun h => by have := C3.size; omega)
    · rcases hF b hb with h1 | h1
      · exact (hK2 b (X2.own.map b h1)).imp id (fun h => by have := C3.size; omega)
      · exact .inr (by have := C4.size; omega)
  · exact C4.trans hC (fun b hb h => (hK2 b (X2.own.map b h)).elim id (fun h => by have := C3.size; omega))
theorem sdel {w : World} {K D : Nat → Prop} {g n N : Nat} {E : Ents} {W : List Ents} {kv : Value} {k : List Int} (h : SA w K D g E W n N) (hk : BK w K kv k) (hkl : k.length ≤ 1000000000) (hn : n ≤ 4000000000000000000) (hN : N + 2 ≤ 100000000) :
    Calls Tryz.prog 131 #[.pointer (some ⟨g, 0, none⟩), kv] w (Ends w K D g (rem E k) W (n + 1) (N + 2) (.bool (look E k).isSome)) := by
  obtain ⟨F, V, m, Q, jv, T, oj, hX, rfl, hB⟩ := h.open
  cases hr : (look Q.flatten k).isSome with
  | false => exact sdel_no hX hB hk hn hN hr
  | true =>
    rcases List.eq_nil_or_concat T with rfl | ⟨T0, j, rfl⟩
    · exact sdel_nil hX hB hk hn hN hr
    · rw [List.concat_eq_append] at hX hB
      exact sdel_jrn hX hB hk hn hN hkl hr
end Kv
end Go.Proofs.YtpoifdokmjhclaaGreat

namespace Go.Proofs.YtpoifdokmjhclaaGreat
namespace Kv
open Go.RowKit Go.Lib Pg
attribute [local go_sem] Oper.semAt_some
/-- the list of journals is turned -/
theorem SX.rows {w w2 : World} {K D F V : Nat → Prop} {g m : Nat} {Q : List (List KV)} {jv jv' : Value} {T T' : List Jr} {oj oj' : Option Nat} {n N : Nat} (h : SX w K D F V g m Q jv T oj n N) (hb : Blk w2 g [.pointer (some ⟨m, 0, none⟩), jv', .int .i64 n] 152) (hc : Chg (fun b => oj = some b ∨ b = g) w w2)
    (hrow : (oj' = none ∧ jv' = .slice none 0 0 ∧ T' = []) ∨ ∃ b c, oj' = some b ∧ jv' = .slice (some ⟨b, 0, none⟩) T'.length c ∧ Rw w2 265 1 b T'.length c (T'.map Jr.v)) (hT : ∀ j ∈ T', j ∈ T ∨ (j.U = [] ∧ j.v = .slice none 0 0 ∧ j.o = none)) (hap : (T'.filterMap Jr.o).Nodup) (ho : ∀ b, oj' = some b → oj = some b ∨ w.heap.size ≤ b) (ht : Kv.tot T' + Q.flatten.length ≤ N) (hl : T'.length ≤ 16) :
    SX w2 (fun b => (K b ∧ ¬ oj = some b) ∨ oj' = some b) D F V g m Q jv' T' oj' n N ∧ ∀ j ∈ T, JrA w2 V D g j := by
  have hx : ∀ b cs t, Blk w b cs t → t ≠ 152 → t ≠ 265 → w2.heap[b]? = w.heap[b]? := fun b cs t k h1 h2 => hc.same b k.lt (fun e => by
    rcases e with e | e
    · obtain ⟨cs', k'⟩ := h.jn.kind e
      exact h2 (k.eq k').2
    · subst e
      exact h1 (k.eq h.blk).2)
  have hnF : ∀ b, (oj = some b ∨ b = g) → ¬ F b := fun b e => e.elim (h.own.njrn b) (fun e => by subst e; exact h.own.ntop)
  have hst : Stay V D w w2 := ⟨fun b cs t _ k ht => hx b cs t k (by rcases ht with e | e <;> subst e <;> decide) (by rcases ht with e | e <;> subst e <;> decide), fun b _ _ k => by obtain ⟨cs, k⟩ := k; exact hx b cs _ k (by decide) (by decide)⟩
  have hJ : ∀ j ∈ T, JrA w2 V D g j := fun j hj => (h.jn.each j hj).stay hst (fun b e => by obtain ⟨cs, k⟩ := (h.jn.each j hj).kind e; exact hx b cs _ k (by decide) (by decide))
  have nj : ∀ b cs t, Blk w b cs t → t ≠ 265 → ¬ oj = some b := fun b cs t k h1 e => by
    obtain ⟨cs', k'⟩ := h.jn.kind e
    exact h1 (k.eq k').2
  have hTo : ∀ j ∈ T', ∀ b, j.o = some b → j ∈ T := fun j hj b e => (hT j hj).elim id (fun h => by rw [h.2.2] at e; cases e)
  refine ⟨⟨hb, h.map.same (fun b hF => hc.same b (h.map.lt hF) (fun e => hnF b e hF)) (fun b _ _ k => by obtain ⟨cs, k⟩ := k; exact hx b cs _ k (by decide) (by decide)), ⟨hrow, fun j hj => ?_, hap⟩, ht, hl, ?_⟩, hJ⟩
  · rcases hT j hj with h0 | ⟨h1, h2, h3⟩
    · exact hJ j h0
    · exact ⟨[], by rw [h1]; exact CloL.nil _ _ _ _, .inl ⟨h3, h2, h1⟩⟩
  · refine ⟨.inl ⟨h.own.top, nj g _ _ h.blk (by decide)⟩, fun b hb => .inl ⟨h.own.map b hb, fun e => h.own.njrn b e hb⟩, fun b hb => ?_, fun b hb => .inr hb, fun j hj b e => ?_, fun b hb => ?_, h.own.ntop, h.own.nvar, fun b e => ?_, fun j hj b e => h.own.nbck j (hTo j hj b e) b e, fun b hv => by
      obtain ⟨cs, t, k, ht⟩ := h.own.vk b hv
      exact ⟨cs, t, k.same (hst.var b cs t hv k ht), ht⟩⟩
    · obtain ⟨cs, t, k, ht⟩ := h.own.vk b hb
      exact .inl ⟨h.own.var b hb, nj b cs t k (by rcases ht with e | e <;> subst e <;> decide)⟩
    · have hj' := hTo j hj b e
      obtain ⟨cs, k⟩ := (h.jn.each j hj').kind e
      exact .inl ⟨h.own.bck j hj' b e, nj b cs _ k (by decide)⟩
    · rcases hb with ⟨hK, hn⟩ | hb'
      · by_cases e : b = g
        · subst e; exact ⟨_, _, hb, by decide⟩
        · obtain ⟨cs, t, k, ht⟩ := h.own.kind b hK
          exact ⟨cs, t, k.chg hc (fun e2 => e2.elim hn e), ht⟩
      · rcases hrow with ⟨e, _⟩ | ⟨b', c, e, _, hR⟩
        · rw [hb'] at e; cases e
        · rw [hb'] at e; cases e
          obtain ⟨cs, k⟩ := hR.kind
          exact ⟨cs, _, k, by decide⟩
    · rcases ho b e with h1 | h1
      · exact h.own.njrn b h1
      · intro hF; have := h.map.lt hF; omega
/-- a journal more -/
theorem app_jrn {w : World} {V D : Nat → Prop} {g : Nat} {jv : Value} {T : List Jr} {oj : Option Nat} (h : JnA w V D g jv T oj) (hl : T.length ≤ 16) {a : Addr} (ha : w.cell? (a.add 0) = some (.slice none 0 0)) :
    ∃ jb c' w', (Builtin.append_ #[145, 145] 145 #[jv, .slice (some a) 1 1]).run Tryz.prog w = .ok (.slice (some ⟨jb, 0, none⟩) (T.length + 1) c') w' ∧ (oj = some jb ∨ jb = w.heap.size) ∧ Rw w' 265 1 jb (T.length + 1) c' (T.map Jr.v ++ [.slice none 0 0]) ∧ Chg (fun b => oj = some b) w w' := by
  have hcell : ∀ j u, [Value.slice none 0 0][j]? = some u → w.cell? (a.add j) = some u := fun j u hj => by
    have : j = 0 := by have := (List.getElem?_eq_some_iff.1 hj).1; simp at this; omega
    subst this
    simp at hj; subst hj; exact ha
  rcases h.row with ⟨e1, e2, e3⟩ | ⟨b, c, e1, e2, hR⟩
  · subst e3
    obtain ⟨c', W, h1, hR', hB⟩ := app_nil (w := w) KJ 145 a 1 1 [.slice none 0 0] rfl hcell (by decide) (by decide) (by decide)
    exact ⟨_, c', W, by rw [e2]; exact h1, .inr rfl, hR', Chg.of hB⟩
  · obtain ⟨b', c', W, h1, hb', hR', hCh⟩ := app_row KJ 145 hR a 1 1 [.slice none 0 0] rfl hcell (fun v hv => by simp at hv; subst hv; rfl) (by omega) (by omega)
    exact ⟨b', c', W, by rw [e2]; exact h1, hb'.imp (fun e => by rw [e1, e]) id, hR', hCh.mono (fun x _ e => by have e' : x = b := e; rw [e1, e'])⟩
set_option maxHeartbeats 2000000 in
set_option maxRecDepth 100000 in
theorem sbegin_full {w : World} {K D : Nat → Prop} {g n N : Nat} {E : Ents} {W : List Ents} (h : SA w K D g E W n N) (hW : W.length = 16) :
    Calls Tryz.prog 133 #[.pointer (some ⟨g, 0, none⟩)] w fun e w' => e = .returned (.int .i64 62) ∧ w' = w := by
  have u := sdepth h
  rw [hW] at u
  clear h hW
  go_enter Tryz.func133, Tryz.ntmps133
  go_wp2_with (go_at_call 158; go_must (refine u.mono ?_); rintro e y ⟨rfl, hy⟩; replace hy := hy.symm; subst hy)
  go_ret
  exact ⟨rfl, rfl⟩
set_option maxHeartbeats 2000000 in
set_option maxRecDepth 100000 in
theorem sbegin_ok {w : World} {K D : Nat → Prop} {g n N : Nat} {E : Ents} {W : List Ents} (h : SA w K D g E W n N) (hW : ¬ W.length = 16) :
    Calls Tryz.prog 133 #[.pointer (some ⟨g, 0, none⟩)] w (Ends w K D g E (E :: W) n N (.int .i64 0)) := by
  have u := sdepth h
  have hWl : W.length ≤ 16 := h.depth
  obtain ⟨F, V, m, Q, jv, T, oj, hX, rfl, hB⟩ := h.open
  have hTl : T.length = W.length := by have := hB.len; simp at this; exact this
  have al := below_alloc w (.cells #[.slice none 0 0] 265)
  have bl := blk_new w [.slice none 0 0] 265
  have X1 := hX.keep al
  obtain ⟨jb, c', w2, hr, hjb, hR, hC⟩ := app_jrn X1.jn X1.len (a := ⟨w.heap.size, 0, none⟩) (bl.cell (i := 0) rfl)
  have hg : ¬ oj = some g := fun e => by
    obtain ⟨cs, k⟩ := X1.jn.kind e
    exact absurd (X1.blk.eq k).2 (by decide)
  have bg := X1.blk.chg hC hg
  have c1 := hX.blk.cell (i := 1) rfl
  have f1 := bg.free 1
  have cg1 := bg.cell (i := 1) rfl
  obtain ⟨a1, c2, hjv⟩ := hX.jn.shape
  have FIN : Hid (∃ K', SA (w2.setCell ⟨g, 1, none⟩ (.slice (some ⟨jb, 0, none⟩) (T.length + 1) c')) K' (fun b => D b ∨ w.heap.size ≤ b) g Q.flatten (Q.flatten :: W) n N ∧ (∀ b, K' b → K b ∨ w.heap.size ≤ b) ∧ Chg K w (w2.setCell ⟨g, 1, none⟩ (.slice (some ⟨jb, 0, none⟩) (T.length + 1) c'))) := by
    have hC2 : Chg (fun b => oj = some b ∨ b = g) (w.alloc (.cells #[.slice none 0 0] 265)) (w2.setCell ⟨g, 1, none⟩ (.slice (some ⟨jb, 0, none⟩) (T.length + 1) c')) := (hC.mono (fun b _ e => .inl e)).cell (.inl (.inr rfl)) _
    have hjg : jb ≠ g := fun e => by
      subst e
      obtain ⟨cs, k⟩ := hR.kind
      exact absurd (bg.eq k).2 (by decide)
    have S := (X1.rows (jv' := .slice (some ⟨jb, 0, none⟩) (T.length + 1) c') (T' := T ++ [⟨[], .slice none 0 0, none⟩]) (oj' := some jb) (bg.setCell (i := 1) _) hC2 (.inr ⟨jb, c', rfl, by simp, by
      have := hR.same (w' := w2.setCell ⟨g, 1, none⟩ (.slice (some ⟨jb, 0, none⟩) (T.length + 1) c')) (Below.heap_setCell _ _ _ _ hjg)
      simpa using this⟩) (fun j hj => by
        rcases List.mem_append.1 hj with h | h
        · exact .inl h
        · simp at h; subst h; exact .inr ⟨rfl, rfl, rfl⟩) (by rw [fm_snoc]; simpa using X1.jn.apart) (fun b e => by cases e; exact hjb.imp id (fun e => by omega)) (by rw [tot_snoc]; simpa using X1.tot) (by simp; omega)).1
    refine ⟨_, (S.shut rfl (W := Q.flatten :: W) ?_).mono (fun _ _ h => .inl h), fun b hb => ?_, ?_⟩
    · rw [List.reverse_append]
      simp only [List.reverse_cons, List.reverse_nil, List.nil_append, List.cons_append, List.map_cons]
      exact ⟨rfl, hB⟩
    · rcases hb with ⟨h1, _⟩ | h1
      · exact .inl h1
      · cases h1
        rcases hjb with e | e
        · exact .inl (hX.own.jrn _ e)
        · exact .inr (by have := al.size; omega)
    · exact (Chg.of (F := K) al).trans hC2 (fun b _ e => e.elim (hX.own.jrn b) (fun e => by subst e; exact hX.own.top))
  subst hjv
  rw [hTl] at c1 cg1 hr FIN
  have hW2 : ¬ ((W.length : Int) = 16) := by omega
  clear hX X1 hB h hR hC bg hjb hg bl
  obtain ⟨q, hq⟩ : ∃ q, W.length = q := ⟨_, rfl⟩
  rw [hq] at u c1 cg1 hr FIN hW2 hWl
  clear hq hTl hW
  go_enter Tryz.func133, Tryz.ntmps133
  go_wp2_with first
    | (go_at_call 158; go_must (refine u.mono ?_); rintro e y ⟨rfl, hy⟩; replace hy := hy.symm; subst hy)
    | (at_builtin; refine Lib.wpList_append_run _ rfl _ _ _ _ rfl _ _ rfl rfl _ _ hr ?_)
  go_ret
  exact ⟨rfl, FIN.out⟩
end Kv
end Go.Proofs.YtpoifdokmjhclaaGreat

namespace Go.Proofs.YtpoifdokmjhclaaGreat
namespace Kv
open Go.RowKit Go.Lib Pg
attribute [local go_sem] Oper.semAt_some
theorem kres_cell {fn : Func} {p : Tmp} {ty : TypeId} (h : fn.results = #[.cell p ty]) {tmps : Array Value} {w : World} {g : Nat} {v : Value} (hp : tmps.getD p undef = .pointer (some ⟨g, 0, none⟩)) (hl : (loadVar ty ⟨g, 0, none⟩).run Tryz.prog w = .ok v w) : (results fn tmps).run Tryz.prog w = .ok v w := by
  have hp' : tmps[p]?.getD undef = .pointer (some ⟨g, 0, none⟩) := by simpa using hp
  simp [results, h, hp', asAddr, hl]
theorem ld_jn {w : World} {g o : Nat} {v : Value} (c : w.cell? ⟨g, o, none⟩ = some v) : (loadVar 265 ⟨g, o, none⟩).run Tryz.prog w = .ok (.agg #[v]) w := by
  go_simp
theorem jr_shape {w : World} {V D : Nat → Prop} {g : Nat} {j : Jr} (h : JrA w V D g j) : ∃ a n c, j.v = .slice a n c := by
  obtain ⟨cs, _, ⟨_, e, _⟩ | ⟨b, c, _, e, _⟩⟩ := h
  · exact ⟨_, _, _, e⟩
  · exact ⟨_, _, _, e⟩
theorem SX.same {w w' : World} {K D F V : Nat → Prop} {g m : Nat} {Q : List (List KV)} {jv : Value} {T : List Jr} {oj : Option Nat} {n N : Nat} (h : SX w K D F V g m Q jv T oj n N) (h1 : ∀ b, K b → w'.heap[b]? = w.heap[b]?) (h2 : ∀ b, b < w.heap.size → D b → (∃ cs, Blk w b cs 5) → w'.heap[b]? = w.heap[b]?) : SX w' K D F V g m Q jv T oj n N :=
  ⟨h.blk.same (h1 g h.own.top), h.map.same (fun b hF => h1 b (h.own.map b hF)) h2, h.jn.stay ⟨fun b _ _ hv _ _ => h1 b (h.own.var b hv), h2⟩ (fun b e => h1 b (h.own.jrn b e)) (fun j hj b e => h1 b (h.own.bck j hj b e)), h.tot, h.len, h.own.same h1⟩
set_option maxHeartbeats 4000000 in
set_option maxRecDepth 100000 in
theorem xend {w : World} {K D F V : Nat → Prop} {g m : Nat} {Q : List (List KV)} {jv : Value} {T0 : List Jr} {j : Jr} {oj : Option Nat} {n N : Nat} (h : SX w K D F V g m Q jv (T0 ++ [j]) oj n N) :
    Calls Tryz.prog 177 #[.pointer (some ⟨g, 0, none⟩)] w fun e w' => e = .returned (.agg #[j.v]) ∧ ∃ K' jv', SX w' K' D F V g m Q jv' T0 oj n N ∧ JrA w' V D g j ∧ (∀ b, K' b → K b ∨ w.heap.size ≤ b) ∧ Chg K w w' := by
  obtain ⟨jb, c, rfl, rfl, hR⟩ := h.jn.last
  obtain ⟨a1, n1, c1, hjv⟩ := jr_shape (h.jn.each j (by simp))
  have hlen : T0.length ≤ 15 := by have := h.len; simp at this; omega
  have hle := hR.le
  -- the two variables ahead
  have al0 := below_alloc w (.cells #[.slice none 0 0] 265)
  have s0 : (w.alloc (.cells #[.slice none 0 0] 265)).heap.size = w.heap.size + 1 := by simp
  have cg1 := (h.blk.keep al0).cell (i := 1) rfl
  have cj := (hR.keep al0).cell (i := T0.length) (v := j.v) (by simp)
  rw [hjv] at cj
  have al1 := below_alloc (w.alloc (.cells #[.slice none 0 0] 265)) (.cells #[.slice a1 n1 c1] 265)
  have X2 := (h.keep al0).keep al1
  have R2 := (hR.keep al0).keep al1
  have z0 := (blk_new w [.slice none 0 0] 265).keep al1
  have z1 := blk_new (w.alloc (.cells #[.slice none 0 0] 265)) [.slice a1 n1 c1] 265
  rw [s0] at z1
  have cg2 := X2.blk.cell (i := 1) rfl
  have ud := delJ R2 (i := T0.length) (by omega) (fun v hv => by
    obtain ⟨t, ht, rfl⟩ := List.mem_map.1 hv
    obtain ⟨a, n, c, e⟩ := jr_shape (X2.jn.each t ht)
    rw [e]; rfl)
  rw [show T0.length + 1 - 1 = T0.length by omega] at ud
  have jlt : jb < w.heap.size := hR.lt
  have glt : g < w.heap.size := h.blk.lt
  have hgj : g ≠ jb := fun e => by
    subst e
    obtain ⟨cs, k⟩ := hR.kind
    exact absurd (h.blk.eq k).2 (by decide)
  have HX2 := hid3 X2
  have HZ0 := hid3 z0
  have HZ1 := hid3 z1
  have HAL := hid3 (joinB al0 al1)
  have HX := hid3 h
  have HJV := hid3 hjv
  rw [hjv]
  clear X2 R2 z0 z1 h hR al1 hjv hle
  have hq : (T0.length : Int) ≤ 15 := by omega
  obtain ⟨q, hqq⟩ : ∃ q, Hid (T0.length = q) := ⟨_, rfl⟩
  rw [hqq.out] at cg1 cj cg2 ud hq
  clear hlen
  go_enter Tryz.func177, Tryz.ntmps177
  go_wp2_with (go_at_call 218; go_must (refine ud.mono ?_); rintro e w3 ⟨rfl, R3, C3⟩; have bg := HX2.out.blk.chg C3 hgj; have z0 := HZ0.out.chg C3 (by omega); have z1 := HZ1.out.chg C3 (by omega); have d1 := bg.cell (i := 1) rfl; have d2 := bg.free 1; have d3 := z0.cell (i := 0) rfl; have d4 := z0.free 0; have d5 := z1.cell (i := 0) rfl; replace bg := hid3 bg; replace z0 := hid3 z0; replace z1 := hid3 z1; replace R3 := hid3 R3; replace C3 := hid3 C3)
  have hne : w.heap.size ≠ g := by omega
  have b4 := (z0.out.off hne (i := 1) (.slice (some ⟨jb, 0, none⟩) q c)).setCell (i := 0) (.slice a1 n1 c1)
  refine bodyPost_ret (kres_cell rfl rfl (ld_jn (b4.cell (i := 0) rfl))) rfl ?_
  refine ⟨rfl, ?_⟩
  have hC4 : Chg (fun b => some jb = some b ∨ b = g) ((w.alloc (.cells #[.slice none 0 0] 265)).alloc (.cells #[.slice a1 n1 c1] 265)) (w3.setCell ⟨g, 1, none⟩ (.slice (some ⟨jb, 0, none⟩) q c)) := (C3.out.mono (fun b _ e => .inl (by have e' : b = jb := e; rw [e']))).cell (.inl (.inr rfl)) _
  have hR4 := R3.out.same (w' := w3.setCell ⟨g, 1, none⟩ (.slice (some ⟨jb, 0, none⟩) q c)) (Below.heap_setCell _ _ _ _ (fun e => hgj e.symm))
  have hap := HX2.out.jn.apart
  rw [fm_snoc, nodup_snoc] at hap
  obtain ⟨S4, J4⟩ := HX2.out.rows (jv' := .slice (some ⟨jb, 0, none⟩) q c) (T' := T0) (oj' := some jb) (bg.out.setCell (i := 1) _) hC4 (.inr ⟨jb, c, rfl, by rw [hqq.out], by
    rw [hqq.out]
    have e : (List.map Jr.v (T0 ++ [j])).take (q * 1) ++ (List.map Jr.v (T0 ++ [j])).drop ((q + 1) * 1) = T0.map Jr.v := by
      rw [Nat.mul_one, Nat.mul_one, ← hqq.out, List.map_append, List.take_left' (by simp), List.drop_of_length_le (by simp), List.append_nil]
    rw [e] at hR4
    exact hR4⟩) (fun t ht => .inl (List.mem_append_left _ ht)) hap.1 (fun b e => .inl e) (by have := HX2.out.tot; rw [tot_snoc] at this; omega) (by have := HX2.out.len; simp at this; omega)
  have hx : ∀ b, b ≠ w.heap.size → ((w3.setCell ⟨g, 1, none⟩ (.slice (some ⟨jb, 0, none⟩) q c)).setCell ⟨w.heap.size, 0, none⟩ (.slice a1 n1 c1)).heap[b]? = (w3.setCell ⟨g, 1, none⟩ (.slice (some ⟨jb, 0, none⟩) q c)).heap[b]? := fun b hb => Below.heap_setCell _ _ _ _ hb
  have bx := z0.out.off hne (i := 1) (.slice (some ⟨jb, 0, none⟩) q c)
  have hu : ∀ b, (∃ cs, Blk (w3.setCell ⟨g, 1, none⟩ (.slice (some ⟨jb, 0, none⟩) q c)) b cs 5) → b ≠ w.heap.size := fun b hk e => by
    obtain ⟨cs, k⟩ := hk
    subst e
    exact absurd (bx.eq k).2 (by decide)
  have hK : ∀ b, K b → b < w.heap.size := fun b hb => by obtain ⟨cs, t, k, _⟩ := HX.out.own.kind b hb; exact k.lt
  have hKb : ∀ b, ((K b ∧ ¬ some jb = some b) ∨ some jb = some b) → K b := fun b hb => by
    rcases hb with ⟨h1, _⟩ | h1
    · exact h1
    · cases h1; exact HX.out.own.jrn _ rfl
  have hst : Stay V D (w3.setCell ⟨g, 1, none⟩ (.slice (some ⟨jb, 0, none⟩) q c)) ((w3.setCell ⟨g, 1, none⟩ (.slice (some ⟨jb, 0, none⟩) q c)).setCell ⟨w.heap.size, 0, none⟩ (.slice a1 n1 c1)) := ⟨fun b _ _ hv _ _ => hx b (by have := hK b (HX.out.own.var b hv); omega), fun b _ _ k => hx b (hu b k)⟩
  refine ⟨_, _, S4.same (fun b hb => hx b (by have := hK b (hKb b hb); omega)) (fun b _ _ k => hx b (hu b k)), (J4 j (by simp)).stay hst (fun b e => hx b (by have := hK b (HX.out.own.bck j (by simp) b e); omega)), fun b hb => .inl (hKb b hb), ?_⟩
  have h5 := (Chg.of (F := K) HAL.out).trans hC4 (fun b _ e => e.elim (fun e => by cases e; exact HX.out.own.jrn _ rfl) (fun e => by subst e; exact HX.out.own.top))
  exact h5.cell (.inr (Nat.le_refl _)) _
theorem back_merge {T1 : List Jr} {j1 j j' : Jr} {W : List Ents} {E : Ents} (h : Back ((T1 ++ [j1] ++ [j]).reverse.map Jr.U) W E) (hj : j'.U = j1.U ++ j.U) : Back ((T1 ++ [j']).reverse.map Jr.U) W.tail E := by
  rw [List.reverse_append, List.reverse_append] at h
  rw [List.reverse_append]
  simp only [List.reverse_cons, List.reverse_nil, List.nil_append, List.cons_append, List.map_cons] at h ⊢
  match W, h with
  | e2 :: e1 :: W, ⟨h1, h2, h3⟩ => exact ⟨by rw [hj, undos_app, h1]; exact h2, h3⟩
theorem lies_of {w : World} {V D : Nat → Prop} {g : Nat} {j : Jr} (h : JrA w V D g j) : ∃ cs, CloL w V D g j.U cs ∧ Lies w j.v cs := by
  obtain ⟨cs, hC, ⟨e1, e2, e3⟩ | ⟨b, c, e1, e2, hR⟩⟩ := h
  · exact ⟨cs, hC, .inl ⟨e2, List.eq_nil_of_length_eq_zero (by rw [hC.1, e3]; rfl)⟩⟩
  · exact ⟨cs, hC, .inr ⟨_, c, by rw [hC.1]; exact e2, fun i x hx => by rw [Addr.add_lit, Nat.zero_add]; exact hR.cell hx⟩⟩
set_option maxHeartbeats 2000000 in
set_option maxRecDepth 100000 in
theorem xnote0 {w : World} {K D F V : Nat → Prop} {g m : Nat} {Q : List (List KV)} {jv bv : Value} {oj : Option Nat} {n N : Nat} (h : SX w K D F V g m Q jv [] oj n N) :
    Calls Tryz.prog 159 #[.pointer (some ⟨g, 0, none⟩), bv] w fun e w' => e = .returned (.tuple #[]) ∧ w' = w := by
  have ud := xdepth h
  clear h
  go_enter Tryz.func159, Tryz.ntmps159
  go_wp2_with (go_at_call 158; go_must (refine ud.mono ?_); rintro e y ⟨rfl, hy⟩; replace hy := hy.symm; subst hy)
  go_end0
  exact ⟨rfl, rfl⟩
set_option maxHeartbeats 2000000 in
set_option maxRecDepth 100000 in
theorem scommit_no {w : World} {K D : Nat → Prop} {g n N : Nat} {E : Ents} (h : SA w K D g E [] n N) :
    Calls Tryz.prog 137 #[.pointer (some ⟨g, 0, none⟩)] w fun e w' => e = .returned (.int .i64 62) ∧ w' = w := by
  have u := sdepth h
  clear h
  go_enter Tryz.func137, Tryz.ntmps137
  go_wp2_with (go_at_call 158; go_must (refine u.mono ?_); rintro e y ⟨rfl, hy⟩; replace hy := hy.symm; subst hy)
  go_ret
  exact ⟨rfl, rfl⟩
theorem xcommit1 {w : World} {K D F V : Nat → Prop} {g m : Nat} {Q : List (List KV)} {jv bv : Value} {T0 : List Jr} {j : Jr} {oj : Option Nat} {n N : Nat} (h : SX w K D F V g m Q jv T0 oj n N) (hj : JrA w V D g j) (hv : j.v = bv) (ht : Kv.tot T0 + j.U.length + Q.flatten.length ≤ N) (hN : N ≤ 100000000) {W : List Ents} (hB : Back ((T0 ++ [j]).reverse.map Jr.U) W Q.flatten) :
    Calls Tryz.prog 159 #[.pointer (some ⟨g, 0, none⟩), bv] w fun e w' => e = .returned (.tuple #[]) ∧ ∃ K', SA w' K' D g Q.flatten W.tail n N ∧ (∀ b, K' b → K b ∨ w.heap.size ≤ b) ∧ Chg K w w' := by
  rcases List.eq_nil_or_concat T0 with rfl | ⟨T1, j1, rfl⟩
  · refine (xnote0 h).mono ?_
    rintro e w' ⟨rfl, rfl⟩
    refine ⟨rfl, K, h.shut rfl ?_, fun b => .inl, Chg.refl _ _⟩
    match W, hB with
    | e :: W, ⟨_, h2⟩ => exact back_nil h2
  · rw [List.concat_eq_append] at h hB ht
    obtain ⟨cs, hC, hL⟩ := lies_of hj
    subst hv
    refine (xnote (N' := N) h hC hL (Nat.le_refl _) ht (by omega)).mono ?_
    rintro e w' ⟨rfl, K', j', hj', X, hK, hc⟩
    exact ⟨rfl, K', X.shut rfl (back_merge hB hj'), hK, hc⟩
set_option maxHeartbeats 2000000 in
set_option maxRecDepth 100000 in
theorem scommit_ok {w : World} {K D : Nat → Prop} {g n N : Nat} {E : Ents} {W : List Ents} (h : SA w K D g E W n N) (hW : W ≠ []) (hN : N ≤ 100000000) :
    Calls Tryz.prog 137 #[.pointer (some ⟨g, 0, none⟩)] w (Ends w K D g E W.tail n N (.int .i64 0)) := by
  have u := sdepth h
  obtain ⟨F, V, m, Q, jv, T, oj, hX, rfl, hB⟩ := h.open
  have hTl : T.length = W.length := by have := hB.len; simp at this; exact this
  rcases List.eq_nil_or_concat T with rfl | ⟨T0, j, rfl⟩
  · exact absurd (List.eq_nil_of_length_eq_zero hTl.symm) hW
  · rw [List.concat_eq_append] at hX hB hTl
    have ue := xend hX
    have ht : Kv.tot T0 + j.U.length + Q.flatten.length ≤ N := by have := hX.tot; rw [tot_snoc] at this; exact this
    obtain ⟨a1, n1, c1, hjv⟩ := jr_shape (hX.jn.each j (by simp))
    rw [hjv] at ue
    have HJ := hid3 hjv
    have HB := hid3 hB
    have HT := hid3 ht
    have hW2 : ¬ ((W.length : Int) = 0) := by have := List.length_pos_iff.2 hW; omega
    clear hX hB h hTl hW hjv ht
    obtain ⟨q, hq⟩ : ∃ q, W.length = q := ⟨_, rfl⟩
    rw [hq] at u hW2
    clear hq
    have hfld : ∀ w, (Instr.field 265 (.agg #[.slice a1 n1 c1]) 0).run Tryz.prog w = .ok (.slice a1 n1 c1) w := fun w => by kernel_rfl
    go_enter Tryz.func137, Tryz.ntmps137
    go_wp2_with first
      | (go_at_call 158; go_must (refine u.mono ?_); rintro e y ⟨rfl, hy⟩; replace hy := hy.symm; subst hy)
      | (go_at_call 177; go_must (refine ue.mono ?_); rintro e w1 ⟨rfl, K1, jv1, X1, J1, hK1, C1⟩)
      | (go_at_call 159; go_must (refine (xcommit1 X1 J1 HJ.out HT.out hN HB.out).mono ?_); rintro e w2 ⟨rfl, K2, S2, hK2, C2⟩)
    go_ret
    refine ⟨rfl, K2, S2.mono (fun _ _ h => .inl h), fun b hb => ?_, C1.trans C2 (fun b hb e => (hK1 b e).elim id (fun h => by omega))⟩
    rcases hK2 b hb with h1 | h1
    · exact hK1 b h1
    · exact .inr (by have := C1.size; omega)
end Kv
end Go.Proofs.YtpoifdokmjhclaaGreat

namespace Go.Proofs.YtpoifdokmjhclaaGreat
namespace Kv
open Go.RowKit Go.Lib Pg
attribute [local go_sem] Oper.semAt_some
def ArBF (Q : List Value) (i : Nat) (args : Array Value) (_ : Nat) (_ : World) : Prop := ∃ p j, j + 1 + i = Q.length ∧ Q[j]? = some p ∧ args = #[.int .i64 (j : Int), p]
set_option maxHeartbeats 4000000 in
set_option maxRecDepth 100000 in
theorem backF_itr {Tp : TypeId → Prop} {bs n c : Nat} {ao : Option Addr} {Q : List Value} {Rd : World → Prop} (hn : Q.length = n) (hbig : n ≤ 1000000000) (hsh : ∀ p ∈ Q, ∃ f cap, p = .func (.func f) #[] cap)
    (hb : ∀ V, Rd V → V.cell? ⟨bs, 0, none⟩ = some (.slice ao n c) ∧ ∀ j p, Q[j]? = some p → ∃ b o, ao = some ⟨b, o, none⟩ ∧ V.cell? ⟨b, o + j, none⟩ = some p) :
    Itr Tp 217 #[.pointer (some ⟨bs, 0, none⟩)] n (ArBF Q) Rd := by
  intro l J Jx W hJ hJx hRd hY h0
  have cb := (hb W (hRd 0 W h0)).1
  have hb : Hid _ := hb
  have hn : Hid _ := hn
  replace hsh := hid3 hsh
  have w0 : IntKind.i64.wrap ((n : Int) - 1) = (n : Int) - 1 := by rw [IntKind.wrap_i64]; omega
  refine (callsIn_wide (n := 0)).1 ?_
  refine callsIn_of_wp Tryz.func217 rfl trivial ?_ rfl
  simp only [Tryz.ntmps217, List.size_toArray, List.length_cons, List.length_nil, Nat.reduceAdd, Nat.reduceSub, Array.replicate_succ, Array.replicate_zero, List.push_toArray, List.append_toArray, List.nil_append, List.cons_append]
  gi_wp2
  gi_loopw [3] (fun ti wr => ∃ i : Nat, i ≤ n ∧ ti = .int .i64 ((n : Int) - 1 - (i : Int)) ∧ W.heap.size ≤ wr.heap.size ∧ J i wr) (fun ti _ => (intOf ti + 1).toNat)
  case atStart => exact ⟨0, Nat.zero_le _, by simp, Nat.le_refl _, h0⟩
  case round =>
    clear cb
    obtain ⟨i, hi, rfl, hsz, hJi⟩ := hrel
    obtain ⟨cb, hat⟩ := hb.out wr (hRd _ _ hJi)
    by_cases hlt : i < n
    · obtain ⟨j, hj⟩ : ∃ j, j + 1 + i = n := ⟨n - 1 - i, by omega⟩
      obtain ⟨p, hp⟩ : ∃ p, Q[j]? = some p := ⟨Q[j]'(by have := hn.out; omega), List.getElem?_eq_getElem _⟩
      obtain ⟨b, o, rfl, cP⟩ := hat j p hp
      obtain ⟨f, cap, rfl⟩ := hsh.out p (List.mem_of_getElem? hp)
      have ej : (n : Int) - 1 - (i : Int) = (j : Int) := by omega
      have HI : Hid (j + 1 + i = n) := hj
      have hY1 := hY i _ wr wr hlt hJi hsz (Below.refl _ _) ⟨_, j, by rw [hn.out]; exact hj, hp, rfl⟩
      obtain ⟨fn, tmps, assign, body, hy, hR⟩ := hY1
      rw [ej]
      have w1 : IntKind.i64.wrap ((j : Int) - 1) = (j : Int) - 1 := by rw [IntKind.wrap_i64]; omega
      have z1 : (j : Int) < n := by omega
      clear hat ej hj
      gi_wp2
      refine ⟨rfl, hR.mono ?_⟩
      rintro e' W4 ⟨hk4, ⟨rfl, hJ4⟩ | ⟨rfl, hJ4⟩⟩
      · gi_wp2
        go_roundw
        case rel => exact ⟨i + 1, by omega, by have := HI.out; congr 1; omega, Nat.le_trans hsz hk4.size, hJ4⟩
        case measure => simp [intOf]
      · gi_wp2
        refine bodyPost_ret (results_none rfl _ _ _) rfl ?_
        exact ⟨⟨_, rfl⟩, Nat.le_trans hsz hk4.size, .inr ⟨i, hlt, hJ4⟩⟩
    · have hin : i = n := by omega
      have ej : (n : Int) - 1 - (i : Int) = -1 := by omega
      rw [ej]
      have HJ : Hid (J n wr) := by show J n wr; rw [← hin]; exact hJi
      clear hat ej hin hJi
      gi_wp2
      go_end0
      exact ⟨⟨_, rfl⟩, hsz, .inl HJ.out⟩
set_option maxHeartbeats 1000000 in
set_option maxRecDepth 100000 in
theorem backF_mk {w : World} {ao : Option Addr} {n c : Nat} : Calls Tryz.prog 176 #[.slice ao n c] w fun e w' => e = .returned (.func (.func 217) #[] #[.pointer (some ⟨w.heap.size, 0, none⟩)]) ∧ Blk w' w.heap.size [.slice ao n c] 263 ∧ Below w.heap.size w w' := by
  go_enter Tryz.func176, Tryz.ntmps176
  go_wp2
  go_ret
  exact ⟨rfl, blk_new w _ _, below_alloc w _⟩
end Kv
end Go.Proofs.YtpoifdokmjhclaaGreat

namespace Go.Proofs.YtpoifdokmjhclaaGreat
namespace Kv
open Go.RowKit Go.Lib Pg
attribute [local go_sem] Oper.semAt_some
/-- where the closures of a journal lie -/
def RowC (w : World) (F : Nat → Prop) (v : Value) (cs : List Value) : Prop := (v = .slice none 0 0 ∧ cs = []) ∨ ∃ b c, v = .slice (some ⟨b, 0, none⟩) cs.length c ∧ Rw w 1 1 b cs.length c cs ∧ ¬ F b
/-- behind i rounds of Rollback -/
structure RbI (w w2 : World) (K D F V : Nat → Prop) (g m : Nat) (Q : List (List KV)) (jv : Value) (T0 : List Jr) (oj : Option Nat) (n N : Nat) (j : Jr) (cs : List Value) (bs i : Nat) (X : World) : Prop where
  ex : ∃ K' D' F' Q', SX X K' D' F' V g m Q' jv T0 oj n N ∧ CloL X V D' g j.U cs ∧ RowC X F' j.v cs ∧ Blk X bs [j.v] 263 ∧ Q'.flatten = undos (j.U.drop (j.U.length - i)) Q.flatten ∧ Kv.tot T0 + Q'.flatten.length + (j.U.length - i) ≤ N ∧ (∀ b, K' b → K b ∨ w.heap.size ≤ b) ∧ (∀ b, D' b → D b ∨ w.heap.size ≤ b) ∧ (∀ b, F' b → F b ∨ w2.heap.size ≤ b) ∧ Chg K w X ∧ w2.heap.size ≤ X.heap.size
theorem SX.rcd {w w' : World} {B : Nat} {K D F V : Nat → Prop} {g m : Nat} {Q : List (List KV)} {jv : Value} {T : List Jr} {oj : Option Nat} {n N : Nat} (h : SX w K D F V g m Q jv T oj n N) (hr : Rec B w w') : SX w' K D F V g m Q jv T oj n N :=
  h.same (fun b hb => by obtain ⟨cs, t, k, _⟩ := h.own.kind b hb; rw [(hr.blk k).blk, k.blk]) (fun b _ _ hk => by obtain ⟨cs, k⟩ := hk; rw [(hr.blk k).blk, k.blk])
theorem CloL.rcd {w w' : World} {B : Nat} {V D : Nat → Prop} {g : Nat} {U : List Und} {cs : List Value} (h : CloL w V D g U cs) (hr : Rec B w w') : CloL w' V D g U cs :=
  h.stay ⟨fun b _ _ _ k _ => by rw [(hr.blk k).blk, k.blk], fun b _ _ hk => by obtain ⟨cs, k⟩ := hk; rw [(hr.blk k).blk, k.blk]⟩
theorem Rw.rcd {w w' : World} {B : Nat} {E : TypeId} {k b n c : Nat} {xs : List Value} (h : Rw w E k b n c xs) (hr : Rec B w w') : Rw w' E k b n c xs := by
  obtain ⟨cs, hk⟩ := h.kind
  exact h.same (by rw [(hr.blk hk).blk, hk.blk])
theorem chg_rcd {w w1 w' : World} {B : Nat} {K : Nat → Prop} (h : Chg K w w1) (hr : Rec B w1 w') (hB : w.heap.size ≤ B) : Chg K w w' :=
  ⟨hr.os.trans h.os, hr.tape.trans h.tape, hr.output.trans h.output, Nat.le_trans h.size hr.size, fun b hb hk => by
    have e := h.same b hb hk
    rw [← e]
    have hlt : b < w1.heap.size := Nat.lt_of_lt_of_le hb h.size
    rw [Array.getElem?_eq_getElem hlt]
    exact hr.same b _ (Array.getElem?_eq_getElem hlt) (.inl (by omega))⟩
theorem RbI.rcd {w w2 : World} {K D F V : Nat → Prop} {g m : Nat} {Q : List (List KV)} {jv : Value} {T0 : List Jr} {oj : Option Nat} {n N : Nat} {j : Jr} {cs : List Value} {bs i : Nat} {X Y : World} (h : RbI w w2 K D F V g m Q jv T0 oj n N j cs bs i X) (hr : Rec w2.heap.size X Y) (hw : w.heap.size ≤ w2.heap.size) : RbI w w2 K D F V g m Q jv T0 oj n N j cs bs i Y := by
  obtain ⟨K', D', F', Q', h1, h2, h3, h4, h5, h6, h7, h8, h9, h10, h11⟩ := h.ex
  refine ⟨K', D', F', Q', h1.rcd hr, h2.rcd hr, h3.imp id ?_, hr.blk h4, h5, h6, h7, h8, h9, chg_rcd h10 hr hw, Nat.le_trans h11 hr.size⟩
  rintro ⟨b, c, e, hR, hn⟩
  exact ⟨b, c, e, Rw.rcd hR hr, hn⟩
theorem RbI.keep {w w2 : World} {K D F V : Nat → Prop} {g m : Nat} {Q : List (List KV)} {jv : Value} {T0 : List Jr} {oj : Option Nat} {n N : Nat} {j : Jr} {cs : List Value} {bs i : Nat} {X Y : World} (h : RbI w w2 K D F V g m Q jv T0 oj n N j cs bs i X) (hb : Below X.heap.size X Y) (hw : w.heap.size ≤ w2.heap.size) : RbI w w2 K D F V g m Q jv T0 oj n N j cs bs i Y := h.rcd (Rec.of hb) hw
theorem drop_back {α : Type} {U : List α} {i jj : Nat} {u : α} (hj : jj + 1 + i = U.length) (hu : U[jj]? = some u) : U.drop (U.length - (i + 1)) = u :: U.drop (U.length - i) := by
  have e1 : U.length - (i + 1) = jj := by omega
  have e2 : U.length - i = jj + 1 := by omega
  obtain ⟨hlt, rfl⟩ := List.getElem?_eq_some_iff.1 hu
  rw [e1, e2]
  exact List.drop_eq_getElem_cons hlt
/-- one round -/
theorem RbI.step {w w2 : World} {K D F V : Nat → Prop} {g m : Nat} {Q : List (List KV)} {jv : Value} {T0 : List Jr} {oj : Option Nat} {n N : Nat} {j : Jr} {cs : List Value} {bs i jj : Nat} {X : World} {p : Value} (h : RbI w w2 K D F V g m Q jv T0 oj n N j cs bs i X) (hbs : bs < w2.heap.size) (hbF : ¬ F bs) (hj : jj + 1 + i = cs.length) (hp : cs[jj]? = some p) (hN : N ≤ 100000000) (hw : w.heap.size ≤ w2.heap.size) :
    ∃ f cap, p = .func (.func f) #[] cap ∧ (f = 205 ∨ f = 206) ∧ Calls Tryz.prog f cap X fun e Y => e = .returned (.tuple #[]) ∧ RbI w w2 K D F V g m Q jv T0 oj n N j cs bs (i + 1) Y ∧ KeepsT (fun t => t ≠ 5) w2.heap.size X Y := by
  obtain ⟨K', D', F', Q', h1, h2, h3, h4, h5, h6, h7, h8, h9, h10, h11⟩ := h.ex
  have hlen := h2.1
  obtain ⟨u, hu⟩ : ∃ u, j.U[jj]? = some u := ⟨j.U[jj]'(by omega), List.getElem?_eq_getElem _⟩
  have hC := h2.2 jj u p hu hp
  obtain ⟨f, cap, e, hcall⟩ := clo_any h1 hC hN (by omega)
  refine ⟨f, cap, e, ?_, hcall.mono ?_⟩
  · obtain ⟨s1, s2, kv, v1, v2, b1, b2, ok, ⟨_, e2⟩ | ⟨s3, vv, x, v3, b3, ov, _, e2⟩⟩ := hC.ex
    · rw [e] at e2; cases e2; exact .inl rfl
    · rw [e] at e2; cases e2; exact .inr rfl
  · rintro e Y ⟨rfl, F2, Q2, S2, hQ2, hF2, hc⟩
    have hFm : ∀ b, F' b → K' b := h1.own.map
    have hst : Stay V D' X Y := ⟨fun b _ _ hv k _ => hc.same b k.lt (h1.own.nvar b hv), fun b hl _ k => hc.same b hl (fun f => by obtain ⟨cs, k⟩ := k; exact h1.map.noU f cs k)⟩
    have hnb : ¬ F' bs := fun hf => (h9 bs hf).elim hbF (fun h => by omega)
    refine ⟨rfl, ⟨_, _, F2, Q2, S2, (h2.stay hst).mono (fun _ h => h) (fun _ _ h => .inl h), ?_, h4.chg hc hnb, ?_, ?_, fun b hb => ?_, fun b hb => ?_, fun b hb => ?_, ?_, ?_⟩, ?_⟩
    · rcases h3 with h | ⟨b, c, e, hR, hn⟩
      · exact .inl h
      · exact .inr ⟨b, c, e, hR.chg hc hn, fun hf => (hF2 b hf).elim hn (fun h => by have := hR.lt; omega)⟩
    · rw [hQ2, h5, drop_back (by omega) hu]; rfl
    · have := undo_len h1.map.ord.flat u
      rw [hQ2]
      have h12 : Q'.flatten.length = Q'.flatten.length := rfl
      omega
    · rcases hb with ⟨hb, _⟩ | hb
      · exact h7 b hb
      · rcases hF2 b hb with h | h
        · exact h7 b (hFm b h)
        · exact .inr (by omega)
    · rcases hb with hb | hb
      · exact h8 b hb
      · exact .inr (by omega)
    · rcases hF2 b hb with h | h
      · exact h9 b h
      · exact .inr (by omega)
    · exact h10.trans hc (fun b hb hf => (h7 b (hFm b hf)).elim id (fun h => by omega))
    · exact Nat.le_trans h11 hc.size
    · refine ⟨hc.size, fun k o _ hk ho => (hc.same k (lt_of_block hk) (fun hf => ?_)).trans hk⟩
      obtain ⟨cs', t, kb, ht⟩ := h1.own.kind k (hFm k hf)
      rw [kb.blk] at hk
      cases hk
      exact ho _ _ _ rfl ht
end Kv
end Go.Proofs.YtpoifdokmjhclaaGreat

namespace Go.Proofs.YtpoifdokmjhclaaGreat
namespace Kv
open Go.RowKit Go.Lib Pg
attribute [local go_sem] Oper.semAt_some
set_option maxHeartbeats 2000000 in
set_option maxRecDepth 100000 in
theorem srollback_no {w : World} {K D : Nat → Prop} {g n N : Nat} {E : Ents} (h : SA w K D g E [] n N) :
    Calls Tryz.prog 136 #[.pointer (some ⟨g, 0, none⟩)] w fun e w' => e = .returned (.int .i64 62) ∧ w' = w := by
  have u := sdepth h
  clear h
  go_enter Tryz.func136, Tryz.ntmps136
  go_wp2_with (go_at_call 158; go_must (refine u.mono ?_); rintro e y ⟨rfl, hy⟩; replace hy := hy.symm; subst hy)
  go_ret
  exact ⟨rfl, rfl⟩
set_option maxHeartbeats 4000000 in
set_option maxRecDepth 100000 in
theorem srollback_ok {w : World} {K D : Nat → Prop} {g n N : Nat} {E e0 : Ents} {W : List Ents} (h : SA w K D g E (e0 :: W) n N) (hN : N ≤ 100000000) :
    Calls Tryz.prog 136 #[.pointer (some ⟨g, 0, none⟩)] w (Ends w K D g e0 W n N (.int .i64 0)) := by
  have u := sdepth h
  obtain ⟨F, V, m, Q, jv, T, oj, hX, rfl, hB⟩ := h.open
  rcases List.eq_nil_or_concat T with rfl | ⟨T0, j, rfl⟩
  · exact hB.elim
  rw [List.concat_eq_append] at hX hB
  have ue := xend hX
  have htot := hX.tot
  rw [tot_snoc] at htot
  rw [List.reverse_append] at hB
  obtain ⟨hB1, hB2⟩ : undos j.U Q.flatten = e0 ∧ Back (T0.reverse.map Jr.U) W e0 := hB
  have hlt0 : ∀ b, K b → b < w.heap.size := fun b hb => by obtain ⟨cs, t, k, _⟩ := hX.own.kind b hb; exact k.lt
  obtain ⟨a1, n1, c1, hjv⟩ := jr_shape (hX.jn.each j (by simp))
  rw [hjv] at ue
  have HV := hid3 hjv
  have HX := hid3 hX
  have H1 := hid3 hB1
  have H2 := hid3 hB2
  have hlW : ¬ (((e0 :: W).length : Int) = 0) := by simp; omega
  clear h hX hjv hB1 hB2
  generalize (e0 :: W).length = q at *
  have hfld : ∀ w, (Instr.field 265 (.agg #[.slice a1 n1 c1]) 0).run Tryz.prog w = .ok (.slice a1 n1 c1) w := fun w => by kernel_rfl
  refine (callsIn_wide (n := 0)).1 ?_
  refine callsIn_of_wp_marks Tryz.func136 rfl trivial ?_ rfl
  simp only [Tryz.ntmps136, List.size_toArray, List.length_cons, List.length_nil, Nat.reduceAdd, Nat.reduceSub, Array.replicate_succ, Array.replicate_zero, List.push_toArray, List.append_toArray, List.nil_append, List.cons_append]
  gi_wp2_with (first
    | (refine ⟨trivial, rfl, ?_⟩; gi_at_call 158; refine (callsIn_wide.2 u).mono ?_; rintro e' y ⟨rfl, hy⟩; replace hy := hy.symm; subst hy)
    | (refine ⟨trivial, rfl, ?_⟩; gi_at_call 177; refine (callsIn_wide.2 ue).mono ?_; rintro e' w1 ⟨rfl, K1, jv1, X1, J1, hK1, C1⟩)
    | (refine ⟨trivial, rfl, ?_⟩; gi_at_call 176; refine (callsIn_wide.2 backF_mk).mono ?_; rintro e' w2 ⟨rfl, hBx, hB2⟩))
  have hs1 : w.heap.size ≤ w1.heap.size := C1.size
  have hs2 : w1.heap.size < w2.heap.size := hBx.lt
  have hw2 : w.heap.size ≤ w2.heap.size := by omega
  obtain ⟨cs, hC, hr⟩ := J1
  have hU : cs.length = j.U.length := hC.1
  have hFK : ∀ b, F b → b < w.heap.size := fun b hb => hlt0 b (HX.out.own.map b hb)
  have hrow : RowC w2 F j.v cs := by
    rcases hr with ⟨_, e2, e3⟩ | ⟨b, c, e1, e2, hR⟩
    · exact .inl ⟨e2, List.eq_nil_of_length_eq_zero (by rw [hU, e3]; rfl)⟩
    · exact .inr ⟨b, c, by rw [hU]; exact e2, by rw [hU]; exact hR.keep hB2, HX.out.own.nbck j (by simp) b e1⟩
  have hsh : ∀ p ∈ cs, ∃ f cap, p = .func (.func f) #[] cap := fun p hp => by
    obtain ⟨i, hi⟩ := List.getElem?_of_mem hp
    have hlt := (List.getElem?_eq_some_iff.1 hi).1
    obtain ⟨s1, s2, kv, v1, v2, b1, b2, ok, ⟨_, e2⟩ | ⟨s3, vv, x, v3, b3, ov, _, e2⟩⟩ := (hC.2 i (j.U[i]'(by omega)) p (List.getElem?_eq_getElem _) hi).ex
    · exact ⟨_, _, e2⟩
    · exact ⟨_, _, e2⟩
  have hlen9 : cs.length ≤ 1000000000 := by omega
  have hn1 : n1 = cs.length := by
    have e := HV.out
    rcases hrow with ⟨e2, e3⟩ | ⟨b, c, e2, _⟩
    · rw [e2] at e; cases e; rw [e3]; rfl
    · rw [e2] at e; cases e; rfl
  subst hn1
  have I0 : RbI w w2 K D F V g m Q jv1 T0 oj n N j cs w1.heap.size 0 w2 := ⟨K1, D, F, Q, X1.keep hB2, hC.stay ⟨fun b _ _ _ k _ => hB2.block b k.lt, fun b hl _ _ => hB2.block b hl⟩, hrow, by rw [HV.out]; exact hBx, by rw [Nat.sub_zero, List.drop_of_length_le (Nat.le_refl _)]; rfl, by omega, hK1, fun _ h => .inl h, fun _ h => .inl h, C1.trans (Chg.of (F := K) hB2) (fun _ _ h => h), Nat.le_refl _⟩
  have hbF : ¬ F w1.heap.size := fun hf => by have := hFK _ hf; omega
  have IT := backF_itr (Tp := fun t => t ≠ 5) (bs := w1.heap.size) (c := c1) (ao := a1) (Q := cs) (n := cs.length) (Rd := fun X => ∃ i, RbI w w2 K D F V g m Q jv1 T0 oj n N j cs w1.heap.size i X) rfl hlen9 hsh (fun X ⟨i, hI⟩ => by
    obtain ⟨K', D', F', Q', h1, h2, h3, h4, -⟩ := hI.ex
    rw [HV.out] at h4
    refine ⟨h4.cell (i := 0) rfl, fun jj p hp => ?_⟩
    rcases h3 with ⟨_, e⟩ | ⟨b, c, e2, hR, _⟩
    · rw [e] at hp; simp at hp
    · have e := HV.out
      rw [e2] at e
      cases e
      exact ⟨b, 0, rfl, by rw [Nat.zero_add]; exact hR.cell hp⟩)
  replace H1 := hid3 H1.out
  have HI0 := hid3 I0
  clear X1 hC hr hrow hsh I0 hBx hB2
  refine rf_outer IT (by rfl) (enters_of Tryz.func217 (by kernel_rfl) rfl) (fun i args n V V' h _ => h) (fun i args n V h => by obtain ⟨p, j, _, _, rfl⟩ := h; rfl)
    (fun i X => RbI w w2 K D F V g m Q jv1 T0 oj n N j cs w1.heap.size i X) (fun _ _ _ => False)
    (fun i A B hx hr => hx.rcd hr hw2) (fun _ _ _ _ hx _ => hx) (fun i X hx => ⟨i, hx⟩) HI0.out ?_ ?_ ?_
  · rintro l2 i args V' Wv hl2 hlV hrec hiN hI hb ⟨p, jj, hj, hp, rfl⟩
    obtain ⟨f, cap, hpf, hff, -⟩ := hI.step hs2 hbF hj hp hN hw2
    subst hpf
    simp
    gi_wp2
    refine ⟨Below.refl _ _, ?_⟩
    intro V2 W2 hI2 hb2 hAr2 hoth hsz3 hV2 r hrec2
    obtain ⟨f', cap', hpf, -, hcall⟩ := (hI2.keep hb2 hw2).step hs2 hbF hj hp hN hw2
    cases hpf
    clear hI hb hI2 hb2 hAr2 hoth
    rcases hff with rfl | rfl
    · gi_wp2_with (refine ⟨trivial, rfl, ?_⟩; gi_at_call 205; refine (CallsIn.inRound l2 (callsIn_wide.2 hcall)).mono ?_; rintro e' w5 ⟨rfl, hI5, hK5⟩)
      exact ⟨hK5, hI5⟩
    · gi_wp2_with (refine ⟨trivial, rfl, ?_⟩; gi_at_call 206; refine (CallsIn.inRound l2 (callsIn_wide.2 hcall)).mono ?_; rintro e' w5 ⟨rfl, hI5, hK5⟩)
      exact ⟨hK5, hI5⟩
  · rintro D' W' hD hK hI
    gi_wp2
    refine ⟨by simp, .inl ⟨_, _, rfl, run_takeDeferred hK, ?_⟩⟩
    have R3 := Rec.put (B := w2.heap.size) hK rfl hD (.deferred none)
    obtain ⟨K', D2, F', Q', h1, h2, h3, h4, h5, h6, h7, h8, h9, h10, h11⟩ := (hI.rcd R3 hw2).ex
    refine ⟨_, results_tmp rfl _ _ _, ?_⟩
    rw [hU, Nat.sub_self, List.drop_zero, H1.out] at h5
    exact ⟨rfl, K', (h1.shut h5 H2.out).mono (fun b _ h => h8 b h), h7, h10⟩
  · rintro D' c i W' hD hK hi hF
    exact hF.elim
theorem srollback {w : World} {K D : Nat → Prop} {g n N : Nat} {E : Ents} {W : List Ents} (h : SA w K D g E W n N) (hN : N ≤ 100000000) :
    Calls Tryz.prog 136 #[.pointer (some ⟨g, 0, none⟩)] w (Ends w K D g (W.headD E) W.tail n N (.int .i64 (if W = [] then 62 else 0))) := by
  cases W with
  | nil =>
    refine (srollback_no h).mono ?_
    rintro e w' ⟨rfl, rfl⟩
    exact ⟨by simp, K, h.mono (fun _ _ h => .inl h), fun _ => .inl, Chg.refl _ _⟩
  | cons e0 W => simpa using srollback_ok h hN
theorem scommit {w : World} {K D : Nat → Prop} {g n N : Nat} {E : Ents} {W : List Ents} (h : SA w K D g E W n N) (hN : N ≤ 100000000) :
    Calls Tryz.prog 137 #[.pointer (some ⟨g, 0, none⟩)] w (Ends w K D g E W.tail n N (.int .i64 (if W = [] then 62 else 0))) := by
  cases W with
  | nil =>
    refine (scommit_no h).mono ?_
    rintro e w' ⟨rfl, rfl⟩
    exact ⟨by simp, K, h.mono (fun _ _ h => .inl h), fun _ => .inl, Chg.refl _ _⟩
  | cons e0 W => simpa using scommit_ok h (by simp) hN
theorem sbegin {w : World} {K D : Nat → Prop} {g n N : Nat} {E : Ents} {W : List Ents} (h : SA w K D g E W n N) :
    Calls Tryz.prog 133 #[.pointer (some ⟨g, 0, none⟩)] w (Ends w K D g E (if W.length = 16 then W else E :: W) n N (.int .i64 (if W.length = 16 then 62 else 0))) := by
  by_cases hW : W.length = 16
  · rw [if_pos hW, if_pos hW]
    refine (sbegin_full h hW).mono ?_
    rintro e w' ⟨rfl, rfl⟩
    exact ⟨rfl, K, h.mono (fun _ _ h => .inl h), fun _ => .inl, Chg.refl _ _⟩
  · rw [if_neg hW, if_neg hW]; exact sbegin_ok h hW
end Kv
end Go.Proofs.YtpoifdokmjhclaaGreat

namespace Go.Proofs.YtpoifdokmjhclaaGreat
namespace Kv
open Go.RowKit Go.Lib Pg
attribute [local go_sem] Oper.semAt_some
theorem wli_val {F : Fence} {n : Nat} {ops : Array Oper} {Q : Exit → Act → World → Prop} {rest : List Oper} {o : Oper} {a : Act} {w w' : World} {v : Value} (hg : o.guard = none) (hF : ∀ f, F.fn f) (hs : o.semAt F.round a.eval = execOp a.eval o) (hrun : (execOp a.eval o).run Tryz.prog w = .ok (.value v) w') (h : wpListIn F n Tryz.prog ops Q rest (a.put o.dst v) w') : wpListIn F n Tryz.prog ops Q (o :: rest) a w :=
  wpListIn_plain hg fun K hK => by
    unfold Oper.wpIn
    rw [hs, hrun, Oper.uponIn_value]
    exact ⟨fun f _ => hF f, hK _ _ h⟩
/-- the map of a store, to be walked -/
theorem SX.wm {w : World} {K D F V : Nat → Prop} {g m : Nat} {Q : List (List KV)} {jv : Value} {T : List Jr} {oj : Option Nat} {n N : Nat} (h : SX w K D F V g m Q jv T oj n N) (hN : N ≤ 100000000) {X : Nat → Prop} (h1 : ∀ b, X b → ¬ F b) (h2 : ∀ b, X b → ∀ cs, ¬ Blk w b cs 5) (h3 : ∀ b, X b → b < w.heap.size) :
    ∃ L, Wm w X F D m L ∧ ∀ f t, (wlk (ens L) f t).map En.kl2 = Q.flatten.filter (abtw f t) := by
  obtain ⟨L, rfl, A, O, S, k, r⟩ := h.map.ex
  exact ⟨L, ⟨A, O, fun es he => (S.one es he).2, S.few k hN, r, h1, h2, h3⟩, fun f t => abs_walk O f t⟩
end Kv
end Go.Proofs.YtpoifdokmjhclaaGreat

namespace Go.Proofs.YtpoifdokmjhclaaGreat
namespace Kv
open Go.RowKit Go.Lib Pg
attribute [local go_sem] Oper.semAt_some
/-- one more operation -/
def tick (g : Nat) (V : World) (x : Nat) : World := V.setCell ⟨g, 2, none⟩ (.int .i64 ((x : Int) + 1))
/-- what an iterator promises that counts, at its start and ahead of each round -/
def ItrC (Tp : TypeId → Prop) (g x0 : Nat) (gf : Nat) (lb : Array Value) (N : Nat) (Ar : Nat → Array Value → Nat → World → Prop) (Rd : World → Prop) : Prop :=
  ∀ (l : Nat) (J0 : World → Prop) (J Jt Jx : Nat → World → Prop) (W : World), St W.heap.size J0 → (∀ i, St W.heap.size (J i)) → (∀ i, St W.heap.size (Jt i)) → (∀ i, St W.heap.size (Jx i)) → g < W.heap.size →
    (∀ V, J0 V → V.cell? ⟨g, 2, none⟩ = some (.int .i64 x0) ∧ V.frozen? ⟨g, 2, none⟩ = false ∧ Rd V ∧ J 0 (tick g V x0)) →
    (∀ i V, J i V → V.cell? ⟨g, 2, none⟩ = some (.int .i64 ((x0 + 1 + i : Nat) : Int)) ∧ V.frozen? ⟨g, 2, none⟩ = false ∧ Rd V ∧ (i < N → Jt i (tick g V (x0 + 1 + i)))) →
    (∀ i args V V', i < N → Jt i V → W.heap.size ≤ V.heap.size → Below V.heap.size V V' → Ar i args V.heap.size V' → YieldAt Fence.wide 0 Tryz.prog l args V' fun e V'' => KeepsT Tp W.heap.size V' V'' ∧ ((e = .returned (.bool true) ∧ J (i + 1) V'') ∨ (e = .returned (.bool false) ∧ Jx (i + 1) V''))) →
    J0 W →
    Calls Tryz.prog gf (#[.func (.yield l) #[] #[]] ++ lb) W fun e W' => (∃ v, e = .returned v) ∧ W.heap.size ≤ W'.heap.size ∧ (J N W' ∨ ∃ i, i < N ∧ Jx (i + 1) W')
theorem below_tick {g x : Nat} {V V' : World} (hb : Below V.heap.size V V') : Below (tick g V x).heap.size (tick g V x) (tick g V' x) := by
  unfold tick
  refine ⟨hb.os, hb.tape, hb.output, by simpa [World.setCell] using hb.size, fun k hk => ?_⟩
  have hk' : k < V.heap.size := by simpa [World.setCell] using hk
  by_cases e : k = g
  · subst e
    have h1 := hb.block k hk'
    simp only [World.setCell, Array.getElem?_modify, h1]
  · rw [Below.heap_setCell _ _ _ _ (by exact e), Below.heap_setCell _ _ _ _ (by exact e)]
    exact hb.block k hk'
theorem tick_size (g x : Nat) (V : World) : (tick g V x).heap.size = V.heap.size := by simp [tick, World.setCell]
theorem chg_tick (g x : Nat) (V : World) : Chg (· = g) V (tick g V x) := (Chg.refl (· = g) V).cell (.inl rfl) _
theorem arc_tick {E : List En} {i n g x : Nat} {args : Array Value} {V : World} (h : ArC E i args n V) (hg : ∃ cs, Blk V g cs 152) : ArC E i args n (tick g V x) := by
  obtain ⟨e, kv, vv, s, h1, h2, h3, h4, h5⟩ := h
  have hU : ∀ b, b = g → ∀ cs, ¬ Blk V b cs 5 := fun b hb cs k => by
    subst hb
    obtain ⟨cs', k'⟩ := hg
    exact absurd (k.eq k').2 (by decide)
  exact ⟨e, kv, vv, s, h1, h2, h3.chg (chg_tick g x V) hU, h4.chg (chg_tick g x V) hU, h5⟩
/-- what a counted walk reads -/
def RdC (X : Nat → Prop) (W1 : World) (g bs1 bs2 bw : Nat) (V : World) : Prop := Chg X W1 V ∧ Blk V bs1 [.pointer (some ⟨g, 0, none⟩)] 46 ∧ Blk V bs2 [.func (.func 347) #[] #[.pointer (some ⟨bw, 0, none⟩)]] 291 ∧ ∃ cs, Blk V g cs 152
set_option maxHeartbeats 8000000 in
set_option maxRecDepth 100000 in
theorem counted_itr {Tp : TypeId → Prop} {X : Nat → Prop} {W1 : World} {g bs1 bs2 bw x0 : Nat} {E : List En} (IT : Itr Tp 347 #[.pointer (some ⟨bw, 0, none⟩)] E.length (ArC E) (fun V => Chg X W1 V)) (hT : ¬ Tp 38) (hx : x0 + E.length ≤ 3000000000000000000) :
    ItrC Tp g x0 303 #[.pointer (some ⟨bs1, 0, none⟩), .pointer (some ⟨bs2, 0, none⟩)] E.length (ArC E) (RdC X W1 g bs1 bs2 bw) := by
  intro l J0 J Jt Jx W hS0 hSJ hSt hSx hgW hJ0 hJ hY h0
  have B1 := below_alloc W (.cells #[.func (.yield l) #[] #[]] 38)
  have Y1 := blk_new W [.func (.yield l) #[] #[]] 38
  have J1 := hS0 _ _ h0 (Rec.of B1)
  obtain ⟨q1, q2, ⟨r1, r2, r3, r4⟩, q3⟩ := hJ0 _ J1
  have s1 : (W.alloc (.cells #[.func (.yield l) #[] #[]] 38)).heap.size = W.heap.size + 1 := by simp
  have cs := r2.cell (i := 0) rfl
  have uc := count_raw (g := g) q1 q2 (by omega) (by omega)
  have Yt := Y1.chg (chg_tick g x0 _) (by omega)
  have hst := (hJ 0 _ q3).2.2.1
  have cw := hst.2.2.1.cell (i := 0) rfl
  have HY := hid3 hY
  have HJ := hid3 hJ
  clear hJ0 hJ hY h0 J1 B1 Y1 r1 r2 r3 r4 q1 q2
  obtain ⟨Wa, hWa⟩ : ∃ Wa, Hid (W.alloc (.cells #[.func (.yield l) #[] #[]] 38) = Wa) := ⟨_, rfl⟩
  rw [hWa.out] at q3 s1 uc Yt hst cw
  refine (callsIn_wide (n := 0)).1 ?_
  refine callsIn_of_wp_marks Tryz.func303 rfl trivial ?_ rfl
  simp only [Tryz.ntmps303, List.size_toArray, List.length_cons, List.length_nil, Nat.reduceAdd, Nat.reduceSub, Array.replicate_succ, Array.replicate_zero, List.push_toArray, List.append_toArray, List.nil_append, List.cons_append]
  have tsz := tick_size g x0 Wa
  gi_wp2_with (refine ⟨trivial, rfl, ?_⟩; gi_at_call 70; rw [hWa.out]; refine (callsIn_wide.2 uc).mono ?_; rintro e' w0 ⟨rfl, hw0⟩; obtain rfl : w0 = tick g Wa x0 := hw0; clear uc cs)
  generalize tick g Wa x0 = Wt at *
  have sT : Wt.heap.size = W.heap.size + 1 := by omega
  refine rf_outer IT (by rfl) (enters_of Tryz.func347 (by kernel_rfl) rfl) (fun i args n V V' h hc => h.cel hc) (fun i args n V h => by obtain ⟨e, kv, vv, s, _, rfl, _⟩ := h; rfl)
    (fun i V => J i V ∧ W.heap.size + 1 ≤ V.heap.size ∧ Blk V W.heap.size [.func (.yield l) #[] #[]] 38)
    (fun c i V => c = .ret ∧ Jx i V ∧ W.heap.size + 1 ≤ V.heap.size)
    (fun i A B hx hr => ⟨hSJ i A B hx.1 (hr.mono (by omega)), Nat.le_trans hx.2.1 hr.size, rec_cel hx.2.2 hr⟩)
    (fun c i A B hx hr => ⟨hx.1, hSx i A B hx.2.1 (hr.mono (by omega)), Nat.le_trans hx.2.2 hr.size⟩)
    (fun i V hv => (HJ.out i V hv.1).2.2.1.1) ⟨q3, by omega, Yt⟩ ?_ ?_ ?_
  · rintro l2 i args V Wv hl hlV hrec hiN ⟨hJi, hsz, hY2⟩ hb ⟨e0, kv, vv, s0, he0, rfl, hk0, hv0, _⟩
    obtain ⟨ak, nk, hk1⟩ := hk0.shape
    obtain ⟨av, nv, hv1⟩ := hv0.shape
    subst hk1 hv1
    simp
    gi_wp2
    refine ⟨Below.refl _ _, ?_⟩
    intro V2 W2 hJ2 hsz2 hYb hb2 hAr2 hoth hsz3 hV2 r hrec2
    obtain ⟨p1, p2, ⟨k1, k2, k3, k4⟩, p3⟩ := HJ.out i V2 hJ2
    have glt : g < V2.heap.size := by obtain ⟨cs, k⟩ := k4; exact k.lt
    have c2 : W2.cell? ⟨g, 2, none⟩ = some (.int .i64 ((x0 + 1 + i : Nat) : Int)) := by rw [hb2.cell (p := ⟨g, 2, none⟩) glt]; exact p1
    have k4W : ∃ cs, Blk W2 g cs 152 := by obtain ⟨cs, k⟩ := k4; exact ⟨cs, k.keep hb2⟩
    have f2 : W2.frozen? ⟨g, 2, none⟩ = false := by obtain ⟨cs, k⟩ := k4W; exact k.free 2
    have cs2 := (k2.keep hb2).cell (i := 0) rfl
    have uc2 := count_raw (g := g) c2 f2 (by omega) (by omega)
    have hYW := (hYb.keep hb2).chg (chg_tick g (x0 + 1 + i) W2) (by omega)
    have yb := hYW.cell (i := 0) rfl
    have hA3 := arc_tick (x := x0 + 1 + i) hAr2 k4W
    rw [← tick_size g (x0 + 1 + i) V2] at hA3
    have hYY := HY.out i _ _ _ hiN (p3 hiN) (by rw [tick_size]; omega) (below_tick (x := x0 + 1 + i) hb2) hA3
    obtain ⟨fn, tmps, assign, body, hy, hR⟩ := hYY
    have hR2 : RoundIn (Fence.wide.inRound l2) 0 Tryz.prog l fn tmps assign body (tick g W2 (x0 + 1 + i)) _ := ⟨hR.1, fun c cs _ => hR.2 c cs (fun _ h => by cases h)⟩
    have hkt : KeepsT Tp Wt.heap.size W2 (tick g W2 (x0 + 1 + i)) := ⟨by rw [tick_size]; exact Nat.le_refl _, fun k o hk h0 _ => ((chg_tick g (x0 + 1 + i) W2).same k (lt_of_block h0) (by omega)).trans h0⟩
    have HK := hid3 hkt
    have HYW := hid3 hYW
    have HR := hid3 hR2
    replace hsz3 := hid3 hsz3
    replace hV2 := hid3 hV2
    have hWs : W.heap.size + 1 ≤ W2.heap.size := Nat.le_trans hsz2 hb2.size
    have tsz2 := hid3 (tick_size g (x0 + 1 + i) W2)
    clear hJi hk0 hv0 hb hoth hAr2 hA3 hR hR2 hkt hYW p1 p2 p3 k1 k2 k3 k4 k4W c2 f2 hYb hb2 hJ2 tsz
    gi_wp2_with (refine ⟨trivial, rfl, ?_⟩; gi_at_call 70; refine (CallsIn.inRound l2 (callsIn_wide.2 uc2)).mono ?_; rintro e' w3 ⟨rfl, hw3⟩; obtain rfl : w3 = tick g W2 (x0 + 1 + i) := hw3; clear uc2 cs2)
    refine ⟨rfl, HR.out.mono ?_⟩
    rintro e' w5 ⟨hk5, h5⟩
    have hY5 := hk5.blk HYW.out (Nat.le_refl _) hT
    have hkk : KeepsT Tp Wt.heap.size W2 w5 := HK.out.trans (hk5.mono (by omega))
    have hsz5 : W.heap.size + 1 ≤ w5.heap.size := Nat.le_trans hWs hkk.size
    rcases h5 with ⟨rfl, hJ5⟩ | ⟨rfl, hJ5⟩
    · gi_wp2
      exact ⟨hkk, hJ5, hsz5, hY5⟩
    · gi_wp2
      exact ⟨hkk, rfl, hJ5, hsz5⟩
  · rintro D' W' hD hK ⟨hJn, hsz, hYb⟩
    gi_wp2
    refine ⟨by simp, .inl ⟨_, _, rfl, run_takeDeferred hK, ?_⟩⟩
    exact ⟨_, results_none rfl _ _ _, ⟨_, rfl⟩, by simp; omega, .inl (hSJ _ _ _ hJn (Rec.put hK rfl (by omega) _))⟩
  · rintro D' c i W' hD hK hiN ⟨rfl, hJx', hsz⟩
    gi_wp2
    refine ⟨by simp, .inl ⟨_, _, rfl, run_takeDeferred hK, ?_⟩⟩
    exact ⟨_, results_none rfl _ _ _, ⟨_, rfl⟩, by simp; omega, .inr ⟨i, hiN, hSx (i + 1) _ _ hJx' (Rec.put hK rfl (by omega) _)⟩⟩
end Kv
end Go.Proofs.YtpoifdokmjhclaaGreat

namespace Go.Proofs.YtpoifdokmjhclaaGreat
namespace Kv
open Go.RowKit Go.Lib Pg
attribute [local go_sem] Oper.semAt_some
def zip2 (I It : Nat → World → Prop) (k : Nat) : World → Prop := if k % 2 = 0 then I (k / 2) else It (k / 2)
theorem zip2_odd (I It : Nat → World → Prop) (i : Nat) : zip2 I It (2 * i + 1) = It i := by
  unfold zip2
  rw [if_neg (by omega), show (2 * i + 1) / 2 = i by omega]
theorem zip2_even (I It : Nat → World → Prop) (i : Nat) : zip2 I It (2 * i + 1 + 1) = I (i + 1) := by
  unfold zip2
  rw [if_pos (by omega), show (2 * i + 1 + 1) / 2 = i + 1 by omega]
theorem bpost_zip {Tp : TypeId → Prop} {B : Nat} {I It : Nat → World → Prop} {Ix : Code → Nat → World → Prop} {i : Nat} {W : World} {e : Exit} {a : Act} {W' : World} (h : bpost Tp B I Ix (i + 1) W e a W') : bpost Tp B (zip2 I It) (fun c k => Ix c (k / 2)) (2 * i + 1 + 1) W e a W' := by
  have e2 : (2 * i + 1 + 1) / 2 = i + 1 := by omega
  cases e <;> simp only [bpost] at h ⊢
  · exact ⟨h.1, by rw [zip2_even]; exact h.2⟩
  · exact ⟨h.1, by rw [e2]; exact h.2⟩
  · exact ⟨h.1, by rw [e2]; exact h.2⟩
  · exact ⟨h.1, by rw [e2]; exact h.2⟩
/-- the walk of a round -/
def RoundC (Tp : TypeId → Prop) (w : World) (N n : Nat) (ps : Array Tmp) (assign body : Code) (tmps : Array Value) (Ar : Nat → Array Value → Nat → World → Prop) (It I : Nat → World → Prop) (Ix : Code → Nat → World → Prop) : Prop :=
  ∀ (l i : Nat) (args : Array Value) (V W : World), w.heap.size ≤ l → l < V.heap.size → (∃ r, V.heap[l]? = some (.loop r)) → i < N → It i V → Below V.heap.size V W → Ar i args V.heap.size W →
    assign.wpIn (Fence.wide.inRound l) n Tryz.prog (Exit.then (fun a1 W1 => Below W.heap.size W W1 ∧ ∀ V2 W2, It i V2 → Below V2.heap.size V2 W2 → Ar i args V2.heap.size W2 → (∀ b, b ≠ l → W2.heap[b]? = W1.heap[b]?) → W2.heap.size = W1.heap.size → V2.heap.size = V.heap.size → (∃ r, W2.heap[l]? = some (.loop r)) → body.wpIn (Fence.wide.inRound l) n Tryz.prog (bpost Tp w.heap.size I Ix (i + 1) W2) a1 W2) (fun _ _ _ => False)) { tmps := (ps.zip args).foldl (fun t (p, v) => t.setIfInBounds p v) tmps, defers := [] } W
theorem tick_other {g x k : Nat} {V : World} (h : k ≠ g) : (tick g V x).heap[k]? = V.heap[k]? := Below.heap_setCell _ _ _ _ h
theorem rf_outerC {Tp : TypeId → Prop} {gf N n g0 x0 : Nat} {lb : Array Value} {Ar : Nat → Array Value → Nat → World → Prop} {Rd : World → Prop} (IT : ItrC Tp g0 x0 gf lb N Ar Rd) {g : Operand} {ps : Array Tmp} {assign body : Code} {Q : Exit → Act → World → Prop} {a : Act} {w : World}
    (hg : a.eval g = .func (.func gf) #[] lb) (eg : ∀ args w, (callFunc gf args).run Tryz.prog w = .ok (.enter gf args) w) (hArS : ∀ i args n V W, Ar i args n V → Cel V W → Ar i args n W) (hAn : ∀ i args n V, Ar i args n V → args.size = ps.size)
    (I0 : World → Prop) (I It : Nat → World → Prop) (Ix : Code → Nat → World → Prop) (hI0 : St w.heap.size I0) (hI : ∀ i, St w.heap.size (I i)) (hIt : ∀ i, St w.heap.size (It i)) (hIx : ∀ c i, St w.heap.size (Ix c i)) (hgw : g0 < w.heap.size)
    (hx0 : ∀ V, I0 V → V.cell? ⟨g0, 2, none⟩ = some (.int .i64 x0) ∧ V.frozen? ⟨g0, 2, none⟩ = false ∧ Rd V ∧ I 0 (tick g0 V x0))
    (hx : ∀ i V, I i V → V.cell? ⟨g0, 2, none⟩ = some (.int .i64 ((x0 + 1 + i : Nat) : Int)) ∧ V.frozen? ⟨g0, 2, none⟩ = false ∧ Rd V ∧ (i < N → It i (tick g0 V (x0 + 1 + i)))) (h0 : I0 w)
    (hround : RoundC Tp w N n ps assign body a.tmps Ar It I Ix)
    (hdone : ∀ D W, w.heap.size ≤ D → W.heap[D]? = some (.deferred (some [])) → I N W → Q .normal { a with defers := { target := .collected D, args := #[] } :: a.defers } W)
    (hstop : ∀ D c i W, w.heap.size ≤ D → W.heap[D]? = some (.deferred (some [])) → i < N → Ix c (i + 1) W → c.wpIn Fence.wide n Tryz.prog Q { a with defers := { target := .collected D, args := #[] } :: a.defers } W) :
    (Code.rangeFunc g ps assign body).wpIn Fence.wide n Tryz.prog Q a w := by
  refine wpIn_rangeFunc ?_
  intro fn _
  obtain ⟨W1, hW1⟩ : ∃ W1, (w.alloc (.deferred (some []))).alloc (.loop (recd fn a.tmps ps assign body w.heap.size .ready none)) = W1 := ⟨_, rfl⟩
  have hB1 : Below w.heap.size w W1 := by rw [← hW1]; exact joinB (below_alloc w _) (below_alloc _ _)
  have hs1 : W1.heap.size = w.heap.size + 1 + 1 := by rw [← hW1]; simp
  have hL1 : W1.heap[w.heap.size + 1]? = some (.loop (recd fn a.tmps ps assign body w.heap.size .ready none)) := by
    rw [← hW1]; have := World.alloc_heap_new (w.alloc (.deferred (some []))) (.loop (recd fn a.tmps ps assign body w.heap.size .ready none)); rwa [World.size_alloc] at this
  have hK1 : W1.heap[w.heap.size]? = some (.deferred (some [])) := by
    rw [← hW1]; exact (Below.heap_alloc _ _ _ (by simp)).trans (World.alloc_heap_new w _)
  have t1 : ∀ V x, (tick g0 V x).heap[w.heap.size + 1]? = V.heap[w.heap.size + 1]? := fun V x => tick_other (by omega)
  have t2 : ∀ V x, (tick g0 V x).heap[w.heap.size]? = V.heap[w.heap.size]? := fun V x => tick_other (by omega)
  refine ⟨w.heap.size + 1, [{ target := .collected w.heap.size, args := #[] }], W1, { target := .fn (.func gf) lb, args := #[.func (.yield (w.heap.size + 1)) #[] #[]] }, W1, gf,
    #[.func (.yield (w.heap.size + 1)) #[] #[]] ++ lb, W1, ?_, ?_, ?_, ?_, fun h => (by cases h), ?_⟩
  · rw [← hW1]; exact run_enterLoop_outer _ _ _ _ _
  · simp only [resolve, hg]
    simp [go_sem]
  · intro f' _; trivial
  · simp [invoke, go_sem, eg]
  · refine callsIn_wide.2 ?_
    refine (IT (w.heap.size + 1)
      (fun W => I0 W ∧ W.heap[w.heap.size + 1]? = some (.loop (recd fn a.tmps ps assign body w.heap.size .ready none)) ∧ W.heap[w.heap.size]? = some (.deferred (some [])))
      (fun i W => I i W ∧ W.heap[w.heap.size + 1]? = some (.loop (recd fn a.tmps ps assign body w.heap.size .ready none)) ∧ W.heap[w.heap.size]? = some (.deferred (some [])))
      (fun i W => It i W ∧ W.heap[w.heap.size + 1]? = some (.loop (recd fn a.tmps ps assign body w.heap.size .ready none)) ∧ W.heap[w.heap.size]? = some (.deferred (some [])))
      (fun i W => ∃ c, Ix c i W ∧ W.heap[w.heap.size + 1]? = some (.loop (recd fn a.tmps ps assign body w.heap.size .done (some c))) ∧ W.heap[w.heap.size]? = some (.deferred (some [])))
      W1 (fun X Y hx hr => ⟨hI0 X Y hx.1 (hr.mono (by omega)), hr.same _ _ hx.2.1 (.inl (by omega)), hr.same _ _ hx.2.2 (.inl (by omega))⟩)
      (fun i X Y hx hr => ⟨hI i X Y hx.1 (hr.mono (by omega)), hr.same _ _ hx.2.1 (.inl (by omega)), hr.same _ _ hx.2.2 (.inl (by omega))⟩)
      (fun i X Y hx hr => ⟨hIt i X Y hx.1 (hr.mono (by omega)), hr.same _ _ hx.2.1 (.inl (by omega)), hr.same _ _ hx.2.2 (.inl (by omega))⟩)
      (fun i X Y hx hr => by obtain ⟨c, h1, h2, h3⟩ := hx; exact ⟨c, hIx c i X Y h1 (hr.mono (by omega)), hr.same _ _ h2 (.inl (by omega)), hr.same _ _ h3 (.inl (by omega))⟩)
      (by omega)
      (fun V hv => by obtain ⟨q1, q2, q3, q4⟩ := hx0 V hv.1; exact ⟨q1, q2, q3, q4, (t1 V x0).trans hv.2.1, (t2 V x0).trans hv.2.2⟩)
      (fun i V hv => by obtain ⟨q1, q2, q3, q4⟩ := hx i V hv.1; exact ⟨q1, q2, q3, fun hi => ⟨q4 hi, (t1 V _).trans hv.2.1, (t2 V _).trans hv.2.2⟩⟩)
      ?_ ⟨hI0 _ _ h0 (Rec.of hB1), hL1, hK1⟩).mono ?_
    · rintro i args V V' hiN ⟨hi, hl, hk⟩ hsz hb ha
      have hr := hround _ i args V V' (by omega) (lt_of_block hl) ⟨_, hl⟩ hiN hi hb ha
      refine (yield_core (Tp := Tp) (B := w.heap.size) (i := 2 * i + 1) (I := zip2 I It) (Ix := fun c k => Ix c (k / 2)) (Ar := fun k => Ar (k / 2)) (fun j => hArS (j / 2)) (fun j => by unfold zip2; split; exact hI _; exact hIt _) (fun c j => hIx c _) (by omega) hl (by rw [zip2_odd]; exact hi) hb (by rw [show (2 * i + 1) / 2 = i by omega]; exact ha) (hAn _ _ _ _ ha) (wpIn_mono hr ?_)).mono ?_
      · intro e a1 W1 h
        cases e <;> first
          | (refine ⟨h.1, fun V2 W2 q1 q2 q3 q4 q5 q6 q7 => ?_⟩
             rw [zip2_odd] at q1
             rw [show (2 * i + 1) / 2 = i by omega] at q3
             exact wpIn_mono (h.2 V2 W2 q1 q2 q3 q4 q5 q6 q7) (fun e a W h => bpost_zip h))
          | exact h.elim
      · rintro e V'' ⟨hkp, h⟩
        have hk2 := hkp.same _ _ (Nat.le_refl _) (by omega) ((hb.block _ (lt_of_block hk)).trans hk) safe_def
        refine ⟨hkp.from (by omega) (by omega), h.imp (fun h => ⟨h.1, by have := h.2.1; rw [zip2_even] at this; exact this, h.2.2, hk2⟩) (fun h => ?_)⟩
        obtain ⟨h1, c, h2, h3⟩ := h
        rw [show (2 * i + 1 + 1) / 2 = i + 1 by omega] at h2
        exact ⟨h1, c, h2, h3, hk2⟩
    · rintro e W2 ⟨⟨v, rfl⟩, hsz, ⟨hi, hl, hk⟩ | ⟨i, hiN, c, hi, hl, hk⟩⟩
      · exact ⟨none, _, run_endLoop (P := Tryz.prog) hl (by simp [recd]), hdone _ _ (Nat.le_refl _) ((World.putObj_heap_other (by omega)).trans hk) (hI _ _ _ hi (Rec.put hl rfl (by omega) _))⟩
      · exact ⟨some c, _, run_endLoop (P := Tryz.prog) hl (by simp [recd]), hstop _ c i _ (Nat.le_refl _) ((World.putObj_heap_other (by omega)).trans hk) hiN (hIx c _ _ _ hi (Rec.put hl rfl (by omega) _))⟩
end Kv
end Go.Proofs.YtpoifdokmjhclaaGreat

namespace Go.Proofs.YtpoifdokmjhclaaGreat
namespace Kv
open Go.RowKit Go.Lib Pg
attribute [local go_sem] Oper.semAt_some
/-- one more byte, which lies at p -/
theorem app_at {w : World} {B p : Nat} {v : Value} {l : List Int} {x : Int} (h : OB w (B ≤ ·) v l) (hB : B ≤ w.heap.size) (hl : l.length ≤ 1000000000) (hx : 0 ≤ x ∧ x < 256) (hp : w.cell? ⟨p, 0, none⟩ = some (.int .u8 x)) :
    ∃ v' w', (Builtin.append_ #[29, 29] 29 #[v, .slice (some ⟨p, 0, none⟩) 1 1]).run Tryz.prog w = .ok v' w' ∧ OB w' (B ≤ ·) v' (l ++ [x]) ∧ Below B w w' := by
  have ho : Oct (l ++ [x]) := fun y hy => by
    rcases List.mem_append.1 hy with hy | hy
    · exact h.oct y hy
    · simp at hy; subst hy; exact hx
  have hnews : ∀ j u, [Value.int .u8 x][j]? = some u → w.cell? ((⟨p, 0, none⟩ : Addr).add j) = some u := fun j u hj => by
    match j with
    | 0 => simp at hj; subst hj; exact hp
    | j + 1 => simp at hj
  rcases h.ex with ⟨rfl, rfl⟩ | ⟨b, c, rfl, hl2, hR⟩
  · obtain ⟨c', w', hr, hR, hw⟩ := app_nil (w := w) KB 29 ⟨p, 0, none⟩ 1 1 [.int .u8 x] rfl hnews (by decide) (by decide) (by decide)
    exact ⟨_, w', hr, ⟨ho, .inr ⟨_, c', rfl, hB, hR⟩⟩, hw.mono hB⟩
  · obtain ⟨b', c', w', hr, hb', hR', hw⟩ := app_row (w := w) KB 29 hR ⟨p, 0, none⟩ 1 1 [.int .u8 x] rfl hnews (by simp [Value.oneCell']) (by omega) (by omega)
    refine ⟨_, w', hr, ⟨ho, .inr ⟨b', c', by simp, ?_, by rw [List.map_append, List.length_append]; exact hR'⟩⟩, hw.below (fun x e => by have e' : x = b := e; omega) hB⟩
    rcases hb' with rfl | rfl
    · exact hl2
    · exact hB
theorem app_byte {w : World} {B : Nat} {v : Value} {l : List Int} {x : Int} (h : OB w (B ≤ ·) v l) (hB : B ≤ w.heap.size) (hl : l.length ≤ 1000000000) (hx : 0 ≤ x ∧ x < 256) :
    ∃ v' w', (Builtin.append_ #[29, 29] 29 #[v, .slice (some ⟨w.heap.size, 0, none⟩) 1 1]).run Tryz.prog (w.alloc (.cells #[.int .u8 x] 5)) = .ok v' w' ∧ OB w' (B ≤ ·) v' (l ++ [x]) ∧ Below B w w' := by
  have hb := below_alloc w (.cells #[.int .u8 x] 5)
  have hk := blk_new w [.int .u8 x] 5
  have ho : Oct (l ++ [x]) := fun y hy => by
    rcases List.mem_append.1 hy with hy | hy
    · exact h.oct y hy
    · simp at hy; subst hy; exact hx
  have hnews : ∀ j u, [Value.int .u8 x][j]? = some u → (w.alloc (.cells #[.int .u8 x] 5)).cell? ((⟨w.heap.size, 0, none⟩ : Addr).add j) = some u := fun j u hj => by
    match j with
    | 0 => exact hk.cell (i := 0) hj
    | j + 1 => simp at hj
  rcases h.ex with ⟨rfl, rfl⟩ | ⟨b, c, rfl, hl2, hR⟩
  · obtain ⟨c', w', hr, hR, hw⟩ := app_nil (w := w.alloc (.cells #[.int .u8 x] 5)) KB 29 ⟨w.heap.size, 0, none⟩ 1 1 [.int .u8 x] rfl hnews (by decide) (by decide) (by decide)
    exact ⟨_, w', hr, ⟨ho, .inr ⟨_, c', rfl, Nat.le_trans hB hb.size, hR⟩⟩, (hb.mono hB).trans (hw.mono (Nat.le_trans hB hb.size))⟩
  · obtain ⟨b', c', w', hr, hb', hR', hw⟩ := app_row (w := w.alloc (.cells #[.int .u8 x] 5)) KB 29 (hR.keep hb) ⟨w.heap.size, 0, none⟩ 1 1 [.int .u8 x] rfl hnews (by simp [Value.oneCell']) (by omega) (by omega)
    refine ⟨_, w', hr, ⟨ho, .inr ⟨b', c', by simp, ?_, by rw [List.map_append, List.length_append]; exact hR'⟩⟩, (hb.mono hB).trans (hw.below (fun x e => by have e' : x = b := e; omega) (Nat.le_trans hB hb.size))⟩
    rcases hb' with rfl | rfl
    · exact hl2
    · exact Nat.le_trans hB hb.size
theorem OB.sh {w : World} {D : Nat → Prop} {v : Value} {l : List Int} (h : OB w D v l) : ∃ ao c, v = .slice ao l.length c := by
  rcases h.ex with ⟨rfl, rfl⟩ | ⟨b, c, rfl, _⟩
  · exact ⟨none, 0, rfl⟩
  · exact ⟨_, c, rfl⟩
theorem By.lens {w : World} {ao : Option Addr} {n c : Nat} {l : List Int} (h : By w (.slice ao n c) l) : l.length = n ∧ n ≤ c ∧ c ≤ 9223372036854775807 := by
  obtain ⟨ao', c', e, h2, h3, _⟩ := h.ex
  cases e
  exact ⟨rfl, h2, h3⟩
theorem run_app {a : Act} {w w' : World} {o : Oper} {x y : Nat} {T ty : TypeId} {u v r : Value} (hty : o.type = ty) (ho : o.op = .call { callee := .builtin .append, args := #[.tmp x, .tmp y], argTypes := #[T, T] }) (hx : a.eval (.tmp x) = u) (hy : a.eval (.tmp y) = v) (hr : (Builtin.append_ #[T, T] ty #[u, v]).run Tryz.prog w = .ok r w') :
    (execOp a.eval o).run Tryz.prog w = .ok (.value r) w' := by
  subst hty
  unfold execOp
  simp only [ho, resolve, invoke, builtin, Sem.run_bind, Sem.run_pure, Result.andThen_ok, List.map_toArray, List.map_cons, List.map_nil, hx, hy, hr]
theorem ob_nil (w : World) (D : Nat → Prop) : OB w D (.slice none 0 0) [] := ⟨fun _ h => by simp at h, .inl ⟨rfl, rfl⟩⟩
def ArBB (Q : List Int) (i : Nat) (args : Array Value) (_ : Nat) (_ : World) : Prop := ∃ p j, j + 1 + i = Q.length ∧ Q[j]? = some p ∧ args = #[.int .i64 (j : Int), .int .u8 p]
set_option maxHeartbeats 4000000 in
set_option maxRecDepth 100000 in
theorem backB_itr {Tp : TypeId → Prop} {bs n c : Nat} {ao : Option Addr} {Q : List Int} {Rd : World → Prop} (hn : Q.length = n) (hbig : n ≤ 1000000000)
    (hb : ∀ V, Rd V → V.cell? ⟨bs, 0, none⟩ = some (.slice ao n c) ∧ ∀ j p, Q[j]? = some p → ∃ b o, ao = some ⟨b, o, none⟩ ∧ V.cell? ⟨b, o + j, none⟩ = some (.int .u8 p)) :
    Itr Tp 351 #[.pointer (some ⟨bs, 0, none⟩)] n (ArBB Q) Rd := by
  intro l J Jx W hJ hJx hRd hY h0
  have cb := (hb W (hRd 0 W h0)).1
  have hb : Hid _ := hb
  have hn : Hid _ := hn
  have w0 : IntKind.i64.wrap ((n : Int) - 1) = (n : Int) - 1 := by rw [IntKind.wrap_i64]; omega
  refine (callsIn_wide (n := 0)).1 ?_
  refine callsIn_of_wp Tryz.func351 rfl trivial ?_ rfl
  simp only [Tryz.ntmps351, List.size_toArray, List.length_cons, List.length_nil, Nat.reduceAdd, Nat.reduceSub, Array.replicate_succ, Array.replicate_zero, List.push_toArray, List.append_toArray, List.nil_append, List.cons_append]
  gi_wp2
  gi_loopw [3] (fun ti wr => ∃ i : Nat, i ≤ n ∧ ti = .int .i64 ((n : Int) - 1 - (i : Int)) ∧ W.heap.size ≤ wr.heap.size ∧ J i wr) (fun ti _ => (intOf ti + 1).toNat)
  case atStart => exact ⟨0, Nat.zero_le _, by simp, Nat.le_refl _, h0⟩
  case round =>
    clear cb
    obtain ⟨i, hi, rfl, hsz, hJi⟩ := hrel
    obtain ⟨cb, hat⟩ := hb.out wr (hRd _ _ hJi)
    by_cases hlt : i < n
    · obtain ⟨j, hj⟩ : ∃ j, j + 1 + i = n := ⟨n - 1 - i, by omega⟩
      obtain ⟨p, hp⟩ : ∃ p, Q[j]? = some p := ⟨Q[j]'(by have := hn.out; omega), List.getElem?_eq_getElem _⟩
      obtain ⟨b, o, rfl, cP⟩ := hat j p hp
      have ej : (n : Int) - 1 - (i : Int) = (j : Int) := by omega
      have HI : Hid (j + 1 + i = n) := hj
      have hY1 := hY i _ wr wr hlt hJi hsz (Below.refl _ _) ⟨p, j, by rw [hn.out]; exact hj, hp, rfl⟩
      obtain ⟨fn, tmps, assign, body, hy, hR⟩ := hY1
      rw [ej]
      have w1 : IntKind.i64.wrap ((j : Int) - 1) = (j : Int) - 1 := by rw [IntKind.wrap_i64]; omega
      have z1 : (j : Int) < n := by omega
      clear hat ej hj
      gi_wp2
      refine ⟨rfl, hR.mono ?_⟩
      rintro e' W4 ⟨hk4, ⟨rfl, hJ4⟩ | ⟨rfl, hJ4⟩⟩
      · gi_wp2
        go_roundw
        case rel => exact ⟨i + 1, by omega, by have := HI.out; congr 1; omega, Nat.le_trans hsz hk4.size, hJ4⟩
        case measure => simp [intOf]
      · gi_wp2
        refine bodyPost_ret (results_none rfl _ _ _) rfl ?_
        exact ⟨⟨_, rfl⟩, Nat.le_trans hsz hk4.size, .inr ⟨i, hlt, hJ4⟩⟩
    · have hin : i = n := by omega
      have ej : (n : Int) - 1 - (i : Int) = -1 := by omega
      rw [ej]
      have HJ : Hid (J n wr) := by show J n wr; rw [← hin]; exact hJi
      clear hat ej hin hJi
      gi_wp2
      go_end0
      exact ⟨⟨_, rfl⟩, hsz, .inl HJ.out⟩
set_option maxHeartbeats 1000000 in
set_option maxRecDepth 100000 in
theorem backB_mk {w : World} {ao : Option Addr} {n c : Nat} : Calls Tryz.prog 306 #[.slice ao n c] w fun e w' => e = .returned (.func (.func 351) #[] #[.pointer (some ⟨w.heap.size, 0, none⟩)]) ∧ Blk w' w.heap.size [.slice ao n c] 29 ∧ Below w.heap.size w w' := by
  go_enter Tryz.func306, Tryz.ntmps306
  go_wp2
  go_ret
  exact ⟨rfl, blk_new w _ _, below_alloc w _⟩
/-- the least bytes above all that begin so; none, where there is none -/
def nxt (l : List Int) : List Int := match l.reverse.dropWhile (· == 255) with
  | [] => []
  | x :: t => t.reverse ++ [x + 1]
theorem dw_all : ∀ {l : List Int}, (∀ x ∈ l, x = 255) → l.dropWhile (· == 255) = []
  | [], _ => rfl
  | x :: l, h => by
    have hx := h x List.mem_cons_self
    subst hx
    rw [List.dropWhile_cons_of_pos (by decide)]
    exact dw_all (fun y hy => h y (List.mem_cons_of_mem _ hy))
theorem dw_key (A B : List Int) {x : Int} (hx : x ≠ 255) (h : ∀ b ∈ B, b = 255) : (A ++ x :: B).reverse.dropWhile (· == 255) = x :: A.reverse := by
  rw [List.reverse_append, List.reverse_cons, List.append_assoc, List.dropWhile_append_of_pos (fun a ha => by simp [h a (List.mem_reverse.1 ha)]), List.singleton_append, List.dropWhile_cons_of_neg (by simp [hx])]
theorem nxt_all {l : List Int} (h : ∀ x ∈ l, x = 255) : nxt l = [] := by
  have : l.reverse.dropWhile (· == 255) = [] := by
    exact dw_all (fun x hx => h x (List.mem_reverse.1 hx))
  unfold nxt
  rw [this]
theorem nxt_at {l : List Int} {j : Nat} {x : Int} (hj : l[j]? = some x) (hx : x ≠ 255) (h : ∀ i y, l[i]? = some y → j < i → y = 255) : nxt l = l.take j ++ [x + 1] := by
  have hlt : j < l.length := (List.getElem?_eq_some_iff.1 hj).1
  have e : l = l.take j ++ x :: l.drop (j + 1) := by
    have h1 := (List.take_append_drop j l).symm
    have h2 : l.drop j = x :: l.drop (j + 1) := by
      rw [List.drop_eq_getElem_cons hlt]
      congr 1
      exact (List.getElem?_eq_some_iff.1 hj).2
    rw [h2] at h1
    exact h1
  have h3 : l.reverse.dropWhile (· == 255) = x :: (l.take j).reverse := by
    have h4 := dw_key (l.take j) (l.drop (j + 1)) hx (fun a ha => by
      obtain ⟨i, hi⟩ := List.getElem?_of_mem ha
      rw [List.getElem?_drop] at hi
      exact h (j + 1 + i) a hi (by omega))
    rw [← e] at h4
    exact h4
  unfold nxt
  rw [h3]
  simp
theorem below_rec {B0 B1 : Nat} {w A B : World} (h : Below B0 w A) (hr : Rec B1 A B) (hB : B0 ≤ B1) (hw : B0 ≤ A.heap.size) : Below B0 w B :=
  ⟨hr.os.trans h.os, hr.tape.trans h.tape, hr.output.trans h.output, Nat.le_trans h.size hr.size, fun k hk => by
    obtain ⟨o, ho⟩ : ∃ o, A.heap[k]? = some o := ⟨A.heap[k]'(by omega), Array.getElem?_eq_getElem _⟩
    rw [hr.same k o ho (.inl (by omega)), ← ho]
    exact h.block k hk⟩
theorem hr_blk {B g : Nat} {A A' : World} {cs : List Value} {ty : TypeId} (h : Blk A g cs ty) (hr : Rec B A A') : Blk A' g cs ty := hr.blk h
theorem OB.rcd {B : Nat} {D : Nat → Prop} {A A' : World} {v : Value} {l : List Int} (h : OB A D v l) (hr : Rec B A A') : OB A' D v l := by
  refine ⟨h.oct, h.ex.imp id ?_⟩
  rintro ⟨b, c, e, hd, hR⟩
  obtain ⟨cs, k⟩ := hR.kind
  exact ⟨b, c, e, hd, hR.same ((hr.blk k).blk.trans k.blk.symm)⟩
theorem By.take {w : World} {ao : Option Addr} {n c : Nat} {l : List Int} (h : By w (.slice ao n c) l) (j : Nat) (hj : j ≤ n) : By w (.slice ao j c) (l.take j) := by
  obtain ⟨hl, hc, hm⟩ := By.lens h
  obtain ⟨ao', c', e, h2, h3, h4, h5, h6⟩ := h.ex
  cases e
  have hlen : (l.take j).length = j := by rw [List.length_take]; omega
  refine ⟨ao, c, by rw [hlen], by rw [hlen]; omega, h3, h4, fun x hx => h5 x (List.mem_of_mem_take hx), ?_⟩
  rcases h6 with rfl | ⟨b', o', e, hlt, hcell⟩
  · exact .inl (by simp)
  · exact .inr ⟨b', o', e, hlt, fun i x hi => hcell i x (by
      rw [List.getElem?_take] at hi
      split at hi
      · exact hi
      · cases hi)⟩
theorem ld_sl {w : World} {g o : Nat} {v : Value} (c : w.cell? ⟨g, o, none⟩ = some v) : (loadVar 29 ⟨g, o, none⟩).run Tryz.prog w = .ok v w := by go_simp
theorem wli_app {F : Fence} {n : Nat} {ops : Array Oper} {Q : Exit → Act → World → Prop} {rest : List Oper} {pos : String} {after : Array Edge} {a : Act} {w w' : World} {u v r : Value} (hF : ∀ f, F.fn f) (hu : a.eval (.tmp 14) = u) (hv : a.eval (.tmp 17) = v) (hr : (Builtin.append_ #[29, 29] 29 #[u, v]).run Tryz.prog w = .ok r w') (h : wpListIn F n Tryz.prog ops Q rest (a.put (some 18) r) w') :
    wpListIn F n Tryz.prog ops Q ({ dst := some 18, op := .call { callee := .builtin .append, args := #[.tmp 14, .tmp 17], argTypes := #[29, 29] }, type := 29, pos := pos, after := after, guard := none } :: rest) a w :=
  wli_val rfl hF (Oper.semAt_eq _ _ _ (fun c h => by cases h)) (run_app (x := 14) (y := 17) rfl rfl hu hv hr) h
set_option maxHeartbeats 4000000 in
set_option maxRecDepth 100000 in
theorem next_any {w : World} {ao : Option Addr} {n c : Nat} {l : List Int} (h : By w (.slice ao n c) l) (hbig : n ≤ 1000000000) :
    Calls Tryz.prog 245 #[.slice ao n c] w fun e w' => ∃ v, e = .returned v ∧ OB w' (w.heap.size ≤ ·) v (nxt l) ∧ Below w.heap.size w w' := by
  obtain ⟨hl, hnc, hcm⟩ := By.lens h
  have c1 := blk_new w [.slice ao n c] 29
  have b1 := below_alloc w (.cells #[.slice ao n c] 29)
  have s1 : (w.alloc (.cells #[.slice ao n c] 29)).heap.size = w.heap.size + 1 := by simp
  have c2 := blk_new (w.alloc (.cells #[.slice ao n c] 29)) [.slice none 0 0] 29
  have b2 := below_alloc (w.alloc (.cells #[.slice ao n c] 29)) (.cells #[.slice none 0 0] 29)
  have s2 : ((w.alloc (.cells #[.slice ao n c] 29)).alloc (.cells #[.slice none 0 0] 29)).heap.size = w.heap.size + 2 := by simp
  rw [s1] at c2
  have c1' := c1.keep b2
  have b12 := joinB b1 b2
  obtain ⟨Wa, hWa⟩ : ∃ Wa, Hid ((w.alloc (.cells #[.slice ao n c] 29)).alloc (.cells #[.slice none 0 0] 29) = Wa) := ⟨_, rfl⟩
  rw [hWa.out] at c1' c2 s2 b12
  have HB := hid3 h
  clear h c1 b1 b2 s1
  refine (callsIn_wide (n := 0)).1 ?_
  refine callsIn_of_wp_marks Tryz.func245 rfl trivial ?_ rfl
  simp only [Tryz.ntmps245, List.size_toArray, List.length_cons, List.length_nil, Nat.reduceAdd, Nat.reduceSub, Array.replicate_succ, Array.replicate_zero, List.push_toArray, List.append_toArray, List.nil_append, List.cons_append]
  gi_wp2_with (refine ⟨trivial, rfl, ?_⟩; gi_at_call 306; rw [hWa.out]; refine (callsIn_wide.2 backB_mk).mono ?_; rintro e' w2 ⟨rfl, hBx, hB2⟩)
  rw [s2] at hBx
  have k1 := c1'.keep hB2
  have k2 := c2.keep hB2
  have B2 := joinB b12 hB2
  have hs2 := hB2.size
  have IT := backB_itr (Tp := fun _ => False) (bs := w.heap.size + 2) (c := c) (ao := ao) (Q := l) (n := n) (Rd := fun V => Below w2.heap.size w2 V) hl hbig (fun V hv => ⟨(hBx.keep hv).cell (i := 0) rfl, fun j p hj => By.at ((HB.out.keep B2).keep hv) hj⟩)
  refine rf_outer IT (by rfl) (enters_of Tryz.func351 (by kernel_rfl) rfl) (fun i args n V V' h _ => h) (fun i args n V h => by obtain ⟨p, j, _, _, rfl⟩ := h; rfl)
    (fun i V => Below w2.heap.size w2 V ∧ ∀ j x, l[j]? = some x → n ≤ j + i → x = 255)
    (fun c i V => c = .ret ∧ ∃ v, Blk V (w.heap.size + 1) [v] 29 ∧ OB V (w.heap.size ≤ ·) v (nxt l) ∧ Below w.heap.size w V)
    (fun i A B hx hr => ⟨below_rec hx.1 hr (Nat.le_refl _) hx.1.size, hx.2⟩)
    (fun c i A B hx hr => ⟨hx.1, by obtain ⟨v, h1, h2, h3⟩ := hx.2; exact ⟨v, hr.blk h1, OB.rcd h2 hr, below_rec h3 hr B2.size h3.size⟩⟩)
    (fun i V hv => hv.1) ⟨Below.refl _ _, fun j x hj hn => by have := (List.getElem?_eq_some_iff.1 hj).1; omega⟩ ?_ ?_ ?_
  · rintro l2 i args V Wv hl2 hlV hrec hiN ⟨hBV, hall⟩ hb ⟨p, j, hj, hp, rfl⟩
    simp
    gi_wp2
    refine ⟨Below.refl _ _, ?_⟩
    intro V2 W2 hBV2 hall2 hb2 hAr2 hoth hsz3 hV2 r hrec2
    have hBW := hBV2.trans (hb2.mono hBV2.size)
    have kb := (k1.keep hBW).cell (i := 0) rfl
    have kr := k2.keep hBW
    have hpo : 0 ≤ p ∧ p < 256 := HB.out.oct p (List.mem_of_getElem? hp)
    clear hall hb hBV hoth hAr2
    by_cases hp5 : p = 255
    · subst hp5
      gi_wp2
      refine ⟨KeepsT.of (Below.refl _ _), hBW, fun j2 x hx hn => ?_⟩
      by_cases e : j2 = j
      · subst e; rw [hp] at hx; cases hx; rfl
      · exact hall2 j2 x hx (by omega)
    · have hp6 : p < 255 := by omega
      have BY := By.take ((HB.out.keep B2).keep hBW) j (by omega)
      have hjl : (l.take j).length = j := by rw [List.length_take]; omega
      have hjn : (j : Int) ≤ c := by omega
      have w9 : IntKind.u8.wrap (p + 1) = p + 1 := by rw [IntKind.wrap_u8]; omega
      have HKR := hid3 kr
      have HW := hid3 hBW
      have HNX : Hid (nxt l = l.take j ++ [p + 1]) := nxt_at hp hp5 (fun i2 y hy hi => hall2 i2 y hy (by omega))
      clear kr hBW hall2
      gi_wp2_with (first
        | (have gate := hr6; clear gate; refine wli_app (fun _ => trivial) rfl rfl hr6 ?_; clear hr6)
        | (refine ⟨trivial, rfl, ?_⟩; gi_at_call 104; refine (CallsIn.inRound l2 (callsIn_wide.2 (clone_any BY (by omega)))).mono ?_; rintro e' w5 ⟨v5, rfl, O5, b5⟩; obtain ⟨v6, w6, hr6, O6, b6⟩ := app_byte (B := W2.heap.size) (x := p + 1) O5 b5.size (by omega) (by omega); have kr6 := (HKR.out.keep b5).keepB b6 (HKR.out.lt); have kc := kr6.cell (i := 0) rfl; have kfr := kr6.free 0; obtain ⟨a5, c5, rfl⟩ := OB.sh O5; obtain ⟨a6, c6, rfl⟩ := OB.sh O6; rw [hjl] at hr6 ⊢))
      have hlt : w.heap.size + 1 < w2.heap.size := k2.lt
      have hsW := HW.out.size
      have b56 := b5.trans b6
      have O7 : OB w6 (W2.heap.size ≤ ·) (.slice a6 (j + 1) c6) (l.take j ++ [p + 1]) := by
        have h9 := O6
        rw [show (l.take j ++ [p + 1]).length = j + 1 by rw [List.length_append, hjl]; rfl] at h9
        exact h9
      have O8 : OB (w6.setCell ⟨w.heap.size + 1, 0, none⟩ (.slice a6 (j + 1) c6)) (W2.heap.size ≤ ·) (.slice a6 (j + 1) c6) (l.take j ++ [p + 1]) := O7.same (fun b _ hb => Below.heap_setCell w6 _ _ b (by show b ≠ w.heap.size + 1; omega))
      have B6 : Below w.heap.size w w6 := (B2.trans (HW.out.mono B2.size)).trans (b56.mono (Nat.le_trans B2.size hsW))
      refine ⟨(KeepsT.of b56).trans ⟨?_, fun k o hk h0 _ => (Below.heap_setCell w6 _ _ k (by show k ≠ w.heap.size + 1; omega)).trans h0⟩, rfl, _, kr6.setCell (i := 0) _, ?_, B6.setCell (show w.heap.size ≤ w.heap.size + 1 by omega) _⟩
      · exact ((Chg.refl (fun x => x = w.heap.size + 1) w6).cell (g := w.heap.size + 1) (i := 0) (.inl rfl) _).size
      · rw [HNX.out]
        exact O8.mono (fun b _ hb => by have := B2.size; omega)
  · rintro D' W' hD hK ⟨hBW, hall⟩
    have kr := k2.keep hBW
    have kc := kr.cell (i := 0) rfl
    have kf := kr.free 0
    have hlt : w.heap.size + 1 < w2.heap.size := k2.lt
    have hK3 : (W'.setCell ⟨w.heap.size + 1, 0, none⟩ (.slice none 0 0)).heap[D']? = some (.deferred (some [])) := (Below.heap_setCell W' _ _ D' (by show D' ≠ w.heap.size + 1; omega)).trans hK
    gi_wp2
    refine ⟨by simp, .inl ⟨_, _, rfl, run_takeDeferred hK3, ?_⟩⟩
    have R3 := Rec.put (B := w2.heap.size) hK3 rfl hD (.deferred none)
    have k3 := hr_blk (kr.setCell (i := 0) (.slice none 0 0)) R3
    refine ⟨_, kres_cell rfl rfl (ld_sl (k3.cell (i := 0) rfl)), _, rfl, ?_, ?_⟩
    · rw [nxt_all (fun x hx => by
        obtain ⟨j, hj⟩ := List.getElem?_of_mem hx
        exact hall j x hj (by omega))]
      exact ob_nil _ _
    · have h9 : Below w.heap.size w (W'.setCell ⟨w.heap.size + 1, 0, none⟩ (.slice none 0 0)) := (B2.trans (hBW.mono B2.size)).setCell (show w.heap.size ≤ w.heap.size + 1 by omega) _
      exact below_rec h9 R3 B2.size h9.size
  · rintro D' c i W' hD hK hiN ⟨rfl, v, h1, h2, h3⟩
    gi_wp2
    refine ⟨by simp, .inl ⟨_, _, rfl, run_takeDeferred hK, ?_⟩⟩
    have R3 := Rec.put (B := w2.heap.size) hK rfl hD (.deferred none)
    have k3 := hr_blk h1 R3
    exact ⟨_, kres_cell rfl rfl (ld_sl (k3.cell (i := 0) rfl)), _, rfl, OB.rcd h2 R3, below_rec h3 R3 B2.size h3.size⟩
theorem lt_cons {x y : Int} {a b : List Int} : Lt (x :: a) (y :: b) ↔ x < y ∨ (x = y ∧ Lt a b) := by
  unfold Lt
  rw [cmpB]
  by_cases h1 : x < y
  · simp [h1]
  · by_cases h2 : y < x
    · rw [if_neg h1, if_pos h2]
      constructor
      · intro h; exact absurd h (by decide)
      · rintro (h | ⟨h, _⟩) <;> omega
    · rw [if_neg h1, if_neg h2]
      have : x = y := by omega
      simp [this]
theorem lt_nil_cons {y : Int} {b : List Int} : Lt [] (y :: b) := by simp [Lt, cmpB]
theorem not_lt_nil {a : List Int} : ¬ Lt a [] := by cases a <;> simp [Lt, cmpB]
theorem lt_app (s : List Int) {a b : List Int} : Lt (s ++ a) (s ++ b) ↔ Lt a b := by
  induction s with
  | nil => exact Iff.rfl
  | cons x s ih => rw [List.cons_append, List.cons_append, lt_cons, ih]; simp
theorem last255 : ∀ l : List Int, (∀ x ∈ l, x = 255) ∨ ∃ A x B, l = A ++ x :: B ∧ x ≠ 255 ∧ ∀ b ∈ B, b = 255
  | [] => .inl (fun _ h => by simp at h)
  | y :: t => by
    rcases last255 t with h | ⟨A, x, B, rfl, hx, hB⟩
    · by_cases hy : y = 255
      · exact .inl (fun x hx => by
          rcases List.mem_cons.1 hx with rfl | hx
          · exact hy
          · exact h x hx)
      · exact .inr ⟨[], y, t, rfl, hy, h⟩
    · exact .inr ⟨y :: A, x, B, rfl, hx, hB⟩
theorem nxt_eq {A B : List Int} {x : Int} (hx : x ≠ 255) (hB : ∀ b ∈ B, b = 255) : nxt (A ++ x :: B) = A ++ [x + 1] := by
  unfold nxt
  rw [dw_key A B hx hB]
  simp
theorem nxt_nil {l : List Int} (h : nxt l = []) : ∀ x ∈ l, x = 255 := by
  rcases last255 l with h1 | ⟨A, x, B, rfl, hx, hB⟩
  · exact h1
  · rw [nxt_eq hx hB] at h
    simp at h
theorem pre_lt_nxt {l c : List Int} (h : nxt l ≠ []) (hc : l <+: c) : Lt c (nxt l) := by
  rcases last255 l with h1 | ⟨A, x, B, rfl, hx, hB⟩
  · exact absurd (nxt_all h1) h
  · obtain ⟨t, rfl⟩ := hc
    rw [nxt_eq hx hB, List.append_assoc, lt_app, List.cons_append, lt_cons]
    exact .inl (by omega)
theorem all255 : ∀ {B t : List Int}, (∀ b ∈ B, b = 255) → Oct t → Lt t B ∨ B <+: t
  | [], _, _, _ => .inr (List.nil_prefix)
  | b :: B, [], _, _ => .inl lt_nil_cons
  | b :: B, z :: t, hB, ht => by
    have hb := hB b List.mem_cons_self
    have hz := ht z List.mem_cons_self
    subst hb
    by_cases h : z = 255
    · subst h
      rcases all255 (fun b hb => hB b (List.mem_cons_of_mem _ hb)) (fun y hy => ht y (List.mem_cons_of_mem _ hy)) with h1 | h1
      · exact .inl (lt_cons.2 (.inr ⟨rfl, h1⟩))
      · exact .inr (List.cons_prefix_cons.2 ⟨rfl, h1⟩)
    · exact .inl (lt_cons.2 (.inl (by omega)))
theorem below_nxt : ∀ {A B c : List Int} {x : Int}, (∀ b ∈ B, b = 255) → Oct c → Lt c (A ++ [x + 1]) → Lt c (A ++ x :: B) ∨ (A ++ x :: B) <+: c
  | [], B, [], x, _, _, _ => .inl lt_nil_cons
  | [], B, y :: t, x, hB, hc, h => by
    rw [List.nil_append, lt_cons] at h
    rw [List.nil_append]
    rcases h with h | ⟨_, h⟩
    · by_cases e : y = x
      · subst e
        rcases all255 hB (fun z hz => hc z (List.mem_cons_of_mem _ hz)) with h1 | h1
        · exact .inl (lt_cons.2 (.inr ⟨rfl, h1⟩))
        · exact .inr (List.cons_prefix_cons.2 ⟨rfl, h1⟩)
      · exact .inl (lt_cons.2 (.inl (by omega)))
    · exact absurd h not_lt_nil
  | a :: A, B, [], x, _, _, _ => .inl lt_nil_cons
  | a :: A, B, y :: t, x, hB, hc, h => by
    rw [List.cons_append, lt_cons] at h
    rw [List.cons_append]
    rcases h with h | ⟨h1, h2⟩
    · exact .inl (lt_cons.2 (.inl h))
    · subst h1
      rcases below_nxt hB (fun z hz => hc z (List.mem_cons_of_mem _ hz)) h2 with h3 | h3
      · exact .inl (lt_cons.2 (.inr ⟨rfl, h3⟩))
      · exact .inr (List.cons_prefix_cons.2 ⟨rfl, h3⟩)
theorem not_lt_nxt {l c : List Int} (hc : Oct c) (h1 : ¬ l <+: c) (h2 : ¬ Lt c l) : ¬ Lt c (nxt l) := by
  rcases last255 l with h3 | ⟨A, x, B, rfl, hx, hB⟩
  · rw [nxt_all h3]; exact not_lt_nil
  · rw [nxt_eq hx hB]
    intro h
    rcases below_nxt hB hc h with h4 | h4
    · exact h2 h4
    · exact h1 h4
end Kv
end Go.Proofs.YtpoifdokmjhclaaGreat

namespace Go.Proofs.YtpoifdokmjhclaaGreat
namespace Kv
open Go.RowKit Go.Lib Pg
attribute [local go_sem] Oper.semAt_some
end Kv
end Go.Proofs.YtpoifdokmjhclaaGreat

namespace Go.Proofs.YtpoifdokmjhclaaGreat
namespace Kv
open Go.RowKit Go.Lib Pg
attribute [local go_sem] Oper.semAt_some
set_option maxHeartbeats 2000000 in
set_option maxRecDepth 100000 in
theorem counted_mk {w : World} {pg : Option Addr} {k : Nat} {lb : Array Value} : Calls Tryz.prog 243 #[.pointer pg, .func (.func k) #[] lb] w fun e w' => e = .returned (.func (.func 303) #[] #[.pointer (some ⟨w.heap.size, 0, none⟩), .pointer (some ⟨w.heap.size + 1, 0, none⟩)]) ∧ Blk w' w.heap.size [.pointer pg] 46 ∧ Blk w' (w.heap.size + 1) [.func (.func k) #[] lb] 291 ∧ Below w.heap.size w w' := by
  have b1 := below_alloc w (.cells #[.pointer pg] 46)
  have c1 := blk_new w [.pointer pg] 46
  have b2 := below_alloc (w.alloc (.cells #[.pointer pg] 46)) (.cells #[.func (.func k) #[] lb] 291)
  have c2 := blk_new (w.alloc (.cells #[.pointer pg] 46)) [.func (.func k) #[] lb] 291
  have s1 : (w.alloc (.cells #[.pointer pg] 46)).heap.size = w.heap.size + 1 := by simp
  rw [s1] at c2
  go_enter Tryz.func243, Tryz.ntmps243
  go_wp2
  go_ret
  exact ⟨rfl, c1.keep b2, c2, joinB b1 b2⟩
theorem SA.oct {w : World} {K D : Nat → Prop} {g n N : Nat} {E : Ents} {W : List Ents} (h : SA w K D g E W n N) : ∀ x ∈ E, Oct x.1 := by
  obtain ⟨F, V, m, Q, jv, T, oj, hX, rfl, hB⟩ := h.open
  obtain ⟨L, rfl, A, O, S, k, r⟩ := hX.map.ex
  intro x hx
  rw [abs_flat] at hx
  obtain ⟨e, he, rfl⟩ := List.mem_map.1 hx
  obtain ⟨es, h1, h2⟩ := List.mem_flatten.1 he
  obtain ⟨p, hp, rfl⟩ := List.mem_map.1 h1
  exact ((A.pages p hp).1.ents e h2).k.oct
theorem pre_not_lt {p k : List Int} (h : p <+: k) : ¬ Lt k p := by
  obtain ⟨t, rfl⟩ := h
  intro h
  have : Lt (p ++ t) (p ++ []) := by simpa using h
  rw [lt_app] at this
  exact not_lt_nil this
theorem abtw_pre {p : List Int} {x : KV} (hx : Oct x.1) : abtw p (nxt p) x = decide (p <+: x.1) := by
  unfold abtw
  by_cases h : p <+: x.1
  · have h1 := pre_not_lt h
    by_cases hn : nxt p = []
    · simp [h, h1, hn]
    · simp [h,h1];exact .inr (pre_lt_nxt hn h)
  · by_cases h1 : Lt x.1 p
    · simp [h, h1]
    · have hn : nxt p ≠ [] := fun e => by
        rcases all255 (nxt_nil e) hx with h2 | h2
        · exact h1 h2
        · exact h h2
      simp [h, h1, hn, not_lt_nxt hx h h1]
end Kv
end Go.Proofs.YtpoifdokmjhclaaGreat

namespace Go.Proofs.YtpoifdokmjhclaaGreat
namespace Kv
open Go.RowKit Go.Lib Pg
/-- bytes in a block of bytes, however its capacity is marked -/
structure ByU (w : World) (v : Value) (l : List Int) : Prop where
  byt : By w v l
  u8 : ∀ b o n c, v = .slice (some ⟨b, o, none⟩) n c → ∃ cs m, w.heap[b]? = some (.cells cs 5 m)
theorem ByU.chg {w w' : World} {K : Nat → Prop} {v : Value} {l : List Int} (h : ByU w v l) (hc : Chg K w w') (hk : ∀ b, K b → ∃ cs t, Blk w b cs t ∧ t ≠ 5) : ByU w' v l := by
  have hs : ∀ b o n c, v = .slice (some ⟨b, o, none⟩) n c → w'.heap[b]? = w.heap[b]? := fun b o n c e => by
    obtain ⟨cs, m, hb⟩ := h.u8 b o n c e
    refine hc.same b (lt_of_block hb) fun hK => ?_
    obtain ⟨ds, t, hd, ht⟩ := hk b hK
    have := hd.blk.symm.trans hb
    simp at this
    exact ht this.2.1
  refine ⟨?_, fun b o n c e => by rw [hs b o n c e]; exact h.u8 b o n c e⟩
  obtain ⟨ao, c, h1, h2, h3, h4, h5, h6⟩ := h.byt.ex
  refine ⟨ao, c, h1, h2, h3, h4, h5, h6.imp id ?_⟩
  rintro ⟨b, o, rfl, hlt, hcell⟩
  exact ⟨b, o, rfl, Nat.lt_of_lt_of_le hlt hc.size, fun i x hi => by rw [World.cell?_of_block (w := w) (hs b o _ _ h1)]; exact hcell i x hi⟩
theorem ByU.of {w : World} {D : Nat → Prop} {v : Value} {l : List Int} (h : OB w D v l) : ByU w v l := by
  refine ⟨h.by, fun b o n c e => ?_⟩
  rcases h.ex with ⟨rfl, _⟩ | ⟨b', c', rfl, _, hR⟩
  · cases e
  · cases e
    obtain ⟨cs, k⟩ := hR.kind
    exact ⟨_, _, k.blk⟩
theorem SA.kind {w : World} {K D : Nat → Prop} {g n N : Nat} {E : Ents} {W : List Ents} (h : SA w K D g E W n N) : ∀ b, K b → ∃ cs t, Blk w b cs t ∧ t ≠ 5 := by
  obtain ⟨F, V, m, Q, jv, T, oj, _, _, _, _, _, _, _, O⟩ := h.ex
  exact O.kind
end Kv
end Go.Proofs.YtpoifdokmjhclaaGreat
