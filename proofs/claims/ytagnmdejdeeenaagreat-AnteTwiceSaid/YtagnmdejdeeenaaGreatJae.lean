/- Several texts, joined: KvW, KvX, KvY, KvZ, KvAa, KvAb, KvBa, KvBb, KvBc, KvBh, KvBd, KvBe, KvCa. -/
import Derived.Test.YtagnmdejdeeenaaGreatJad
import Derived.Test.YtagnmdejdeeenaaGreatJac
import Derived.Shelf.Abstract
import Derived.Shelf.RegionOpen
import Derived.OwnWalkIn
import Derived.TacticsInMore
import Derived.LoopNIn
import Derived.LoopIn
namespace Go.Proofs.YtagnmdejdeeenaaGreat
namespace Kv
open Go.RowKit Go.Lib Pg
attribute [local go_sem] Oper.semAt_some
theorem rem_none {E : Ents} {k : List Int} (h : Rise E) (hn : (look E k).isSome = false) : rem E k = E := by
  obtain ⟨X, Y, c, ⟨rfl, e⟩ | ⟨x, rfl, e⟩⟩ := h.cut k
  · exact c.rem0
  · rw [e] at hn; cases hn
set_option maxHeartbeats 2000000 in
set_option maxRecDepth 100000 in
theorem sget {w : World} {K D : Nat → Prop} {g n N : Nat} {E : Ents} {W : List Ents} {kv : Value} {k : List Int} (h : SA w K D g E W n N) (hk : BK w K kv k) (hn : n ≤ 4000000000000000000) (hN : N ≤ 100000000) :
    Calls Tryz.prog 39 #[.pointer (some ⟨g, 0, none⟩), kv] w fun e w' => ∃ v, e = .returned (.tuple #[v, .bool (look E k).isSome]) ∧ OB w' (w.heap.size ≤ ·) v ((look E k).getD []) ∧ SA w' K D g E W (n + 1) N ∧ Chg K w w' := by
  obtain ⟨F, V, m, Q, jv, T, oj, hX, rfl, hB⟩ := h.open
  obtain ⟨ao, c, rfl⟩ := hk.shape
  have u := xcount hX hn
  have HX := hid3 hX
  have HB := hid3 hB
  have HK := hid3 hk
  clear hX hB hk h
  obtain ⟨kn, hkn⟩ : ∃ kn, Hid (k.length = kn) := ⟨_, rfl⟩
  rw [hkn.out] at HK ⊢
  have ug := fun w' (X : SX w' K D F V g m Q jv T oj (n + 1) N) (hk : By w' (.slice ao kn c) k) => xget_key X hk hN
  obtain ⟨r, hr⟩ : ∃ r, (look Q.flatten k).isSome = r := ⟨_, rfl⟩
  obtain ⟨L, hL⟩ : ∃ L, (look Q.flatten k).getD [] = L := ⟨_, rfl⟩
  rw [hr, hL] at ug ⊢
  clear hr hL
  go_enter Tryz.func39, Tryz.ntmps39
  go_wp2_with first
    | (go_at_call 42; go_must (refine u.mono ?_); rintro e w1 ⟨rfl, X1, C1⟩; have c0 := X1.blk.cell (i := 0) rfl)
    | (go_at_call 65; go_must (refine (ug _ X1 (HK.out _ (HX.out.kg C1))).mono ?_); rintro e w2 ⟨v, rfl, O, B⟩; obtain ⟨a1, c1, rfl⟩ : ∃ a1 c1, v = .slice a1 L.length c1 := (by obtain ⟨a1, c1, e, _⟩ := O.by.ex; exact ⟨a1, c1, e⟩); generalize L.length = ln at *)
  go_ret2
  exact ⟨_, rfl, O.mono (fun b _ h => by have := C1.size; have h' : w1.heap.size ≤ b := h; show w.heap.size ≤ b; omega), (X1.keep B).shut rfl HB.out, chgJoin (HX.out.kg C1) (Chg.of B)⟩
set_option maxHeartbeats 4000000 in
set_option maxRecDepth 100000 in
theorem sdel_no {w : World} {K D F V : Nat → Prop} {g m n N : Nat} {Q : List (List KV)} {jv : Value} {T : List Jr} {oj : Option Nat} {W : List Ents} {kv : Value} {k : List Int} (hX : SX w K D F V g m Q jv T oj n N) (hB : Back (T.reverse.map Jr.U) W Q.flatten) (hk : BK w K kv k) (hn : n ≤ 4000000000000000000) (hN : N + 2 ≤ 100000000) (hr : (look Q.flatten k).isSome = false) :
    Calls Tryz.prog 52 #[.pointer (some ⟨g, 0, none⟩), kv] w (Ends w K D g (rem Q.flatten k) W (n + 1) (N + 2) (.bool false)) := by
  obtain ⟨ao, c, rfl⟩ := hk.shape
  have u := xcount hX hn
  have HX := hid3 hX
  have HB := hid3 hB
  have HK := hid3 hk
  have hN' : N ≤ 99999998 := by omega
  replace hN : N ≤ 100000000 := by omega
  clear hX hB hk
  obtain ⟨kn, hkn⟩ : ∃ kn, Hid (k.length = kn) := ⟨_, rfl⟩
  rw [hkn.out] at HK ⊢
  go_enter Tryz.func52, Tryz.ntmps52
  go_wp2_with first
    | (go_at_call 42; go_must (refine u.mono ?_); rintro e w1 ⟨rfl, X1, C1⟩; have uh := xholds X1 (HK.out _ (HX.out.kg C1)) hN; rw [hr] at uh)
    | (go_at_call 92; go_must (refine uh.mono ?_); rintro e w2 ⟨rfl, B2⟩; clear uh; replace X1 := X1.keep B2; have C3 := chgJoin (HX.out.kg C1) (Chg.of B2))
  go_ret
  have e := rem_none HX.out.map.ord.flat hr
  exact ⟨rfl, K, ((X1.shut e.symm (by rw [e]; exact HB.out)).more (by omega)).mono (fun _ _ h => .inl h), fun b h => .inl h, C3⟩
set_option maxHeartbeats 4000000 in
set_option maxRecDepth 100000 in
theorem sdel_nil {w : World} {K D F V : Nat → Prop} {g m n N : Nat} {Q : List (List KV)} {jv : Value} {oj : Option Nat} {W : List Ents} {kv : Value} {k : List Int} (hX : SX w K D F V g m Q jv [] oj n N) (hB : Back ([].reverse.map Jr.U) W Q.flatten) (hk : BK w K kv k) (hn : n ≤ 4000000000000000000) (hN : N + 2 ≤ 100000000) (hr : (look Q.flatten k).isSome = true) :
    Calls Tryz.prog 52 #[.pointer (some ⟨g, 0, none⟩), kv] w (Ends w K D g (rem Q.flatten k) W (n + 1) (N + 2) (.bool true)) := by
  obtain ⟨ao, c, rfl⟩ := hk.shape
  have u := xcount hX hn
  have HX := hid3 hX
  have HB := hid3 hB
  have HK := hid3 hk
  have hN' : N ≤ 99999998 := by omega
  replace hN : N ≤ 100000000 := by omega
  clear hX hB hk
  obtain ⟨kn, hkn⟩ : ∃ kn, Hid (k.length = kn) := ⟨_, rfl⟩
  rw [hkn.out] at HK ⊢
  go_enter Tryz.func52, Tryz.ntmps52
  go_wp2_with first
    | (go_at_call 42; go_must (refine u.mono ?_); rintro e w1 ⟨rfl, X1, C1⟩; have uh := xholds X1 (HK.out _ (HX.out.kg C1)) hN; rw [hr] at uh)
    | (go_at_call 92; go_must (refine uh.mono ?_); rintro e w2 ⟨rfl, B2⟩; clear uh; replace X1 := X1.keep B2; have C3 := chgJoin (HX.out.kg C1) (Chg.of B2))
    | (go_at_call 43; go_must (refine (xremember0 X1).mono ?_); rintro e y ⟨rfl, hy⟩; replace hy := hy.symm; subst hy; have c0 := X1.blk.cell (i := 0) rfl; have us := mdel X1.map (HK.out _ C3) (by omega); rw [look_has X1.map.ord, hr] at us)
    | (go_at_call 93; go_must (refine us.mono ?_); rintro e w4 ⟨rfl, F', M', hF, hC⟩)
  go_ret
  have X3 := X1.mapped (N' := N) (by have := X1.tot; have := rem_len (E := Q.flatten) k; rw [pages_rem X1.map.ord]; omega) M' hF (fun _ h => h) hC
  refine ⟨rfl, _, ((X3.shut (E := rem Q.flatten k) (W := W) (pages_rem X1.map.ord k) (back_nil HB.out)).more (by omega)).mono (fun b _ hb => ?_), fun b hb => ?_, ?_⟩
  · exact .inl hb
  · rcases hb with ⟨hb, _⟩ | hb
    · exact .inl hb
    · rcases hF b hb with h1 | h1
      · exact .inl (X1.own.map b h1)
      · exact .inr (by have := C3.size; omega)
  · exact chgJoin C3 (hC.mono (fun b _ h => X1.own.map b h))
set_option maxHeartbeats 4000000 in
set_option maxRecDepth 100000 in
theorem sdel_jrn {w : World} {K D F V : Nat → Prop} {g m n N : Nat} {Q : List (List KV)} {jv : Value} {T0 : List Jr} {j : Jr} {oj : Option Nat} {W : List Ents} {kv : Value} {k : List Int} (hX : SX w K D F V g m Q jv (T0 ++ [j]) oj n N) (hB : Back ((T0 ++ [j]).reverse.map Jr.U) W Q.flatten) (hk : BK w K kv k) (hn : n ≤ 4000000000000000000) (hN : N + 2 ≤ 100000000) (hkl : k.length ≤ 1000000000) (hr : (look Q.flatten k).isSome = true) :
    Calls Tryz.prog 52 #[.pointer (some ⟨g, 0, none⟩), kv] w (Ends w K D g (rem Q.flatten k) W (n + 1) (N + 2) (.bool true)) := by
  obtain ⟨ao, c, rfl⟩ := hk.shape
  have u := xcount hX hn
  have HX := hid3 hX
  have HB := hid3 hB
  have HK := hid3 hk
  replace hkl := hid3 hkl
  have hN' : N ≤ 99999998 := by omega
  replace hN : N ≤ 100000000 := by omega
  clear hX hB hk
  obtain ⟨kn, hkn⟩ : ∃ kn, Hid (k.length = kn) := ⟨_, rfl⟩
  rw [hkn.out] at HK ⊢
  go_enter Tryz.func52, Tryz.ntmps52
  go_wp2_with first
    | (go_at_call 42; go_must (refine u.mono ?_); rintro e w1 ⟨rfl, X1, C1⟩; have uh := xholds X1 (HK.out _ (HX.out.kg C1)) hN; rw [hr] at uh)
    | (go_at_call 92; go_must (refine uh.mono ?_); rintro e w2 ⟨rfl, B2⟩; clear uh; replace X1 := X1.keep B2; have C3 := chgJoin (HX.out.kg C1) (Chg.of B2))
    | (go_at_call 43; go_must (refine (xremember X1 (HK.out _ C3) (by have := hkl.out; omega) hN).mono ?_); rintro e w3 ⟨rfl, K2, V2, j', hj', X2, hK2, C2⟩; have C4 := chgJoin C3 C2; have c0 := X2.blk.cell (i := 0) rfl; have us := mdel X2.map (HK.out _ C4) (by omega); rw [look_has X2.map.ord, hr] at us)
    | (go_at_call 93; go_must (refine us.mono ?_); rintro e w4 ⟨rfl, F', M', hF, hC⟩)
  go_ret
  have X3 := X2.mapped (N' := N + 1) (by have := X2.tot; have := rem_len (E := Q.flatten) k; rw [pages_rem X2.map.ord]; omega) M' hF (fun _ h => h) hC
  refine ⟨rfl, _, ((X3.shut (E := rem Q.flatten k) (W := W) (pages_rem X2.map.ord k) (back_push HB.out hj' (undo_rem HX.out.map.ord.flat k))).more (by omega)).mono (fun b _ hb => ?_), fun b hb => ?_, ?_⟩
  · rcases hb with hb | hb
    · exact .inl hb
    · exact .inr (by have := C3.size; omega)
  · rcases hb with ⟨hb, _⟩ | hb
    · exact (hK2 b hb).imp id (fun h => by have := C3.size; omega)
    · rcases hF b hb with h1 | h1
      · exact (hK2 b (X2.own.map b h1)).imp id (fun h => by have := C3.size; omega)
      · exact .inr (by have := C4.size; omega)
  · exact C4.trans hC (fun b hb h => (hK2 b (X2.own.map b h)).elim id (fun h => by have := C3.size; omega))
theorem sdel {w : World} {K D : Nat → Prop} {g n N : Nat} {E : Ents} {W : List Ents} {kv : Value} {k : List Int} (h : SA w K D g E W n N) (hk : BK w K kv k) (hkl : k.length ≤ 1000000000) (hn : n ≤ 4000000000000000000) (hN : N + 2 ≤ 100000000) :
    Calls Tryz.prog 52 #[.pointer (some ⟨g, 0, none⟩), kv] w (Ends w K D g (rem E k) W (n + 1) (N + 2) (.bool (look E k).isSome)) := by
  obtain ⟨F, V, m, Q, jv, T, oj, hX, rfl, hB⟩ := h.open
  cases hr : (look Q.flatten k).isSome with
  | false => exact sdel_no hX hB hk hn hN hr
  | true =>
    rcases List.eq_nil_or_concat T with rfl | ⟨T0, j, rfl⟩
    · exact sdel_nil hX hB hk hn hN hr
    · rw [List.concat_eq_append] at hX hB
      exact sdel_jrn hX hB hk hn hN hkl hr
end Kv
end Go.Proofs.YtagnmdejdeeenaaGreat

namespace Go.Proofs.YtagnmdejdeeenaaGreat
namespace Kv
open Go.RowKit Go.Lib Pg
attribute [local go_sem] Oper.semAt_some
end Kv
end Go.Proofs.YtagnmdejdeeenaaGreat

namespace Go.Proofs.YtagnmdejdeeenaaGreat
namespace Kv
open Go.RowKit Go.Lib Pg
attribute [local go_sem] Oper.semAt_some
end Kv
end Go.Proofs.YtagnmdejdeeenaaGreat

namespace Go.Proofs.YtagnmdejdeeenaaGreat
namespace Kv
open Go.RowKit Go.Lib Pg
attribute [local go_sem] Oper.semAt_some
end Kv
end Go.Proofs.YtagnmdejdeeenaaGreat

namespace Go.Proofs.YtagnmdejdeeenaaGreat
namespace Kv
open Go.RowKit Go.Lib Pg
attribute [local go_sem] Oper.semAt_some
end Kv
end Go.Proofs.YtagnmdejdeeenaaGreat

namespace Go.Proofs.YtagnmdejdeeenaaGreat
namespace Kv
open Go.RowKit Go.Lib Pg
attribute [local go_sem] Oper.semAt_some
end Kv
end Go.Proofs.YtagnmdejdeeenaaGreat

namespace Go.Proofs.YtagnmdejdeeenaaGreat
namespace Kv
open Go.RowKit Go.Lib Pg
attribute [local go_sem] Oper.semAt_some
theorem wli_val {F : Fence} {n : Nat} {ops : Array Oper} {Q : Exit → Act → World → Prop} {rest : List Oper} {o : Oper} {a : Act} {w w' : World} {v : Value} (hg : o.guard = none) (hF : ∀ f, F.fn f) (hs : o.semAt F.round a.eval = execOp a.eval o) (hrun : (execOp a.eval o).run Tryz.prog w = .ok (.value v) w') (h : wpListIn F n Tryz.prog ops Q rest (a.put o.dst v) w') : wpListIn F n Tryz.prog ops Q (o :: rest) a w :=
  wpListIn_plain hg fun K hK => by
    unfold Oper.wpIn
    rw [hs, hrun, Oper.uponIn_value]
    exact ⟨fun f _ => hF f, hK _ _ h⟩
theorem wli_apq {F : Fence} {n x y d : Nat} {ops : Array Oper} {Q : Exit → Act → World → Prop} {rest : List Oper} {pos : String} {after : Array Edge} {a : Act} {w w' : World} {u v r : Value} (hF : ∀ f, F.fn f) (hu : a.eval (.tmp x) = u) (hv : a.eval (.tmp y) = v) (hr : (Builtin.append_ #[29, 29] 29 #[u, v]).run Tryz.prog w = .ok r w') (h : wpListIn F n Tryz.prog ops Q rest (a.put (some d) r) w') :
    wpListIn F n Tryz.prog ops Q ({ dst := some d, op := .call { callee := .builtin .append, args := #[.tmp x, .tmp y], argTypes := #[29, 29] }, type := 29, pos := pos, after := after, guard := none } :: rest) a w :=
  wli_val rfl hF (Oper.semAt_eq _ _ _ (fun c h => by cases h)) (run_ap (x := x) (y := y) rfl rfl hu hv hr) h
/-- the map of a store, to be walked -/
theorem SX.wm {w : World} {K D F V : Nat → Prop} {g m : Nat} {Q : List (List KV)} {jv : Value} {T : List Jr} {oj : Option Nat} {n N : Nat} (h : SX w K D F V g m Q jv T oj n N) (hN : N ≤ 100000000) {X : Nat → Prop} (h1 : ∀ b, X b → ¬ F b) (h2 : ∀ b, X b → ∀ cs, ¬ Blk w b cs 5) (h3 : ∀ b, X b → b < w.heap.size) :
    ∃ L, Wm w X F D m L ∧ ∀ f t, (wlk (ens L) f t).map En.kl2 = Q.flatten.filter (abtw f t) := by
  obtain ⟨L, rfl, A, O, S, k, r⟩ := h.map.ex
  exact ⟨L, ⟨A, O, fun es he => (S.one es he).2, S.few k hN, r, h1, h2, h3⟩, fun f t => abs_walk O f t⟩
theorem abtw_all (x : KV) : abtw [] [] x = true := by
  simp [abtw, Lt]
  cases x.1 <;> simp [cmpB]
def TpD (t : TypeId) : Prop := t = 87
set_option maxHeartbeats 8000000 in
set_option maxRecDepth 100000 in
theorem sdump {w : World} {K D : Nat → Prop} {g n N : Nat} {E : Ents} {W : List Ents} (h : SA w K D g E W n N) (hN : N ≤ 100000000) :
    Calls Tryz.prog 14 #[.pointer (some ⟨g, 0, none⟩)] w fun e w' => ∃ v es, e = .returned v ∧ PrA w' w.heap.size v es ∧ es.map En.kl2 = E ∧ Below w.heap.size w w' := by
  have hsm := h.small
  have hsz := h.size
  obtain ⟨F, V, m, Q, jv, T, oj, hX, rfl, hB⟩ := h.open
  have b1 := below_alloc w (.cells #[.slice none 0 0] 29)
  have c1 := blk_new w [.slice none 0 0] 29
  have X1 := hX.keep b1
  obtain ⟨L, K2, hwl⟩ := X1.wm hN (X := (· = w.heap.size)) (fun b e hF => by have e' : b = w.heap.size := e; have := hX.map.lt hF; omega) (fun b e cs k => by
    have e' : b = w.heap.size := e
    subst e'
    exact absurd (c1.eq k).2 (by decide)) (fun b e => by have e' : b = w.heap.size := e; simp; omega)
  have hEq : (wlk (ens L) [] []).map En.kl2 = Q.flatten := by rw [hwl, List.filter_eq_self.2 (fun x _ => abtw_all x)]
  have tW := walk_any (Tp := TpD) K2 (By.nil _) (By.nil _) (by decide) (by decide) (by unfold TpD; decide) (by unfold TpD; decide)
  have g0 := X1.blk.cell (i := 0) rfl
  obtain ⟨En0, hE⟩ : ∃ E, Hid (wlk (ens L) [] [] = E) := ⟨_, rfl⟩
  rw [hE.out] at tW hEq
  have hEQ := hid3 hEq
  have hlen : En0.length ≤ N := by have := congrArg List.length hEq; simp only [List.length_map] at this; omega
  have sz1 : (w.alloc (.cells #[.slice none 0 0] 29)).heap.size = w.heap.size + 1 := by simp
  have HB1 := hid3 b1
  have HC1 := hid3 c1
  clear h hX X1 K2 hwl hEq hB
  obtain ⟨Wa, hWa⟩ : ∃ Wa, Hid (w.alloc (.cells #[.slice none 0 0] 29) = Wa) := ⟨_, rfl⟩
  rw [hWa.out] at tW g0 sz1 HB1 HC1
  have c1 := HC1.out
  refine (callsIn_wide (n := 0)).1 ?_
  refine callsIn_of_wp_marks Tryz.func14 rfl trivial ?_ rfl
  simp only [Tryz.ntmps14, List.size_toArray, List.length_cons, List.length_nil, Nat.reduceAdd, Nat.reduceSub, Array.replicate_succ, Array.replicate_zero, List.push_toArray, List.append_toArray, List.nil_append, List.cons_append]
  rw [← hWa.out] at g0
  gi_wp2_with (refine ⟨trivial, rfl, ?_⟩; gi_at_call 38; rw [hWa.out]; refine (callsIn_wide.2 tW).mono ?_; rintro e' w1 ⟨bw, rfl, hB1, IT⟩)
  have cb := c1.keep hB1
  clear tW
  have q1 := hB1.size
  refine rf_outer IT (by rfl) (enters_of Tryz.func102 (by kernel_rfl) rfl) (fun i args n V V' h hc => h.cel hc) (fun i args n V h => by obtain ⟨e, kv, vv, s, _, rfl, _⟩ := h; rfl)
    (fun i V => Gone w1 V w.heap.size En0 i) (fun _ _ _ => False)
    (fun i A B hx hr => hx.rcd hr) (fun _ _ _ _ hx _ => hx)
    (fun i V hv => hv.chg) ⟨Chg.refl _ _, _, [], cb, ⟨.inl ⟨rfl, rfl⟩, fun e he => by cases he⟩, rfl⟩ ?_ ?_ ?_
  · rintro l2 i args V Wv hl hlV hrec hiN hG hb ⟨e0, kv, vv, s0, he0, rfl, hk0, hv0, _⟩
    obtain ⟨ak, nk, hk1⟩ := hk0.shape
    obtain ⟨av, nv, hv1⟩ := hv0.shape
    subst hk1 hv1
    simp
    gi_wp2
    refine ⟨Below.refl _ _, ?_⟩
    intro V2 W2 hG2 hb2 hAr2 hoth hsz3 hV2 r hrec2
    obtain ⟨e1, kv1, vv1, t1, he1, harr, hk2, hv2, ht1⟩ := hAr2
    obtain rfl : e1 = e0 := by rw [he0] at he1; cases he1; rfl
    simp at harr
    obtain ⟨rfl, rfl⟩ := harr
    obtain ⟨ov, es, g1, g2, g3⟩ := hG2.out
    have hlen2 : es.length = i := by have := congrArg List.length g3; simp at this; omega
    obtain ⟨ao0, cc0, rfl⟩ := g2.shape
    have S0 := g1.keep hb2
    have P0 := g2.keep hb2
    have z1 := hG2.chg.size
    have z2 := hb2.size
    have hBa := below_alloc W2 (.cells #[.slice ak e1.kl.length nk, .slice av e1.vl.length nv] 87)
    have N4 := blk_new W2 [.slice ak e1.kl.length nk, .slice av e1.vl.length nv] 87
    have z5 := hBa.size
    have hE4 : EnA (W2.alloc (.cells #[.slice ak e1.kl.length nk, .slice av e1.vl.length nv] 87)) (fun b => w1.heap.size ≤ b) ⟨.slice ak e1.kl.length nk, e1.kl, .slice av e1.vl.length nv, e1.vl⟩ := ⟨(hk2.keep hBa).mono (fun b _ hb => by omega), (hv2.keep hBa).mono (fun b _ hb => by omega)⟩
    obtain ⟨ov5, w5, hr5, P5, hS5⟩ := app_pair (e := ⟨.slice ak e1.kl.length nk, e1.kl, .slice av e1.vl.length nv, e1.vl⟩) (a := ⟨W2.heap.size, 0, none⟩) 29 (P0.keep hBa) (by omega) hE4 (by omega) (N4.cell (i := 0) rfl) (N4.cell (i := 1) rfl)
    have S4 := S0.keep hBa
    have S5 := hS5.blk S4 (by decide)
    have s0c := S0.cell (i := 0) rfl
    obtain ⟨es2, hes2⟩ : ∃ es2, Hid (es ++ [(⟨.slice ak e1.kl.length nk, e1.kl, .slice av e1.vl.length nv, e1.vl⟩ : En)] = es2) := ⟨_, rfl⟩
    have hes4 : Hid (es2.map En.kl2 = (En0.take (i + 1)).map En.kl2) := by
      show _ = _
      rw [← hes2.out, List.map_append, g3, List.take_add_one, he0, List.map_append]
      rfl
    simp only [hes2.out] at P5
    obtain ⟨ao5, cc5, rfl⟩ := P5.shape
    have s5c := S5.cell (i := 0) rfl
    have s5f := S5.free 0
    have HP5 := hid3 P5
    have HS5 := hid3 S5
    have HSp := hid3 hS5
    have HBa := hid3 hBa
    have HG2 := hid3 hG2
    have HB2 := hid3 hb2
    have hsl := S4.cell (i := 0) rfl
    replace hlen2 := hid3 hlen2
    replace hsz3 := hid3 hsz3
    replace hV2 := hid3 hV2
    clear hG hk0 hv0 hb hoth P5 S5 hS5 hBa N4 hE4 P0 S0 g1 g2 g3 hk2 hv2 hb2 hG2 S4
    gi_wp2_with (have gate := hr5; clear gate; refine wli_apq (fun _ => trivial) rfl rfl hr5 ?_; clear hr5)
    have hC6 : Chg (· = w.heap.size) w5 (w5.setCell ⟨w.heap.size, 0, none⟩ (.slice ao5 es2.length cc5)) := (Chg.refl (fun x => x = w.heap.size) w5).cell (.inl (by rfl)) _
    have hboU : ∀ b, b = w.heap.size → ∀ cs, ¬ Blk w5 b cs 5 := fun b hb cs k => by
      subst hb
      have := (k.eq HS5.out).2
      revert this
      decide
    have P6 : PrA (w5.setCell ⟨w.heap.size, 0, none⟩ (.slice ao5 es2.length cc5)) w1.heap.size (.slice ao5 es2.length cc5) es2 := ⟨HP5.out.ex.imp id (fun ⟨b, c, e, hl, hR⟩ => ⟨b, c, e, hl, hR.chg hC6 (by omega)⟩), fun e he => ⟨(HP5.out.ents e he).k.chg hC6 hboU, (HP5.out.ents e he).v.chg hC6 hboU⟩⟩
    refine ⟨((KeepsT.of (Tp := TpD) (B := w1.heap.size) HBa.out).trans (HSp.out.keeps (Tp := TpD) rfl)).trans ⟨hC6.size, fun k o hk h0 _ => (hC6.same k (lt_of_block h0) (by omega)).trans h0⟩, ⟨?_, _, es2, HS5.out.setCell (i := 0) _, P6, hes4.out⟩⟩
    exact (((HG2.out.chg.trans (Chg.of (F := fun _ => False) (joinB HB2.out HBa.out)) (fun _ _ h => h.elim)).trans HSp.out.chg (fun b h1 h2 => by omega))).trans hC6 (fun b _ h => h)
  · rintro D' W' hD hK hG
    obtain ⟨ov, es, g1, g2, g3⟩ := hG.out
    obtain ⟨ao, cc, rfl⟩ := g2.shape
    have g1c := g1.cell (i := 0) rfl
    gi_wp2
    refine ⟨by simp, .inl ⟨_, _, rfl, run_takeDeferred hK, ?_⟩⟩
    refine ⟨_, results_tmp rfl _ _ _, _, es, rfl, (g2.cel (Rec.put hK rfl hD _).cel).low (by omega), ?_, ?_⟩
    · rw [g3, List.take_length]; exact hEQ.out
    · exact gone_below HB1.out hB1 ((hG.rcd (Rec.put hK rfl hD _)).chg) (Nat.le_refl _)
  · rintro D' c i W' hD hK hi hF
    exact hF.elim
end Kv
end Go.Proofs.YtagnmdejdeeenaaGreat

namespace Go.Proofs.YtagnmdejdeeenaaGreat
namespace Kv
open Go.RowKit Go.Lib Pg
attribute [local go_sem] Oper.semAt_some
end Kv
end Go.Proofs.YtagnmdejdeeenaaGreat

namespace Go.Proofs.YtagnmdejdeeenaaGreat
namespace Kv
open Go.RowKit Go.Lib Pg
attribute [local go_sem] Oper.semAt_some
end Kv
end Go.Proofs.YtagnmdejdeeenaaGreat

namespace Go.Proofs.YtagnmdejdeeenaaGreat
namespace Kv
open Go.RowKit Go.Lib Pg
attribute [local go_sem] Oper.semAt_some
end Kv
end Go.Proofs.YtagnmdejdeeenaaGreat

namespace Go.Proofs.YtagnmdejdeeenaaGreat
namespace Kv
open Go.RowKit Go.Lib Pg
attribute [local go_sem] Oper.semAt_some
end Kv
end Go.Proofs.YtagnmdejdeeenaaGreat

namespace Go.Proofs.YtagnmdejdeeenaaGreat
namespace Kv
open Go.RowKit Go.Lib Pg
attribute [local go_sem] Oper.semAt_some
end Kv
end Go.Proofs.YtagnmdejdeeenaaGreat

namespace Go.Proofs.YtagnmdejdeeenaaGreat
namespace Kv
open Go.RowKit Go.Lib Pg
/-- bytes in a block of bytes, however its capacity is marked -/
structure ByU (w : World) (v : Value) (l : List Int) : Prop where
  byt : By w v l
  u8 : ∀ b o n c, v = .slice (some ⟨b, o, none⟩) n c → ∃ cs m, w.heap[b]? = some (.cells cs 5 m)
theorem ByU.chg {w w' : World} {K : Nat → Prop} {v : Value} {l : List Int} (h : ByU w v l) (hc : Chg K w w') (hk : ∀ b, K b → ∃ cs t, Blk w b cs t ∧ t ≠ 5) : ByU w' v l := by
  have hs : ∀ b o n c, v = .slice (some ⟨b, o, none⟩) n c → w'.heap[b]? = w.heap[b]? := fun b o n c e => by
    obtain ⟨cs, m, hb⟩ := h.u8 b o n c e
    refine hc.same b (lt_of_block hb) fun hK => ?_
    obtain ⟨ds, t, hd, ht⟩ := hk b hK
    have := hd.blk.symm.trans hb
    simp at this
    exact ht this.2.1
  refine ⟨?_, fun b o n c e => by rw [hs b o n c e]; exact h.u8 b o n c e⟩
  obtain ⟨ao, c, h1, h2, h3, h4, h5, h6⟩ := h.byt.ex
  refine ⟨ao, c, h1, h2, h3, h4, h5, h6.imp id ?_⟩
  rintro ⟨b, o, rfl, hlt, hcell⟩
  exact ⟨b, o, rfl, Nat.lt_of_lt_of_le hlt hc.size, fun i x hi => by rw [World.cell?_of_block (w := w) (hs b o _ _ h1)]; exact hcell i x hi⟩
theorem ByU.of {w : World} {D : Nat → Prop} {v : Value} {l : List Int} (h : OB w D v l) : ByU w v l := by
  refine ⟨h.by, fun b o n c e => ?_⟩
  rcases h.ex with ⟨rfl, _⟩ | ⟨b', c', rfl, _, hR⟩
  · cases e
  · cases e
    obtain ⟨cs, k⟩ := hR.kind
    exact ⟨_, _, k.blk⟩
theorem SA.kind {w : World} {K D : Nat → Prop} {g n N : Nat} {E : Ents} {W : List Ents} (h : SA w K D g E W n N) : ∀ b, K b → ∃ cs t, Blk w b cs t ∧ t ≠ 5 := by
  obtain ⟨F, V, m, Q, jv, T, oj, _, _, _, _, _, _, _, O⟩ := h.ex
  exact O.kind
end Kv
end Go.Proofs.YtagnmdejdeeenaaGreat
