/- Several texts, joined: BkD, PwR. -/
import Derived.Test.YtpoifdokmjhclaaGreatJyu
namespace Go.Proofs.YtpoifdokmjhclaaGreat
namespace Bk
open Go.RowKit Go.Lib Pg Kv
attribute [local go_sem] Oper.semAt_some
def RdS (W0 : World) (X K D : Nat → Prop) (g : Nat) (E : Ents) (Wn : List Ents) (N : Nat) (V : World) : Prop := Chg X W0 V ∧ (∀ b, X b → ∀ cs, ¬ Blk V b cs 5) ∧ ∃ x, SA V K D g E Wn x N
/-- what was laid between two worlds stays -/
def Ext (a : Nat) (w2 V : World) : Prop := (∀ b, a ≤ b → b < w2.heap.size → V.heap[b]? = w2.heap[b]?) ∧ w2.heap.size ≤ V.heap.size
theorem Ext.rcd {a : Nat} {w2 V V' : World} (h : Ext a w2 V) (hr : Rec w2.heap.size V V') : Ext a w2 V' :=
  ⟨fun b h1 h2 => by
    have e := h.1 b h1 h2
    have h3 : w2.heap[b]? = some w2.heap[b] := Array.getElem?_eq_getElem h2
    rw [h3] at e ⊢
    exact hr.same b _ e (.inl h2), Nat.le_trans h.2 hr.size⟩
theorem Ext.keep {a : Nat} {w2 V V' : World} (h : Ext a w2 V) (hb : Below V.heap.size V V') : Ext a w2 V' :=
  ⟨fun b h1 h2 => (hb.block b (Nat.lt_of_lt_of_le h2 h.2)).trans (h.1 b h1 h2), Nat.le_trans h.2 hb.size⟩
theorem Ext.tick {a g x : Nat} {w2 V : World} (h : Ext a w2 V) (hg : g < a) : Ext a w2 (tick g V x) :=
  ⟨fun b h1 h2 => (tick_other (by omega)).trans (h.1 b h1 h2), by rw [tick_size]; exact h.2⟩
theorem Ext.blk {a b : Nat} {w2 V : World} {cs : List Value} {t : TypeId} (h : Ext a w2 V) (k : Blk w2 b cs t) (hb : a ≤ b) : Blk V b cs t := k.same (h.1 b hb k.lt)
end Bk
end Go.Proofs.YtpoifdokmjhclaaGreat

namespace Go.Proofs.YtpoifdokmjhclaaGreat
namespace Kv
open Go.RowKit Go.Lib Pg Bk
attribute [local go_sem] Oper.semAt_some
/-- the variables that lie in R from a on lie there still -/
structure ExtC (a : Nat) (R V : World) : Prop where
  same : ∀ b cs t m, a ≤ b → R.heap[b]? = some (.cells cs t m) → V.heap[b]? = some (.cells cs t m)
  size : R.heap.size ≤ V.heap.size
theorem ExtC.of {a : Nat} {R V : World} (h : Ext a R V) : ExtC a R V := ⟨fun b _ _ _ h1 h2 => (h.1 b h1 (lt_of_block h2)).trans h2, h.2⟩
theorem ExtC.rcd {a B : Nat} {R V V' : World} (h : ExtC a R V) (hr : Rec B V V') : ExtC a R V' := ⟨fun b cs t m h1 h2 => hr.same b _ (h.same b cs t m h1 h2) (.inr rfl), Nat.le_trans h.size hr.size⟩
theorem ExtC.keep {a : Nat} {R V V' : World} (h : ExtC a R V) (hb : Below V.heap.size V V') : ExtC a R V' := ⟨fun b cs t m h1 h2 => (hb.block b (lt_of_block (h.same b cs t m h1 h2))).trans (h.same b cs t m h1 h2), Nat.le_trans h.size hb.size⟩
theorem ExtC.chg {a : Nat} {F : Nat → Prop} {R V V' : World} (h : ExtC a R V) (hc : Chg F V V') (hF : ∀ b, F b → b < a ∨ R.heap.size ≤ b) : ExtC a R V' := ⟨fun b cs t m h1 h2 => (hc.same b (lt_of_block (h.same b cs t m h1 h2)) (fun hf => by have := hF b hf; have := lt_of_block h2; omega)).trans (h.same b cs t m h1 h2), Nat.le_trans h.size hc.size⟩
theorem ExtC.tick {a g x : Nat} {R V : World} (h : ExtC a R V) (hg : g < a) : ExtC a R (tick g V x) := h.chg (chg_tick g x V) (fun b e => .inl (by have e' : b = g := e; omega))
theorem Ext.mix {Tp : TypeId → Prop} {a : Nat} {R V V' : World} (h : Ext a R V) (hk : KeepsT Tp a V V') (hc : ExtC a R V') : Ext a R V' :=
  ⟨fun b h1 h2 => by
    have e := h.1 b h1 h2
    have h3 : R.heap[b]? = some R.heap[b] := Array.getElem?_eq_getElem h2
    cases ho : R.heap[b] with
    | cells cs t m => rw [ho] at h3; rw [hc.same b cs t m h1 h3, h3]
    | _ => rw [ho] at h3; rw [h3] at e ⊢; exact hk.same b _ h1 e (fun _ _ _ h => by cases h), hc.size⟩
def ItrE (W0 : World) (Tp : TypeId → Prop) (g x0 : Nat) (gf : Nat) (lb : Array Value) (N : Nat) (Ar : Nat → Array Value → Nat → World → Prop) (Rd : World → Prop) : Prop :=
  ∀ (l : Nat) (J0 : World → Prop) (J Jt Jx : World → Nat → World → Prop) (W : World), (∀ b, W0.heap.size ≤ b → ∀ cs, ¬ Blk W b cs 5) → W0.heap.size ≤ W.heap.size → St W.heap.size J0 → (∀ R i, St W.heap.size (J R i)) → (∀ R i, St W.heap.size (Jt R i)) → (∀ R i, St W.heap.size (Jx R i)) → g < W.heap.size →
    (∀ V, J0 V → V.cell? ⟨g, 2, none⟩ = some (.int .i64 x0) ∧ V.frozen? ⟨g, 2, none⟩ = false ∧ Rd V ∧ ∀ R, W.heap.size ≤ R.heap.size → ExtC W.heap.size R V → J R 0 (tick g V x0)) →
    (∀ R i V, J R i V → V.cell? ⟨g, 2, none⟩ = some (.int .i64 ((x0 + 1 + i : Nat) : Int)) ∧ V.frozen? ⟨g, 2, none⟩ = false ∧ Rd V ∧ ExtC W.heap.size R V ∧ (i < N → Jt R i (tick g V (x0 + 1 + i)))) →
    (∀ R i args V V', W.heap.size ≤ R.heap.size → i < N → Jt R i V → W.heap.size ≤ V.heap.size → Below V.heap.size V V' → Ar i args V.heap.size V' → YieldAt Fence.wide 0 Tryz.prog l args V' fun e V'' => KeepsT Tp W.heap.size V' V'' ∧ ((e = .returned (.bool true) ∧ J R (i + 1) V'') ∨ (e = .returned (.bool false) ∧ Jx R (i + 1) V''))) →
    J0 W →
    Calls Tryz.prog gf (#[.func (.yield l) #[] #[]] ++ lb) W fun e W' => (∃ v, e = .returned v) ∧ W.heap.size ≤ W'.heap.size ∧ ∃ R : World, W.heap.size ≤ R.heap.size ∧ (J R N W' ∨ ∃ i, i < N ∧ Jx R (i + 1) W')
theorem rf_outerE {Tp : TypeId → Prop} {gf N n g0 x0 : Nat} {lb : Array Value} {Ar : Nat → Array Value → Nat → World → Prop} {Rd : World → Prop} {w : World} (IT : ItrE w Tp g0 x0 gf lb N Ar Rd) {g : Operand} {ps : Array Tmp} {assign body : Code} {Q : Exit → Act → World → Prop} {a : Act}
    (hg : a.eval g = .func (.func gf) #[] lb) (eg : ∀ args w, (callFunc gf args).run Tryz.prog w = .ok (.enter gf args) w) (hArS : ∀ i args n V W, Ar i args n V → Cel V W → Ar i args n W) (hAn : ∀ i args n V, Ar i args n V → args.size = ps.size)
    (I0 : World → Prop) (I It : World → Nat → World → Prop) (Ix : World → Code → Nat → World → Prop) (hI0 : St w.heap.size I0) (hI : ∀ R i, St w.heap.size (I R i)) (hIt : ∀ R i, St w.heap.size (It R i)) (hIx : ∀ R c i, St w.heap.size (Ix R c i)) (hgw : g0 < w.heap.size)
    (hx0 : ∀ V, I0 V → V.cell? ⟨g0, 2, none⟩ = some (.int .i64 x0) ∧ V.frozen? ⟨g0, 2, none⟩ = false ∧ Rd V ∧ ∀ R, w.heap.size + 2 ≤ R.heap.size → ExtC (w.heap.size + 2) R V → I R 0 (tick g0 V x0))
    (hx : ∀ R i V, I R i V → V.cell? ⟨g0, 2, none⟩ = some (.int .i64 ((x0 + 1 + i : Nat) : Int)) ∧ V.frozen? ⟨g0, 2, none⟩ = false ∧ Rd V ∧ ExtC (w.heap.size + 2) R V ∧ (i < N → It R i (tick g0 V (x0 + 1 + i)))) (h0 : I0 w)
    (hround : ∀ R, w.heap.size + 2 ≤ R.heap.size → RoundC Tp w N n ps assign body a.tmps Ar (It R) (I R) (Ix R))
    (hdone : ∀ R D W, w.heap.size + 2 ≤ R.heap.size → w.heap.size ≤ D → W.heap[D]? = some (.deferred (some [])) → I R N W → Q .normal { a with defers := { target := .collected D, args := #[] } :: a.defers } W)
    (hstop : ∀ R D c i W, w.heap.size + 2 ≤ R.heap.size → w.heap.size ≤ D → W.heap[D]? = some (.deferred (some [])) → i < N → Ix R c (i + 1) W → c.wpIn Fence.wide n Tryz.prog Q { a with defers := { target := .collected D, args := #[] } :: a.defers } W) :
    (Code.rangeFunc g ps assign body).wpIn Fence.wide n Tryz.prog Q a w := by
  refine wpIn_rangeFunc ?_
  intro fn _
  obtain ⟨W1, hW1⟩ : ∃ W1, (w.alloc (.deferred (some []))).alloc (.loop (recd fn a.tmps ps assign body w.heap.size .ready none)) = W1 := ⟨_, rfl⟩
  have hB1 : Below w.heap.size w W1 := by rw [← hW1]; exact joinB (below_alloc w _) (below_alloc _ _)
  have hs1 : W1.heap.size = w.heap.size + 1 + 1 := by rw [← hW1]; simp
  have hL1 : W1.heap[w.heap.size + 1]? = some (.loop (recd fn a.tmps ps assign body w.heap.size .ready none)) := by
    rw [← hW1]; have := World.alloc_heap_new (w.alloc (.deferred (some []))) (.loop (recd fn a.tmps ps assign body w.heap.size .ready none)); rwa [World.size_alloc] at this
  have hK1 : W1.heap[w.heap.size]? = some (.deferred (some [])) := by
    rw [← hW1]; exact (Below.heap_alloc _ _ _ (by simp)).trans (World.alloc_heap_new w _)
  have t1 : ∀ V x, (tick g0 V x).heap[w.heap.size + 1]? = V.heap[w.heap.size + 1]? := fun V x => tick_other (by omega)
  have t2 : ∀ V x, (tick g0 V x).heap[w.heap.size]? = V.heap[w.heap.size]? := fun V x => tick_other (by omega)
  have hNB : ∀ b, w.heap.size ≤ b → ∀ cs, ¬ Blk W1 b cs 5 := fun b hb cs k => by
    have hlt := k.lt
    have hk := k.blk
    rcases Nat.lt_or_ge w.heap.size b with h1 | h1
    · obtain rfl : b = w.heap.size + 1 := by omega
      rw [hL1] at hk
      cases hk
    · obtain rfl : b = w.heap.size := by omega
      rw [hK1] at hk
      cases hk
  refine ⟨w.heap.size + 1, [{ target := .collected w.heap.size, args := #[] }], W1, { target := .fn (.func gf) lb, args := #[.func (.yield (w.heap.size + 1)) #[] #[]] }, W1, gf,
    #[.func (.yield (w.heap.size + 1)) #[] #[]] ++ lb, W1, ?_, ?_, ?_, ?_, fun h => (by cases h), ?_⟩
  · rw [← hW1]; exact run_enterLoop_outer _ _ _ _ _
  · simp only [resolve, hg]
    simp [go_sem]
  · intro f' _; trivial
  · simp [invoke, go_sem, eg]
  · refine callsIn_wide.2 ?_
    refine (IT (w.heap.size + 1)
      (fun W => I0 W ∧ W.heap[w.heap.size + 1]? = some (.loop (recd fn a.tmps ps assign body w.heap.size .ready none)) ∧ W.heap[w.heap.size]? = some (.deferred (some [])))
      (fun R i W => I R i W ∧ W.heap[w.heap.size + 1]? = some (.loop (recd fn a.tmps ps assign body w.heap.size .ready none)) ∧ W.heap[w.heap.size]? = some (.deferred (some [])))
      (fun R i W => It R i W ∧ W.heap[w.heap.size + 1]? = some (.loop (recd fn a.tmps ps assign body w.heap.size .ready none)) ∧ W.heap[w.heap.size]? = some (.deferred (some [])))
      (fun R i W => ∃ c, Ix R c i W ∧ W.heap[w.heap.size + 1]? = some (.loop (recd fn a.tmps ps assign body w.heap.size .done (some c))) ∧ W.heap[w.heap.size]? = some (.deferred (some [])))
      W1 hNB (by omega) (fun X Y hx hr => ⟨hI0 X Y hx.1 (hr.mono (by omega)), hr.same _ _ hx.2.1 (.inl (by omega)), hr.same _ _ hx.2.2 (.inl (by omega))⟩)
      (fun R i X Y hx hr => ⟨hI R i X Y hx.1 (hr.mono (by omega)), hr.same _ _ hx.2.1 (.inl (by omega)), hr.same _ _ hx.2.2 (.inl (by omega))⟩)
      (fun R i X Y hx hr => ⟨hIt R i X Y hx.1 (hr.mono (by omega)), hr.same _ _ hx.2.1 (.inl (by omega)), hr.same _ _ hx.2.2 (.inl (by omega))⟩)
      (fun R i X Y hx hr => by obtain ⟨c, h1, h2, h3⟩ := hx; exact ⟨c, hIx R c i X Y h1 (hr.mono (by omega)), hr.same _ _ h2 (.inl (by omega)), hr.same _ _ h3 (.inl (by omega))⟩)
      (by omega)
      (fun V hv => by obtain ⟨q1, q2, q3, q4⟩ := hx0 V hv.1; exact ⟨q1, q2, q3, fun R hR hE => ⟨q4 R (by omega) (hs1 ▸ hE), (t1 V x0).trans hv.2.1, (t2 V x0).trans hv.2.2⟩⟩)
      (fun R i V hv => by obtain ⟨q1, q2, q3, q5, q4⟩ := hx R i V hv.1; exact ⟨q1, q2, q3, hs1 ▸ q5, fun hi => ⟨q4 hi, (t1 V _).trans hv.2.1, (t2 V _).trans hv.2.2⟩⟩)
      ?_ ⟨hI0 _ _ h0 (Rec.of hB1), hL1, hK1⟩).mono ?_
    · rintro R i args V V' hRs hiN ⟨hi, hl, hk⟩ hsz hb ha
      have hr := hround R (by omega) _ i args V V' (by omega) (lt_of_block hl) ⟨_, hl⟩ hiN hi hb ha
      refine (yield_core (Tp := Tp) (B := w.heap.size) (i := 2 * i + 1) (I := zip2 (I R) (It R)) (Ix := fun c k => Ix R c (k / 2)) (Ar := fun k => Ar (k / 2)) (fun j => hArS (j / 2)) (fun j => by unfold zip2; split; exact hI R _; exact hIt R _) (fun c j => hIx R c _) (by omega) hl (by rw [zip2_odd]; exact hi) hb (by rw [show (2 * i + 1) / 2 = i by omega]; exact ha) (hAn _ _ _ _ ha) (wpIn_mono hr ?_)).mono ?_
      · intro e a1 W1 h
        cases e <;> first
          | (refine ⟨h.1, fun V2 W2 q1 q2 q3 q4 q5 q6 q7 => ?_⟩
             rw [zip2_odd] at q1
             rw [show (2 * i + 1) / 2 = i by omega] at q3
             exact wpIn_mono (h.2 V2 W2 q1 q2 q3 q4 q5 q6 q7) (fun e a W h => bpost_zip h))
          | exact h.elim
      · rintro e V'' ⟨hkp, h⟩
        have hk2 := hkp.same _ _ (Nat.le_refl _) (by omega) ((hb.block _ (lt_of_block hk)).trans hk) safe_def
        refine ⟨hkp.from (by omega) (by omega), h.imp (fun h => ⟨h.1, by have := h.2.1; rw [zip2_even] at this; exact this, h.2.2, hk2⟩) (fun h => ?_)⟩
        obtain ⟨h1, c, h2, h3⟩ := h
        rw [show (2 * i + 1 + 1) / 2 = i + 1 by omega] at h2
        exact ⟨h1, c, h2, h3, hk2⟩
    · rintro e W2 ⟨⟨v, rfl⟩, hsz, R, hRs, ⟨hi, hl, hk⟩ | ⟨i, hiN, c, hi, hl, hk⟩⟩
      · exact ⟨none, _, run_endLoop (P := Tryz.prog) hl (by simp [recd]), hdone R _ _ (by omega) (Nat.le_refl _) ((World.putObj_heap_other (by omega)).trans hk) (hI R _ _ _ hi (Rec.put hl rfl (by omega) _))⟩
      · exact ⟨some c, _, run_endLoop (P := Tryz.prog) hl (by simp [recd]), hstop R _ c i _ (by omega) (Nat.le_refl _) ((World.putObj_heap_other (by omega)).trans hk) hiN (hIx R c _ _ _ hi (Rec.put hl rfl (by omega) _))⟩
end Kv
end Go.Proofs.YtpoifdokmjhclaaGreat
