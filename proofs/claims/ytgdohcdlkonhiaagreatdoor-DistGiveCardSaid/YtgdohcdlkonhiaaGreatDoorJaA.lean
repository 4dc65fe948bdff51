/- Several texts, joined: DiD, DiE. -/
import Derived.Test.YtgdohcdlkonhiaaGreatDoorJat
import Derived.Test.YtgdohcdlkonhiaaGreatDoorJaz
namespace Go.Proofs.YtgdohcdlkonhiaaGreatDoor
namespace Fo
open Go.RowKit Go.Lib Pg Lim Gl Kv Bk Pw Sd Di
set_option maxRecDepth 100000
set_option linter.unusedVariables false
set_option maxHeartbeats 1000000
theorem Nq.at {w : World} {K : Nat → Prop} {z n c : Nat} {ao : Option Addr} {x : Int} (h : Nq w K z ao n c x) (hn : n ≠ 0) : ∃ o y, w.cell? ⟨z, o, none⟩ = some (.int .u64 y) := by
  obtain ⟨w2, hw2⟩ : ∃ w2 : World, w2 = { w with heap := w.heap.mapIdx (fun i o => if i = z then o else .deferred none) } := ⟨_, rfl⟩
  have hz : w2.heap[z]? = w.heap[z]? := by
    rw [hw2]
    simp only [Array.getElem?_mapIdx, if_true]
    cases w.heap[z]? <;> rfl
  obtain ⟨b, o, l, h1, h2, h3, h4⟩ := (h.to w2 (fun _ => hz)).ex
  have h5 := h4.cell 0 (by omega)
  by_cases hb : b = z
  · subst hb
    rw [World.cell?_of_block (w := w) (a := ⟨b, o + 0, none⟩) hz] at h5
    exact ⟨_, _, h5⟩
  · exfalso
    have h6 : w2.heap[b]? = none ∨ w2.heap[b]? = some (.deferred none) := by
      rw [hw2]
      simp only [Array.getElem?_mapIdx, if_neg hb]
      cases w.heap[b]? with
      | none => exact .inl rfl
      | some o => exact .inr rfl
    unfold World.cell? at h5
    rcases h6 with h6 | h6 <;> simp [h6] at h5
theorem Nq.rcd {C : Nat} {w w' : World} {K : Nat → Prop} {z n c : Nat} {ao : Option Addr} {x : Int} (h : Nq w K z ao n c x) (hr : Rec C w w') : Nq w' K z ao n c x := by
  have hs : n ≠ 0 → w'.heap[z]? = w.heap[z]? := fun hn => by
    obtain ⟨o, y, h1⟩ := h.at hn
    unfold World.cell? at h1
    split at h1
    · rename_i cs t f e
      have e' : w.heap[z]? = some (.cells cs t f) := e
      rw [e']
      exact hr.same z _ e' (.inr rfl)
    · cases h1
  exact ⟨h.lt.imp_right fun h => Nat.lt_of_lt_of_le h hr.size, h.out, fun w2 h2 => h.to w2 fun hn => (h2 hn).trans (hs hn)⟩
section
variable {w0 w w' w1 : World} {B g0 n N n' N' g i C : Nat} {K0 K K' : Nat → Prop} {W : List Ents} {E E' : Ents} {bs : List Bx} {qs : List Nx} {cs cs' : List Value} {t : TypeId}
theorem Ut.rcd (h : Ut w0 K0 B g0 W w K E n N bs qs) (r : Rec C w w') (hC : w0.heap.size ≤ C) : Ut w0 K0 B g0 W w' K E n N bs qs := ⟨⟨sx_rcd h.ta.sx r, h.ta.km, chg_rcd h.ta.cc r hC⟩, fun p hp => ⟨r.blk (h.b p hp).1, (h.b p hp).2⟩, fun q hq => (h.q q hq).rcd r, h.e, h.d⟩
theorem Ut.opnew (h : Ut w0 K0 B g0 W w K E n N bs qs) (S : Sx B w' K' g0 E' W n' N') (hK : ∀ b, K' b → K b ∨ w.heap.size ≤ b) (hC : Chg K w w') (X : Blk w' g cs t) (hb : w.heap.size ≤ g) (nk : ¬ K' g) : Ut w0 K0 B g0 W w' K' E' n' N' ((g, cs, t) :: bs) qs := by
  have u := h.op S hK hC
  exact ⟨u.ta, List.forall_mem_cons.2 ⟨⟨X, nk, Nat.le_trans h.ta.size hb⟩, u.b⟩, u.q, List.forall_mem_cons.2 ⟨fun r hr => ne1 (h.q r hr).lt hb, u.e⟩, List.pairwise_cons.2 ⟨fun p hp e => by have := h.lt p hp; have e' : g = p.1 := e; omega, u.d⟩⟩
theorem Ut.drop (h : Ut w0 K0 B g0 W w K E n N bs qs) (k : Nat) : Ut w0 K0 B g0 W w K E n N (bs.drop k) qs := ⟨h.ta, fun p hp => h.b p (List.mem_of_mem_drop hp), h.q, fun p hp => h.e p (List.mem_of_mem_drop hp), h.d.drop⟩
theorem Ut.tail {p : Bx} (h : Ut w0 K0 B g0 W w K E n N (p :: bs) qs) : Ut w0 K0 B g0 W w K E n N bs qs := h.drop 1
/-- what is no variable stays, from C on -/
abbrev Rs (C : Nat) (w w' : World) : Prop := KeepsT (fun _ => True) C w w'
theorem Rs.refl (C : Nat) (w : World) : Rs C w w := ⟨Nat.le_refl _, fun _ _ _ h _ => h⟩
theorem Rs.chg {F : Nat → Prop} (h : Chg F w w') (hF : ∀ b, F b → ∃ cs t, Blk w b cs t) : Rs C w w' := ⟨h.size, fun k o _ ho hs => (h.same k (lt_of_block ho) (fun f => by
  obtain ⟨cs, t, X⟩ := hF k f
  have e := ho.symm.trans X.blk
  cases e
  exact hs _ _ _ rfl trivial)).trans ho⟩
theorem kindS (S : Sx B w K g0 E W n N) : ∀ b, K b → ∃ cs t, Blk w b cs t := fun b hb => by
  obtain ⟨cs, t, h, _⟩ := S.sa.kind b hb
  exact ⟨cs, t, h⟩
structure Uy (w1 : World) (C : Nat) (w0 : World) (K0 : Nat → Prop) (B g0 : Nat) (W : List Ents) (w : World) (K : Nat → Prop) (E : Ents) (n N : Nat) (bs : List Bx) (qs : List Nx) : Prop where
  u : Ut w0 K0 B g0 W w K E n N bs qs
  k : Rs C w1 w
theorem Uy.ta (h : Uy w1 C w0 K0 B g0 W w K E n N bs qs) : Bk.At B w0 K0 w K g0 E W n N := h.u.ta
theorem Uy.lt (h : Uy w1 C w0 K0 B g0 W w K E n N bs qs) : ∀ p ∈ bs, p.1 < w.heap.size := h.u.lt
theorem Uy.keep (h : Uy w1 C w0 K0 B g0 W w K E n N bs qs) (b : Below w.heap.size w w') : Uy w1 C w0 K0 B g0 W w' K E n N bs qs := ⟨h.u.keep b, h.k.trans (KeepsT.of b)⟩
theorem Uy.drew (h : Uy w1 C w0 K0 B g0 W w K E n N bs qs) : Uy w1 C w0 K0 B g0 W w.drew K E n N bs qs := h.keep (Below.refl _ _).drew
theorem Uy.op (h : Uy w1 C w0 K0 B g0 W w K E n N bs qs) (S : Sx B w' K' g0 E' W n' N') (hK : ∀ b, K' b → K b ∨ w.heap.size ≤ b) (hC : Chg K w w') : Uy w1 C w0 K0 B g0 W w' K' E' n' N' bs qs := ⟨h.u.op S hK hC, h.k.trans (Rs.chg hC (kindS h.u.ta.sx))⟩
theorem Uy.add {z k d : Nat} {a : Option Addr} {x : Int} {s : Nat} (h : Uy w1 C w0 K0 B g0 W w K E n N bs qs) (L : ∀ p ∈ bs, p.1 < s) (Q : Nq w K z a k d x) (hz : k = 0 ∨ s ≤ z) : Uy w1 C w0 K0 B g0 W w K E n N bs ((z, a, k, d, x) :: qs) := ⟨h.u.add L Q hz, h.k⟩
theorem Uy.num {z k d : Nat} {a : Option Addr} {x : Int} (h : Uy w1 C w0 K0 B g0 W w K E n N bs qs) (M : Nf w' z a k d x) (hz : k = 0 ∨ w.heap.size ≤ z) (b : Below w.heap.size w w') : Uy w1 C w0 K0 B g0 W w' K E n N bs ((z, a, k, d, x) :: qs) := ⟨h.u.num M hz b, h.k.trans (KeepsT.of b)⟩
theorem Uy.new (h : Uy w1 C w0 K0 B g0 W w K E n N bs qs) (X : Blk w' g cs t) (hg : w.heap.size ≤ g) (b : Below w.heap.size w w') : Uy w1 C w0 K0 B g0 W w' K E n N ((g, cs, t) :: bs) qs := ⟨h.u.new X hg b, h.k.trans (KeepsT.of b)⟩
theorem Uy.bk (h : Uy w1 C w0 K0 B g0 W w K E n N bs qs) (i : Nat) (hi : bs[i]? = some (g, cs, t)) : Blk w g cs t := h.u.bk i hi
theorem Uy.nq {z k d : Nat} {a : Option Addr} {x : Int} (h : Uy w1 C w0 K0 B g0 W w K E n N bs qs) (i : Nat) (hi : qs[i]? = some (z, a, k, d, x)) : Nq w K z a k d x := h.u.nq i hi
theorem Uy.put (h : Uy w1 C w0 K0 B g0 W w K E n N bs qs) (i : Nat) (hi : bs[i]? = some (g, cs, t)) (D : Chg (· = g) w w') (Y : Blk w' g cs' t) (ht : t ≠ 5) : Uy w1 C w0 K0 B g0 W w' K E n N (bs.set i (g, cs', t)) qs := ⟨h.u.put i hi D Y ht, h.k.trans (Rs.chg D (fun b e => ⟨cs, t, (show b = g from e) ▸ h.u.bk i hi⟩))⟩
theorem Uy.val {z k d : Nat} {a : Option Addr} {x y : Int} (h : Uy w1 C w0 K0 B g0 W w K E n N bs qs) (i : Nat) (hi : qs[i]? = some (z, a, k, d, x)) (e : x = y) : Uy w1 C w0 K0 B g0 W w K E n N bs (qs.set i (z, a, k, d, y)) := ⟨h.u.val i hi e, h.k⟩
theorem Uy.sel (h : Uy w1 C w0 K0 B g0 W w K E n N bs qs) (is js : List Nat) (hn : is.Nodup := by decide) : Uy w1 C w0 K0 B g0 W w K E n N (is.filterMap (bs[·]?)) (js.filterMap (qs[·]?)) := ⟨h.u.sel is js hn, h.k⟩
theorem Uy.opnew (h : Uy w1 C w0 K0 B g0 W w K E n N bs qs) (S : Sx B w' K' g0 E' W n' N') (hK : ∀ b, K' b → K b ∨ w.heap.size ≤ b) (hC : Chg K w w') (X : Blk w' g cs t) (hb : w.heap.size ≤ g) (nk : ¬ K' g) : Uy w1 C w0 K0 B g0 W w' K' E' n' N' ((g, cs, t) :: bs) qs := ⟨h.u.opnew S hK hC X hb nk, h.k.trans (Rs.chg hC (kindS h.u.ta.sx))⟩
theorem uy_of (h : Ut w0 K0 B g0 W w K E n N bs qs) : Uy w C w0 K0 B g0 W w K E n N bs qs := ⟨h, Rs.refl _ _⟩
end
/-- a loop's record, and the mark that it leaves -/
structure Mk (lo D : Nat) (R0 : Loop) (V : World) : Prop where
  l : V.heap[lo]? = some (.loop R0)
  d : V.heap[D]? = some (.deferred (some []))
theorem Mk.rs {lo D C : Nat} {R0 : Loop} {V V' : World} (h : Mk lo D R0 V) (r : Rs C V V') (h1 : C ≤ lo) (h2 : C ≤ D) : Mk lo D R0 V' := ⟨r.same _ _ h1 h.l safe_loop, r.same _ _ h2 h.d safe_def⟩
theorem Mk.rcd {lo D C : Nat} {R0 : Loop} {V V' : World} (h : Mk lo D R0 V) (r : Rec C V V') (h1 : lo < C) (h2 : D < C) : Mk lo D R0 V' := ⟨r.same _ _ h.l (.inl h1), r.same _ _ h.d (.inl h2)⟩
/-- behind the assignments a round's body begins -/
def asq (lo B0 : Nat) (V : World) (R : World → Prop) (body : Code) (a1 : Act) (W1 : World) : Prop := Below V.heap.size V W1 ∧ ∀ V2 W2, Rec B0 V V2 → V2.heap.size = V.heap.size → Below V2.heap.size V2 W2 → (∀ b, b ≠ lo → W2.heap[b]? = W1.heap[b]?) → body.wpIn (Fence.wide.inRound lo) 0 Tryz.prog (bpost (fun _ => True) B0 (fun j V' => (j = 0 → Rec B0 V V') ∧ (j = 1 → R V')) (fun _ _ _ => False) 1 W2) a1 W2
theorem ge_asn {lo B0 n : Nat} {V W1 : World} {R : World → Prop} {body : Code} {l : Fr} (hB : Below V.heap.size V W1) (h : ∀ V2 W2, Rec B0 V V2 → V2.heap.size = V.heap.size → Below V2.heap.size V2 W2 → (∀ b, b ≠ lo → W2.heap[b]? = W1.heap[b]?) → GR lo n [] body (bpost (fun _ => True) B0 (fun j V' => (j = 0 → Rec B0 V V') ∧ (j = 1 → R V')) (fun _ _ _ => False) 1 W2) l W2) : GE n [] (Exit.then (asq lo B0 V R body) (fun _ _ _ => False)) .normal l W1 := ⟨fun a r => ⟨hB, fun V2 W2 h1 h2 h3 h4 => (h V2 W2 h1 h2 h3 h4).out a r⟩⟩
theorem ge_bp {B0 n : Nat} {V W2 W' : World} {R : World → Prop} {l : Fr} (hk : Rs B0 W2 W') (hR : R W') : GE n [] (bpost (fun _ => True) B0 (fun j V' => (j = 0 → Rec B0 V V') ∧ (j = 1 → R V')) (fun _ _ _ => False) 1 W2) .normal l W' := ⟨fun _ _ => ⟨hk, fun e => absurd e (by decide), fun _ => hR⟩⟩
theorem yield_go {lo D n B0 : Nat} {fn : FuncId} {tmps : Array Value} {ps : Array Tmp} {asn body : Code} {args : Array Value} {V : World} {l : Fr} {R : World → Prop} (h1 : B0 ≤ lo) (h2 : B0 ≤ D) (hne : D ≠ lo) (mk : Mk lo D (recd fn tmps ps asn body D .ready none) V) (hps : args.size = ps.size) (hR : St B0 R) (rd : Rd n [] l { tmps := (ps.zip args).foldl (fun t (p, v) => t.setIfInBounds p v) tmps, defers := [] })
    (h : GR lo n [] asn (Exit.then (asq lo B0 V R body) (fun _ _ _ => False)) l V) : YieldAt Fence.wide 0 Tryz.prog lo args V fun e V' => e = .returned (.bool true) ∧ R V' ∧ Mk lo D (recd fn tmps ps asn body D .ready none) V' := by
  refine (yield_core (Tp := fun _ => True) (B := B0) (i := 0) (n := 0) (I := fun j V' => (j = 0 → Rec B0 V V') ∧ (j = 1 → R V')) (Ix := fun _ _ _ => False) (Ar := fun _ a _ _ => a = args) (fun _ _ _ _ _ h _ => h) (fun i A C hx hr => ⟨fun e => (hx.1 e).trans hr, fun e => hR _ _ (hx.2 e) hr⟩) (fun _ _ _ _ h _ => h) h1 mk.l ⟨fun _ => ⟨rfl, rfl, rfl, Nat.le_refl _, fun _ _ h _ => h⟩, fun e => absurd e (by decide)⟩ (Below.refl _ _) rfl hps ?_).mono ?_
  · refine wpIn_mono (h.out _ rd) ?_
    intro e a1 W1 hq
    cases e with
    | normal => exact ⟨hq.1, fun V2 W2 hi hb _ ho _ hs _ => hq.2 V2 W2 (hi.1 rfl) hs hb ho⟩
    | _ => exact hq
  · rintro e V' ⟨kp, ⟨rfl, hi, hl⟩ | ⟨_, c, hc, _⟩⟩
    · exact ⟨rfl, hi.2 rfl, hl, kp.same D _ h2 hne mk.d safe_def⟩
    · exact hc.elim
/-- the frame of a round -/
theorem rd_round {n p q : Nat} {ds : List Deferred} {l : Fr} {a : Act} (r : Rd n ds l a) (u v : Value) (hp : p < n) (hq : q < n) : Rd n [] ((q, v) :: (p, u) :: l) { tmps := ((#[p, q] : Array Tmp).zip #[u, v]).foldl (fun t (p, v) => t.setIfInBounds p v) a.tmps, defers := [] } := by
  have r1 : Rd n [] l { tmps := a.tmps, defers := [] } := ⟨r.size, rfl, r.get⟩
  have e : ((#[p, q] : Array Tmp).zip #[u, v]).foldl (fun t (p, v) => t.setIfInBounds p v) a.tmps = (a.tmps.setIfInBounds p u).setIfInBounds q v := by simp
  rw [e]
  exact (r1.put (some p) u (fun k e => by cases e; exact hp)).put (some q) v (fun k e => by cases e; exact hq)
/-- a range over a function: the call of the iterator, and what is behind it -/
theorem gc_rngI {n t gf : Nat} {lb : Array Value} {ds : List Deferred} {l : Fr} {Q : Exit → Act → World → Prop} {w : World} {ps : Array Tmp} {asn body : Code} (I : World → Prop) (eg : ∀ args w, (callFunc gf args).run Tryz.prog w = .ok (.enter gf args) w)
    (hrun : ∀ a fn, Rd n ds l a → ∀ W, Below w.heap.size w W → w.heap.size + 2 ≤ W.heap.size → Mk (w.heap.size + 1) w.heap.size (recd fn a.tmps ps asn body w.heap.size .ready none) W → Calls Tryz.prog gf (#[.func (.yield (w.heap.size + 1)) #[] #[]] ++ lb) W fun e W' => (∃ v, e = .returned v) ∧ I W' ∧ Mk (w.heap.size + 1) w.heap.size (recd fn a.tmps ps asn body w.heap.size .ready none) W')
    (hI : St w.heap.size I) (h : ∀ W, W.heap[w.heap.size]? = some (.deferred (some [])) → I W → GE n (col w.heap.size :: ds) Q .normal l W) (hv : lk l t = some (.func (.func gf) #[] lb) := by kernel_rfl) : GC Tryz.prog n ds (Code.rangeFunc (.tmp t) ps asn body) Q l w := ⟨fun a r => by
  have ev : a.eval (.tmp t) = .func (.func gf) #[] lb := by
    have h1 := r.gD hv
    simp at h1
    simp [Act.eval, h1]
  refine wpIn_wide.1 (wpIn_rangeFunc (F := Fence.wide) (n := 0) ?_)
  intro fn _
  obtain ⟨W1, hW1⟩ : ∃ W1, (w.alloc (.deferred (some []))).alloc (.loop (recd fn a.tmps ps asn body w.heap.size .ready none)) = W1 := ⟨_, rfl⟩
  have hB1 : Below w.heap.size w W1 := by rw [← hW1]; exact joinB (below_alloc w _) (below_alloc _ _)
  have hs1 : W1.heap.size = w.heap.size + 1 + 1 := by rw [← hW1]; simp
  have hL1 : W1.heap[w.heap.size + 1]? = some (.loop (recd fn a.tmps ps asn body w.heap.size .ready none)) := by
    rw [← hW1]; have := World.alloc_heap_new (w.alloc (.deferred (some []))) (.loop (recd fn a.tmps ps asn body w.heap.size .ready none)); rwa [World.size_alloc] at this
  have hK1 : W1.heap[w.heap.size]? = some (.deferred (some [])) := by
    rw [← hW1]; exact (Below.heap_alloc _ _ _ (by simp)).trans (World.alloc_heap_new w _)
  refine ⟨w.heap.size + 1, [{ target := .collected w.heap.size, args := #[] }], W1, { target := .fn (.func gf) lb, args := #[.func (.yield (w.heap.size + 1)) #[] #[]] }, W1, gf,
    #[.func (.yield (w.heap.size + 1)) #[] #[]] ++ lb, W1, ?_, ?_, ?_, ?_, fun h => (by cases h), ?_⟩
  · rw [← hW1]; exact run_enterLoop_outer _ _ _ _ _
  · simp only [resolve, ev]
    simp [go_sem]
  · intro f' _; trivial
  · simp [invoke, go_sem, eg]
  · refine callsIn_wide.2 ((hrun a fn r W1 hB1 (by omega) ⟨hL1, hK1⟩).mono ?_)
    rintro e W2 ⟨⟨u, rfl⟩, hi, mk⟩
    have rr := Rec.put (B := w.heap.size) mk.l rfl (by omega) (.loop { recd fn a.tmps ps asn body w.heap.size .ready none with state := .exhausted })
    refine ⟨none, _, run_endLoop (P := Tryz.prog) mk.l (by simp [recd]), (h _ ((World.putObj_heap_other (by omega)).trans mk.d) (hI _ _ hi rr)).out _ ⟨r.1, ?_, r.3⟩⟩
    show _ :: a.defers = _ :: ds
    rw [r.dfs]
    rfl⟩
end Fo
end Go.Proofs.YtgdohcdlkonhiaaGreatDoor

namespace Go.Proofs.YtgdohcdlkonhiaaGreatDoor
namespace Fo
open Go.RowKit Go.Lib Pg Lim Gl Kv Bk Pw Sd Di
attribute [local go_sem] Oper.semAt_some
set_option maxRecDepth 100000
set_option linter.unusedVariables false
set_option linter.unusedSimpArgs false
set_option maxHeartbeats 2000000
theorem gc_rds {P : Program} {n : Nat} {ds : List Deferred} {l : Gl.Fr} {w : World} {Q : Exit → Act → World → Prop} {c : Code} (k : Nat) (h : GC P n ds c (Exit.then (Code.rounds P c Q k) Q) l w) : GC P n ds (Code.loop c) Q l w := ⟨fun a r => wp_loop_rounds (k + 1) (h.out a r)⟩
theorem ge_rd {P : Program} {n : Nat} {ds : List Deferred} {l : Gl.Fr} {w : World} {Q Q' : Exit → Act → World → Prop} {c : Code} {k : Nat} (h : GC P n ds c (Exit.then (Code.rounds P c Q k) Q) l w) : GE n ds (Exit.then (Code.rounds P c Q (k + 1)) Q') .normal l w := ⟨fun a r => h.out a r⟩
theorem bonded_mk {w : World} {g : Nat} : Calls Tryz.prog 127 #[pg g] w fun e w' => ∃ b, e = .returned (.func (.func 192) #[] #[pg b]) ∧ Blk w' b [pg g] 40 ∧ w.heap.size ≤ b ∧ Below w.heap.size w w' := by
  have BB := Below.refl w.heap.size w
  refine gc_enter (n := 4) Tryz.func127 rfl (by kernel_rfl) (by kernel_rfl) ?_
  refine gc_seq ?_
  refine gc_reg ?_
  refine ta 1 [pg g] 40 (pg) ?_
  intro v1 g2 Xg2 hg2 B
  replace BB := joinB BB B
  clear B
  refine t 2 (.nilFunc) ?_
  refine gl_nil ?_
  refine ge_then ?_
  refine gc_seq ?_
  refine gc_reg ?_
  refine t 3 (.func (.func 192) #[] #[pg g2]) ?_
  refine t 2 (.func (.func 192) #[] #[pg g2]) ?_
  refine gl_nil ?_
  refine ge_then ?_
  refine gc_ret ?_
  refine ge_ret (.func (.func 192) #[] #[pg g2]) (rs1 2 (by kernel_rfl) (by kernel_rfl)) ?_
  exact ⟨_, rfl, Xg2, hg2, BB⟩
theorem bonded2 {B : Nat} {w : World} {K : Nat → Prop} {g : Nat} {E : Ents} {W : List Ents} {n N : Nat} (h : Sx B w K g E W n N) (hp : (pks 11 98 E).map Prod.fst = [16, 17]) (hRk : ∀ x ∈ E, [98] <+: x.1 → Ky.frm (11 : Nat) = Ky.fIn x.1) (hN : N ≤ 100000000) (hx : n + N ≤ 2000000000000000000) : Calls Tryz.prog 193 #[pg g] w fun e w' => ∃ b c sp, e = .returned (.slice (some ⟨b, 0, none⟩) 2 c) ∧ w.heap.size ≤ b ∧ Blk w' b (.int .u64 16 :: .int .u64 17 :: sp) 22 ∧ ¬ K b ∧ Sx B w' K g E W (n + 3) N ∧ Chg (· = g) w w' := by
  refine (bonded_any_sa h.sa hRk hN hx).mono ?_
  rintro e w' ⟨v, j, rfl, U, rfl, S, C⟩
  have hl : (pks 11 98 E).length = 2 := by have := congrArg List.length hp; simpa using this
  rw [hp] at U
  rw [hl] at S
  rcases U.ex with ⟨_, e⟩ | ⟨b, c, rfl, hb, R⟩
  · cases e
  · obtain ⟨sp, X, _⟩ := R.ex
    exact ⟨b, c, sp, rfl, hb, X, fun q => by have := h.sa.lt q; omega, ⟨S, Nat.le_trans h.lo C.size, h.kb⟩, C⟩
/-- behind a round: the store, the iterator's blocks, what the consumer carries -/
def Rz {σ : Type} (w0 : World) (K0 : Nat → Prop) (B g bs : Nat) (P : σ → Prop) (own : σ → List Bx) (nums : σ → List Nx) (E : Ents) (n N ib : Nat) (sp : List Value) (V : World) : Prop := ∃ s K n' N', P s ∧ n' ≤ n + 10 ∧ N' ≤ N + 10 ∧ Ut w0 K0 B g [] V K E n' N' ((ib, .int .u64 16 :: .int .u64 17 :: sp, 22) :: (bs, [pg g], 40) :: own s) (nums s)
theorem Rz.st {σ : Type} {w0 : World} {K0 : Nat → Prop} {B g bs : Nat} {P : σ → Prop} {own : σ → List Bx} {nums : σ → List Nx} {E : Ents} {n N ib C : Nat} {sp : List Value} (hC : w0.heap.size ≤ C) : St C (Rz w0 K0 B g bs P own nums E n N ib sp) := fun _ _ h r => by
  obtain ⟨s, K, n', N', h1, h2, h3, U⟩ := h
  exact ⟨s, K, n', N', h1, h2, h3, U.rcd r hC⟩
/-- what a round must do -/
def Yi {σ : Type} (w0 : World) (K0 : Nat → Prop) (B g bs lo D : Nat) (R0 : Loop) (id rt tk un pe x0 x1 x2 x3 : Int) (jl bo : Bool) (P P' : σ → Prop) (own own' : σ → List Bx) (nums nums' : σ → List Nx) (E E' : Ents) : Prop :=
  ∀ s V K n N ib sp a0 n0 c0 z0 a1 n1 c1 z1 a2 n2 c2 z2 a3 n3 c3 z3, P s → n ≤ 2000000 → N ≤ 2000000 → n0 ≤ 510 → n1 ≤ 510 → n2 ≤ 510 → n3 ≤ 510 → Ut w0 K0 B g [] V K E n N ((ib, .int .u64 16 :: .int .u64 17 :: sp, 22) :: (bs, [pg g], 40) :: own s) ((z3, a3, n3, c3, x3) :: (z2, a2, n2, c2, x2) :: (z1, a1, n1, c1, x1) :: (z0, a0, n0, c0, x0) :: nums s) → Mk lo D R0 V →
    YieldAt Fence.wide 0 Tryz.prog lo #[.int .u64 id, .agg #[.int .u64 rt, .int .u64 tk, .slice a0 n0 c0, .bool jl, .int .u64 un, .bool bo, .int .u64 pe, .slice a1 n1 c1, .slice a2 n2 c2, .slice a3 n3 c3]] V fun e V' => e = .returned (.bool true) ∧ Rz w0 K0 B g bs P' own' nums' E' n N ib sp V' ∧ Mk lo D R0 V'
set_option maxHeartbeats 4000000 in
theorem bonded_run {σ : Type} {w0 W : World} {K0 K : Nat → Prop} {B g bs lo D n N : Nat} {R0 : Loop} (P : Nat → σ → Prop) (own : Nat → σ → List Bx) (nums : Nat → σ → List Nx) {E0 E1 E2 : Ents} {rt0 tk0 un0 pe0 x00 x01 x02 x03 : Int} {jl0 bo0 : Bool} {rt1 tk1 un1 pe1 x10 x11 x12 x13 : Int} {jl1 bo1 : Bool} (hp : (pks 11 98 E0).map Prod.fst = [16, 17]) (hRk : ∀ x ∈ E0, [98] <+: x.1 → Ky.frm (11 : Nat) = Ky.fIn x.1) (hv0 : qVal (got E0 (Ky.mk 5 16 0)) = ([rt0, tk0, x00, (bi jl0), un0, (bi bo0), pe0, x01, x02, x03], 0)) (hv1 : qVal (got E1 (Ky.mk 5 17 0)) = ([rt1, tk1, x10, (bi jl1), un1, (bi bo1), pe1, x11, x12, x13], 0)) (s : σ) (hP : P 0 s) (U0 : Ut w0 K0 B g [] W K E0 n N ((bs, [pg g], 40) :: own 0 s) (nums 0 s)) (hn : n ≤ 1000000) (hN : N ≤ 1000000) (mk : Mk lo D R0 W) (hlo : lo < W.heap.size) (hD : D < W.heap.size) (Y0 : Yi w0 K0 B g bs lo D R0 16 rt0 tk0 un0 pe0 x00 x01 x02 x03 jl0 bo0 (P 0) (P 1) (own 0) (own 1) (nums 0) (nums 1) E0 E1) (Y1 : Yi w0 K0 B g bs lo D R0 17 rt1 tk1 un1 pe1 x10 x11 x12 x13 jl1 bo1 (P 1) (P 2) (own 1) (own 2) (nums 1) (nums 2) E1 E2) :
    Calls Tryz.prog 192 #[.func (.yield lo) #[] #[], pg bs] W fun e W' => (∃ v, e = .returned v) ∧ (∃ s K n' N', P 2 s ∧ n' ≤ n + 60 ∧ N' ≤ N + 60 ∧ Ut w0 K0 B g [] W' K E2 n' N' ((bs, [pg g], 40) :: own 2 s) (nums 2 s)) ∧ Mk lo D R0 W' := by
  have U := uy_of (C := 0) U0
  refine gc_enterM (n := 29) Tryz.func192 rfl (by kernel_rfl) (by kernel_rfl) ?_
  refine gc_seq ?_
  refine gc_reg ?_
  refine tl 7 (pg g) (U.bk 0 rfl) 0 ?_
  refine tc 8 193 #[pg g] (bonded2 U.ta.sx hp hRk (by omega) (by omega)) ?_
  rintro _ v1 ⟨ib, ic, sp, rfl, hib, X, nk, S, C⟩
  refine ⟨_, rfl, ?_⟩
  replace U := U.opnew S (fun _ h => .inl h) (C.mono (fun b _ (e : b = g) => e ▸ U.ta.sx.sa.top)) X hib nk
  clear S C X hib nk
  refine t 9 (.int .i64 2) ?_
  refine t 10 (.int .i64 0) ?_
  refine gl_nil ?_
  refine ge_then ?_
  refine gc_block ?_
  refine gc_rds 2 ?_
  refine gc_seq ?_
  refine gc_reg ?_
  refine t 11 (.bool true) ?_
  refine gl_nil ?_
  refine ge_then ?_
  refine gc_seq ?_
  refine gc_yes ?_
  refine gc_skip ?_
  refine ge_then ?_
  refine gc_seq ?_
  refine gc_block ?_
  refine gc_seq ?_
  refine gc_reg ?_
  refine t 12 (pg ib) ?_
  refine tl 13 (.int .u64 16) (U.bk 0 rfl) 0 ?_
  refine t 4 (.int .u64 16) ?_
  refine gl_nil ?_
  refine ge_then ?_
  refine gc_seq ?_
  refine gc_reg ?_
  refine tl 15 (pg g) (U.bk 1 rfl) 0 ?_
  refine t 16 (.int .u64 16) ?_
  refine tc 17 27 #[pg g, .int .u64 16] (gVal (th := true) U.ta.sx ⟨by decide, by decide⟩ hv0 rfl (by omega) (by omega)) ?_
  rintro _ v9 ⟨aq2, nq2, cq2, zq2, aq3, nq3, cq3, zq3, aq4, nq4, cq4, zq4, aq5, nq5, cq5, zq5, K6, n7, N8, rfl, S, qn7, qN8, hK, hC, Q0, mq2, h0, Q1, mq3, h1, Q2, mq4, h2, Q3, mq5, h3⟩
  refine ⟨_, rfl, ?_⟩
  have fq2 := ne3 h0 U.ta.size
  have fq3 := ne3 h1 U.ta.size
  have fq4 := ne3 h2 U.ta.size
  have fq5 := ne3 h3 U.ta.size
  have L := U.lt
  replace U := ((((U.op S hK hC).add L Q0 h0).add L Q1 h1).add L Q2 h2).add L Q3 h3
  clear L S hK hC Q0 h0 Q1 h1 Q2 h2 Q3 h3
  refine t 14 (.tuple #[.agg #[.int .u64 rt0, .int .u64 tk0, .slice aq2 nq2 cq2, .bool jl0, .int .u64 un0, .bool bo0, .int .u64 pe0, .slice aq3 nq3 cq3, .slice aq4 nq4 cq4, .slice aq5 nq5 cq5], .bool true]) ?_
  refine t 18 (.agg #[.int .u64 rt0, .int .u64 tk0, .slice aq2 nq2 cq2, .bool jl0, .int .u64 un0, .bool bo0, .int .u64 pe0, .slice aq3 nq3 cq3, .slice aq4 nq4 cq4, .slice aq5 nq5 cq5]) ?_
  refine t 19 (.bool true) ?_
  refine ta 5 [.int .u64 0, .int .u64 0, .slice none 0 0, .bool false, .int .u64 0, .bool false, .int .u64 0, .slice none 0 0, .slice none 0 0, .slice none 0 0] 28 (pg) ?_
  intro v10 g11 Xg11 hg11 B
  replace U := U.new Xg11 hg11 B
  clear Xg11 hg11 B
  refine ts (U.bk 0 rfl) 0 (.agg #[.int .u64 rt0, .int .u64 tk0, .slice aq2 nq2 cq2, .bool jl0, .int .u64 un0, .bool bo0, .int .u64 pe0, .slice aq3 nq3 cq3, .slice aq4 nq4 cq4, .slice aq5 nq5 cq5]) [.int .u64 rt0, .int .u64 tk0, .slice aq2 nq2 cq2, .bool jl0, .int .u64 un0, .bool bo0, .int .u64 pe0, .slice aq3 nq3 cq3, .slice aq4 nq4 cq4, .slice aq5 nq5 cq5] [.int .u64 rt0, .int .u64 tk0, .slice aq2 nq2 cq2, .bool jl0, .int .u64 un0, .bool bo0, .int .u64 pe0, .slice aq3 nq3 cq3, .slice aq4 nq4 cq4, .slice aq5 nq5 cq5] ?_
  intro v12 Y C
  replace U := U.put 0 rfl C Y (by decide)
  clear Y C
  refine t 6 (.bool true) ?_
  refine gl_nil ?_
  refine ge_then ?_
  refine gc_fr [(0, .func (.yield lo) #[] #[]), (1, pg bs), (4, .int .u64 16), (5, pg g11), (6, .bool true), (8, .slice (some ⟨ib, 0, none⟩) 2 ic), (9, .int .i64 2), (10, .int .i64 0), (11, .bool true), (12, pg ib), (13, .int .u64 16), (14, .tuple #[.agg #[.int .u64 rt0, .int .u64 tk0, .slice aq2 nq2 cq2, .bool jl0, .int .u64 un0, .bool bo0, .int .u64 pe0, .slice aq3 nq3 cq3, .slice aq4 nq4 cq4, .slice aq5 nq5 cq5], .bool true]), (15, pg g), (16, .int .u64 16), (17, .tuple #[.agg #[.int .u64 rt0, .int .u64 tk0, .slice aq2 nq2 cq2, .bool jl0, .int .u64 un0, .bool bo0, .int .u64 pe0, .slice aq3 nq3 cq3, .slice aq4 nq4 cq4, .slice aq5 nq5 cq5], .bool true]), (18, .agg #[.int .u64 rt0, .int .u64 tk0, .slice aq2 nq2 cq2, .bool jl0, .int .u64 un0, .bool bo0, .int .u64 pe0, .slice aq3 nq3 cq3, .slice aq4 nq4 cq4, .slice aq5 nq5 cq5]), (19, .bool true)] (by kernel_rfl) ?_
  refine gc_seq ?_
  refine gc_regI ?_
  refine it 20 (.bool true) ?_
  refine it 21 (.bool true) ?_
  refine it 22 (.func (.yield lo) #[] #[]) ?_
  refine it 23 (.int .u64 16) ?_
  refine itlr 24 [.int .u64 rt0, .int .u64 tk0, .slice aq2 nq2 cq2, .bool jl0, .int .u64 un0, .bool bo0, .int .u64 pe0, .slice aq3 nq3 cq3, .slice aq4 nq4 cq4, .slice aq5 nq5 cq5] (U.bk 0 rfl) 0 ?_
  refine it_yield 25 lo (a := .int .u64 16) (b := .agg #[.int .u64 rt0, .int .u64 tk0, .slice aq2 nq2 cq2, .bool jl0, .int .u64 un0, .bool bo0, .int .u64 pe0, .slice aq3 nq3 cq3, .slice aq4 nq4 cq4, .slice aq5 nq5 cq5]) (Y0 _ _ _ _ _ _ _ _ _ _ _ _ _ _ _ _ _ _ _ _ _ _ _ hP (by omega) (by omega) (by omega) (by omega) (by omega) (by omega) U.u.tail (mk.rs U.k (Nat.zero_le _) (Nat.zero_le _))) ?_
  rintro _ v13 ⟨rfl, ⟨s17, K14, n15, N16, hP', qn15, qN16, U'⟩, mk'⟩
  replace hP := hP'
  replace mk := mk'
  replace U := uy_of (C := 0) U'
  clear hP' mk' U'
  refine ⟨_, rfl, ?_⟩
  refine gi_gl ?_
  refine t 26 (.bool false) ?_
  refine t 27 (.bool false) ?_
  refine gl_nil ?_
  refine ge_then ?_
  refine gc_no ?_
  refine gc_skip ?_
  refine ge_bn ?_
  refine ge_then ?_
  refine gc_reg ?_
  refine t 28 (.int .i64 1) ?_
  refine t 10 (.int .i64 1) ?_
  refine gl_nil ?_
  refine ge_rd ?_
  refine gc_fr [(0, .func (.yield lo) #[] #[]), (1, pg bs), (4, .int .u64 16), (5, pg g11), (6, .bool true), (8, .slice (some ⟨ib, 0, none⟩) 2 ic), (9, .int .i64 2), (10, .int .i64 1), (11, .bool true), (12, pg ib), (13, .int .u64 16), (14, .tuple #[.agg #[.int .u64 rt0, .int .u64 tk0, .slice aq2 nq2 cq2, .bool jl0, .int .u64 un0, .bool bo0, .int .u64 pe0, .slice aq3 nq3 cq3, .slice aq4 nq4 cq4, .slice aq5 nq5 cq5], .bool true]), (15, pg g), (16, .int .u64 16), (17, .tuple #[.agg #[.int .u64 rt0, .int .u64 tk0, .slice aq2 nq2 cq2, .bool jl0, .int .u64 un0, .bool bo0, .int .u64 pe0, .slice aq3 nq3 cq3, .slice aq4 nq4 cq4, .slice aq5 nq5 cq5], .bool true]), (18, .agg #[.int .u64 rt0, .int .u64 tk0, .slice aq2 nq2 cq2, .bool jl0, .int .u64 un0, .bool bo0, .int .u64 pe0, .slice aq3 nq3 cq3, .slice aq4 nq4 cq4, .slice aq5 nq5 cq5]), (19, .bool true), (27, .bool false), (28, .int .i64 1)] (by kernel_rfl) ?_
  refine gc_seq ?_
  refine gc_reg ?_
  refine t 11 (.bool true) ?_
  refine gl_nil ?_
  refine ge_then ?_
  refine gc_seq ?_
  refine gc_yes ?_
  refine gc_skip ?_
  refine ge_then ?_
  refine gc_seq ?_
  refine gc_block ?_
  refine gc_seq ?_
  refine gc_reg ?_
  refine t 12 (pq ib 1) ?_
  refine tl 13 (.int .u64 17) (U.bk 0 rfl) 1 ?_
  refine t 4 (.int .u64 17) ?_
  refine gl_nil ?_
  refine ge_then ?_
  refine gc_seq ?_
  refine gc_reg ?_
  refine tl 15 (pg g) (U.bk 1 rfl) 0 ?_
  refine t 16 (.int .u64 17) ?_
  refine tc 17 27 #[pg g, .int .u64 17] (gVal (th := true) U.ta.sx ⟨by decide, by decide⟩ hv1 rfl (by omega) (by omega)) ?_
  rintro _ v25 ⟨aq18, nq18, cq18, zq18, aq19, nq19, cq19, zq19, aq20, nq20, cq20, zq20, aq21, nq21, cq21, zq21, K22, n23, N24, rfl, S, qn23, qN24, hK, hC, Q0, mq18, h0, Q1, mq19, h1, Q2, mq20, h2, Q3, mq21, h3⟩
  refine ⟨_, rfl, ?_⟩
  have fq18 := ne3 h0 U.ta.size
  have fq19 := ne3 h1 U.ta.size
  have fq20 := ne3 h2 U.ta.size
  have fq21 := ne3 h3 U.ta.size
  have L := U.lt
  replace U := ((((U.op S hK hC).add L Q0 h0).add L Q1 h1).add L Q2 h2).add L Q3 h3
  clear L S hK hC Q0 h0 Q1 h1 Q2 h2 Q3 h3
  refine t 14 (.tuple #[.agg #[.int .u64 rt1, .int .u64 tk1, .slice aq18 nq18 cq18, .bool jl1, .int .u64 un1, .bool bo1, .int .u64 pe1, .slice aq19 nq19 cq19, .slice aq20 nq20 cq20, .slice aq21 nq21 cq21], .bool true]) ?_
  refine t 18 (.agg #[.int .u64 rt1, .int .u64 tk1, .slice aq18 nq18 cq18, .bool jl1, .int .u64 un1, .bool bo1, .int .u64 pe1, .slice aq19 nq19 cq19, .slice aq20 nq20 cq20, .slice aq21 nq21 cq21]) ?_
  refine t 19 (.bool true) ?_
  refine ta 5 [.int .u64 0, .int .u64 0, .slice none 0 0, .bool false, .int .u64 0, .bool false, .int .u64 0, .slice none 0 0, .slice none 0 0, .slice none 0 0] 28 (pg) ?_
  intro v26 g27 Xg27 hg27 B
  replace U := U.new Xg27 hg27 B
  clear Xg27 hg27 B
  refine ts (U.bk 0 rfl) 0 (.agg #[.int .u64 rt1, .int .u64 tk1, .slice aq18 nq18 cq18, .bool jl1, .int .u64 un1, .bool bo1, .int .u64 pe1, .slice aq19 nq19 cq19, .slice aq20 nq20 cq20, .slice aq21 nq21 cq21]) [.int .u64 rt1, .int .u64 tk1, .slice aq18 nq18 cq18, .bool jl1, .int .u64 un1, .bool bo1, .int .u64 pe1, .slice aq19 nq19 cq19, .slice aq20 nq20 cq20, .slice aq21 nq21 cq21] [.int .u64 rt1, .int .u64 tk1, .slice aq18 nq18 cq18, .bool jl1, .int .u64 un1, .bool bo1, .int .u64 pe1, .slice aq19 nq19 cq19, .slice aq20 nq20 cq20, .slice aq21 nq21 cq21] ?_
  intro v28 Y C
  replace U := U.put 0 rfl C Y (by decide)
  clear Y C
  refine t 6 (.bool true) ?_
  refine gl_nil ?_
  refine ge_then ?_
  refine gc_fr [(0, .func (.yield lo) #[] #[]), (1, pg bs), (4, .int .u64 17), (5, pg g27), (6, .bool true), (8, .slice (some ⟨ib, 0, none⟩) 2 ic), (9, .int .i64 2), (10, .int .i64 1), (11, .bool true), (12, pq ib 1), (13, .int .u64 17), (14, .tuple #[.agg #[.int .u64 rt1, .int .u64 tk1, .slice aq18 nq18 cq18, .bool jl1, .int .u64 un1, .bool bo1, .int .u64 pe1, .slice aq19 nq19 cq19, .slice aq20 nq20 cq20, .slice aq21 nq21 cq21], .bool true]), (15, pg g), (16, .int .u64 17), (17, .tuple #[.agg #[.int .u64 rt1, .int .u64 tk1, .slice aq18 nq18 cq18, .bool jl1, .int .u64 un1, .bool bo1, .int .u64 pe1, .slice aq19 nq19 cq19, .slice aq20 nq20 cq20, .slice aq21 nq21 cq21], .bool true]), (18, .agg #[.int .u64 rt1, .int .u64 tk1, .slice aq18 nq18 cq18, .bool jl1, .int .u64 un1, .bool bo1, .int .u64 pe1, .slice aq19 nq19 cq19, .slice aq20 nq20 cq20, .slice aq21 nq21 cq21]), (19, .bool true), (27, .bool false), (28, .int .i64 1)] (by kernel_rfl) ?_
  refine gc_seq ?_
  refine gc_regI ?_
  refine it 20 (.bool true) ?_
  refine it 21 (.bool true) ?_
  refine it 22 (.func (.yield lo) #[] #[]) ?_
  refine it 23 (.int .u64 17) ?_
  refine itlr 24 [.int .u64 rt1, .int .u64 tk1, .slice aq18 nq18 cq18, .bool jl1, .int .u64 un1, .bool bo1, .int .u64 pe1, .slice aq19 nq19 cq19, .slice aq20 nq20 cq20, .slice aq21 nq21 cq21] (U.bk 0 rfl) 0 ?_
  refine it_yield 25 lo (a := .int .u64 17) (b := .agg #[.int .u64 rt1, .int .u64 tk1, .slice aq18 nq18 cq18, .bool jl1, .int .u64 un1, .bool bo1, .int .u64 pe1, .slice aq19 nq19 cq19, .slice aq20 nq20 cq20, .slice aq21 nq21 cq21]) (Y1 _ _ _ _ _ _ _ _ _ _ _ _ _ _ _ _ _ _ _ _ _ _ _ hP (by omega) (by omega) (by omega) (by omega) (by omega) (by omega) U.u.tail (mk.rs U.k (Nat.zero_le _) (Nat.zero_le _))) ?_
  rintro _ v29 ⟨rfl, ⟨s33, K30, n31, N32, hP', qn31, qN32, U'⟩, mk'⟩
  replace hP := hP'
  replace mk := mk'
  replace U := uy_of (C := 0) U'
  clear hP' mk' U'
  refine ⟨_, rfl, ?_⟩
  refine gi_gl ?_
  refine t 26 (.bool false) ?_
  refine t 27 (.bool false) ?_
  refine gl_nil ?_
  refine ge_then ?_
  refine gc_no ?_
  refine gc_skip ?_
  refine ge_bn ?_
  refine ge_then ?_
  refine gc_reg ?_
  refine t 28 (.int .i64 2) ?_
  refine t 10 (.int .i64 2) ?_
  refine gl_nil ?_
  refine ge_rd ?_
  refine gc_fr [(0, .func (.yield lo) #[] #[]), (1, pg bs), (4, .int .u64 17), (5, pg g27), (6, .bool true), (8, .slice (some ⟨ib, 0, none⟩) 2 ic), (9, .int .i64 2), (10, .int .i64 2), (11, .bool true), (12, pq ib 1), (13, .int .u64 17), (14, .tuple #[.agg #[.int .u64 rt1, .int .u64 tk1, .slice aq18 nq18 cq18, .bool jl1, .int .u64 un1, .bool bo1, .int .u64 pe1, .slice aq19 nq19 cq19, .slice aq20 nq20 cq20, .slice aq21 nq21 cq21], .bool true]), (15, pg g), (16, .int .u64 17), (17, .tuple #[.agg #[.int .u64 rt1, .int .u64 tk1, .slice aq18 nq18 cq18, .bool jl1, .int .u64 un1, .bool bo1, .int .u64 pe1, .slice aq19 nq19 cq19, .slice aq20 nq20 cq20, .slice aq21 nq21 cq21], .bool true]), (18, .agg #[.int .u64 rt1, .int .u64 tk1, .slice aq18 nq18 cq18, .bool jl1, .int .u64 un1, .bool bo1, .int .u64 pe1, .slice aq19 nq19 cq19, .slice aq20 nq20 cq20, .slice aq21 nq21 cq21]), (19, .bool true), (27, .bool false), (28, .int .i64 2)] (by kernel_rfl) ?_
  refine gc_seq ?_
  refine gc_reg ?_
  refine t 11 (.bool false) ?_
  refine gl_nil ?_
  refine ge_then ?_
  refine gc_seq ?_
  refine gc_no ?_
  refine gc_exit ?_
  refine ge_tx ?_
  refine ge_tx ?_
  refine ge_bx ?_
  refine ge_endD (b := W.heap.size) [] (Dfs.nil _ _) (by kernel_rfl) ?_
  intro Vz Rz
  exact ⟨⟨_, rfl⟩, ⟨s33, _, _, _, hP, by omega, by omega, (U.u.rcd Rz U0.ta.size).tail⟩, (mk.rs U.k (Nat.zero_le _) (Nat.zero_le _)).rcd Rz hlo hD⟩
end Fo
end Go.Proofs.YtgdohcdlkonhiaaGreatDoor
