/- Several texts, joined: DiD. -/
import Derived.Test.YtpoifdokmjhclaaGreatJyC
import Derived.Test.YtpoifdokmjhclaaGreatJyI
namespace Go.Proofs.YtpoifdokmjhclaaGreat
namespace Fo
open Go.RowKit Go.Lib Pg Lim Gl Kv Bk Pw Sd Di
set_option maxRecDepth 100000
set_option linter.unusedVariables false
set_option maxHeartbeats 1000000
theorem Nq.at {w : World} {K : Nat → Prop} {z n c : Nat} {ao : Option Addr} {x : Int} (h : Nq w K z ao n c x) (hn : n ≠ 0) : ∃ o y, w.cell? ⟨z, o, none⟩ = some (.int .u64 y) := by
  obtain ⟨w2, hw2⟩ : ∃ w2 : World, w2 = { w with heap := w.heap.mapIdx (fun i o => if i = z then o else .deferred none) } := ⟨_, rfl⟩
  have hz : w2.heap[z]? = w.heap[z]? := by
    rw [hw2]
    simp only [Array.getElem?_mapIdx, if_true]
    cases w.heap[z]? <;> rfl
  obtain ⟨b, o, l, h1, h2, h3, h4⟩ := (h.to w2 (fun _ => hz)).ex
  have h5 := h4.cell 0 (by omega)
  by_cases hb : b = z
  · subst hb
    rw [World.cell?_of_block (w := w) (a := ⟨b, o + 0, none⟩) hz] at h5
    exact ⟨_, _, h5⟩
  · exfalso
    have h6 : w2.heap[b]? = none ∨ w2.heap[b]? = some (.deferred none) := by
      rw [hw2]
      simp only [Array.getElem?_mapIdx, if_neg hb]
      cases w.heap[b]? with
      | none => exact .inl rfl
      | some o => exact .inr rfl
    unfold World.cell? at h5
    rcases h6 with h6 | h6 <;> simp [h6] at h5
theorem Nq.rcd {C : Nat} {w w' : World} {K : Nat → Prop} {z n c : Nat} {ao : Option Addr} {x : Int} (h : Nq w K z ao n c x) (hr : Rec C w w') : Nq w' K z ao n c x := by
  have hs : n ≠ 0 → w'.heap[z]? = w.heap[z]? := fun hn => by
    obtain ⟨o, y, h1⟩ := h.at hn
    unfold World.cell? at h1
    split at h1
    · rename_i cs t f e
      have e' : w.heap[z]? = some (.cells cs t f) := e
      rw [e']
      exact hr.same z _ e' (.inr rfl)
    · cases h1
  exact ⟨h.lt.imp_right fun h => Nat.lt_of_lt_of_le h hr.size, h.out, fun w2 h2 => h.to w2 fun hn => (h2 hn).trans (hs hn)⟩
section
variable {w0 w w' w1 : World} {B g0 n N n' N' g i C : Nat} {K0 K K' : Nat → Prop} {W : List Ents} {E E' : Ents} {bs : List Bx} {qs : List Nx} {cs cs' : List Value} {t : TypeId}
theorem Ut.rcd (h : Ut w0 K0 B g0 W w K E n N bs qs) (r : Rec C w w') (hC : w0.heap.size ≤ C) : Ut w0 K0 B g0 W w' K E n N bs qs := ⟨⟨sx_rcd h.ta.sx r, h.ta.km, chg_rcd h.ta.cc r hC⟩, fun p hp => ⟨r.blk (h.b p hp).1, (h.b p hp).2⟩, fun q hq => (h.q q hq).rcd r, h.e, h.d⟩
theorem Ut.opnew (h : Ut w0 K0 B g0 W w K E n N bs qs) (S : Sx B w' K' g0 E' W n' N') (hK : ∀ b, K' b → K b ∨ w.heap.size ≤ b) (hC : Chg K w w') (X : Blk w' g cs t) (hb : w.heap.size ≤ g) (nk : ¬ K' g) : Ut w0 K0 B g0 W w' K' E' n' N' ((g, cs, t) :: bs) qs := by
  have u := h.op S hK hC
  exact ⟨u.ta, List.forall_mem_cons.2 ⟨⟨X, nk, Nat.le_trans h.ta.size hb⟩, u.b⟩, u.q, List.forall_mem_cons.2 ⟨fun r hr => ne1 (h.q r hr).lt hb, u.e⟩, List.pairwise_cons.2 ⟨fun p hp e => by have := h.lt p hp; have e' : g = p.1 := e; omega, u.d⟩⟩
theorem Ut.drop (h : Ut w0 K0 B g0 W w K E n N bs qs) (k : Nat) : Ut w0 K0 B g0 W w K E n N (bs.drop k) qs := ⟨h.ta, fun p hp => h.b p (List.mem_of_mem_drop hp), h.q, fun p hp => h.e p (List.mem_of_mem_drop hp), h.d.drop⟩
theorem Ut.tail {p : Bx} (h : Ut w0 K0 B g0 W w K E n N (p :: bs) qs) : Ut w0 K0 B g0 W w K E n N bs qs := h.drop 1
/-- what is no variable stays, from C on -/
abbrev Rs (C : Nat) (w w' : World) : Prop := KeepsT (fun _ => True) C w w'
theorem Rs.refl (C : Nat) (w : World) : Rs C w w := ⟨Nat.le_refl _, fun _ _ _ h _ => h⟩
theorem Rs.chg {F : Nat → Prop} (h : Chg F w w') (hF : ∀ b, F b → ∃ cs t, Blk w b cs t) : Rs C w w' := ⟨h.size, fun k o _ ho hs => (h.same k (lt_of_block ho) (fun f => by
  obtain ⟨cs, t, X⟩ := hF k f
  have e := ho.symm.trans X.blk
  cases e
  exact hs _ _ _ rfl trivial)).trans ho⟩
theorem kindS (S : Sx B w K g0 E W n N) : ∀ b, K b → ∃ cs t, Blk w b cs t := fun b hb => by
  obtain ⟨cs, t, h, _⟩ := S.sa.kind b hb
  exact ⟨cs, t, h⟩
structure Uy (w1 : World) (C : Nat) (w0 : World) (K0 : Nat → Prop) (B g0 : Nat) (W : List Ents) (w : World) (K : Nat → Prop) (E : Ents) (n N : Nat) (bs : List Bx) (qs : List Nx) : Prop where
  u : Ut w0 K0 B g0 W w K E n N bs qs
  k : Rs C w1 w
theorem Uy.ta (h : Uy w1 C w0 K0 B g0 W w K E n N bs qs) : Bk.At B w0 K0 w K g0 E W n N := h.u.ta
theorem Uy.lt (h : Uy w1 C w0 K0 B g0 W w K E n N bs qs) : ∀ p ∈ bs, p.1 < w.heap.size := h.u.lt
theorem Uy.keep (h : Uy w1 C w0 K0 B g0 W w K E n N bs qs) (b : Below w.heap.size w w') : Uy w1 C w0 K0 B g0 W w' K E n N bs qs := ⟨h.u.keep b, h.k.trans (KeepsT.of b)⟩
theorem Uy.drew (h : Uy w1 C w0 K0 B g0 W w K E n N bs qs) : Uy w1 C w0 K0 B g0 W w.drew K E n N bs qs := h.keep (Below.refl _ _).drew
theorem Uy.op (h : Uy w1 C w0 K0 B g0 W w K E n N bs qs) (S : Sx B w' K' g0 E' W n' N') (hK : ∀ b, K' b → K b ∨ w.heap.size ≤ b) (hC : Chg K w w') : Uy w1 C w0 K0 B g0 W w' K' E' n' N' bs qs := ⟨h.u.op S hK hC, h.k.trans (Rs.chg hC (kindS h.u.ta.sx))⟩
theorem Uy.add {z k d : Nat} {a : Option Addr} {x : Int} {s : Nat} (h : Uy w1 C w0 K0 B g0 W w K E n N bs qs) (L : ∀ p ∈ bs, p.1 < s) (Q : Nq w K z a k d x) (hz : k = 0 ∨ s ≤ z) : Uy w1 C w0 K0 B g0 W w K E n N bs ((z, a, k, d, x) :: qs) := ⟨h.u.add L Q hz, h.k⟩
theorem Uy.num {z k d : Nat} {a : Option Addr} {x : Int} (h : Uy w1 C w0 K0 B g0 W w K E n N bs qs) (M : Nf w' z a k d x) (hz : k = 0 ∨ w.heap.size ≤ z) (b : Below w.heap.size w w') : Uy w1 C w0 K0 B g0 W w' K E n N bs ((z, a, k, d, x) :: qs) := ⟨h.u.num M hz b, h.k.trans (KeepsT.of b)⟩
theorem Uy.new (h : Uy w1 C w0 K0 B g0 W w K E n N bs qs) (X : Blk w' g cs t) (hg : w.heap.size ≤ g) (b : Below w.heap.size w w') : Uy w1 C w0 K0 B g0 W w' K E n N ((g, cs, t) :: bs) qs := ⟨h.u.new X hg b, h.k.trans (KeepsT.of b)⟩
theorem Uy.bk (h : Uy w1 C w0 K0 B g0 W w K E n N bs qs) (i : Nat) (hi : bs[i]? = some (g, cs, t)) : Blk w g cs t := h.u.bk i hi
theorem Uy.nq {z k d : Nat} {a : Option Addr} {x : Int} (h : Uy w1 C w0 K0 B g0 W w K E n N bs qs) (i : Nat) (hi : qs[i]? = some (z, a, k, d, x)) : Nq w K z a k d x := h.u.nq i hi
theorem Uy.put (h : Uy w1 C w0 K0 B g0 W w K E n N bs qs) (i : Nat) (hi : bs[i]? = some (g, cs, t)) (D : Chg (· = g) w w') (Y : Blk w' g cs' t) (ht : t ≠ 5) : Uy w1 C w0 K0 B g0 W w' K E n N (bs.set i (g, cs', t)) qs := ⟨h.u.put i hi D Y ht, h.k.trans (Rs.chg D (fun b e => ⟨cs, t, (show b = g from e) ▸ h.u.bk i hi⟩))⟩
theorem Uy.val {z k d : Nat} {a : Option Addr} {x y : Int} (h : Uy w1 C w0 K0 B g0 W w K E n N bs qs) (i : Nat) (hi : qs[i]? = some (z, a, k, d, x)) (e : x = y) : Uy w1 C w0 K0 B g0 W w K E n N bs (qs.set i (z, a, k, d, y)) := ⟨h.u.val i hi e, h.k⟩
theorem Uy.sel (h : Uy w1 C w0 K0 B g0 W w K E n N bs qs) (is js : List Nat) (hn : is.Nodup := by decide) : Uy w1 C w0 K0 B g0 W w K E n N (is.filterMap (bs[·]?)) (js.filterMap (qs[·]?)) := ⟨h.u.sel is js hn, h.k⟩
theorem Uy.opnew (h : Uy w1 C w0 K0 B g0 W w K E n N bs qs) (S : Sx B w' K' g0 E' W n' N') (hK : ∀ b, K' b → K b ∨ w.heap.size ≤ b) (hC : Chg K w w') (X : Blk w' g cs t) (hb : w.heap.size ≤ g) (nk : ¬ K' g) : Uy w1 C w0 K0 B g0 W w' K' E' n' N' ((g, cs, t) :: bs) qs := ⟨h.u.opnew S hK hC X hb nk, h.k.trans (Rs.chg hC (kindS h.u.ta.sx))⟩
theorem uy_of (h : Ut w0 K0 B g0 W w K E n N bs qs) : Uy w C w0 K0 B g0 W w K E n N bs qs := ⟨h, Rs.refl _ _⟩
end
/-- a loop's record, and the mark that it leaves -/
structure Mk (lo D : Nat) (R0 : Loop) (V : World) : Prop where
  l : V.heap[lo]? = some (.loop R0)
  d : V.heap[D]? = some (.deferred (some []))
theorem Mk.rs {lo D C : Nat} {R0 : Loop} {V V' : World} (h : Mk lo D R0 V) (r : Rs C V V') (h1 : C ≤ lo) (h2 : C ≤ D) : Mk lo D R0 V' := ⟨r.same _ _ h1 h.l safe_loop, r.same _ _ h2 h.d safe_def⟩
theorem Mk.rcd {lo D C : Nat} {R0 : Loop} {V V' : World} (h : Mk lo D R0 V) (r : Rec C V V') (h1 : lo < C) (h2 : D < C) : Mk lo D R0 V' := ⟨r.same _ _ h.l (.inl h1), r.same _ _ h.d (.inl h2)⟩
/-- behind the assignments a round's body begins -/
def asq (lo B0 : Nat) (V : World) (R : World → Prop) (body : Code) (a1 : Act) (W1 : World) : Prop := Below V.heap.size V W1 ∧ ∀ V2 W2, Rec B0 V V2 → V2.heap.size = V.heap.size → Below V2.heap.size V2 W2 → (∀ b, b ≠ lo → W2.heap[b]? = W1.heap[b]?) → body.wpIn (Fence.wide.inRound lo) 0 Tryz.prog (bpost (fun _ => True) B0 (fun j V' => (j = 0 → Rec B0 V V') ∧ (j = 1 → R V')) (fun _ _ _ => False) 1 W2) a1 W2
theorem ge_asn {lo B0 n : Nat} {V W1 : World} {R : World → Prop} {body : Code} {l : Fr} (hB : Below V.heap.size V W1) (h : ∀ V2 W2, Rec B0 V V2 → V2.heap.size = V.heap.size → Below V2.heap.size V2 W2 → (∀ b, b ≠ lo → W2.heap[b]? = W1.heap[b]?) → GR lo n [] body (bpost (fun _ => True) B0 (fun j V' => (j = 0 → Rec B0 V V') ∧ (j = 1 → R V')) (fun _ _ _ => False) 1 W2) l W2) : GE n [] (Exit.then (asq lo B0 V R body) (fun _ _ _ => False)) .normal l W1 := ⟨fun a r => ⟨hB, fun V2 W2 h1 h2 h3 h4 => (h V2 W2 h1 h2 h3 h4).out a r⟩⟩
theorem ge_bp {B0 n : Nat} {V W2 W' : World} {R : World → Prop} {l : Fr} (hk : Rs B0 W2 W') (hR : R W') : GE n [] (bpost (fun _ => True) B0 (fun j V' => (j = 0 → Rec B0 V V') ∧ (j = 1 → R V')) (fun _ _ _ => False) 1 W2) .normal l W' := ⟨fun _ _ => ⟨hk, fun e => absurd e (by decide), fun _ => hR⟩⟩
theorem yield_go {lo D n B0 : Nat} {fn : FuncId} {tmps : Array Value} {ps : Array Tmp} {asn body : Code} {args : Array Value} {V : World} {l : Fr} {R : World → Prop} (h1 : B0 ≤ lo) (h2 : B0 ≤ D) (hne : D ≠ lo) (mk : Mk lo D (recd fn tmps ps asn body D .ready none) V) (hps : args.size = ps.size) (hR : St B0 R) (rd : Rd n [] l { tmps := (ps.zip args).foldl (fun t (p, v) => t.setIfInBounds p v) tmps, defers := [] })
    (h : GR lo n [] asn (Exit.then (asq lo B0 V R body) (fun _ _ _ => False)) l V) : YieldAt Fence.wide 0 Tryz.prog lo args V fun e V' => e = .returned (.bool true) ∧ R V' ∧ Mk lo D (recd fn tmps ps asn body D .ready none) V' := by
  refine (yield_core (Tp := fun _ => True) (B := B0) (i := 0) (n := 0) (I := fun j V' => (j = 0 → Rec B0 V V') ∧ (j = 1 → R V')) (Ix := fun _ _ _ => False) (Ar := fun _ a _ _ => a = args) (fun _ _ _ _ _ h _ => h) (fun i A C hx hr => ⟨fun e => (hx.1 e).trans hr, fun e => hR _ _ (hx.2 e) hr⟩) (fun _ _ _ _ h _ => h) h1 mk.l ⟨fun _ => ⟨rfl, rfl, rfl, Nat.le_refl _, fun _ _ h _ => h⟩, fun e => absurd e (by decide)⟩ (Below.refl _ _) rfl hps ?_).mono ?_
  · refine wpIn_mono (h.out _ rd) ?_
    intro e a1 W1 hq
    cases e with
    | normal => exact ⟨hq.1, fun V2 W2 hi hb _ ho _ hs _ => hq.2 V2 W2 (hi.1 rfl) hs hb ho⟩
    | _ => exact hq
  · rintro e V' ⟨kp, ⟨rfl, hi, hl⟩ | ⟨_, c, hc, _⟩⟩
    · exact ⟨rfl, hi.2 rfl, hl, kp.same D _ h2 hne mk.d safe_def⟩
    · exact hc.elim
/-- the frame of a round -/
theorem rd_round {n p q : Nat} {ds : List Deferred} {l : Fr} {a : Act} (r : Rd n ds l a) (u v : Value) (hp : p < n) (hq : q < n) : Rd n [] ((q, v) :: (p, u) :: l) { tmps := ((#[p, q] : Array Tmp).zip #[u, v]).foldl (fun t (p, v) => t.setIfInBounds p v) a.tmps, defers := [] } := by
  have r1 : Rd n [] l { tmps := a.tmps, defers := [] } := ⟨r.size, rfl, r.get⟩
  have e : ((#[p, q] : Array Tmp).zip #[u, v]).foldl (fun t (p, v) => t.setIfInBounds p v) a.tmps = (a.tmps.setIfInBounds p u).setIfInBounds q v := by simp
  rw [e]
  exact (r1.put (some p) u (fun k e => by cases e; exact hp)).put (some q) v (fun k e => by cases e; exact hq)
/-- a range over a function: the call of the iterator, and what is behind it -/
theorem gc_rngI {n t gf : Nat} {lb : Array Value} {ds : List Deferred} {l : Fr} {Q : Exit → Act → World → Prop} {w : World} {ps : Array Tmp} {asn body : Code} (I : World → Prop) (eg : ∀ args w, (callFunc gf args).run Tryz.prog w = .ok (.enter gf args) w)
    (hrun : ∀ a fn, Rd n ds l a → ∀ W, Below w.heap.size w W → w.heap.size + 2 ≤ W.heap.size → Mk (w.heap.size + 1) w.heap.size (recd fn a.tmps ps asn body w.heap.size .ready none) W → Calls Tryz.prog gf (#[.func (.yield (w.heap.size + 1)) #[] #[]] ++ lb) W fun e W' => (∃ v, e = .returned v) ∧ I W' ∧ Mk (w.heap.size + 1) w.heap.size (recd fn a.tmps ps asn body w.heap.size .ready none) W')
    (hI : St w.heap.size I) (h : ∀ W, W.heap[w.heap.size]? = some (.deferred (some [])) → I W → GE n (col w.heap.size :: ds) Q .normal l W) (hv : lk l t = some (.func (.func gf) #[] lb) := by kernel_rfl) : GC Tryz.prog n ds (Code.rangeFunc (.tmp t) ps asn body) Q l w := ⟨fun a r => by
  have ev : a.eval (.tmp t) = .func (.func gf) #[] lb := by
    have h1 := r.gD hv
    simp at h1
    simp [Act.eval, h1]
  refine wpIn_wide.1 (wpIn_rangeFunc (F := Fence.wide) (n := 0) ?_)
  intro fn _
  obtain ⟨W1, hW1⟩ : ∃ W1, (w.alloc (.deferred (some []))).alloc (.loop (recd fn a.tmps ps asn body w.heap.size .ready none)) = W1 := ⟨_, rfl⟩
  have hB1 : Below w.heap.size w W1 := by rw [← hW1]; exact joinB (below_alloc w _) (below_alloc _ _)
  have hs1 : W1.heap.size = w.heap.size + 1 + 1 := by rw [← hW1]; simp
  have hL1 : W1.heap[w.heap.size + 1]? = some (.loop (recd fn a.tmps ps asn body w.heap.size .ready none)) := by
    rw [← hW1]; have := World.alloc_heap_new (w.alloc (.deferred (some []))) (.loop (recd fn a.tmps ps asn body w.heap.size .ready none)); rwa [World.size_alloc] at this
  have hK1 : W1.heap[w.heap.size]? = some (.deferred (some [])) := by
    rw [← hW1]; exact (Below.heap_alloc _ _ _ (by simp)).trans (World.alloc_heap_new w _)
  refine ⟨w.heap.size + 1, [{ target := .collected w.heap.size, args := #[] }], W1, { target := .fn (.func gf) lb, args := #[.func (.yield (w.heap.size + 1)) #[] #[]] }, W1, gf,
    #[.func (.yield (w.heap.size + 1)) #[] #[]] ++ lb, W1, ?_, ?_, ?_, ?_, fun h => (by cases h), ?_⟩
  · rw [← hW1]; exact run_enterLoop_outer _ _ _ _ _
  · simp only [resolve, ev]
    simp [go_sem]
  · intro f' _; trivial
  · simp [invoke, go_sem, eg]
  · refine callsIn_wide.2 ((hrun a fn r W1 hB1 (by omega) ⟨hL1, hK1⟩).mono ?_)
    rintro e W2 ⟨⟨u, rfl⟩, hi, mk⟩
    have rr := Rec.put (B := w.heap.size) mk.l rfl (by omega) (.loop { recd fn a.tmps ps asn body w.heap.size .ready none with state := .exhausted })
    refine ⟨none, _, run_endLoop (P := Tryz.prog) mk.l (by simp [recd]), (h _ ((World.putObj_heap_other (by omega)).trans mk.d) (hI _ _ hi rr)).out _ ⟨r.1, ?_, r.3⟩⟩
    show _ :: a.defers = _ :: ds
    rw [r.dfs]
    rfl⟩
end Fo
end Go.Proofs.YtpoifdokmjhclaaGreat
