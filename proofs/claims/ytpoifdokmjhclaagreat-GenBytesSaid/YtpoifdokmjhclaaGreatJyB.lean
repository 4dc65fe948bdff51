/- Several texts, joined: SdA. -/
import Derived.Test.YtpoifdokmjhclaaGreatJyA
import Derived.Test.YtpoifdokmjhclaaGreatJyd
namespace Go.Proofs.YtpoifdokmjhclaaGreat
namespace Sd
open Go.RowKit Go.Lib Pg Lim Gl Kv Bk Pw
/-- a function that gives nothing when it is ranged over: the store is asked once -/
def Mt (B : Nat) (K : Nat → Prop) (g : Nat) (E : Ents) (Wn : List Ents) (x N c : Nat) (w : World) (v : Value) : Prop :=
  ∃ gf lb, v = .func (.func gf) #[] lb ∧ (∀ args w, (callFunc gf args).run Tryz.prog w = .ok (.enter gf args) w) ∧ ∀ V l, Below w.heap.size w V → Calls Tryz.prog gf (#[.func (.yield l) #[] #[]] ++ lb) V fun e V' => (∃ u, e = .returned u) ∧ Sx B V' K g E Wn (x + c) N ∧ Chg (· = g) V V'
section
variable {B : Nat} {K : Nat → Prop} {g : Nat} {E : Ents} {Wn : List Ents} {x N c : Nat} {w w' : World} {v : Value}
theorem Mt.keep (h : Mt B K g E Wn x N c w v) (b : Below w.heap.size w w') : Mt B K g E Wn x N c w' v := by
  obtain ⟨gf, lb, e, en, h⟩ := h
  exact ⟨gf, lb, e, en, fun V l hb => h V l (joinB b hb)⟩
theorem Mt.drew (h : Mt B K g E Wn x N c w v) : Mt B K g E Wn x N c w.drew v := h.keep (Below.refl _ _).drew
theorem sx_rcd {C : Nat} (h : Sx B w K g E Wn x N) (r : Rec C w w') : Sx B w' K g E Wn x N := ⟨sa_rcd h.sa r, Nat.le_trans h.lo r.size, h.kb⟩
theorem sx_tick (h : Sx B w K g E Wn x N) : Sx B (tick g w x) K g E Wn (x + 1) N := ⟨h.sa.tick, by rw [tick_size]; exact h.lo, h.kb⟩
theorem mt_prefix {pv : Value} {p : List Int} (h : Sx B w K g E Wn x N) (hN : N ≤ 100000000) (hx : x ≤ 1000000000000000000) (hp : By w pv p) (hpl : p.length ≤ 1000000) (h0 : E.filter (fun x => decide (p <+: x.1)) = []) :
    Calls Tryz.prog 195 #[pg g, pv] w fun e w' => ∃ gf lb, e = .returned (.func (.func gf) #[] lb) ∧ Mt B K g E Wn x N 1 w' (.func (.func gf) #[] lb) ∧ Below w.heap.size w w' := by
  refine (sprefixG (Tp := fun _ => False) (X := (· = g)) h.sa hN hp hpl (fun b e => .inl e) (fun b e cs k => ?_) (fun b e => ?_) (fun h => h) (fun h => h)).mono ?_
  · have e' : b = g := e
    subst e'
    obtain ⟨cs', k'⟩ := h.sa.kv
    exact absurd (k.eq k').2 (by decide)
  · have e' : b = g := e
    subst e'
    exact h.sa.lt h.sa.top
  rintro e w' ⟨v, EL, rfl, IG, hEL, Bw⟩
  have hE : EL = [] := by rw [h0] at hEL; simpa using hEL
  subst hE
  obtain ⟨bs1, bs2, bw, W1, rfl, IT, hRd, hb1, hb2⟩ := IG.ex
  refine ⟨_, _, rfl, ⟨_, _, rfl, enters_of Tryz.func303 (by kernel_rfl) rfl, fun V l hb => ?_⟩, Bw⟩
  have S1 : Sx B V K g E Wn x N := (h.keep Bw).keep hb
  have gl : g < V.heap.size := S1.sa.lt S1.sa.top
  have n1 : bs1 ≠ g := fun e => by obtain ⟨cs', k'⟩ := (h.keep Bw).sa.kv; subst e; exact absurd (hRd.2.1.eq k').2 (by decide)
  have n2 : bs2 ≠ g := fun e => by obtain ⟨cs', k'⟩ := (h.keep Bw).sa.kv; subst e; exact absurd (hRd.2.2.1.eq k').2 (by decide)
  have rdV : ∀ U, Chg (· = g) V U → Sx B U K g E Wn x N ∨ Sx B U K g E Wn (x + 1) N → RdC (· = g) W1 g bs1 bs2 bw U := fun U c s => by
    have c2 := (Chg.of (F := (· = g)) hb).trans c (fun _ _ h => h)
    exact ⟨hRd.1.trans c2 (fun _ _ h => h), hRd.2.1.chg c2 n1, hRd.2.2.1.chg c2 n2, s.elim (fun s => s.sa.kv) (fun s => s.sa.kv)⟩
  have ITC := counted_itr (g := g) (bs1 := bs1) (bs2 := bs2) (x0 := x) IT (fun h => h) (by simp; omega)
  refine (ITC l (fun U => Rec V.heap.size V U) (fun i U => i = 0 ∧ ∃ U0, Rec V.heap.size V U0 ∧ Rec V.heap.size (tick g U0 x) U) (fun _ _ => True) (fun _ _ => True) V
    (fun A C h r => h.trans r) (fun i A C h r => ⟨h.1, h.2.imp fun _ q => ⟨q.1, q.2.trans r⟩⟩) (fun _ _ _ _ _ => trivial) (fun _ _ _ _ _ => trivial) gl ?_ ?_ (fun i _ _ _ hi => absurd hi (by simp)) ⟨rfl, rfl, rfl, Nat.le_refl _, fun _ _ h _ => h⟩).mono ?_
  · intro U r
    have s := sx_rcd S1 r
    have q := s.sa.cnt
    exact ⟨q.1, q.2, rdV U (chg_rcd (Chg.refl _ _) r (Nat.le_refl _)) (.inl s), rfl, U, r, ⟨rfl, rfl, rfl, Nat.le_refl _, fun _ _ h _ => h⟩⟩
  · rintro i U ⟨rfl, U0, r0, r1⟩
    have s := sx_rcd (sx_tick (sx_rcd S1 r0)) r1
    have q := s.sa.cnt
    have c := chg_rcd ((chg_rcd (Chg.refl (· = g) V) r0 (Nat.le_refl _)).trans (chg_tick g x U0) (fun _ _ h => h)) r1 (Nat.le_refl _)
    exact ⟨q.1, q.2, rdV U c (.inr s), fun hi => absurd hi (by simp)⟩
  · rintro e W' ⟨he, _, ⟨_, U0, r0, r1⟩ | ⟨i, hi, _⟩⟩
    · exact ⟨he, sx_rcd (sx_tick (sx_rcd S1 r0)) r1, chg_rcd ((chg_rcd (Chg.refl (· = g) V) r0 (Nat.le_refl _)).trans (chg_tick g x U0) (fun _ _ h => h)) r1 (Nat.le_refl _)⟩
    · exact absurd hi (by simp)
end
/-- what a range leaves behind for the function's end -/
def col (D : Nat) : Deferred := { target := .collected D, args := #[] }
structure Dfs (b : Nat) (Ds : List Nat) (w : World) : Prop where
  mem : ∀ D ∈ Ds, b ≤ D ∧ w.heap[D]? = some (.deferred (some []))
  nd : Ds.Nodup
section
variable {b : Nat} {Ds : List Nat} {w w' : World}
theorem Dfs.nil (b : Nat) (w : World) : Dfs b [] w := ⟨fun _ h => absurd h (by simp), List.nodup_nil⟩
theorem Dfs.lt {D : Nat} (h : Dfs b Ds w) (hD : D ∈ Ds) : D < w.heap.size := lt_of_block (h.mem D hD).2
theorem Dfs.keep (h : Dfs b Ds w) (hb : Below w.heap.size w w') : Dfs b Ds w' := ⟨fun D hD => ⟨(h.mem D hD).1, (hb.block D (h.lt hD)).trans (h.mem D hD).2⟩, h.nd⟩
theorem Dfs.drew (h : Dfs b Ds w) : Dfs b Ds w.drew := ⟨h.mem, h.nd⟩
/-- only variables are changed -/
theorem Dfs.chg {F : Nat → Prop} (h : Dfs b Ds w) (hc : Chg F w w') (hF : ∀ x, F x → x < b ∨ ∃ cs t, Blk w x cs t) : Dfs b Ds w' :=
  ⟨fun D hD => ⟨(h.mem D hD).1, (hc.same D (h.lt hD) (fun hf => by
    rcases hF D hf with h1 | ⟨cs, t, k⟩
    · have := (h.mem D hD).1; omega
    · have := (h.mem D hD).2; rw [k.blk] at this; cases this)).trans (h.mem D hD).2⟩, h.nd⟩
theorem Dfs.cell {x : Nat} {cs : List Value} {t : TypeId} (h : Dfs b Ds w) (X : Blk w x cs t) (hc : Chg (· = x) w w') : Dfs b Ds w' := h.chg hc (fun y e => .inr ⟨cs, t, (show y = x from e) ▸ X⟩)
theorem Dfs.top {g : Nat} (h : Dfs b Ds w) (hc : Chg (· = g) w w') (hg : g < b) : Dfs b Ds w' := h.chg hc (fun y e => .inl (by have e' : y = g := e; omega))
theorem Dfs.add {D : Nat} (h : Dfs b Ds w) (hD : w.heap.size ≤ D) (hb : b ≤ w.heap.size) (h' : Dfs b Ds w') (hK : w'.heap[D]? = some (.deferred (some []))) : Dfs b (D :: Ds) w' :=
  ⟨fun d hd => by
    rcases List.mem_cons.1 hd with rfl | hd
    · exact ⟨by omega, hK⟩
    · exact h'.mem d hd, List.nodup_cons.2 ⟨fun hm => by have := h.lt hm; omega, h.nd⟩⟩
theorem leaves_col {fn : Func} {tmps : Array Value} {R : Ending → World → Prop} : ∀ {Ds : List Nat} {w : World}, Dfs b Ds w → (∀ W, Rec b w W → LeavesInM Fence.wide 0 Tryz.prog fn tmps R [] .returning W) → LeavesInM Fence.wide 0 Tryz.prog fn tmps R (Ds.map col) .returning w
  | [], w, _, hR => hR w ⟨rfl, rfl, rfl, Nat.le_refl _, fun _ _ h _ => h⟩
  | D :: Ds, w, h, hR => by
    have hK := (h.mem D (List.mem_cons_self ..)).2
    have hb := (h.mem D (List.mem_cons_self ..)).1
    refine ⟨by simp, .inl ⟨_, _, rfl, run_takeDeferred hK, leaves_col (Ds := Ds) ⟨fun d hd => ⟨(h.mem d (List.mem_cons_of_mem _ hd)).1, ?_⟩, (List.nodup_cons.1 h.nd).2⟩ (fun W r => hR W ((Rec.put hK rfl hb _).trans r))⟩⟩
    rw [World.putObj_heap_other (fun e => (List.nodup_cons.1 h.nd).1 (by subst e; exact hd))]
    exact (h.mem d (List.mem_cons_of_mem _ hd)).2
end
def okS (Q : Exit → Act → World → Prop) : Exit → Act → World → Prop
  | .normal, a, w => Q .normal a w
  | .ret, a, w => Q .ret a w
  | _, _, _ => False
theorem weakS {c : Code} {a : Act} {w : World} {Q : Exit → Act → World → Prop} (h : c.wp Tryz.prog (okS Q) a w) : c.wp Tryz.prog Q a w :=
  Code.wp_mono (fun e a' w' h => by
    cases e <;> first
      | exact h
      | exact h.elim) h
section
variable {n : Nat} {l : Fr} {fn : Func} {R : Ending → World → Prop} {w : World} {b : Nat}
theorem ge_retD {v : Value} (Ds : List Nat) (h : Dfs b Ds w) (hr : ∀ W a, Rec b w W → Rd n (Ds.map col) l a → (results fn a.tmps).run Tryz.prog W = .ok v W) (hR : ∀ W, Rec b w W → R (.returned v) W) : GE n (Ds.map col) (okS (bodyPostM Fence.wide 0 Tryz.prog fn R)) .ret l w := ⟨fun a r => by
  have hr' := fun W q => hr W a q r
  obtain ⟨tmps, dfs⟩ := a
  have e : dfs = Ds.map col := r.dfs
  subst e
  show LeavesInM Fence.wide 0 Tryz.prog fn tmps R (Ds.map col) .returning w
  exact leaves_col h (fun W q => ⟨_, hr' W q, hR W q⟩)⟩
theorem ge_endD (Ds : List Nat) (h : Dfs b Ds w) (hr : fn.results = #[]) (hR : ∀ W, Rec b w W → R (.returned (.tuple #[])) W) : GE n (Ds.map col) (okS (bodyPostM Fence.wide 0 Tryz.prog fn R)) .normal l w := ⟨fun a r => by
  obtain ⟨tmps, dfs⟩ := a
  have e : dfs = Ds.map col := r.dfs
  subst e
  show LeavesInM Fence.wide 0 Tryz.prog fn tmps R (Ds.map col) .returning w
  exact leaves_col h (fun W q => ⟨_, by simp [results, hr], hR W q⟩)⟩
theorem rsM {ds : List Deferred} (k : Nat) {v : Value} (h : fn.results = #[.tmp k]) (hv : lk l k = some v) (W : World) (a : Act) (_ : Rec b w W) (r : Rd n ds l a) : (results fn a.tmps).run Tryz.prog W = .ok v W := by
  have h1 := r.gD hv
  simp at h1
  simp [results, h, h1]
theorem rscM {ds : List Deferred} (k : Nat) {g : Nat} {v : Value} {T : TypeId} (X : Blk w g [v] T) (hl : ∀ W, Blk W g [v] T → (loadVar T ⟨g, 0, none⟩).run Tryz.prog W = .ok v W) (h : fn.results = #[.cell k T]) (hv : lk l k = some (pg g)) (W : World) (a : Act) (q : Rec b w W) (r : Rd n ds l a) : (results fn a.tmps).run Tryz.prog W = .ok v W := by
  have h1 := r.gD hv
  simp at h1
  simp [results, h, h1, pg, asAddr, hl W (rec_cel X q)]
theorem gc_enterM {f : FuncId} {c : Code} {vs : List Value} (hf : Tryz.prog.funcs[f]? = some fn) (hb : fn.body = some c) (hn : fn.ntmps = n) (hs : Nat.ble vs.length n = true) (h : GC Tryz.prog n [] c (okS (bodyPostM Fence.wide 0 Tryz.prog fn R)) (en 0 vs) w) : Calls Tryz.prog f vs.toArray w R := by
  refine (callsIn_wide (n := 0)).1 (callsIn_of_wp_marks hf hb trivial ?_ rfl)
  refine wpIn_wide.2 (weakS (h.out _ ?_))
  subst hn
  have hs := Nat.le_of_ble_eq_true hs
  refine ⟨?_, rfl, fun k v hk => ?_⟩
  · simp
    omega
  · obtain ⟨_, h2⟩ := lk_en vs 0 k v hk
    rw [Nat.sub_zero] at h2
    have hlt := (List.getElem?_eq_some_iff.1 h2).1
    simp only
    rw [Array.getElem?_append_left (by simpa using hlt)]
    simpa using h2
end
section
variable {n : Nat} {ds : List Deferred} {l : Fr} {Q : Exit → Act → World → Prop} {w : World} {B : Nat} {K : Nat → Prop} {g : Nat} {E : Ents} {Wn : List Ents} {x N c : Nat} {v : Value}
/-- a range that has no round -/
theorem gc_mt {t : Nat} {ps : Array Tmp} {asn body : Code} (M : Mt B K g E Wn x N c w v) (hg : g < w.heap.size) (h : ∀ D w', w.heap.size ≤ D → w'.heap[D]? = some (.deferred (some [])) → Sx B w' K g E Wn (x + c) N → Chg (· = g) w w' → GE n (col D :: ds) Q .normal l w') (hv : lk l t = some v := by kernel_rfl) : GC Tryz.prog n ds (Code.rangeFunc (.tmp t) ps asn body) Q l w := ⟨fun a r => by
  obtain ⟨gf, lb, rfl, eg, M⟩ := M
  have ev : a.eval (.tmp t) = .func (.func gf) #[] lb := by
    have h1 := r.gD hv
    simp at h1
    simp [Act.eval, h1]
  refine wpIn_wide.1 (wpIn_rangeFunc (F := Fence.wide) (n := 0) ?_)
  intro fn _
  obtain ⟨W1, hW1⟩ : ∃ W1, (w.alloc (.deferred (some []))).alloc (.loop (recd fn a.tmps ps asn body w.heap.size .ready none)) = W1 := ⟨_, rfl⟩
  have hB1 : Below w.heap.size w W1 := by rw [← hW1]; exact joinB (below_alloc w _) (below_alloc _ _)
  have hL1 : W1.heap[w.heap.size + 1]? = some (.loop (recd fn a.tmps ps asn body w.heap.size .ready none)) := by
    rw [← hW1]; have := World.alloc_heap_new (w.alloc (.deferred (some []))) (.loop (recd fn a.tmps ps asn body w.heap.size .ready none)); rwa [World.size_alloc] at this
  have hK1 : W1.heap[w.heap.size]? = some (.deferred (some [])) := by
    rw [← hW1]; exact (Below.heap_alloc _ _ _ (by simp)).trans (World.alloc_heap_new w _)
  refine ⟨w.heap.size + 1, [{ target := .collected w.heap.size, args := #[] }], W1, { target := .fn (.func gf) lb, args := #[.func (.yield (w.heap.size + 1)) #[] #[]] }, W1, gf,
    #[.func (.yield (w.heap.size + 1)) #[] #[]] ++ lb, W1, ?_, ?_, ?_, ?_, fun h => (by cases h), ?_⟩
  · rw [← hW1]; exact run_enterLoop_outer _ _ _ _ _
  · simp only [resolve, ev]
    simp [go_sem]
  · intro f' _; trivial
  · simp [invoke, go_sem, eg]
  · refine callsIn_wide.2 ((M W1 (w.heap.size + 1) hB1).mono ?_)
    rintro e W2 ⟨⟨u, rfl⟩, S2, C2⟩
    have hl : W2.heap[w.heap.size + 1]? = some (.loop (recd fn a.tmps ps asn body w.heap.size .ready none)) := (C2.same _ (lt_of_block hL1) (by omega)).trans hL1
    have hk : W2.heap[w.heap.size]? = some (.deferred (some [])) := (C2.same _ (lt_of_block hK1) (by omega)).trans hK1
    have rr := Rec.put (B := w.heap.size) hl rfl (by omega) (.loop { recd fn a.tmps ps asn body w.heap.size .ready none with state := .exhausted })
    refine ⟨none, _, run_endLoop (P := Tryz.prog) hl (by simp [recd]), (h w.heap.size _ (Nat.le_refl _) ((World.putObj_heap_other (by omega)).trans hk) (sx_rcd S2 rr) (chg_rcd ((Chg.of (F := (· = g)) hB1).trans C2 (fun _ _ h => h)) rr (Nat.le_refl _))).out _ ⟨r.1, ?_, r.3⟩⟩
    show _ :: a.defers = _ :: ds
    rw [r.dfs]
    rfl⟩
end
end Sd
end Go.Proofs.YtpoifdokmjhclaaGreat
