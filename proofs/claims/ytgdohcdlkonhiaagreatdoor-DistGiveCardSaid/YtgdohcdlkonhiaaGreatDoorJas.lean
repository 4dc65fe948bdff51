/- Several texts, joined: SdA. -/
import Derived.Test.YtgdohcdlkonhiaaGreatDoorJar
import Derived.Test.YtgdohcdlkonhiaaGreatDoorJak
namespace Go.Proofs.YtgdohcdlkonhiaaGreatDoor
namespace Sd
open Go.RowKit Go.Lib Pg Lim Gl Kv Bk Pw
/-- a function that gives nothing when it is ranged over: the store is asked once -/
def Mt (B : Nat) (K : Nat → Prop) (g : Nat) (E : Ents) (Wn : List Ents) (x N c : Nat) (w : World) (v : Value) : Prop :=
  ∃ gf lb, v = .func (.func gf) #[] lb ∧ (∀ args w, (callFunc gf args).run Tryz.prog w = .ok (.enter gf args) w) ∧ ∀ V l, Below w.heap.size w V → Calls Tryz.prog gf (#[.func (.yield l) #[] #[]] ++ lb) V fun e V' => (∃ u, e = .returned u) ∧ Sx B V' K g E Wn (x + c) N ∧ Chg (· = g) V V'
section
variable {B : Nat} {K : Nat → Prop} {g : Nat} {E : Ents} {Wn : List Ents} {x N c : Nat} {w w' : World} {v : Value}
theorem sx_rcd {C : Nat} (h : Sx B w K g E Wn x N) (r : Rec C w w') : Sx B w' K g E Wn x N := ⟨sa_rcd h.sa r, Nat.le_trans h.lo r.size, h.kb⟩
theorem sx_tick (h : Sx B w K g E Wn x N) : Sx B (tick g w x) K g E Wn (x + 1) N := ⟨h.sa.tick, by rw [tick_size]; exact h.lo, h.kb⟩
end
/-- what a range leaves behind for the function's end -/
def col (D : Nat) : Deferred := { target := .collected D, args := #[] }
structure Dfs (b : Nat) (Ds : List Nat) (w : World) : Prop where
  mem : ∀ D ∈ Ds, b ≤ D ∧ w.heap[D]? = some (.deferred (some []))
  nd : Ds.Nodup
section
variable {b : Nat} {Ds : List Nat} {w w' : World}
theorem Dfs.nil (b : Nat) (w : World) : Dfs b [] w := ⟨fun _ h => absurd h (by simp), List.nodup_nil⟩
theorem leaves_col {fn : Func} {tmps : Array Value} {R : Ending → World → Prop} : ∀ {Ds : List Nat} {w : World}, Dfs b Ds w → (∀ W, Rec b w W → LeavesInM Fence.wide 0 Tryz.prog fn tmps R [] .returning W) → LeavesInM Fence.wide 0 Tryz.prog fn tmps R (Ds.map col) .returning w
  | [], w, _, hR => hR w ⟨rfl, rfl, rfl, Nat.le_refl _, fun _ _ h _ => h⟩
  | D :: Ds, w, h, hR => by
    have hK := (h.mem D (List.mem_cons_self ..)).2
    have hb := (h.mem D (List.mem_cons_self ..)).1
    refine ⟨by simp, .inl ⟨_, _, rfl, run_takeDeferred hK, leaves_col (Ds := Ds) ⟨fun d hd => ⟨(h.mem d (List.mem_cons_of_mem _ hd)).1, ?_⟩, (List.nodup_cons.1 h.nd).2⟩ (fun W r => hR W ((Rec.put hK rfl hb _).trans r))⟩⟩
    rw [World.putObj_heap_other (fun e => (List.nodup_cons.1 h.nd).1 (by subst e; exact hd))]
    exact (h.mem d (List.mem_cons_of_mem _ hd)).2
end
def okS (Q : Exit → Act → World → Prop) : Exit → Act → World → Prop
  | .normal, a, w => Q .normal a w
  | .ret, a, w => Q .ret a w
  | _, _, _ => False
theorem weakS {c : Code} {a : Act} {w : World} {Q : Exit → Act → World → Prop} (h : c.wp Tryz.prog (okS Q) a w) : c.wp Tryz.prog Q a w :=
  Code.wp_mono (fun e a' w' h => by
    cases e <;> first
      | exact h
      | exact h.elim) h
section
variable {n : Nat} {l : Fr} {fn : Func} {R : Ending → World → Prop} {w : World} {b : Nat}
theorem ge_retD {v : Value} (Ds : List Nat) (h : Dfs b Ds w) (hr : ∀ W a, Rec b w W → Rd n (Ds.map col) l a → (results fn a.tmps).run Tryz.prog W = .ok v W) (hR : ∀ W, Rec b w W → R (.returned v) W) : GE n (Ds.map col) (okS (bodyPostM Fence.wide 0 Tryz.prog fn R)) .ret l w := ⟨fun a r => by
  have hr' := fun W q => hr W a q r
  obtain ⟨tmps, dfs⟩ := a
  have e : dfs = Ds.map col := r.dfs
  subst e
  show LeavesInM Fence.wide 0 Tryz.prog fn tmps R (Ds.map col) .returning w
  exact leaves_col h (fun W q => ⟨_, hr' W q, hR W q⟩)⟩
theorem ge_endD (Ds : List Nat) (h : Dfs b Ds w) (hr : fn.results = #[]) (hR : ∀ W, Rec b w W → R (.returned (.tuple #[])) W) : GE n (Ds.map col) (okS (bodyPostM Fence.wide 0 Tryz.prog fn R)) .normal l w := ⟨fun a r => by
  obtain ⟨tmps, dfs⟩ := a
  have e : dfs = Ds.map col := r.dfs
  subst e
  show LeavesInM Fence.wide 0 Tryz.prog fn tmps R (Ds.map col) .returning w
  exact leaves_col h (fun W q => ⟨_, by simp [results, hr], hR W q⟩)⟩
theorem rsM {ds : List Deferred} (k : Nat) {v : Value} (h : fn.results = #[.tmp k]) (hv : lk l k = some v) (W : World) (a : Act) (_ : Rec b w W) (r : Rd n ds l a) : (results fn a.tmps).run Tryz.prog W = .ok v W := by
  have h1 := r.gD hv
  simp at h1
  simp [results, h, h1]
theorem gc_enterM {f : FuncId} {c : Code} {vs : List Value} (hf : Tryz.prog.funcs[f]? = some fn) (hb : fn.body = some c) (hn : fn.ntmps = n) (hs : Nat.ble vs.length n = true) (h : GC Tryz.prog n [] c (okS (bodyPostM Fence.wide 0 Tryz.prog fn R)) (en 0 vs) w) : Calls Tryz.prog f vs.toArray w R := by
  refine (callsIn_wide (n := 0)).1 (callsIn_of_wp_marks hf hb trivial ?_ rfl)
  refine wpIn_wide.2 (weakS (h.out _ ?_))
  subst hn
  have hs := Nat.le_of_ble_eq_true hs
  refine ⟨?_, rfl, fun k v hk => ?_⟩
  · simp
    omega
  · obtain ⟨_, h2⟩ := lk_en vs 0 k v hk
    rw [Nat.sub_zero] at h2
    have hlt := (List.getElem?_eq_some_iff.1 h2).1
    simp only
    rw [Array.getElem?_append_left (by simpa using hlt)]
    simpa using h2
end
section
variable {n : Nat} {ds : List Deferred} {l : Fr} {Q : Exit → Act → World → Prop} {w : World} {B : Nat} {K : Nat → Prop} {g : Nat} {E : Ents} {Wn : List Ents} {x N c : Nat} {v : Value}
/-- a range that has no round -/
theorem gc_mt {t : Nat} {ps : Array Tmp} {asn body : Code} (M : Mt B K g E Wn x N c w v) (hg : g < w.heap.size) (h : ∀ D w', w.heap.size ≤ D → w'.heap[D]? = some (.deferred (some [])) → Sx B w' K g E Wn (x + c) N → Chg (· = g) w w' → GE n (col D :: ds) Q .normal l w') (hv : lk l t = some v := by kernel_rfl) : GC Tryz.prog n ds (Code.rangeFunc (.tmp t) ps asn body) Q l w := ⟨fun a r => by
  obtain ⟨gf, lb, rfl, eg, M⟩ := M
  have ev : a.eval (.tmp t) = .func (.func gf) #[] lb := by
    have h1 := r.gD hv
    simp at h1
    simp [Act.eval, h1]
  refine wpIn_wide.1 (wpIn_rangeFunc (F := Fence.wide) (n := 0) ?_)
  intro fn _
  obtain ⟨W1, hW1⟩ : ∃ W1, (w.alloc (.deferred (some []))).alloc (.loop (recd fn a.tmps ps asn body w.heap.size .ready none)) = W1 := ⟨_, rfl⟩
  have hB1 : Below w.heap.size w W1 := by rw [← hW1]; exact joinB (below_alloc w _) (below_alloc _ _)
  have hL1 : W1.heap[w.heap.size + 1]? = some (.loop (recd fn a.tmps ps asn body w.heap.size .ready none)) := by
    rw [← hW1]; have := World.alloc_heap_new (w.alloc (.deferred (some []))) (.loop (recd fn a.tmps ps asn body w.heap.size .ready none)); rwa [World.size_alloc] at this
  have hK1 : W1.heap[w.heap.size]? = some (.deferred (some [])) := by
    rw [← hW1]; exact (Below.heap_alloc _ _ _ (by simp)).trans (World.alloc_heap_new w _)
  refine ⟨w.heap.size + 1, [{ target := .collected w.heap.size, args := #[] }], W1, { target := .fn (.func gf) lb, args := #[.func (.yield (w.heap.size + 1)) #[] #[]] }, W1, gf,
    #[.func (.yield (w.heap.size + 1)) #[] #[]] ++ lb, W1, ?_, ?_, ?_, ?_, fun h => (by cases h), ?_⟩
  · rw [← hW1]; exact run_enterLoop_outer _ _ _ _ _
  · simp only [resolve, ev]
    simp [go_sem]
  · intro f' _; trivial
  · simp [invoke, go_sem, eg]
  · refine callsIn_wide.2 ((M W1 (w.heap.size + 1) hB1).mono ?_)
    rintro e W2 ⟨⟨u, rfl⟩, S2, C2⟩
    have hl : W2.heap[w.heap.size + 1]? = some (.loop (recd fn a.tmps ps asn body w.heap.size .ready none)) := (C2.same _ (lt_of_block hL1) (by omega)).trans hL1
    have hk : W2.heap[w.heap.size]? = some (.deferred (some [])) := (C2.same _ (lt_of_block hK1) (by omega)).trans hK1
    have rr := Rec.put (B := w.heap.size) hl rfl (by omega) (.loop { recd fn a.tmps ps asn body w.heap.size .ready none with state := .exhausted })
    refine ⟨none, _, run_endLoop (P := Tryz.prog) hl (by simp [recd]), (h w.heap.size _ (Nat.le_refl _) ((World.putObj_heap_other (by omega)).trans hk) (sx_rcd S2 rr) (chg_rcd ((Chg.of (F := (· = g)) hB1).trans C2 (fun _ _ h => h)) rr (Nat.le_refl _))).out _ ⟨r.1, ?_, r.3⟩⟩
    show _ :: a.defers = _ :: ds
    rw [r.dfs]
    rfl⟩
end
end Sd
end Go.Proofs.YtgdohcdlkonhiaaGreatDoor
