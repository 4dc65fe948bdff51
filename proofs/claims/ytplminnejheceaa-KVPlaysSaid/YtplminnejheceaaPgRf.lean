/- A range over a function: what an iterator promises, and the statement's law, at the widest fence. -/
import Derived.Test.YtplminnejheceaaPgO
import Derived.RangeFuncNested
import Derived.RangeFuncBound
import Derived.RangeFuncCalls
import Derived.RangeFuncLeaves
namespace Go.Proofs.Ytplminnejheceaa
namespace Pg
open Go.RowKit Go.Lib

/-- records at or beyond B may turn; nothing else that is there -/
structure Rec (B : Nat) (W W' : World) : Prop where
  os : W'.os = W.os
  tape : W'.tape = W.tape
  output : W'.output = W.output
  size : W.heap.size ≤ W'.heap.size
  same : ∀ (k : Nat) (o : Obj), W.heap[k]? = some o → (k < B ∨ o.isCells = true) → W'.heap[k]? = some o
/-- it doesn't mind such a turn -/
def St (B : Nat) (I : World → Prop) : Prop := ∀ W W', I W → Rec B W W' → I W'
theorem Rec.of {B : Nat} {W W' : World} (h : Below W.heap.size W W') : Rec B W W' := ⟨h.os, h.tape, h.output, h.size, fun k _ hk _ => (h.block k (lt_of_block hk)).trans hk⟩
theorem Rec.put {B l : Nat} {W : World} {o : Obj} (h : W.heap[l]? = some o) (ho : o.isCells = false) (hB : B ≤ l) (o' : Obj) : Rec B W (W.putObj l o') :=
  ⟨rfl, rfl, rfl, by simp, fun k x hk hx => by
    have hne : k ≠ l := fun e => by
      subst e
      rw [h] at hk
      cases hk
      rcases hx with hx | hx
      · omega
      · rw [ho] at hx; cases hx
    exact (World.putObj_heap_other hne).trans hk⟩
theorem Rec.mono {B B' : Nat} {W W' : World} (h : Rec B W W') (hB : B' ≤ B) : Rec B' W W' := ⟨h.os, h.tape, h.output, h.size, fun k o hk ho => h.same k o hk (ho.imp (fun h => by omega) id)⟩
theorem Rec.trans {B : Nat} {W W' W'' : World} (h : Rec B W W') (h' : Rec B W' W'') : Rec B W W'' := ⟨h'.os.trans h.os, h'.tape.trans h.tape, h'.output.trans h.output, Nat.le_trans h.size h'.size, fun k o hk ho => h'.same k o (h.same k o hk ho) ho⟩
theorem St.mono {B B' : Nat} {I : World → Prop} (h : St B I) (hB : B ≤ B') : St B' I := fun W W' hi hr => h W W' hi (hr.mono hB)
theorem St.and {B : Nat} {I I' : World → Prop} (h : St B I) (h' : St B I') : St B fun W => I W ∧ I' W := fun W W' hi hr => ⟨h W W' hi.1 hr, h' W W' hi.2 hr⟩
theorem Rec.blk {B : Nat} {W W' : World} (h : Rec B W W') {g : Nat} {cs : List Value} {t : TypeId} (hb : Blk W g cs t) : Blk W' g cs t := ⟨h.same g _ hb.blk (.inr rfl)⟩
theorem below_put {W W' : World} {l : Nat} (hb : Below W.heap.size W W') (hl : l < W.heap.size) (o : Obj) : Below (W.putObj l o).heap.size (W.putObj l o) (W'.putObj l o) := by
  refine ⟨hb.os, hb.tape, hb.output, by simpa using hb.size, fun k hk => ?_⟩
  simp at hk
  by_cases e : k = l
  · subst e
    have := hb.size
    rw [World.putObj_heap_same (by omega), World.putObj_heap_same hl]
  · rw [World.putObj_heap_other e, World.putObj_heap_other e]; exact hb.block k hk
/-- cells stay -/
structure Cel (W W' : World) : Prop where
  size : W.heap.size ≤ W'.heap.size
  same : ∀ (k : Nat) (o : Obj), W.heap[k]? = some o → o.isCells = true → W'.heap[k]? = some o
theorem Rec.cel {B : Nat} {W W' : World} (h : Rec B W W') : Cel W W' := ⟨h.size, fun k o hk ho => h.same k o hk (.inr ho)⟩
/-- an object that is no list of cells of a type of Tp's -/
def Safe (Tp : TypeId → Prop) (o : Obj) : Prop := ∀ cs t fz, o = .cells cs t fz → ¬ Tp t
theorem safe_loop {Tp : TypeId → Prop} {r : Loop} : Safe Tp (.loop r) := fun _ _ _ e => by cases e
theorem safe_def {Tp : TypeId → Prop} {d : Option (List Deferred)} : Safe Tp (.deferred d) := fun _ _ _ e => by cases e
/-- at or beyond B what is safe stays -/
structure KeepsT (Tp : TypeId → Prop) (B : Nat) (W W' : World) : Prop where
  size : W.heap.size ≤ W'.heap.size
  same : ∀ (k : Nat) (o : Obj), B ≤ k → W.heap[k]? = some o → Safe Tp o → W'.heap[k]? = some o
theorem KeepsT.of {Tp : TypeId → Prop} {B : Nat} {W W' : World} (h : Below W.heap.size W W') : KeepsT Tp B W W' := ⟨h.size, fun k _ _ hk _ => (h.block k (lt_of_block hk)).trans hk⟩
theorem KeepsT.trans {Tp : TypeId → Prop} {B : Nat} {W W' W'' : World} (h : KeepsT Tp B W W') (h' : KeepsT Tp B W' W'') : KeepsT Tp B W W'' := ⟨Nat.le_trans h.size h'.size, fun k o hB hk ho => h'.same k o hB (h.same k o hB hk ho) ho⟩
theorem KeepsT.mono {Tp : TypeId → Prop} {B B' : Nat} {W W' : World} (h : KeepsT Tp B W W') (hB : B ≤ B') : KeepsT Tp B' W W' := ⟨h.size, fun k o hk h0 ho => h.same k o (Nat.le_trans hB hk) h0 ho⟩
theorem KeepsT.blk {Tp : TypeId → Prop} {B : Nat} {W W' : World} (h : KeepsT Tp B W W') {g : Nat} {cs : List Value} {t : TypeId} (hb : Blk W g cs t) (hg : B ≤ g) (ht : ¬ Tp t) : Blk W' g cs t := ⟨h.same g _ hg hb.blk (fun _ _ _ e => by cases e; exact ht)⟩
/-- what an iterator promises: N rounds at most, the i-th with arguments of which Ar tells; Rd: what it reads -/
def Itr (Tp : TypeId → Prop) (gf : Nat) (lb : Array Value) (N : Nat) (Ar : Nat → Array Value → Nat → World → Prop) (Rd : World → Prop) : Prop :=
  ∀ (l : Nat) (J Jx : Nat → World → Prop) (W : World), (∀ i, St W.heap.size (J i)) → (∀ i, St W.heap.size (Jx i)) → (∀ i V, J i V → Rd V) →
    (∀ i args V V', i < N → J i V → W.heap.size ≤ V.heap.size → Below V.heap.size V V' → Ar i args V.heap.size V' → YieldAt Fence.wide 0 Try.prog l args V' fun e V'' => KeepsT Tp W.heap.size V' V'' ∧ ((e = .returned (.bool true) ∧ J (i + 1) V'') ∨ (e = .returned (.bool false) ∧ Jx (i + 1) V''))) →
    J 0 W →
    Calls Try.prog gf (#[.func (.yield l) #[] #[]] ++ lb) W fun e W' => (∃ v, e = .returned v) ∧ W.heap.size ≤ W'.heap.size ∧ (J N W' ∨ ∃ i, i < N ∧ Jx (i + 1) W')
/-- how a round may be left -/
def bpost (Tp : TypeId → Prop) (B : Nat) (I : Nat → World → Prop) (Ix : Code → Nat → World → Prop) (i : Nat) (W : World) : Exit → Act → World → Prop
  | .normal, _, W' => KeepsT Tp B W W' ∧ I i W'
  | .ret, _, W' => KeepsT Tp B W W' ∧ Ix .ret i W'
  | .exit id, _, W' => KeepsT Tp B W W' ∧ Ix (.exit id) i W'
  | .goto t, _, W' => KeepsT Tp B W W' ∧ Ix (.goto t) i W'
  | .panic _, _, _ => False
  | .outgrown, _, _ => False
/-- a loop's record -/
def recd (fn : FuncId) (tmps : Array Value) (ps : Array Tmp) (assign body : Code) (dd : Nat) (st : LoopState) (pe : Option Code) : Loop := { state := st, pending := pe, fn, tmps, params := ps, assign, body, defers := dd }
/-- records at or beyond B stay, but that of loop l -/
structure KeepsBut (Tp : TypeId → Prop) (B l : Nat) (W W' : World) : Prop where
  size : W.heap.size ≤ W'.heap.size
  same : ∀ (k : Nat) (o : Obj), B ≤ k → k ≠ l → W.heap[k]? = some o → Safe Tp o → W'.heap[k]? = some o
theorem KeepsBut.from {Tp : TypeId → Prop} {B l B1 : Nat} {W W' : World} (h : KeepsBut Tp B l W W') (hB : B ≤ B1) (hl : l < B1) : KeepsT Tp B1 W W' := ⟨h.size, fun k o hk h0 ho => h.same k o (by omega) (by omega) h0 ho⟩
/-- one round, out of its walk -/
theorem yield_core {Tp : TypeId → Prop} {l B i : Nat} {fn : FuncId} {tmps : Array Value} {ps : Array Tmp} {assign body : Code} {dd : Nat} {args : Array Value} {V W : World} {n : Nat} {I : Nat → World → Prop} {Ix : Code → Nat → World → Prop} {Ar : Nat → Array Value → Nat → World → Prop}
    (hArS : ∀ i args n V W, Ar i args n V → Cel V W → Ar i args n W) (hI : ∀ i, St B (I i)) (hIx : ∀ c i, St B (Ix c i)) (hBl : B ≤ l)
    (hL : V.heap[l]? = some (.loop (recd fn tmps ps assign body dd .ready none))) (hi : I i V) (hb : Below V.heap.size V W) (ha : Ar i args V.heap.size W) (hps : args.size = ps.size)
    (hround : assign.wpIn (Fence.wide.inRound l) n Try.prog (Exit.then (fun a1 W1 => Below W.heap.size W W1 ∧ ∀ V2 W2, I i V2 → Below V2.heap.size V2 W2 → Ar i args V2.heap.size W2 → (∀ b, b ≠ l → W2.heap[b]? = W1.heap[b]?) → W2.heap.size = W1.heap.size → V2.heap.size = V.heap.size → (∃ r, W2.heap[l]? = some (.loop r)) → body.wpIn (Fence.wide.inRound l) n Try.prog (bpost Tp B I Ix (i + 1) W2) a1 W2) (fun _ _ _ => False)) { tmps := (ps.zip args).foldl (fun t (p, v) => t.setIfInBounds p v) tmps, defers := [] } W) :
    YieldAt Fence.wide 0 Try.prog l args W fun e W' => KeepsBut Tp B l W W' ∧ ((e = .returned (.bool true) ∧ I (i + 1) W' ∧ W'.heap[l]? = some (.loop (recd fn tmps ps assign body dd .ready none))) ∨ (e = .returned (.bool false) ∧ ∃ c, Ix c (i + 1) W' ∧ W'.heap[l]? = some (.loop (recd fn tmps ps assign body dd .done (some c))))) := by
  have hlV : l < V.heap.size := lt_of_block hL
  have hLW : W.heap[l]? = some (.loop (recd fn tmps ps assign body dd .ready none)) := (hb.block l hlV).trans hL
  have hy := run_yield (P := Try.prog) (args := args) hLW hps
  have hround' : assign.wpIn (Fence.wide.inRound l) n Try.prog (Exit.then (fun a₁ w₁ => ∃ w₂, (Instr.beginRound l).run Try.prog w₁ = .ok () w₂ ∧ body.wpIn (Fence.wide.inRound l) n Try.prog (roundPost Try.prog l fun e W' => KeepsBut Tp B l W W' ∧ ((e = .returned (.bool true) ∧ I (i + 1) W' ∧ W'.heap[l]? = some (.loop (recd fn tmps ps assign body dd .ready none))) ∨ (e = .returned (.bool false) ∧ ∃ c, Ix c (i + 1) W' ∧ W'.heap[l]? = some (.loop (recd fn tmps ps assign body dd .done (some c)))))) a₁ w₂) (fun _ _ _ => False)) { tmps := (ps.zip args).foldl (fun t (p, v) => t.setIfInBounds p v) tmps, defers := [] } W := by
    refine wpIn_mono hround ?_
    intro e a1 W1 h
    cases e with
    | normal =>
      obtain ⟨hB1, hbody⟩ := h
      have hL1 : W1.heap[l]? = some (.loop (recd fn tmps ps assign body dd .ready none)) := (hB1.block l (lt_of_block hLW)).trans hLW
      have hl1' : l < W1.heap.size := lt_of_block hL1
      refine ⟨_, run_beginRound hL1 rfl, ?_⟩
      have hBV : Below V.heap.size V W1 := joinB hb hB1
      have h1 := hbody (V.putObj l (.loop { recd fn tmps ps assign body dd .ready none with state := .busy })) (W1.putObj l (.loop { recd fn tmps ps assign body dd .ready none with state := .busy }))
        (hI i _ _ hi (Rec.put hL rfl hBl _)) (below_put hBV hlV _) (by simpa using hArS i args _ _ _ (hArS i args _ _ _ ha (Rec.of (B := 0) hB1).cel) (Rec.put hL1 rfl (Nat.zero_le _) _).cel)
        (fun b hb => World.putObj_heap_other hb) (by simp) (by simp) ⟨_, World.putObj_heap_same hl1'⟩
      have hLb : (W1.putObj l (.loop { recd fn tmps ps assign body dd .ready none with state := .busy })).heap[l]? = some (.loop { recd fn tmps ps assign body dd .ready none with state := .busy }) := World.putObj_heap_same hl1'
      generalize hW2 : W1.putObj l (.loop { recd fn tmps ps assign body dd .ready none with state := .busy }) = W2 at *
      have hkp : KeepsBut Tp B l W W2 := by
        rw [← hW2]
        refine ⟨by simpa using hB1.size, fun k _ hk hne h0 _ => ?_⟩
        rw [World.putObj_heap_other hne]
        exact (hB1.block k (lt_of_block h0)).trans h0
      have fin : ∀ (jump : Option Code) (W3 : World), KeepsT Tp B W2 W3 →
          (Instr.endRound l jump).run Try.prog W3 = .ok (.bool jump.isNone) (W3.putObj l (.loop (recd fn tmps ps assign body dd (if jump.isNone then .ready else .done) jump))) ∧ W3.heap[l]? = some (.loop { recd fn tmps ps assign body dd .ready none with state := .busy }) ∧
          (W3.putObj l (.loop (recd fn tmps ps assign body dd (if jump.isNone then .ready else .done) jump))).heap[l]? = some (.loop (recd fn tmps ps assign body dd (if jump.isNone then .ready else .done) jump)) ∧
          KeepsBut Tp B l W (W3.putObj l (.loop (recd fn tmps ps assign body dd (if jump.isNone then .ready else .done) jump))) := fun jump W3 hk3 => by
        have hl3 := hk3.same _ _ hBl hLb safe_loop
        refine ⟨run_endRound (P := Try.prog) jump hl3, hl3, World.putObj_heap_same (lt_of_block hl3), ⟨by simpa using Nat.le_trans hkp.size hk3.size, fun k o hk hne h0 ho => ?_⟩⟩
        rw [World.putObj_heap_other hne]
        exact hk3.same k o hk (hkp.same k o hk hne h0 ho) ho
      refine wpIn_mono h1 ?_
      intro e a3 W3 hp
      cases e with
      | normal =>
        obtain ⟨hk3, hi3⟩ := hp
        obtain ⟨hr, hl3, hl4, hk4⟩ := fin none W3 hk3
        exact ⟨_, _, hr, hk4, .inl ⟨rfl, hI _ _ _ hi3 (Rec.put hl3 rfl hBl _), hl4⟩⟩
      | ret =>
        obtain ⟨hk3, hi3⟩ := hp
        obtain ⟨hr, hl3, hl4, hk4⟩ := fin (some .ret) W3 hk3
        exact ⟨_, _, hr, hk4, .inr ⟨rfl, .ret, hIx _ _ _ _ hi3 (Rec.put hl3 rfl hBl _), hl4⟩⟩
      | exit id =>
        obtain ⟨hk3, hi3⟩ := hp
        obtain ⟨hr, hl3, hl4, hk4⟩ := fin (some (.exit id)) W3 hk3
        exact ⟨_, _, hr, hk4, .inr ⟨rfl, .exit id, hIx _ _ _ _ hi3 (Rec.put hl3 rfl hBl _), hl4⟩⟩
      | goto t =>
        obtain ⟨hk3, hi3⟩ := hp
        obtain ⟨hr, hl3, hl4, hk4⟩ := fin (some (.goto t)) W3 hk3
        exact ⟨_, _, hr, hk4, .inr ⟨rfl, .goto t, hIx _ _ _ _ hi3 (Rec.put hl3 rfl hBl _), hl4⟩⟩
      | panic ch => exact hp.elim
      | outgrown => exact hp.elim
    | ret => exact h.elim
    | exit id => exact h.elim
    | goto t => exact h.elim
    | panic ch => exact h.elim
    | outgrown => exact h.elim
  exact ⟨fn, _, assign, body, hy, by
    have := roundIn_of_wpIn (F := Fence.wide) (n := n) (P := Try.prog) (f := fn) trivial hround'
    exact ⟨this.1, fun c cs _ => this.2 c cs (fun _ h => by cases h)⟩⟩
/-- the walk of a round, as the laws ask for it -/
def RoundW (Tp : TypeId → Prop) (w : World) (N n : Nat) (ps : Array Tmp) (assign body : Code) (tmps : Array Value) (Ar : Nat → Array Value → Nat → World → Prop) (I : Nat → World → Prop) (Ix : Code → Nat → World → Prop) : Prop :=
  ∀ (l i : Nat) (args : Array Value) (V W : World), w.heap.size ≤ l → l < V.heap.size → (∃ r, V.heap[l]? = some (.loop r)) → i < N → I i V → Below V.heap.size V W → Ar i args V.heap.size W →
    assign.wpIn (Fence.wide.inRound l) n Try.prog (Exit.then (fun a1 W1 => Below W.heap.size W W1 ∧ ∀ V2 W2, I i V2 → Below V2.heap.size V2 W2 → Ar i args V2.heap.size W2 → (∀ b, b ≠ l → W2.heap[b]? = W1.heap[b]?) → W2.heap.size = W1.heap.size → V2.heap.size = V.heap.size → (∃ r, W2.heap[l]? = some (.loop r)) → body.wpIn (Fence.wide.inRound l) n Try.prog (bpost Tp w.heap.size I Ix (i + 1) W2) a1 W2) (fun _ _ _ => False)) { tmps := (ps.zip args).foldl (fun t (p, v) => t.setIfInBounds p v) tmps, defers := [] } W
/-- a range over a function -/
theorem rf_outer {Tp : TypeId → Prop} {gf N n : Nat} {lb : Array Value} {Ar : Nat → Array Value → Nat → World → Prop} {Rd : World → Prop} (IT : Itr Tp gf lb N Ar Rd) {g : Operand} {ps : Array Tmp} {assign body : Code} {Q : Exit → Act → World → Prop} {a : Act} {w : World}
    (hg : a.eval g = .func (.func gf) #[] lb) (eg : ∀ args w, (callFunc gf args).run Try.prog w = .ok (.enter gf args) w) (hArS : ∀ i args n V W, Ar i args n V → Cel V W → Ar i args n W) (hAn : ∀ i args n V, Ar i args n V → args.size = ps.size)
    (I : Nat → World → Prop) (Ix : Code → Nat → World → Prop) (hI : ∀ i, St w.heap.size (I i)) (hIx : ∀ c i, St w.heap.size (Ix c i)) (hRd : ∀ i V, I i V → Rd V) (h0 : I 0 w)
    (hround : RoundW Tp w N n ps assign body a.tmps Ar I Ix)
    (hdone : ∀ D W, w.heap.size ≤ D → W.heap[D]? = some (.deferred (some [])) → I N W → Q .normal { a with defers := { target := .collected D, args := #[] } :: a.defers } W)
    (hstop : ∀ D c i W, w.heap.size ≤ D → W.heap[D]? = some (.deferred (some [])) → i < N → Ix c (i + 1) W → c.wpIn Fence.wide n Try.prog Q { a with defers := { target := .collected D, args := #[] } :: a.defers } W) :
    (Code.rangeFunc g ps assign body).wpIn Fence.wide n Try.prog Q a w := by
  refine wpIn_rangeFunc ?_
  intro fn _
  obtain ⟨W1, hW1⟩ : ∃ W1, (w.alloc (.deferred (some []))).alloc (.loop (recd fn a.tmps ps assign body w.heap.size .ready none)) = W1 := ⟨_, rfl⟩
  have hB1 : Below w.heap.size w W1 := by rw [← hW1]; exact joinB (below_alloc w _) (below_alloc _ _)
  have hs1 : W1.heap.size = w.heap.size + 1 + 1 := by rw [← hW1]; simp
  have hL1 : W1.heap[w.heap.size + 1]? = some (.loop (recd fn a.tmps ps assign body w.heap.size .ready none)) := by
    rw [← hW1]; have := World.alloc_heap_new (w.alloc (.deferred (some []))) (.loop (recd fn a.tmps ps assign body w.heap.size .ready none)); rwa [World.size_alloc] at this
  have hK1 : W1.heap[w.heap.size]? = some (.deferred (some [])) := by
    rw [← hW1]; exact (Below.heap_alloc _ _ _ (by simp)).trans (World.alloc_heap_new w _)
  refine ⟨w.heap.size + 1, [{ target := .collected w.heap.size, args := #[] }], W1, { target := .fn (.func gf) lb, args := #[.func (.yield (w.heap.size + 1)) #[] #[]] }, W1, gf,
    #[.func (.yield (w.heap.size + 1)) #[] #[]] ++ lb, W1, ?_, ?_, ?_, ?_, fun h => (by cases h), ?_⟩
  · rw [← hW1]; exact run_enterLoop_outer _ _ _ _ _
  · simp only [resolve, hg]
    simp [go_sem]
  · intro f' _; trivial
  · simp [invoke, go_sem, eg]
  · refine callsIn_wide.2 ?_
    refine (IT (w.heap.size + 1)
      (fun i W => I i W ∧ W.heap[w.heap.size + 1]? = some (.loop (recd fn a.tmps ps assign body w.heap.size .ready none)) ∧ W.heap[w.heap.size]? = some (.deferred (some [])))
      (fun i W => ∃ c, Ix c i W ∧ W.heap[w.heap.size + 1]? = some (.loop (recd fn a.tmps ps assign body w.heap.size .done (some c))) ∧ W.heap[w.heap.size]? = some (.deferred (some [])))
      W1 (fun i X Y hx hr => ⟨hI i X Y hx.1 (hr.mono (by omega)), hr.same _ _ hx.2.1 (.inl (by omega)), hr.same _ _ hx.2.2 (.inl (by omega))⟩)
      (fun i X Y hx hr => by obtain ⟨c, h1, h2, h3⟩ := hx; exact ⟨c, hIx c i X Y h1 (hr.mono (by omega)), hr.same _ _ h2 (.inl (by omega)), hr.same _ _ h3 (.inl (by omega))⟩)
      (fun i V hv => hRd i V hv.1) ?_ ⟨hI 0 _ _ h0 (Rec.of hB1), hL1, hK1⟩).mono ?_
    · rintro i args V V' hiN ⟨hi, hl, hk⟩ hsz hb ha
      refine (yield_core (B := w.heap.size) hArS hI hIx (by omega) hl hi hb ha (hAn _ _ _ _ ha) (hround _ i args V V' (by omega) (lt_of_block hl) ⟨_, hl⟩ hiN hi hb ha)).mono ?_
      rintro e V'' ⟨hkp, h⟩
      have hk2 := hkp.same _ _ (Nat.le_refl _) (by omega) ((hb.block _ (lt_of_block hk)).trans hk) safe_def
      refine ⟨hkp.from (by omega) (by omega), h.imp (fun h => ⟨h.1, h.2.1, h.2.2, hk2⟩) (fun h => ?_)⟩
      obtain ⟨h1, c, h2, h3⟩ := h
      exact ⟨h1, c, h2, h3, hk2⟩
    · rintro e W2 ⟨⟨v, rfl⟩, hsz, ⟨hi, hl, hk⟩ | ⟨i, hiN, c, hi, hl, hk⟩⟩
      · exact ⟨none, _, run_endLoop (P := Try.prog) hl (by simp [recd]), hdone _ _ (Nat.le_refl _) ((World.putObj_heap_other (by omega)).trans hk) (hI _ _ _ hi (Rec.put hl rfl (by omega) _))⟩
      · exact ⟨some c, _, run_endLoop (P := Try.prog) hl (by simp [recd]), hstop _ c i _ (Nat.le_refl _) ((World.putObj_heap_other (by omega)).trans hk) hiN (hIx c _ _ _ hi (Rec.put hl rfl (by omega) _))⟩
/-- a range over a function in a round of another -/
theorem rf_inner {Tp : TypeId → Prop} {gf N n l0 : Nat} {r0 : Loop} {lb : Array Value} {Ar : Nat → Array Value → Nat → World → Prop} {Rd : World → Prop} (IT : Itr Tp gf lb N Ar Rd) {g : Operand} {ps : Array Tmp} {assign body : Code} {Q : Exit → Act → World → Prop} {a : Act} {w : World} (hl0 : w.heap[l0]? = some (.loop r0))
    (hg : a.eval g = .func (.func gf) #[] lb) (eg : ∀ args w, (callFunc gf args).run Try.prog w = .ok (.enter gf args) w) (hArS : ∀ i args n V W, Ar i args n V → Cel V W → Ar i args n W) (hAn : ∀ i args n V, Ar i args n V → args.size = ps.size)
    (I : Nat → World → Prop) (Ix : Code → Nat → World → Prop) (hI : ∀ i, St w.heap.size (I i)) (hIx : ∀ c i, St w.heap.size (Ix c i)) (hRd : ∀ i V, I i V → Rd V) (h0 : I 0 w)
    (hround : RoundW Tp w N n ps assign body a.tmps Ar I Ix)
    (hdone : ∀ W, I N W → Q .normal a W)
    (hstop : ∀ c i W, i < N → Ix c (i + 1) W → c.wpIn (Fence.wide.inRound l0) n Try.prog Q a W) :
    (Code.rangeFunc g ps assign body).wpIn (Fence.wide.inRound l0) n Try.prog Q a w := by
  refine wpIn_rangeFunc ?_
  intro fn _
  obtain ⟨W1, hW1⟩ : ∃ W1, w.alloc (.loop (recd fn a.tmps ps assign body r0.defers .ready none)) = W1 := ⟨_, rfl⟩
  have hB1 : Below w.heap.size w W1 := by rw [← hW1]; exact below_alloc w _
  have hs1 : W1.heap.size = w.heap.size + 1 := by rw [← hW1]; simp
  have hL1 : W1.heap[w.heap.size]? = some (.loop (recd fn a.tmps ps assign body r0.defers .ready none)) := by
    rw [← hW1]; exact World.alloc_heap_new w _
  refine ⟨w.heap.size, [], W1, { target := .fn (.func gf) lb, args := #[.func (.yield w.heap.size) #[] #[]] }, W1, gf,
    #[.func (.yield w.heap.size) #[] #[]] ++ lb, W1, ?_, ?_, ?_, ?_, fun h => (by cases h), ?_⟩
  · rw [← hW1]; exact run_enterLoop_inner hl0 _ _ _ _ _
  · simp only [resolve, hg]
    simp [go_sem]
  · intro f' _; trivial
  · simp [invoke, go_sem, eg]
  · refine CallsIn.inRound l0 (callsIn_wide.2 ?_)
    refine (IT w.heap.size
      (fun i W => I i W ∧ W.heap[w.heap.size]? = some (.loop (recd fn a.tmps ps assign body r0.defers .ready none)))
      (fun i W => ∃ c, Ix c i W ∧ W.heap[w.heap.size]? = some (.loop (recd fn a.tmps ps assign body r0.defers .done (some c))))
      W1 (fun i X Y hx hr => ⟨hI i X Y hx.1 (hr.mono (by omega)), hr.same _ _ hx.2 (.inl (by omega))⟩)
      (fun i X Y hx hr => by obtain ⟨c, h1, h2⟩ := hx; exact ⟨c, hIx c i X Y h1 (hr.mono (by omega)), hr.same _ _ h2 (.inl (by omega))⟩)
      (fun i V hv => hRd i V hv.1) ?_ ⟨hI 0 _ _ h0 (Rec.of hB1), hL1⟩).mono ?_
    · rintro i args V V' hiN ⟨hi, hl⟩ hsz hb ha
      refine (yield_core (B := w.heap.size) hArS hI hIx (by omega) hl hi hb ha (hAn _ _ _ _ ha) (hround _ i args V V' (by omega) (lt_of_block hl) ⟨_, hl⟩ hiN hi hb ha)).mono ?_
      rintro e V'' ⟨hkp, h⟩
      exact ⟨hkp.from (by omega) (by omega), h⟩
    · rintro e W2 ⟨⟨v, rfl⟩, hsz, ⟨hi, hl⟩ | ⟨i, hiN, c, hi, hl⟩⟩
      · exact ⟨none, _, run_endLoop (P := Try.prog) hl (by simp [recd]), hdone _ (hI _ _ _ hi (Rec.put hl rfl (by omega) _))⟩
      · exact ⟨some c, _, run_endLoop (P := Try.prog) hl (by simp [recd]), hstop c i _ hiN (hIx c _ _ _ hi (Rec.put hl rfl (by omega) _))⟩
end Pg
end Go.Proofs.Ytplminnejheceaa
