/- Several texts, joined: PgU, PgZ, PgV, PgW, PgWe, PgG, PgH, PgJ, PgK. -/
import Derived.Test.YtjnjkgakdnjlmaaJaa
import Derived.Deep.RegionHeld3
import Derived.Deep.RegionWith
namespace Go.Proofs.Ytjnjkgakdnjlmaa
namespace Pg
open Go.RowKit Go.Lib

theorem MapA.opn {w : World} {F D : Nat → Prop} {g : Nat} {L : List Pg} (A : MapA w F D g L) (h : L ≠ []) : ∃ G C, Blk w g [.slice (some ⟨G, 0, none⟩) L.length C] 61 ∧ F g ∧ F G ∧ Rw w 66 1 G L.length C (L.map Pg.v) := by
  obtain ⟨pv, hb, hg, ⟨rfl, rfl⟩ | ⟨G, C, rfl, hG, hR⟩⟩ := A.top
  · exact absurd rfl h
  · exact ⟨G, C, hb, hg, hG, hR⟩
theorem blk_ne {w : World} {a b : Nat} {cs ds : List Value} {t u : TypeId} (h : Blk w a cs t) (h' : Blk w b ds u) (ht : t ≠ u) : a ≠ b := fun e => by subst e; exact ht (h.eq h').2
theorem PgA.ne_map {w : World} {D : Nat → Prop} {p : Pg} (h : PgA w D p) {g : Nat} {cs : List Value} (hg : Blk w g cs 61) : p.b ≠ g := by
  obtain ⟨ds, k⟩ := h.row.kind
  exact blk_ne k hg (by decide)
theorem PgA.ne_row {w : World} {D : Nat → Prop} {p : Pg} (h : PgA w D p) {G n c : Nat} {xs : List Value} (hG : Rw w 66 1 G n c xs) : p.b ≠ G := by
  obtain ⟨ds, k⟩ := h.row.kind
  obtain ⟨es, k'⟩ := hG.kind
  exact blk_ne k k' (by decide)
theorem Rw.ne_map {w : World} {G n c : Nat} {xs : List Value} (hG : Rw w 66 1 G n c xs) {g : Nat} {cs : List Value} (hg : Blk w g cs 61) : G ≠ g := by
  obtain ⟨es, k'⟩ := hG.kind
  exact blk_ne k' hg (by decide)
theorem nodup_lt {L : List Pg} (h : (L.map Pg.b).Nodup) {i j : Nat} {p q : Pg} (hi : L[i]? = some p) (hj : L[j]? = some q) (hij : i < j) : p.b ≠ q.b := by
  obtain ⟨l1, e1⟩ := List.getElem?_eq_some_iff.1 hi
  obtain ⟨l2, e2⟩ := List.getElem?_eq_some_iff.1 hj
  have := List.pairwise_iff_getElem.1 h i j (by simpa using l1) (by simpa using l2) hij
  simpa [e1, e2] using this
theorem nodup_ne {L : List Pg} (h : (L.map Pg.b).Nodup) {i j : Nat} {p q : Pg} (hi : L[i]? = some p) (hj : L[j]? = some q) (hij : i ≠ j) : p.b ≠ q.b := by
  rcases Nat.lt_or_gt_of_ne hij with k | k
  · exact nodup_lt h hi hj k
  · exact (nodup_lt h hj hi k).symm
theorem nodup_of {L : List Pg} (h : ∀ (i j : Nat) (p q : Pg), L[i]? = some p → L[j]? = some q → i < j → p.b ≠ q.b) : (L.map Pg.b).Nodup := by
  refine List.pairwise_iff_getElem.2 fun i j h1 h2 hij => ?_
  have l1 : i < L.length := by simpa using h1
  have l2 : j < L.length := by simpa using h2
  simpa using h i j _ _ (List.getElem?_eq_getElem l1) (List.getElem?_eq_getElem l2) hij
/-- bytes stay where no list of bytes is changed -/
theorem EnA.off {w w' : World} {D : Nat → Prop} {e : En} (h : EnA w D e) (h2 : ∀ b, b < w.heap.size → (∃ cs, Blk w b cs 5) → w'.heap[b]? = w.heap[b]?) : EnA w' D e := by
  have hob : ∀ {v : Value} {l : List Int}, OB w D v l → OB w' D v l := fun h => ⟨h.oct, h.ex.imp id (by
    rintro ⟨b, c, e, hd, hR⟩
    exact ⟨b, c, e, hd, hR.same (h2 b hR.lt hR.kind)⟩)⟩
  exact ⟨hob h.k, hob h.v⟩
/-- a page put anew -/
theorem MapA.put {w w1 : World} {F D D' : Nat → Prop} {g G C i : Nat} {L : List Pg} {p p' : Pg} (A : MapA w F D g L) (hg : Blk w g [.slice (some ⟨G, 0, none⟩) L.length C] 61) (hFg : F g) (hFG : F G) (hR : Rw w 66 1 G L.length C (L.map Pg.v))
    (hi : L[i]? = some p) (hC : Chg (· = p.b) w w1) (hb : p'.b = p.b ∨ w.heap.size ≤ p'.b) (hA : PgA w1 D' p') (hD : ∀ b, b < w.heap.size → D b → D' b) :
    MapA (w1.setCell ⟨G, i, none⟩ p'.v) (fun x => (F x ∧ x ≠ p.b) ∨ x = p'.b) D' g (L.set i p') ∧ Chg F w (w1.setCell ⟨G, i, none⟩ p'.v) := by
  have hil := (List.getElem?_eq_some_iff.1 hi).1
  have hp := A.pages p (List.mem_of_getElem? hi)
  have n1 := hp.1.ne_map hg
  have n2 := hp.1.ne_row hR
  have n3 := hR.ne_map hg
  have hg1 : Blk w1 g _ _ := hg.chg hC (fun e => n1 e.symm)
  have hR1 := hR.chg hC (fun e => n2 e.symm)
  have hR2 := hR1.set i (by simpa using hil) p'.v
  have n4 : p'.b ≠ G := hA.ne_row hR1
  have hC2 : Chg F w (w1.setCell ⟨G, i, none⟩ p'.v) := (hC.mono (F' := F) (fun b _ e => by subst e; exact hp.2)).cell (.inl hFG) _
  have hu8 : ∀ b, b < w.heap.size → (∃ cs, Blk w b cs 5) → (w1.setCell ⟨G, i, none⟩ p'.v).heap[b]? = w.heap[b]? := fun b hb hk => by
    obtain ⟨cs, k⟩ := hk
    exact hC2.same b hb fun f => A.noU f cs k
  have hset : ∀ b, b ≠ G → (w1.setCell ⟨G, i, none⟩ p'.v).heap[b]? = w1.heap[b]? := fun b hb => Below.heap_setCell w1 _ _ b hb
  refine ⟨⟨⟨_, hg1.off (fun e => n3 e.symm) _, .inl ⟨hFg, fun e => n1 e.symm⟩, .inr ⟨G, C, ?_, .inl ⟨hFG, fun e => n2 e.symm⟩, ?_⟩⟩, fun q hq => ?_, nodup_of fun x y a b hx hy hxy => ?_, fun b hb => ?_⟩, hC2⟩
  · rw [List.length_set]
  · rw [List.length_set]
    refine hR2.to ?_
    rw [List.map_set]
  · obtain ⟨j, hj⟩ := List.getElem?_of_mem hq
    rw [List.getElem?_set] at hj
    by_cases e : i = j
    · subst e
      rw [if_pos rfl, if_pos hil] at hj
      cases hj
      refine ⟨⟨hA.row.same (hset _ n4), fun e he => (hA.ents e he).off fun b _ hk => ?_⟩, .inr rfl⟩
      obtain ⟨cs, k⟩ := hk
      obtain ⟨ds, k'⟩ := hR1.kind
      exact hset b (blk_ne k k' (by decide))
    · rw [if_neg e] at hj
      have hqm := A.pages q (List.mem_of_getElem? hj)
      have hne : q.b ≠ p.b := fun e' => nodup_ne A.apart hi hj e e'.symm
      exact ⟨⟨(hqm.1.row.chg hC hne).same (hset _ (hqm.1.ne_row hR)), fun e he => ((hqm.1.ents e he).mono hD).off hu8⟩, .inl ⟨hqm.2, hne⟩⟩
  · have key : ∀ (y : Nat) (b : Pg), y ≠ i → L[y]? = some b → p'.b ≠ b.b := fun y b hy hb' => by
      rcases hb with e | e
      · rw [e]; exact nodup_ne A.apart hi hb' (fun e' => hy e'.symm)
      · have := (A.pages b (List.mem_of_getElem? hb')).1.row.lt
        omega
    rw [List.getElem?_set] at hx hy
    by_cases e : i = x
    · subst e
      rw [if_pos rfl, if_pos hil] at hx
      cases hx
      rw [if_neg (by omega)] at hy
      exact key y b (by omega) hy
    · rw [if_neg e] at hx
      by_cases e' : i = y
      · subst e'
        rw [if_pos rfl, if_pos hil] at hy
        cases hy
        exact (key x a (by omega) hx).symm
      · rw [if_neg e'] at hy
        exact nodup_lt A.apart hx hy hxy
  · by_cases e : b = p'.b
    · subst e
      obtain ⟨cs, k⟩ := hA.row.kind
      exact ⟨cs, _, k.same (hset _ n4), by decide⟩
    · obtain ⟨hF, e2⟩ := hb.resolve_right e
      obtain ⟨cs, t, k, ht⟩ := A.kind b hF
      by_cases e1 : b = G
      · subst e1
        obtain ⟨ds, k'⟩ := hR2.kind
        exact ⟨ds, _, k', by decide⟩
      · exact ⟨cs, t, (k.chg hC e2).same (hset b e1), ht⟩
/-- the list of pages put anew -/
theorem mapA_swap {w w1 : World} {F D : Nat → Prop} {g G G' C' n : Nat} {c0 : Value} {L' : List Pg} (hP : ∀ p ∈ L', PgA w D p ∧ F p.b) (hap : (L'.map Pg.b).Nodup) (hk : ∀ b, F b → ∃ cs t, Blk w b cs t ∧ t ≠ 5) (hg : Blk w g [c0] 61) (hFg : F g) (hFG : F G) (hgG : G ≠ g) (hC : Chg (· = G) w w1) (hnG : ∀ p ∈ L', p.b ≠ G) (hn : L'.length = n)
    (hR : Rw w1 66 1 G' n C' (L'.map Pg.v)) :
    MapA (w1.setCell ⟨g, 0, none⟩ (.slice (some ⟨G', 0, none⟩) n C')) (fun x => (F x ∧ x ≠ G) ∨ x = G') D g L' ∧ Chg F w (w1.setCell ⟨g, 0, none⟩ (.slice (some ⟨G', 0, none⟩) n C')) := by
  subst hn
  have hg1 : Blk w1 g [c0] 61 := hg.chg hC (fun e => hgG e.symm)
  have hg2 := hg1.setCell (i := 0) (.slice (some ⟨G', 0, none⟩) L'.length C')
  have hne : G' ≠ g := hR.ne_map hg1
  have hset : ∀ b, b ≠ g → (w1.setCell ⟨g, 0, none⟩ (.slice (some ⟨G', 0, none⟩) L'.length C')).heap[b]? = w1.heap[b]? := fun b hb => Below.heap_setCell w1 _ _ b hb
  have hC2 : Chg F w (w1.setCell ⟨g, 0, none⟩ (.slice (some ⟨G', 0, none⟩) L'.length C')) := (hC.mono (F' := F) (fun b _ e => by subst e; exact hFG)).cell (.inl hFg) _
  have hu8 : ∀ b, b < w.heap.size → (∃ cs, Blk w b cs 5) → (w1.setCell ⟨g, 0, none⟩ (.slice (some ⟨G', 0, none⟩) L'.length C')).heap[b]? = w.heap[b]? := fun b hb hkk => by
    obtain ⟨cs, k⟩ := hkk
    exact hC2.same b hb fun f => by
      obtain ⟨cs', t, hk', ht⟩ := hk b f
      exact ht (hk'.eq k).2
  refine ⟨⟨⟨_, hg2, .inl ⟨hFg, fun e => hgG e.symm⟩, .inr ⟨G', C', rfl, .inr rfl, hR.same (hset _ hne)⟩⟩, fun q hq => ?_, hap, fun b hb => ?_⟩, hC2⟩
  · have hqm := hP q hq
    exact ⟨⟨(hqm.1.row.chg hC (hnG q hq)).same (hset _ (hqm.1.ne_map hg)), fun e he => (hqm.1.ents e he).off hu8⟩, .inl ⟨hqm.2, hnG q hq⟩⟩
  · by_cases e : b = G'
    · subst e
      obtain ⟨ds, k⟩ := hR.kind
      exact ⟨ds, _, k.same (hset _ hne), by decide⟩
    · obtain ⟨hF, e2⟩ := hb.resolve_right e
      obtain ⟨ds, t, k, ht⟩ := hk b hF
      by_cases e1 : b = g
      · subst e1
        exact ⟨_, _, hg2, by decide⟩
      · exact ⟨ds, t, (k.chg hC e2).same (hset b e1), ht⟩
theorem pv_one (L : List Pg) : ∀ v ∈ L.map Pg.v, v.oneCell' = true := fun v hv => by
  obtain ⟨p, _, rfl⟩ := List.mem_map.1 hv
  rfl
/-- all ways of a region to one end -/
theorem region_mid {P : Program} {X : Type} {id : Nat} {ops : Array Oper} {dr : Bool} {K : Act → World → Prop} {Q' : Exit → Act → World → Prop} {a : Act} {w : World} (F : X → Act → World → Prop)
    (h1 : (Code.region id ops dr).wp P (Exit.then (fun a' w' => ∃ x, F x a' w') (fun _ _ _ => False)) a w) (h2 : ∀ x a' w', F x a' w' → K a' w') : (Code.region id ops dr).wp P (Exit.then K Q') a w :=
  Code.wp_mono (fun e a' w' h => by
    cases e <;> first
      | (obtain ⟨x, hF⟩ := h; exact h2 x a' w' hF)
      | exact h.elim) h1
end Pg
end Go.Proofs.Ytjnjkgakdnjlmaa

namespace Go.Proofs.Ytjnjkgakdnjlmaa
namespace Pg
open Go.RowKit Go.Lib
section
variable {ops : Array Oper} {Q : Exit → Act → World → Prop} {S : World → Prop} {fuel : Nat} {listed : Array Bool} {a : Act} {w : World}

/-- operation i may be taken first, is wanted, and writes d -/
def rgChk (ops : Array Oper) (listed : Array Bool) (a : Act) (i : Nat) (d : Option Tmp) : Bool :=
  Region.noSelect ops && Region.free .any ops listed i && (Region.ready .any ops listed).contains i && decide (i < ops.size) && Region.wanted (ops.getD i default) (yielded ops a.tmps) && decide ((ops.getD i default).dst = d)
/-- operation i may be taken first, is passed over by its guard, and would write d -/
def rgNot (ops : Array Oper) (listed : Array Bool) (a : Act) (i : Nat) (d : Option Tmp) : Bool :=
  Region.noSelect ops && Region.free .any ops listed i && (Region.ready .any ops listed).contains i && decide (i < ops.size) && !Region.wanted (ops.getD i default) (yielded ops a.tmps) && decide ((ops.getD i default).dst = d)
/-- operation i alone may come up, is wanted, and writes d -/
def rgLone (ops : Array Oper) (listed : Array Bool) (a : Act) (i : Nat) (d : Option Tmp) : Bool :=
  decide (Region.ready .any ops listed = [i]) && decide (i < ops.size) && Region.wanted (ops.getD i default) (yielded ops a.tmps) && decide ((ops.getD i default).dst = d)
theorem at_getD {i : Nat} (h : i < ops.size) : ops[i]? = some (ops.getD i default) := by
  simp [Array.getD, h]
theorem rg_take (i : Nat) (d : Option Tmp) (v : Value) (hc : rgChk ops listed a i d = true) (hy : ∀ w', S w' → (execOp a.eval (ops.getD i default)).run Try.prog w' = .ok (.value v) w')
    (hQ : ∀ c a w, Q (.panic c) (a.put d v) w → Q (.panic c) a w) (hS : S w)
    (h : wpAnyH Try.prog .any ops Q S fuel (listed.setIfInBounds i true) (a.put d v) w) : wpAnyH Try.prog .any ops Q S (fuel + 1) listed a w := by
  simp only [rgChk, Bool.and_eq_true, decide_eq_true_eq] at hc
  obtain ⟨⟨⟨⟨⟨h1, h2⟩, h3⟩, h4⟩, h5⟩, h6⟩ := hc
  subst h6
  exact wpAnyH_take (at_getD h4) h1 h2 h3 hQ (.inl ⟨h5, hy⟩) hS h
theorem rg_eq (i : Nat) (d : Option Tmp) (v v' : Value) (hv : v = v') (hc : rgChk ops listed a i d = true) (hy : ∀ w', S w' → (execOp a.eval (ops.getD i default)).run Try.prog w' = .ok (.value v) w')
    (hQ : ∀ c a w, Q (.panic c) (a.put d v') w → Q (.panic c) a w) (hS : S w)
    (h : wpAnyH Try.prog .any ops Q S fuel (listed.setIfInBounds i true) (a.put d v') w) : wpAnyH Try.prog .any ops Q S (fuel + 1) listed a w := by
  subst hv
  exact rg_take i d v hc hy hQ hS h
theorem rg_skip (i : Nat) (d : Option Tmp) (hc : rgNot ops listed a i d = true) (hQ : ∀ c a w, Q (.panic c) (a.put d undef) w → Q (.panic c) a w) (hS : S w)
    (h : wpAnyH Try.prog .any ops Q S fuel (listed.setIfInBounds i true) (a.put d undef) w) : wpAnyH Try.prog .any ops Q S (fuel + 1) listed a w := by
  simp only [rgNot, Bool.and_eq_true, decide_eq_true_eq, Bool.not_eq_true'] at hc
  obtain ⟨⟨⟨⟨⟨h1, h2⟩, h3⟩, h4⟩, h5⟩, h6⟩ := hc
  subst h6
  exact wpAnyH_take (at_getD h4) h1 h2 h3 hQ (.inr ⟨h5, rfl⟩) hS h
theorem rg_load (i : Nat) (d : Option Tmp) (v : Value) (T : TypeId) (k g o : Nat) (hc : rgChk ops listed a i d = true) (ho : (ops.getD i default).op = .load T (.tmp k)) (hp : a.eval (.tmp k) = .pointer (some ⟨g, o, none⟩))
    (hl : ∀ w', S w' → (loadVar T ⟨g, o, none⟩).run Try.prog w' = .ok v w')
    (hQ : ∀ c a w, Q (.panic c) (a.put d v) w → Q (.panic c) a w) (hS : S w)
    (h : wpAnyH Try.prog .any ops Q S fuel (listed.setIfInBounds i true) (a.put d v) w) : wpAnyH Try.prog .any ops Q S (fuel + 1) listed a w :=
  rg_take i d v hc (fun w' hS' => by
    have := hl w' hS'
    simp only [execOp, ho, hp]
    simp [Instr.loadAt, Instr.sureAddr, Result.andThen, this]) hQ hS h
theorem rg_call (i : Nat) (d : Option Tmp) (f : FuncId) (args : Array Value) {Qc : Ending → World → Prop} (hc : rgLone ops listed a i d = true) (hrun : (execOp a.eval (ops.getD i default)).run Try.prog w = .ok (.enter f args) w)
    (hcall : Calls Try.prog f args w Qc) (hk : ∀ e w', Qc e w' → ∃ v, e = .returned v ∧ S w' ∧ wpAnyH Try.prog .any ops Q S fuel (listed.setIfInBounds i true) (a.put d v) w') :
    wpAnyH Try.prog .any ops Q S (fuel + 1) listed a w := by
  simp only [rgLone, Bool.and_eq_true, decide_eq_true_eq] at hc
  obtain ⟨⟨⟨h3, h4⟩, h5⟩, h6⟩ := hc
  subst h6
  refine wpAnyH_all h3 (by simp) fun j hj => ?_
  obtain rfl : j = i := by simpa using hj
  refine wpOp_step (at_getD h4) fun K hK => ?_
  rw [if_pos h5]
  unfold Oper.wp
  rw [hrun]
  refine hcall.mono fun e w' he => ?_
  obtain ⟨v, rfl, hS', hw⟩ := hk e w' he
  exact hK _ _ ⟨hS', hw⟩
theorem rg_done (hr : Region.ready .any ops listed = []) (h : Q .normal a w) : wpAnyH Try.prog .any ops Q S fuel listed a w := wpAnyH_done hr h fuel
theorem rg_start {id : Nat} (hm : Try.prog.follows .mixedOrders = true) (hS : S w.drew) (h : wpAnyH Try.prog .any ops Q S ops.size (Array.replicate ops.size false) a w.drew) : (Code.region id ops true).wp Try.prog Q a w :=
  wp_region_held_drew hm hS fun _ => h
end
/-- the frame with these slots put -/
def putAll (a : Act) : List (Option Tmp × Value) → Act
  | [] => a
  | p :: l => putAll (a.put p.1 p.2) l
section
variable {ops : Array Oper} {Q : Exit → Act → World → Prop} {S : World → Prop} {fuel : Nat} {listed : Array Bool} {a : Act} {w : World}
theorem rg_mid {X : Type} {id : Nat} {K : Act → World → Prop} {Q' : Exit → Act → World → Prop} (upd : X → List (Option Tmp × Value)) (F : X → World → Prop) (S : World → Prop) (hm : Try.prog.follows .mixedOrders = true) (hS : S w.drew)
    (h1 : wpAnyH Try.prog .any ops (Exit.then (fun a' w' => ∃ x, a' = putAll a (upd x) ∧ F x w') (fun _ _ _ => False)) S ops.size (Array.replicate ops.size false) a w.drew)
    (h2 : ∀ x w', F x w' → K (putAll a (upd x)) w') : (Code.region id ops true).wp Try.prog (Exit.then K Q') a w :=
  Code.wp_mono (fun e a' w' h => by
    cases e <;> first
      | (obtain ⟨x, rfl, hF⟩ := h; exact h2 x w' hF)
      | exact h.elim) (wp_region_held_drew (S := S) hm hS fun _ => h1)
def rgWant (ops : Array Oper) (a : Act) (i : Nat) (d : Option Tmp) : Bool :=
  decide (i < ops.size) && Region.wanted (ops.getD i default) (yielded ops a.tmps) && decide ((ops.getD i default).dst = d)
theorem rg_ready (rs : List Nat) (hr : Region.ready .any ops listed = rs) (hne : rs ≠ []) (h : AllReadyH Try.prog .any ops Q S fuel listed a w rs) : wpAnyH Try.prog .any ops Q S (fuel + 1) listed a w := wpAnyH_ready hr hne h
theorem ar_nil : AllReadyH Try.prog .any ops Q S fuel listed a w [] := AllReadyH.nil
theorem ar_call {rs : List Nat} (i : Nat) (d : Option Tmp) (f : FuncId) (args : Array Value) {Qc : Ending → World → Prop} (hc : rgWant ops a i d = true) (hrun : (execOp a.eval (ops.getD i default)).run Try.prog w = .ok (.enter f args) w)
    (hcall : Calls Try.prog f args w Qc) (hk : ∀ e w', Qc e w' → ∃ v, e = .returned v ∧ S w' ∧ wpAnyH Try.prog .any ops Q S fuel (listed.setIfInBounds i true) (a.put d v) w')
    (hs : AllReadyH Try.prog .any ops Q S fuel listed a w rs) : AllReadyH Try.prog .any ops Q S fuel listed a w (i :: rs) := by
  simp only [rgWant, Bool.and_eq_true, decide_eq_true_eq] at hc
  obtain ⟨⟨h4, h5⟩, h6⟩ := hc
  subst h6
  refine AllReadyH.cons (at_getD h4) (fun K hK => ?_) hs
  rw [if_pos h5]
  unfold Oper.wp
  rw [hrun]
  refine hcall.mono fun e w' he => ?_
  obtain ⟨v, rfl, hS', hw⟩ := hk e w' he
  exact hK.out _ _ hS' fun _ => hw
theorem ar_val {rs : List Nat} (i : Nat) (d : Option Tmp) (v : Value) (w1 : World) (hc : rgWant ops a i d = true) (hrun : (execOp a.eval (ops.getD i default)).run Try.prog w = .ok (.value v) w1)
    (hS1 : S w1) (h : wpAnyH Try.prog .any ops Q S fuel (listed.setIfInBounds i true) (a.put d v) w1)
    (hs : AllReadyH Try.prog .any ops Q S fuel listed a w rs) : AllReadyH Try.prog .any ops Q S fuel listed a w (i :: rs) := by
  simp only [rgWant, Bool.and_eq_true, decide_eq_true_eq] at hc
  obtain ⟨⟨h4, h5⟩, h6⟩ := hc
  subst h6
  refine AllReadyH.cons (at_getD h4) (fun K hK => ?_) hs
  rw [if_pos h5]
  unfold Oper.wp
  rw [hrun]
  show K (a.put (ops.getD i default).dst v) w1
  exact hK.out _ _ hS1 fun _ => h
theorem ar_void {rs : List Nat} (i : Nat) (w1 : World) (hc : rgWant ops a i none = true) (hrun : (execOp a.eval (ops.getD i default)).run Try.prog w = .ok .skip w1)
    (hS1 : S w1) (h : wpAnyH Try.prog .any ops Q S fuel (listed.setIfInBounds i true) (a.put none undef) w1)
    (hs : AllReadyH Try.prog .any ops Q S fuel listed a w rs) : AllReadyH Try.prog .any ops Q S fuel listed a w (i :: rs) := by
  simp only [rgWant, Bool.and_eq_true, decide_eq_true_eq] at hc
  obtain ⟨⟨h4, h5⟩, h6⟩ := hc
  refine AllReadyH.cons (at_getD h4) (fun K hK => ?_) hs
  rw [if_pos h5]
  unfold Oper.wp
  rw [hrun]
  show K (a.put (ops.getD i default).dst undef) w1
  rw [h6]
  exact hK.out _ _ hS1 fun _ => h
end
theorem run_ix {a : Act} {w : World} {op : Oper} {T : TypeId} {x y k n c b : Nat} (ho : op.op = .indexAddr T (.tmp x) (.tmp y)) (hT : Try.prog.underlying T = some (.slice 66)) (hx : a.eval (.tmp x) = .slice (some ⟨b, 0, none⟩) n c) {z : Int} (hy : a.eval (.tmp y) = .int .i64 z) (hz : z = (k : Int)) (hk : k < n) : (execOp a.eval op).run Try.prog w = .ok (.value (.pointer (some ⟨b, k, none⟩))) w := by
  subst hz
  have h1 : (k : Int) < n := by omega
  have h2 : ¬ ((k : Int) < 0) := by omega
  obtain ⟨i0, hi, hz0, hs0, hb0⟩ := info_parts (P := Try.prog) (show (Try.prog.info? 66).map (fun i => (i.zero, i.size, i.bytes)) = some (some (.slice none 0 0), 1, 24) by kernel_rfl)
  simp only [execOp, ho, hx, hy]
  go_simp
theorem ld_pp {w : World} {g o : Nat} {v : Value} (c : w.cell? ⟨g, o, none⟩ = some v) : (loadVar 59 ⟨g, o, none⟩).run Try.prog w = .ok v w := by go_simp
theorem ld_p {w : World} {g o : Nat} {v : Value} (c : w.cell? ⟨g, o, none⟩ = some v) : (loadVar 66 ⟨g, o, none⟩).run Try.prog w = .ok v w := by go_simp
theorem ld_e {w : World} {g : Nat} {v u : Value} (c : w.cell? ⟨g, 0, none⟩ = some v) (d : w.cell? ⟨g, 1, none⟩ = some u) : (loadVar 65 ⟨g, 0, none⟩).run Try.prog w = .ok (.agg #[v, u]) w := by go_simp
theorem run_lp {a : Act} {w : World} {o : Oper} {T : TypeId} (k : Nat) {g off : Nat} {v : Value} (ho : o.op = .load T (.tmp k)) (hp : a.eval (.tmp k) = .pointer (some ⟨g, off, none⟩)) (hl : (loadVar T ⟨g, off, none⟩).run Try.prog w = .ok v w) : (execOp a.eval o).run Try.prog w = .ok (.value v) w := by
  simp only [execOp, ho, hp]
  simp [Instr.loadAt, Instr.sureAddr, Result.andThen, hl]
theorem run_sp {a : Act} {w : World} {o : Oper} (k q : Nat) {g off n c : Nat} {u : Value} {ao : Option Addr} (ho : o.op = .store 66 (.tmp k) (.tmp q)) (hp : a.eval (.tmp k) = .pointer (some ⟨g, off, none⟩)) (hq : a.eval (.tmp q) = .slice ao n c) (hc : w.cell? ⟨g, off, none⟩ = some u) (hf : w.frozen? ⟨g, off, none⟩ = false) :
    (execOp a.eval o).run Try.prog w = .ok .skip (w.setCell ⟨g, off, none⟩ (.slice ao n c)) := by
  simp only [execOp, ho, hp, hq]
  go_simp
theorem run_bs {a : Act} {w : World} {o : Oper} {k : Nat} {kv vv : Value} (ho : o.op = .buildSlice 66 1 #[(0, .tmp k)]) (hk : a.eval (.tmp k) = .agg #[kv, vv]) : (execOp a.eval o).run Try.prog w = .ok (.value (.slice (some ⟨w.heap.size, 0, none⟩) 1 1)) (w.alloc (.cells #[kv, vv] 65)) := by
  have hk' : a.tmps[k]?.getD undef = .agg #[kv, vv] := by simpa [Act.eval] using hk
  simp only [execOp, ho]
  go_simp
theorem run_bs2 {a : Act} {w : World} {o : Oper} {x y : Nat} {ao bo : Option Addr} {n c m d : Nat} (ho : o.op = .buildSlice 59 2 #[(0, .tmp x), (1, .tmp y)]) (hx : a.eval (.tmp x) = .slice ao n c) (hy : a.eval (.tmp y) = .slice bo m d) : (execOp a.eval o).run Try.prog w = .ok (.value (.slice (some ⟨w.heap.size, 0, none⟩) 2 2)) (w.alloc (.cells #[.slice ao n c, .slice bo m d] 66)) := by
  have hx' : a.tmps[x]?.getD undef = .slice ao n c := by simpa [Act.eval] using hx
  have hy' : a.tmps[y]?.getD undef = .slice bo m d := by simpa [Act.eval] using hy
  simp only [execOp, ho]
  go_simp
end Pg
end Go.Proofs.Ytjnjkgakdnjlmaa

namespace Go.Proofs.Ytjnjkgakdnjlmaa
namespace Pg
open Go.RowKit Go.Lib

theorem enA_all {w : World} {D : Nat → Prop} {p : Pg} (h : PgA w D p) {es : List En} (hs : ∀ e ∈ es, e ∈ p.es) : ∀ e ∈ es, EnA w D e := fun e he => h.ents e (hs e he)
theorem belowD (w : World) : Below w.heap.size w w.drew := ⟨rfl, rfl, rfl, Nat.le_refl _, fun _ _ => rfl⟩
theorem cell_off {w : World} {g G i j : Nat} {v u : Value} (h : g ≠ G) (hc : w.cell? ⟨g, j, none⟩ = some u) : (w.setCell ⟨G, i, none⟩ v).cell? ⟨g, j, none⟩ = some u := by
  rw [World.cell?_of_block (w := w) (a := ⟨g, j, none⟩) (Below.heap_setCell w _ v g h)]; exact hc
theorem set_two {α : Type} (L : List α) (i : Nat) (a b : α) (h : i < L.length) : (L.set i a).take (i + 1) ++ [b] ++ (L.set i a).drop (i + 1) = L.take i ++ [a, b] ++ L.drop (i + 1) := by
  have e1 : (L.set i a).take (i + 1) = L.take i ++ [a] := by
    rw [List.take_add_one, List.take_set_of_le (Nat.le_refl _), List.getElem?_set_self h]; rfl
  rw [e1, List.drop_set_of_lt (by omega)]
  simp
theorem split_end {w W2 w3 w5 : World} {F F2 D : Nat → Prop} {g G n m C i b2 c2 G5 C5 : Nat} {L : List Pg} {q1 : Pg} {es : List En} {c0 : Value} (A2 : MapA W2 F2 D g (L.set i q1)) (hF2 : ∀ b, F2 b → F b ∨ w.heap.size ≤ b) (C2 : Chg F w W2) (hgx : Blk W2 g [.slice (some ⟨G, 0, none⟩) (L.set i q1).length C] 61) (hg3 : Blk w3 g [c0] 61) (hFg : F2 g) (hFG : F2 G)
    (hR2 : Rw W2 66 1 G (L.set i q1).length C ((L.set i q1).map Pg.v)) (hgG : g ≠ G) (hil : i < L.length) (hq1 : q1.es = es.take 16) (hdl : (es.drop 16).length = m - 16) (hnn : L.length = n) (B3 : Below W2.drew.heap.size W2.drew w3) (hb2 : W2.drew.heap.size ≤ b2)
    (R3 : Rw w3 65 2 b2 (m - 16) c2 (flat (es.drop 16))) (E0 : ∀ e ∈ es, EnA W2.drew D e) (hb5 : G5 = G ∨ w3.heap.size + 1 ≤ G5)
    (R5 : Rw w5 66 1 G5 (n + 1) C5 (((L.set i q1).map Pg.v).take (i + 1) ++ [.slice (some ⟨b2, 0, none⟩) (m - 16) c2] ++ ((L.set i q1).map Pg.v).drop (i + 1))) (C5' : Chg (· = G) (w3.alloc (.cells #[.slice (some ⟨b2, 0, none⟩) (m - 16) c2] 66)) w5) :
    ∃ F' p1 p2, Ending.returned (.tuple #[]) = Ending.returned (.tuple #[]) ∧ p1.es = es.take 16 ∧ p2.es = es.drop 16 ∧ MapA (w5.setCell ⟨g, 0, none⟩ (.slice (some ⟨G5, 0, none⟩) (n + 1) C5)) F' D g (L.take i ++ [p1, p2] ++ L.drop (i + 1)) ∧ (∀ b, F' b → F b ∨ w.heap.size ≤ b) ∧ Chg F w (w5.setCell ⟨g, 0, none⟩ (.slice (some ⟨G5, 0, none⟩) (n + 1) C5)) := by
  obtain ⟨W4, hW4⟩ : ∃ W4, W4 = w3.alloc (.cells #[.slice (some ⟨b2, 0, none⟩) (m - 16) c2] 66) := ⟨_, rfl⟩
  have B4 : Below W2.heap.size W2 W4 := by rw [hW4]; exact joinB (joinB (belowD W2) B3) (below_alloc w3 _)
  have B34 : Below w3.heap.size w3 W4 := by rw [hW4]; exact below_alloc w3 _
  rw [← hW4] at C5'
  have A4 := A2.keep B4
  have hP2 : PgA W4 D ⟨b2, c2, es.drop 16⟩ := by
    refine ⟨?_, fun e he => ((E0 e (List.mem_of_mem_drop he)).keep B3).keep B34⟩
    show Rw W4 _ 2 b2 (es.drop 16).length c2 _
    rw [hdl]; exact R3.keep B34
  have hb2' : W2.heap.size ≤ b2 := hb2
  have hv2 : (⟨b2, c2, es.drop 16⟩ : Pg).v = .slice (some ⟨b2, 0, none⟩) (m - 16) c2 := by simp only [Pg.v]; rw [hdl]
  have hL' : ∀ p ∈ (L.set i q1).take (i + 1) ++ [(⟨b2, c2, es.drop 16⟩ : Pg)] ++ (L.set i q1).drop (i + 1), p ∈ L.set i q1 ∨ p = ⟨b2, c2, es.drop 16⟩ := fun p hp => by
    rcases List.mem_append.1 hp with h | h
    · rcases List.mem_append.1 h with h | h
      · exact .inl (List.mem_of_mem_take h)
      · exact .inr (by simpa using h)
    · exact .inl (List.mem_of_mem_drop h)
  have hlen : ((L.set i q1).take (i + 1) ++ [(⟨b2, c2, es.drop 16⟩ : Pg)] ++ (L.set i q1).drop (i + 1)).length = n + 1 := by
    simp; omega
  have hold : ∀ p ∈ L.set i q1, p.b ≠ b2 := fun p hp => by
    have := (A2.pages p hp).1.row.lt
    omega
  obtain ⟨A5, C6⟩ := mapA_swap (w := W4) (w1 := w5) (F := fun x => F2 x ∨ x = b2) (D := D) (g := g) (G := G) (G' := G5) (C' := C5) (n := n + 1) (L' := (L.set i q1).take (i + 1) ++ [(⟨b2, c2, es.drop 16⟩ : Pg)] ++ (L.set i q1).drop (i + 1))
    (fun p hp => by
      rcases hL' p hp with h | rfl
      · exact ⟨(A4.pages p h).1, .inl (A4.pages p h).2⟩
      · exact ⟨hP2, .inr rfl⟩)
    (by
      have hn := A2.apart
      have e : (L.set i q1).map Pg.b = ((L.set i q1).take (i + 1)).map Pg.b ++ ((L.set i q1).drop (i + 1)).map Pg.b := by rw [← List.map_append, List.take_append_drop]
      rw [e] at hn
      have h2 : ∀ x ∈ ((L.set i q1).take (i + 1)).map Pg.b, x ≠ b2 := fun x hx => by
        obtain ⟨p, hp, rfl⟩ := List.mem_map.1 hx
        exact hold p (List.mem_of_mem_take hp)
      have h3 : ∀ x ∈ ((L.set i q1).drop (i + 1)).map Pg.b, x ≠ b2 := fun x hx => by
        obtain ⟨p, hp, rfl⟩ := List.mem_map.1 hx
        exact hold p (List.mem_of_mem_drop hp)
      simp only [List.map_append, List.map_cons, List.map_nil]
      rw [List.nodup_append] at hn
      rw [List.append_assoc, List.nodup_append]
      refine ⟨hn.1, ?_, ?_⟩
      · rw [List.singleton_append, List.nodup_cons]
        exact ⟨fun h => h3 b2 h rfl, hn.2.1⟩
      · intro a ha b hb
        rcases List.mem_append.1 hb with hb | hb
        · simp at hb; subst hb; exact h2 a ha
        · exact hn.2.2 a ha b hb)
    (fun b hb => by
      rcases hb with h | rfl
      · exact A4.kind b h
      · obtain ⟨ds, k⟩ := hP2.row.kind
        exact ⟨ds, _, k, by decide⟩)
    (hg3.keep B34) (.inl hFg) (.inl hFG) (fun e => hgG e.symm) C5'
    (fun p hp => by
      rcases hL' p hp with h | rfl
      · exact (A4.pages p h).1.ne_row (hR2.keep B4)
      · exact hP2.ne_row (hR2.keep B4)) hlen
    (by simpa [List.map_take, List.map_drop, hv2] using R5)
  rw [set_two L i q1 _ hil] at A5
  refine ⟨_, q1, ⟨b2, c2, es.drop 16⟩, rfl, hq1, rfl, A5, fun b hb => ?_, (C2.trans (Chg.of (F := F) B4) (fun _ _ h => h)).trans C6 fun b hb h => ?_⟩
  · rcases hb with ⟨h | rfl, _⟩ | rfl
    · exact hF2 b h
    · exact .inr (by have := C2.size; omega)
    · rcases hb5 with rfl | h
      · exact hF2 _ hFG
      · have h3 := B3.size
        have h2 := C2.size
        have : W2.drew.heap.size = W2.heap.size := rfl
        exact .inr (by omega)
  · rcases h with h | rfl
    · exact (hF2 b h).resolve_right (by omega)
    · have := C2.size; omega
theorem cell_far {w : World} {G i j : Nat} {v u : Value} (h : j ≠ i) (hc : w.cell? ⟨G, j, none⟩ = some u) : (w.setCell ⟨G, i, none⟩ v).cell? ⟨G, j, none⟩ = some u := by
  have hlt := cell_lt hc
  simp only [World.cell?, World.setCell, Array.getElem?_modify, if_true] at hc ⊢
  cases hh : w.heap[G]? with
  | none => rw [hh] at hc; simp at hc
  | some ob =>
    rw [hh] at hc
    cases ob with
    | cells c e f =>
      simp at hc ⊢
      rw [Array.getElem?_setIfInBounds, if_neg (by omega)]; exact hc
    | _ => simp at hc
set_option maxHeartbeats 4000000 in
set_option maxRecDepth 100000 in
theorem split_any {w : World} {F D : Nat → Prop} {g i : Nat} {L : List Pg} {p : Pg} (A : MapA w F D g L) (hi : L[i]? = some p) (h1 : 17 ≤ p.es.length) (h2 : p.es.length ≤ 1000) (hn : L.length ≤ 100000000) :
    Calls Try.prog 47 #[.pointer (some ⟨g, 0, none⟩), .int .i64 i] w fun e w' => ∃ F' p1 p2, e = .returned (.tuple #[]) ∧ p1.es = p.es.take 16 ∧ p2.es = p.es.drop 16 ∧ MapA w' F' D g (L.take i ++ [p1, p2] ++ L.drop (i + 1)) ∧ (∀ b, F' b → F b ∨ w.heap.size ≤ b) ∧ Chg F w w' := by
  have hil := (List.getElem?_eq_some_iff.1 hi).1
  have hL : L ≠ [] := fun e => by subst e; simp at hil
  obtain ⟨G, C, hg, hFg, hFG, hR⟩ := A.opn hL
  have hp := A.pages p (List.mem_of_getElem? hi)
  have cg := hg.cell (i := 0) rfl
  have cG := hR.cell (i := i) (v := p.v) (by simp [hi])
  have hpc := hp.1.row.le
  have hCC := hR.le
  simp only [maxLen] at hpc hCC
  have cgd : w.drew.cell? ⟨g, 0, none⟩ = some (.slice (some ⟨G, 0, none⟩) L.length C) := cg
  have t1 := cloneE (w := w.drew) (a := ⟨p.b, 0, none⟩) (n := 16) (c := p.c) (xs := flat (p.es.take 16)) (by decide) (by rw [flat_len, List.length_take]; omega) (fun j v hj => by
    rw [Addr.add_lit, Nat.zero_add]
    have : (flat p.es)[j]? = some v := by
      rw [← flat_take, List.getElem?_take] at hj
      split at hj
      · exact hj
      · cases hj
    exact hp.1.row.drew.cell this) (flat_one (enA_all hp.1 fun e he => List.mem_of_mem_take he))
  obtain ⟨n, hnn⟩ : ∃ n, Hid (L.length = n) := ⟨_, rfl⟩
  obtain ⟨m, hmm⟩ : ∃ m, Hid (p.es.length = m) := ⟨_, rfl⟩
  simp only [Pg.v] at cG
  rw [hnn.out] at cg cgd
  rw [hmm.out] at cG
  have z1 : (i : Int) < n := by have := hnn.out; omega
  have z2 : m ≤ p.c := by have := hmm.out; omega
  have z3 : p.c ≤ 9223372036854775807 := by omega
  have z4 : 17 ≤ m := by have := hmm.out; omega
  have z5 : 16 ≤ p.c := by omega
  have z6 : (16 : Int) ≤ (p.c : Int) := by omega
  have hgG : g ≠ G := fun e => hR.ne_map hg e.symm
  have mixed := mixed
  go_enter Try.func47, Try.ntmps47
  go_wp2
  go_region_held3 (fun w' => w'.cell? ⟨g, 0, none⟩ = some (.slice (some ⟨G, 0, none⟩) n C)) (first | assumption | exact cell_off hgG (by assumption))
    (first
    | (go_at_call 42; refine t1.mono ?_; rintro e' w1 ⟨b1, c1, rfl, hb1, R1, B1⟩; have cg1 : w1.cell? ⟨g, 0, none⟩ = some (.slice (some ⟨G, 0, none⟩) n C) := (B1.cell (p := ⟨g, 0, none⟩) (cell_lt cgd)).trans cgd; have cG1 : w1.cell? ⟨G, i, none⟩ = some (.slice (some ⟨p.b, 0, none⟩) m p.c) := (B1.cell (p := ⟨G, i, none⟩) (cell_lt (w := w.drew) cG)).trans cG; have fG1 : w1.frozen? ⟨G, i, none⟩ = false := (hR.drew.keep B1).free i))
  -- the first half is laid
  obtain ⟨q1, hq1⟩ : ∃ q1 : Pg, Hid (q1 = ⟨b1, c1, p.es.take 16⟩) := ⟨_, rfl⟩
  have hq1l : (p.es.take 16).length = 16 := by rw [List.length_take]; omega
  have hq1v : q1.v = .slice (some ⟨b1, 0, none⟩) 16 c1 := by rw [hq1.out]; simp only [Pg.v]; rw [hq1l]
  have hPA1 : PgA w1 D q1 := by
    rw [hq1.out]
    refine ⟨?_, fun e he => ((hp.1.ents e (List.mem_of_mem_take he)).keep (belowD w)).keep B1⟩
    show Rw w1 _ 2 b1 (p.es.take 16).length c1 _
    rw [hq1l]; exact R1
  obtain ⟨A2, C2⟩ := A.put (p' := q1) (D' := D) hg hFg hFG hR hi (Chg.of (joinB (belowD w) B1)) (.inr (by rw [hq1.out]; exact hb1)) hPA1 (fun _ _ h => h)
  rw [hq1v] at A2 C2
  have R0 : Rw (w1.setCell ⟨G, i, none⟩ (.slice (some ⟨b1, 0, none⟩) 16 c1)) 65 2 p.b p.es.length p.c (flat p.es) := ((hp.1.row.keep (belowD w)).keep B1).same (Below.heap_setCell w1 _ _ _ (hp.1.ne_row hR))
  have E0 : ∀ e ∈ p.es, EnA (w1.setCell ⟨G, i, none⟩ (.slice (some ⟨b1, 0, none⟩) 16 c1)) D e := fun e he => (((hp.1.ents e he).keep (belowD w)).keep B1).off fun b hb hk => by
    obtain ⟨cs, k⟩ := hk
    obtain ⟨ds, k'⟩ := (hR.drew.keep B1).kind
    exact Below.heap_setCell w1 _ _ b (blk_ne k k' (by decide))
  have hw1l : w.heap.size ≤ (w1.setCell ⟨G, i, none⟩ (.slice (some ⟨b1, 0, none⟩) 16 c1)).heap.size := C2.size
  have hb1q : q1.b = b1 := by rw [hq1.out]
  have hq1e : q1.es = p.es.take 16 := by rw [hq1.out]
  have hgb2 := (hg.drew.keep B1).off hgG (i := i) (.slice (some ⟨b1, 0, none⟩) 16 c1)
  have hF2 : ∀ b, ((F b ∧ b ≠ p.b) ∨ b = q1.b) → F b ∨ w.heap.size ≤ b := fun b h => h.imp (fun h => h.1) (fun h => by rw [h, hb1q]; exact hb1)
  generalize (w1.setCell ⟨G, i, none⟩ (.slice (some ⟨b1, 0, none⟩) 16 c1)) = W2 at *
  generalize hF2d : (fun x => (F x ∧ x ≠ p.b) ∨ x = q1.b) = F2 at A2
  obtain ⟨G2, D2, hg2, hFg2, hFG2, hR2⟩ := A2.opn (by simp [hL])
  obtain ⟨rfl, rfl⟩ : G2 = G ∧ D2 = C := by
    have := (hg2.eq hgb2).1
    simp at this
    exact ⟨this.1, this.2⟩
  have hF2' : ∀ b, F2 b → F b ∨ w.heap.size ≤ b := fun b h => hF2 b (by rw [← hF2d] at h; exact h)
  have cg2 : W2.cell? ⟨g, 0, none⟩ = some (.slice (some ⟨G2, 0, none⟩) n D2) := by
    have := hgb2.cell (i := 0) rfl
    rwa [hnn.out] at this
  have cg2d : W2.drew.cell? ⟨g, 0, none⟩ = some (.slice (some ⟨G2, 0, none⟩) n D2) := cg2
  have hdl : (p.es.drop 16).length = m - 16 := by rw [List.length_drop, hmm.out]
  have t2 := cloneE (w := W2.drew) (a := ⟨p.b, 32, none⟩) (n := m - 16) (c := p.c - 16) (xs := flat (p.es.drop 16)) (by have := hmm.out; omega) (by rw [flat_len, hdl]) (fun j v hj => by
    rw [Addr.add_lit]
    have : (flat p.es)[32 + j]? = some v := by
      rw [← flat_drop, List.getElem?_drop] at hj
      exact hj
    exact R0.drew.cell this) (flat_one (w := W2) (D := D) (fun e he => E0 e (List.mem_of_mem_drop he)))
  have zz1 : IntKind.i64.wrap ((i : Int) + 1) = (i : Int) + 1 := by rw [IntKind.wrap_i64]; have := hnn.out; omega
  have zz2 : ¬ (p.c = 16) := by omega
  have zz3 : (16 : Int) ≤ m := by omega
  have t3 : ∀ (w3 : World) (b2 c2 : Nat), Below W2.drew.heap.size W2.drew w3 → Calls Try.prog 60 #[.slice (some ⟨G2, 0, none⟩) n D2, .int .i64 ((i : Int) + 1), .slice (some ⟨w3.heap.size, 0, none⟩) 1 1] (w3.alloc (.cells #[.slice (some ⟨b2, 0, none⟩) (m - 16) c2] 66)) fun e w' => ∃ b' c', e = .returned (.slice (some ⟨b', 0, none⟩) (n + 1) c') ∧ (b' = G2 ∨ w3.heap.size + 1 ≤ b') ∧ Rw w' 66 1 b' (n + 1) c' (((L.set i q1).map Pg.v).take (i + 1) ++ [.slice (some ⟨b2, 0, none⟩) (m - 16) c2] ++ ((L.set i q1).map Pg.v).drop (i + 1)) ∧ Chg (· = G2) (w3.alloc (.cells #[.slice (some ⟨b2, 0, none⟩) (m - 16) c2] 66)) w' := fun w3 b2 c2 B3 => by
    have hk := (hR2.drew.keep B3).keep (below_alloc w3 (.cells #[.slice (some ⟨b2, 0, none⟩) (m - 16) c2] 66))
    rw [List.length_set, hnn.out] at hk
    have hGl : G2 < w3.heap.size := (hR2.drew.keep B3).lt
    have := insP (i := i + 1) hk (blk_new w3 [.slice (some ⟨b2, 0, none⟩) (m - 16) c2] 66) (by omega) (by have := hnn.out; omega) (by have := hnn.out; omega) (pv_one _) (by simp [Value.oneCell'])
    rw [World.size_alloc] at this
    simpa using this
  go_wp2
  go_region_with (first
    | (go_at_call 42; refine t2.mono ?_; rintro e' w3 ⟨b2, c2, rfl, hb2, R3, B3⟩; have cg3 : w3.cell? ⟨g, 0, none⟩ = some (.slice (some ⟨G2, 0, none⟩) n D2) := (B3.cell (p := ⟨g, 0, none⟩) (cell_lt cg2d)).trans cg2d; have cg3' := blk_cell cg3 (.cells #[.slice (some ⟨b2, 0, none⟩) (m - 16) c2] 66))
    | (go_at_call 60; refine (t3 w3 b2 c2 B3).mono ?_; rintro e' w5 ⟨G5, C5, rfl, hb5, R5, C5'⟩; have cg5 : w5.cell? ⟨g, 0, none⟩ = some (.slice (some ⟨G2, 0, none⟩) n D2) := (World.cell?_of_block (w := w3.alloc (.cells #[.slice (some ⟨b2, 0, none⟩) (m - 16) c2] 66)) (a := ⟨g, 0, none⟩) (C5'.same g (cell_lt cg3') hgG)).trans cg3'; have fg5 : w5.frozen? ⟨g, 0, none⟩ = false := (((hgb2.drew.keep B3).keep (below_alloc w3 _)).chg C5' hgG).free 0))
  all_goals go_wp2
  all_goals go_end0
  all_goals exact split_end A2 hF2' C2 hg2 (hgb2.drew.keep B3) hFg2 hFG2 hR2 hgG hil hq1e hdl hnn.out B3 hb2 R3 (fun e he => (E0 e he).keep (belowD W2)) hb5 R5 C5'
end Pg
end Go.Proofs.Ytjnjkgakdnjlmaa

namespace Go.Proofs.Ytjnjkgakdnjlmaa
namespace Pg
open Go.RowKit Go.Lib

/-- an entry laid into page i at place q -/
def insQ (P : List (List En)) (i q : Nat) (e : En) : List (List En) :=
  let es := (P.getD i []).take q ++ [e] ++ (P.getD i []).drop q
  if 32 < es.length then P.take i ++ [es.take 16, es.drop 16] ++ P.drop (i + 1) else P.set i es
theorem ens_set (L : List Pg) (i : Nat) (p : Pg) : ens (L.set i p) = (ens L).set i p.es := by simp [ens, List.map_set]
theorem ens_getD {L : List Pg} {i : Nat} {p : Pg} (h : L[i]? = some p) : (ens L).getD i [] = p.es := by simp [ens, h]
theorem ins_flat (es : List En) (q : Nat) (e : En) : (flat es).take (q * 2) ++ [e.kv, e.vv] ++ (flat es).drop (q * 2) = flat (es.take q ++ [e] ++ es.drop q) := by
  rw [flat_take, flat_drop, flat_append, flat_append]; rfl
set_option maxHeartbeats 4000000 in
set_option maxRecDepth 100000 in
theorem insert_any {w : World} {F D : Nat → Prop} {g i q : Nat} {L : List Pg} {p : Pg} {e : En} (A : MapA w F D g L) (hi : L[i]? = some p) (hq : q ≤ p.es.length) (h2 : p.es.length ≤ 32) (hn : L.length ≤ 100000000) (hE : EnA w D e) :
    Calls Try.prog 34 #[.pointer (some ⟨g, 0, none⟩), .int .i64 i, .int .i64 q, .agg #[e.kv, e.vv]] w fun e' w' => ∃ F' L', e' = .returned (.tuple #[]) ∧ ens L' = insQ (ens L) i q e ∧ MapA w' F' D g L' ∧ (∀ b, F' b → F b ∨ w.heap.size ≤ b) ∧ Chg F w w' := by
  have hil := (List.getElem?_eq_some_iff.1 hi).1
  have hL : L ≠ [] := fun e => by subst e; simp at hil
  obtain ⟨kv, kl, vv, vl⟩ := e
  obtain ⟨w0, hw0⟩ : ∃ w0, Hid (w0 = w.alloc (.cells #[kv, vv] 65)) := ⟨_, rfl⟩
  have B0 : Below w.heap.size w w0 := by rw [hw0.out]; exact below_alloc w _
  have X0 : Blk w0 w.heap.size [kv, vv] 65 := by rw [hw0.out]; exact blk_new w [kv, vv] _
  have A0 := A.keep B0
  obtain ⟨G, C, hg, hFg, hFG, hR⟩ := A0.opn hL
  have hp := A0.pages p (List.mem_of_getElem? hi)
  have cg := hg.cell (i := 0) rfl
  have cG := hR.cell (i := i) (v := p.v) (by simp [hi])
  have x0 := X0.cell (i := 0) rfl
  have x1 := X0.cell (i := 1) rfl
  have hpc := hp.1.row.le
  have hCC := hR.le
  simp only [maxLen] at hpc hCC
  obtain ⟨n, hnn⟩ : ∃ n, Hid (L.length = n) := ⟨_, rfl⟩
  obtain ⟨m, hmm⟩ : ∃ m, Hid (p.es.length = m) := ⟨_, rfl⟩
  simp only [Pg.v] at cG
  rw [hnn.out] at cg
  rw [hmm.out] at cG
  have z0 : ¬ ((n : Int) = 0) := by have := hnn.out; omega
  have z1 : (i : Int) < n := by have := hnn.out; omega
  have cgd : w0.drew.cell? ⟨g, 0, none⟩ = some (.slice (some ⟨G, 0, none⟩) n C) := cg
  have x0d : w0.drew.cell? ⟨w.heap.size, 0, none⟩ = some kv := x0
  have x1d : w0.drew.cell? ⟨w.heap.size, 1, none⟩ = some vv := x1
  have cGd : w0.drew.cell? ⟨G, i, none⟩ = some (.slice (some ⟨p.b, 0, none⟩) m p.c) := cG
  have hgG : g ≠ G := fun e => hR.ne_map hg e.symm
  have hxG : w.heap.size ≠ G := by have := A.lt hFG; omega
  -- the world with the variadic list
  obtain ⟨w1, hw1⟩ : ∃ w1, Hid (w1 = w0.drew.alloc (.cells #[kv, vv] 65)) := ⟨_, rfl⟩
  have B1 : Below w0.heap.size w0 w1 := by rw [hw1.out]; exact joinB (belowD w0) (below_alloc w0.drew _)
  have hs0 : w0.heap.size = w.heap.size + 1 := by rw [hw0.out]; simp
  have V1 : Blk w1 w0.heap.size [kv, vv] 65 := by rw [hw1.out]; exact blk_new w0.drew [kv, vv] _
  have t1 := insE (i := q) (hp.1.row.keep B1) V1 (by have := hp.1.row.lt; omega) hq (by omega) hp.1.one (by have := hE.k.one; have := hE.v.one; simp_all)
  rw [hmm.out] at t1
  have hcg1 : w1.cell? ⟨g, 0, none⟩ = some (.slice (some ⟨G, 0, none⟩) n C) := (B1.cell (p := ⟨g, 0, none⟩) (cell_lt cg)).trans cg
  have hx01 : w1.cell? ⟨w.heap.size, 0, none⟩ = some kv := (B1.cell (p := ⟨w.heap.size, 0, none⟩) (cell_lt x0)).trans x0
  have hx11 : w1.cell? ⟨w.heap.size, 1, none⟩ = some vv := (B1.cell (p := ⟨w.heap.size, 1, none⟩) (cell_lt x1)).trans x1
  have hcG1 : w1.cell? ⟨G, i, none⟩ = some (.slice (some ⟨p.b, 0, none⟩) m p.c) := (B1.cell (p := ⟨G, i, none⟩) (cell_lt cG)).trans cG
  have ng : g ≠ p.b := fun e => hp.1.ne_map hg e.symm
  have nG : G ≠ p.b := fun e => hp.1.ne_row hR e.symm
  have nx : w.heap.size ≠ p.b := by have := A.lt hp.2; omega
  have mixed := mixed
  have hin : i < n := by have := hnn.out; omega
  go_enter Try.func34, Try.ntmps34
  have cgw := cg
  rw [hw0.out] at cgw
  go_wp2
  rw [← hw0.out]
  have hS1 := (show _ ∧ _ ∧ _ from ⟨hcg1, hx01, hx11⟩)
  have hcG1' := hcG1
  rw [hw1.out] at hS1 hcG1' t1
  -- REGION 3
  have hpp : Try.prog.underlying 59 = some (.slice 66) := by kernel_rfl
  refine rg_mid (X := Nat × Nat) (fun x => [(some 23, .pointer (some ⟨g, 0, none⟩)), (some 24, .pointer (some ⟨g, 0, none⟩)), (some 25, .pointer (some ⟨g, 0, none⟩)), (some 26, .slice (some ⟨G, 0, none⟩) n C), (some 27, .int .i64 i), (some 28, .pointer (some ⟨g, 0, none⟩)), (some 29, .pointer (some ⟨g, 0, none⟩)), (some 30, .pointer (some ⟨g, 0, none⟩)), (some 31, .slice (some ⟨G, 0, none⟩) n C), (some 32, .int .i64 i), (some 33, .pointer (some ⟨G, i, none⟩)), (some 34, .slice (some ⟨p.b, 0, none⟩) m p.c), (some 35, .int .i64 q), (some 36, .agg #[kv, vv]), (some 37, .slice (some ⟨w0.heap.size, 0, none⟩) 1 1), (some 38, .slice (some ⟨x.1, 0, none⟩) (m + 1) x.2), (some 39, .pointer (some ⟨G, i, none⟩))]) (fun x w' => ∃ w2, w' = w2.setCell ⟨G, i, none⟩ (.slice (some ⟨x.1, 0, none⟩) (m + 1) x.2) ∧ (x.1 = p.b ∨ w1.heap.size ≤ x.1) ∧ Rw w2 65 2 x.1 (m + 1) x.2 ((flat p.es).take (q * 2) ++ [kv, vv] ++ (flat p.es).drop (q * 2)) ∧ Chg (· = p.b) w1 w2) (fun w' => w'.cell? ⟨g, 0, none⟩ = some (.slice (some ⟨G, 0, none⟩) n C) ∧ w'.cell? ⟨w.heap.size, 0, none⟩ = some kv ∧ w'.cell? ⟨w.heap.size, 1, none⟩ = some vv) (by kernel_rfl) ⟨cgd, x0d, x1d⟩ ?_ ?_
  · have hS := (show _ ∧ _ ∧ _ from ⟨cgd, x0d, x1d⟩)
    refine rg_take 0 (some 23) (.pointer (some ⟨g, 0, none⟩)) (by kernel_rfl) (fun _ _ => by kernel_rfl) (fun _ _ _ h => h) hS ?_
    refine rg_take 1 (some 24) (.pointer (some ⟨g, 0, none⟩)) (by kernel_rfl) (fun _ _ => by kernel_rfl) (fun _ _ _ h => h) hS ?_
    refine rg_take 2 (some 25) (.pointer (some ⟨g, 0, none⟩)) (by kernel_rfl) (fun _ _ => by kernel_rfl) (fun _ _ _ h => h) hS ?_
    refine rg_load 3 (some 26) (.slice (some ⟨G, 0, none⟩) n C) 59 25 (g) (0) (by kernel_rfl) (by kernel_rfl) (by kernel_rfl) (fun w' h => ld_pp h.1) (fun _ _ _ h => h) hS ?_
    refine rg_take 4 (some 27) (.int .i64 i) (by kernel_rfl) (fun _ _ => by kernel_rfl) (fun _ _ _ h => h) hS ?_
    refine rg_take 5 (some 28) (.pointer (some ⟨g, 0, none⟩)) (by kernel_rfl) (fun _ _ => by kernel_rfl) (fun _ _ _ h => h) hS ?_
    refine rg_take 6 (some 29) (.pointer (some ⟨g, 0, none⟩)) (by kernel_rfl) (fun _ _ => by kernel_rfl) (fun _ _ _ h => h) hS ?_
    refine rg_take 7 (some 30) (.pointer (some ⟨g, 0, none⟩)) (by kernel_rfl) (fun _ _ => by kernel_rfl) (fun _ _ _ h => h) hS ?_
    refine rg_load 8 (some 31) (.slice (some ⟨G, 0, none⟩) n C) 59 30 (g) (0) (by kernel_rfl) (by kernel_rfl) (by kernel_rfl) (fun w' h => ld_pp h.1) (fun _ _ _ h => h) hS ?_
    refine rg_take 9 (some 32) (.int .i64 i) (by kernel_rfl) (fun _ _ => by kernel_rfl) (fun _ _ _ h => h) hS ?_
    refine rg_take 10 (some 33) (.pointer (some ⟨G, i, none⟩)) (by kernel_rfl) (fun _ _ => run_ix (x := 31) (y := 32) (n := n) (c := C) (by kernel_rfl) hpp (by kernel_rfl) (by kernel_rfl) (rfl) (hin)) (fun _ _ _ h => h) hS ?_
    refine rg_take 12 (some 35) (.int .i64 q) (by kernel_rfl) (fun _ _ => by kernel_rfl) (fun _ _ _ h => h) hS ?_
    refine rg_load 13 (some 36) (.agg #[kv, vv]) 65 7 (w.heap.size) (0) (by kernel_rfl) (by kernel_rfl) (by kernel_rfl) (fun w' h => ld_e h.2.1 h.2.2) (fun _ _ _ h => h) hS ?_
    refine rg_ready [11, 14] (by kernel_rfl) (by simp) ?_
    refine ar_val 11 (some 34) (.slice (some ⟨p.b, 0, none⟩) m p.c) _ (by kernel_rfl) (run_lp 33 (by kernel_rfl) (by kernel_rfl) (ld_p cGd)) hS ?_ (ar_val 14 (some 37) (.slice (some ⟨w0.heap.size, 0, none⟩) 1 1) _ (by kernel_rfl) (run_bs (k := 36) (by kernel_rfl) (by kernel_rfl)) hS1 ?_ ar_nil)
    · refine rg_ready [14] (by kernel_rfl) (by simp) ?_
      refine ar_val 14 (some 37) (.slice (some ⟨w0.heap.size, 0, none⟩) 1 1) _ (by kernel_rfl) (run_bs (k := 36) (by kernel_rfl) (by kernel_rfl)) hS1 ?_ ar_nil
      refine rg_call 15 (some 38) 46 #[.slice (some ⟨p.b, 0, none⟩) m p.c, .int .i64 q, .slice (some ⟨w0.heap.size, 0, none⟩) 1 1] (by kernel_rfl) (by kernel_rfl) t1 ?_
      rintro e' w2 ⟨b2, c2, rfl, hb2, R2, C2⟩
      rw [← hw1.out] at C2 hb2
      have cg2 : w2.cell? ⟨g, 0, none⟩ = _ := (World.cell?_of_block (a := ⟨g, 0, none⟩) (C2.same g (cell_lt hcg1) ng)).trans hcg1
      have x02 : w2.cell? ⟨w.heap.size, 0, none⟩ = _ := (World.cell?_of_block (a := ⟨w.heap.size, 0, none⟩) (C2.same _ (cell_lt hx01) nx)).trans hx01
      have x12 : w2.cell? ⟨w.heap.size, 1, none⟩ = _ := (World.cell?_of_block (a := ⟨w.heap.size, 1, none⟩) (C2.same _ (cell_lt hx11) nx)).trans hx11
      have cG2 : w2.cell? ⟨G, i, none⟩ = _ := (World.cell?_of_block (a := ⟨G, i, none⟩) (C2.same _ (cell_lt hcG1) nG)).trans hcG1
      have fG2 : w2.frozen? ⟨G, i, none⟩ = false := ((hR.keep B1).chg C2 nG).free i
      refine ⟨_, rfl, ⟨cg2, x02, x12⟩, ?_⟩
      replace hS := (show _ ∧ _ ∧ _ from ⟨cg2, x02, x12⟩)
      refine rg_take 16 (some 39) (.pointer (some ⟨G, i, none⟩)) (by kernel_rfl) (fun _ _ => run_ix (x := 26) (y := 27) (n := n) (c := C) (by kernel_rfl) hpp (by kernel_rfl) (by kernel_rfl) (rfl) (hin)) (fun _ _ _ h => h) hS ?_
      refine rg_ready [17] (by kernel_rfl) (by simp) ?_
      refine ar_void 17 (w2.setCell ⟨G, i, none⟩ (.slice (some ⟨b2, 0, none⟩) (m + 1) c2)) (by kernel_rfl) (run_sp 39 38 (by kernel_rfl) (by kernel_rfl) (by kernel_rfl) cG2 fG2) ⟨cell_off hgG cg2, cell_off hxG x02, cell_off hxG x12⟩ ?_ ar_nil
      refine rg_done (by kernel_rfl) ?_
      exact ⟨(b2, c2), by kernel_rfl, w2, rfl, hb2, R2, C2⟩
    · refine rg_ready [11] (by kernel_rfl) (by simp) ?_
      refine ar_val 11 (some 34) (.slice (some ⟨p.b, 0, none⟩) m p.c) _ (by kernel_rfl) (run_lp 33 (by kernel_rfl) (by kernel_rfl) (ld_p hcG1')) hS1 ?_ ar_nil
      refine rg_call 15 (some 38) 46 #[.slice (some ⟨p.b, 0, none⟩) m p.c, .int .i64 q, .slice (some ⟨w0.heap.size, 0, none⟩) 1 1] (by kernel_rfl) (by kernel_rfl) t1 ?_
      rintro e' w2 ⟨b2, c2, rfl, hb2, R2, C2⟩
      rw [← hw1.out] at C2 hb2
      have cg2 : w2.cell? ⟨g, 0, none⟩ = _ := (World.cell?_of_block (a := ⟨g, 0, none⟩) (C2.same g (cell_lt hcg1) ng)).trans hcg1
      have x02 : w2.cell? ⟨w.heap.size, 0, none⟩ = _ := (World.cell?_of_block (a := ⟨w.heap.size, 0, none⟩) (C2.same _ (cell_lt hx01) nx)).trans hx01
      have x12 : w2.cell? ⟨w.heap.size, 1, none⟩ = _ := (World.cell?_of_block (a := ⟨w.heap.size, 1, none⟩) (C2.same _ (cell_lt hx11) nx)).trans hx11
      have cG2 : w2.cell? ⟨G, i, none⟩ = _ := (World.cell?_of_block (a := ⟨G, i, none⟩) (C2.same _ (cell_lt hcG1) nG)).trans hcG1
      have fG2 : w2.frozen? ⟨G, i, none⟩ = false := ((hR.keep B1).chg C2 nG).free i
      refine ⟨_, rfl, ⟨cg2, x02, x12⟩, ?_⟩
      replace hS := (show _ ∧ _ ∧ _ from ⟨cg2, x02, x12⟩)
      refine rg_take 16 (some 39) (.pointer (some ⟨G, i, none⟩)) (by kernel_rfl) (fun _ _ => run_ix (x := 26) (y := 27) (n := n) (c := C) (by kernel_rfl) hpp (by kernel_rfl) (by kernel_rfl) (rfl) (hin)) (fun _ _ _ h => h) hS ?_
      refine rg_ready [17] (by kernel_rfl) (by simp) ?_
      refine ar_void 17 (w2.setCell ⟨G, i, none⟩ (.slice (some ⟨b2, 0, none⟩) (m + 1) c2)) (by kernel_rfl) (run_sp 39 38 (by kernel_rfl) (by kernel_rfl) (by kernel_rfl) cG2 fG2) ⟨cell_off hgG cg2, cell_off hxG x02, cell_off hxG x12⟩ ?_ ar_nil
      refine rg_done (by kernel_rfl) ?_
      exact ⟨(b2, c2), by kernel_rfl, w2, rfl, hb2, R2, C2⟩
  -- BEHIND IT
  rintro ⟨b2, c2⟩ w' ⟨w2, rfl, hb2, R2, C2⟩
  dsimp only at hb2 R2
  simp only [putAll, Act.put, List.setIfInBounds_toArray, List.set_cons_zero, List.set_cons_succ]
  have cg2 : w2.cell? ⟨g, 0, none⟩ = _ := (World.cell?_of_block (a := ⟨g, 0, none⟩) (C2.same g (cell_lt hcg1) ng)).trans hcg1
  have cG2 : w2.cell? ⟨G, i, none⟩ = _ := (World.cell?_of_block (a := ⟨G, i, none⟩) (C2.same _ (by exact (hR.keep B1).lt) nG)).trans hcG1
  have C02 : Chg (· = p.b) w0 w2 := (Chg.of (F := (· = p.b)) B1).trans C2 (fun _ _ h => h)
  obtain ⟨p', hp'⟩ : ∃ p' : Pg, Hid (p' = ⟨b2, c2, p.es.take q ++ [(⟨kv, kl, vv, vl⟩ : En)] ++ p.es.drop q⟩) := ⟨_, rfl⟩
  have hlen : (p.es.take q ++ [(⟨kv, kl, vv, vl⟩ : En)] ++ p.es.drop q).length = m + 1 := by have := hmm.out; simp; omega
  have hoff : ∀ e, EnA w D e → EnA w2 D e := fun e he => ((he.keep B0).keep B1).off fun b hb hk => C2.same b hb fun f => by
    subst f
    obtain ⟨cs, k⟩ := hk
    obtain ⟨ds, k'⟩ := (hp.1.row.keep B1).kind
    exact blk_ne k k' (by decide) rfl
  have hA' : PgA w2 D p' := by
    rw [hp'.out]
    refine ⟨?_, fun e he => ?_⟩
    · show Rw w2 _ 2 b2 (p.es.take q ++ [(⟨kv, kl, vv, vl⟩ : En)] ++ p.es.drop q).length c2 _
      rw [hlen]; exact R2.to (ins_flat p.es q ⟨kv, kl, vv, vl⟩)
    · rcases List.mem_append.1 he with h | h
      · rcases List.mem_append.1 h with h | h
        · exact hoff e ((A.pages p (List.mem_of_getElem? hi)).1.ents e (List.mem_of_mem_take h))
        · simp at h; subst h; exact hoff _ hE
      · exact hoff e ((A.pages p (List.mem_of_getElem? hi)).1.ents e (List.mem_of_mem_drop h))
  have hv' : p'.v = .slice (some ⟨b2, 0, none⟩) (m + 1) c2 := by rw [hp'.out]; simp only [Pg.v]; rw [hlen]
  have hb' : p'.b = b2 := by rw [hp'.out]
  have he' : p'.es = p.es.take q ++ [⟨kv, kl, vv, vl⟩] ++ p.es.drop q := by rw [hp'.out]
  obtain ⟨A3, C3⟩ := A0.put (p' := p') (D' := D) hg hFg hFG hR hi C02 (by rw [hb']; exact hb2.imp id (fun h => Nat.le_trans B1.size h)) hA' (fun _ _ h => h)
  rw [hv', hb'] at A3
  rw [hv'] at C3
  have C03 := (Chg.of (F := F) B0).trans C3 (fun _ _ h => h)
  have hF3 : ∀ b, ((F b ∧ b ≠ p.b) ∨ b = b2) → F b ∨ w.heap.size ≤ b := fun b h => by
    have h0 := B0.size
    have h1 := B1.size
    rcases h with h | h
    · exact .inl h.1
    · subst h
      rcases hb2 with h | h
      · rw [h]; exact .inl hp.2
      · exact .inr (by omega)
  have cg3 : (w2.setCell ⟨G, i, none⟩ (.slice (some ⟨b2, 0, none⟩) (m + 1) c2)).cell? ⟨g, 0, none⟩ = some (.slice (some ⟨G, 0, none⟩) n C) := cell_off hgG cg2
  have cG3 : (w2.setCell ⟨G, i, none⟩ (.slice (some ⟨b2, 0, none⟩) (m + 1) c2)).cell? ⟨G, i, none⟩ = some (.slice (some ⟨b2, 0, none⟩) (m + 1) c2) := World.cell?_setCell_same' _ _ _ (by rw [cG2]; rfl)
  generalize (w2.setCell ⟨G, i, none⟩ (.slice (some ⟨b2, 0, none⟩) (m + 1) c2)) = W3 at *
  generalize hF3d : (fun x => (F x ∧ x ≠ p.b) ∨ x = b2) = F3 at A3
  have hF3' : ∀ b, F3 b → F b ∨ w.heap.size ≤ b := fun b h => hF3 b (by rw [← hF3d] at h; exact h)
  have hi3 : (L.set i p')[i]? = some p' := by rw [List.getElem?_set_self hil]
  by_cases hbig : 32 < m + 1
  · have hbi : (32 : Int) < (m : Int) + 1 := by omega
    have t5 := split_any A3 hi3 (by rw [he', hlen]; omega) (by rw [he', hlen]; have := hmm.out; omega) (by rw [List.length_set]; exact hn)
    go_wp2_with (go_at_call 47; refine t5.mono ?_; rintro e' w6 ⟨F6, p1, p2, rfl, e1, e2, A6, hF6, C6⟩)
    go_end0
    refine ⟨F6, _, rfl, ?_, A6, fun b hb => ?_, C03.trans C6 fun b hb h => (hF3' b h).resolve_right (by omega)⟩
    · unfold insQ
      rw [ens_getD hi, ← he', if_pos (by rw [he', hlen]; exact hbig)]
      simp only [ens, List.map_append, List.map_take, List.map_drop, List.map_cons, List.map_nil, List.map_set, e1, e2]
      rw [List.take_set_of_le (Nat.le_refl _), List.drop_set_of_lt (by omega)]
    · rcases hF6 b hb with h | h
      · exact hF3' b h
      · exact .inr (by have := C03.size; omega)
  · have hbi : ¬ ((32 : Int) < (m : Int) + 1) := by omega
    go_wp2
    go_end0
    refine ⟨rfl, F3, _, ?_, A3, hF3', C03⟩
    unfold insQ
    rw [ens_getD hi, ← he', if_neg (by rw [he', hlen]; exact hbig), ens_set]
end Pg
end Go.Proofs.Ytjnjkgakdnjlmaa

namespace Go.Proofs.Ytjnjkgakdnjlmaa
namespace Pg
open Go.RowKit Go.Lib
/-- a page without memory is added to a list of pages -/
theorem app_page {w : World} {F D : Nat → Prop} {g : Nat} (A : MapA w F D g []) {pv : Value} (hpv : w.cell? ⟨g, 0, none⟩ = some pv) {w1 : World} (B1 : Below w.heap.size w w1) {vb : Nat} (V : Blk w1 vb [.slice none 0 0] 66) :
    ∃ b' c' w', (Builtin.append_ #[59, 59] 59 #[pv, .slice (some ⟨vb, 0, none⟩) 1 1]).run Try.prog w1 = .ok (.slice (some ⟨b', 0, none⟩) 1 c') w' ∧ (F b' ∨ w.heap.size ≤ b') ∧ Rw w' 66 1 b' 1 c' [.slice none 0 0] ∧ Chg F w1 w' ∧ b' ≠ g ∧ (∀ b cs, Blk w1 b cs 61 ∨ Blk w1 b cs 65 → Blk w' b cs 61 ∨ Blk w' b cs 65) ∧ (Blk w g [pv] 61 ∧ F g ∧ Blk w' g [pv] 61) := by
  obtain ⟨pv', hb, hg, h⟩ := A.top
  have e := hb.cell (i := 0) rfl
  rw [hpv] at e
  cases e
  have hb1 := hb.keep B1
  rcases h with ⟨rfl, _⟩ | ⟨G, C, rfl, hG, hR⟩
  · obtain ⟨c', W, hr, hR', hC⟩ := app_nil (w := w1) KP 59 ⟨vb, 0, none⟩ 1 1 [.slice none 0 0] rfl (fun j u hj => by rw [Addr.add_lit, Nat.zero_add]; exact V.cell hj) (by decide) (by decide) (by decide)
    refine ⟨_, c', W, hr, .inr B1.size, hR', Chg.of hC, ?_, fun b cs h => h.imp (fun k => k.keep hC) (fun k => k.keep hC), hb, hg, hb1.keep hC⟩
    have := hb1.lt
    omega
  · have hR1 := hR.keep B1
    obtain ⟨b', c', W, hr, hb', hR', hC⟩ := app_row KP 59 hR1 ⟨vb, 0, none⟩ 1 1 [.slice none 0 0] rfl (fun j u hj => by rw [Addr.add_lit, Nat.zero_add]; exact V.cell hj) (by simp [Value.oneCell']) (by simp) (by simp)
    have hnG : ∀ b cs, Blk w1 b cs 61 ∨ Blk w1 b cs 65 → b ≠ G := fun b cs h => by
      obtain ⟨ds, k'⟩ := hR1.kind
      rcases h with k | k
      · exact blk_ne k k' (by decide)
      · exact blk_ne k k' (by decide)
    have hgG := hnG g _ (.inl hb1)
    refine ⟨b', c', W, hr, ?_, hR', hC.mono (fun b _ e => by subst e; exact hG), ?_, fun b cs h => h.imp (fun k => k.chg hC (hnG b cs h)) (fun k => k.chg hC (hnG b cs h)), hb, hg, hb1.chg hC hgG⟩
    · rcases hb' with h | h
      · rw [h]; exact .inl hG
      · rw [h]; exact .inr B1.size
    · rcases hb' with h | h
      · rw [h]; exact fun e => hgG e.symm
      · have := hb1.lt; omega
set_option maxHeartbeats 4000000 in
set_option maxRecDepth 100000 in
theorem insert_empty {w : World} {F D : Nat → Prop} {g : Nat} {e : En} (A : MapA w F D g []) (hE : EnA w D e) :
    Calls Try.prog 34 #[.pointer (some ⟨g, 0, none⟩), .int .i64 0, .int .i64 0, .agg #[e.kv, e.vv]] w fun e' w' => ∃ F' L', e' = .returned (.tuple #[]) ∧ ens L' = [[e]] ∧ MapA w' F' D g L' ∧ (∀ b, F' b → F b ∨ w.heap.size ≤ b) ∧ Chg F w w' := by
  obtain ⟨kv, kl, vv, vl⟩ := e
  have B0 := below_alloc w (.cells #[kv, vv] 65)
  have X0 := blk_new w [kv, vv] 65
  obtain ⟨ao, c, hc, hc1, hc2, hat⟩ := A.rd
  simp only [List.length_nil] at hc hc1
  have hgl := cell_lt hc
  obtain ⟨w1, hw1⟩ : ∃ w1, Hid (w1 = (w.alloc (.cells #[kv, vv] 65)).alloc (.cells #[.slice none 0 0] 66)) := ⟨_, rfl⟩
  have B1 : Below w.heap.size w w1 := by rw [hw1.out]; exact joinB B0 (below_alloc _ _)
  have V1 : Blk w1 (w.heap.size + 1) [.slice none 0 0] 66 := by
    have := blk_new (w.alloc (.cells #[kv, vv] 65)) [.slice none 0 0] 66
    rw [World.size_alloc] at this
    rw [hw1.out]; exact this
  have X1 : Blk w1 w.heap.size [kv, vv] 65 := by rw [hw1.out]; exact X0.keep (below_alloc _ _)
  obtain ⟨G, C, w2, hr, hFG, R2, C2, hGg, hkp, hgb, hFg, hg2⟩ := app_page A hc B1 V1
  have X2 : Blk w2 w.heap.size [kv, vv] 65 := X1.chg C2 (fun f => by have := A.lt f; omega)
  have hg3 := hg2.setCell (i := 0) (.slice (some ⟨G, 0, none⟩) 1 C)
  have R3 : Rw (w2.setCell ⟨g, 0, none⟩ (.slice (some ⟨G, 0, none⟩) 1 C)) 66 1 G 1 C [.slice none 0 0] := R2.same (Below.heap_setCell w2 _ _ _ hGg)
  have X3 : Blk (w2.setCell ⟨g, 0, none⟩ (.slice (some ⟨G, 0, none⟩) 1 C)) w.heap.size [kv, vv] 65 := X2.off (by omega) _
  have hoff3 : ∀ e, EnA w D e → EnA (w2.setCell ⟨g, 0, none⟩ (.slice (some ⟨G, 0, none⟩) 1 C)) D e := fun e he => (he.keep B1).off fun b hb hk => by
    obtain ⟨cs, k⟩ := hk
    have n1 : b ≠ g := blk_ne k (hgb.keep B1) (by decide)
    rw [Below.heap_setCell w2 _ _ b n1]
    refine C2.same b hb fun f => A.noU f cs ?_
    exact ⟨by rw [← B1.block b (A.lt f)]; exact k.blk⟩
  have c2g := hg2.cell (i := 0) rfl
  have f2g := hg2.free 0
  have hsz3 : w.heap.size + 1 + 1 ≤ (w2.setCell ⟨g, 0, none⟩ (.slice (some ⟨G, 0, none⟩) 1 C)).heap.size := by
    have h1 := C2.size
    have h2 : w1.heap.size = w.heap.size + 1 + 1 := by rw [hw1.out]; simp
    have h3 : (w2.setCell ⟨g, 0, none⟩ (.slice (some ⟨G, 0, none⟩) 1 C)).heap.size = w2.heap.size := by simp [World.setCell]
    omega
  have C03 : Chg F w (w2.setCell ⟨g, 0, none⟩ (.slice (some ⟨G, 0, none⟩) 1 C)) := ((Chg.of (F := F) B1).trans C2 (fun _ _ h => h)).cell (.inl hFg) _
  have mixed := mixed
  obtain rfl := hw1.out
  clear hw1
  go_enter Try.func34, Try.ntmps34
  go_wp2_with (at_builtin; refine Lib.wpList_append_run _ rfl _ _ _ _ rfl _ _ rfl rfl _ _ hr ?_)
  generalize (w2.setCell ⟨g, 0, none⟩ (.slice (some ⟨G, 0, none⟩) 1 C)) = W3 at *
  have cg3 : W3.cell? ⟨g, 0, none⟩ = some (.slice (some ⟨G, 0, none⟩) 1 C) := hg3.cell (i := 0) rfl
  have x03 := X3.cell (i := 0) rfl
  have x13 := X3.cell (i := 1) rfl
  have cG3 := R3.cell (i := 0) rfl
  obtain ⟨W4, hW4⟩ : ∃ W4, Hid (W4 = W3.drew.alloc (.cells #[kv, vv] 65)) := ⟨_, rfl⟩
  have B4 : Below W3.heap.size W3 W4 := by rw [hW4.out]; exact joinB (belowD W3) (below_alloc W3.drew _)
  have V4 : Blk W4 W3.heap.size [kv, vv] 65 := by rw [hW4.out]; exact blk_new W3.drew [kv, vv] _
  have hs4 : W4.heap.size = W3.heap.size + 1 := by rw [hW4.out]; simp
  have t1 : Calls Try.prog 46 #[.slice none 0 0, .int .i64 0, .slice (some ⟨W3.heap.size, 0, none⟩) 1 1] W4 fun e w' => ∃ b2 c2, e = .returned (.slice (some ⟨b2, 0, none⟩) 1 c2) ∧ b2 = W3.heap.size + 1 ∧ Rw w' 65 2 b2 1 c2 [kv, vv] ∧ Below W4.heap.size W4 w' := (insE_nil V4).mono (by
    rintro e w' ⟨c', rfl, h1, h2⟩
    exact ⟨_, c', rfl, hs4, h1, h2⟩)
  have hcg1 : W4.cell? ⟨g, 0, none⟩ = _ := (B4.cell (p := ⟨g, 0, none⟩) (cell_lt cg3)).trans cg3
  have hx01 : W4.cell? ⟨w.heap.size, 0, none⟩ = _ := (B4.cell (p := ⟨w.heap.size, 0, none⟩) (cell_lt x03)).trans x03
  have hx11 : W4.cell? ⟨w.heap.size, 1, none⟩ = _ := (B4.cell (p := ⟨w.heap.size, 1, none⟩) (cell_lt x13)).trans x13
  have hcG1 : W4.cell? ⟨G, 0, none⟩ = _ := (B4.cell (p := ⟨G, 0, none⟩) (cell_lt cG3)).trans cG3
  have cgd : W3.drew.cell? ⟨g, 0, none⟩ = _ := cg3
  have x0d : W3.drew.cell? ⟨w.heap.size, 0, none⟩ = _ := x03
  have x1d : W3.drew.cell? ⟨w.heap.size, 1, none⟩ = _ := x13
  have cGd : W3.drew.cell? ⟨G, 0, none⟩ = _ := cG3
  have hgG : g ≠ G := fun e => hGg e.symm
  have hxG : w.heap.size ≠ G := fun e => by
    obtain ⟨ds, k⟩ := R3.kind
    exact blk_ne X3 k (by decide) e
  have hin : 0 < 1 := by decide
  have hS1 := (show _ ∧ _ ∧ _ from ⟨hcg1, hx01, hx11⟩)
  have hcG1' := hcG1
  rw [hW4.out] at hS1 hcG1' t1
  -- REGION 3
  have hpp : Try.prog.underlying 59 = some (.slice 66) := by kernel_rfl
  refine rg_mid (X := Nat × Nat) (fun x => [(some 23, .pointer (some ⟨g, 0, none⟩)), (some 24, .pointer (some ⟨g, 0, none⟩)), (some 25, .pointer (some ⟨g, 0, none⟩)), (some 26, .slice (some ⟨G, 0, none⟩) 1 C), (some 27, .int .i64 0), (some 28, .pointer (some ⟨g, 0, none⟩)), (some 29, .pointer (some ⟨g, 0, none⟩)), (some 30, .pointer (some ⟨g, 0, none⟩)), (some 31, .slice (some ⟨G, 0, none⟩) 1 C), (some 32, .int .i64 0), (some 33, .pointer (some ⟨G, 0, none⟩)), (some 34, .slice none 0 0), (some 35, .int .i64 0), (some 36, .agg #[kv, vv]), (some 37, .slice (some ⟨W3.heap.size, 0, none⟩) 1 1), (some 38, .slice (some ⟨x.1, 0, none⟩) 1 x.2), (some 39, .pointer (some ⟨G, 0, none⟩))]) (fun x w' => ∃ w2, w' = w2.setCell ⟨G, 0, none⟩ (.slice (some ⟨x.1, 0, none⟩) 1 x.2) ∧ x.1 = W3.heap.size + 1 ∧ Rw w2 65 2 x.1 1 x.2 [kv, vv] ∧ Below W4.heap.size W4 w2) (fun w' => w'.cell? ⟨g, 0, none⟩ = some (.slice (some ⟨G, 0, none⟩) 1 C) ∧ w'.cell? ⟨w.heap.size, 0, none⟩ = some kv ∧ w'.cell? ⟨w.heap.size, 1, none⟩ = some vv) (by kernel_rfl) ⟨cgd, x0d, x1d⟩ ?_ ?_
  · have hS := (show _ ∧ _ ∧ _ from ⟨cgd, x0d, x1d⟩)
    refine rg_take 0 (some 23) (.pointer (some ⟨g, 0, none⟩)) (by kernel_rfl) (fun _ _ => by kernel_rfl) (fun _ _ _ h => h) hS ?_
    refine rg_take 1 (some 24) (.pointer (some ⟨g, 0, none⟩)) (by kernel_rfl) (fun _ _ => by kernel_rfl) (fun _ _ _ h => h) hS ?_
    refine rg_take 2 (some 25) (.pointer (some ⟨g, 0, none⟩)) (by kernel_rfl) (fun _ _ => by kernel_rfl) (fun _ _ _ h => h) hS ?_
    refine rg_load 3 (some 26) (.slice (some ⟨G, 0, none⟩) 1 C) 59 25 (g) (0) (by kernel_rfl) (by kernel_rfl) (by kernel_rfl) (fun w' h => ld_pp h.1) (fun _ _ _ h => h) hS ?_
    refine rg_take 4 (some 27) (.int .i64 0) (by kernel_rfl) (fun _ _ => by kernel_rfl) (fun _ _ _ h => h) hS ?_
    refine rg_take 5 (some 28) (.pointer (some ⟨g, 0, none⟩)) (by kernel_rfl) (fun _ _ => by kernel_rfl) (fun _ _ _ h => h) hS ?_
    refine rg_take 6 (some 29) (.pointer (some ⟨g, 0, none⟩)) (by kernel_rfl) (fun _ _ => by kernel_rfl) (fun _ _ _ h => h) hS ?_
    refine rg_take 7 (some 30) (.pointer (some ⟨g, 0, none⟩)) (by kernel_rfl) (fun _ _ => by kernel_rfl) (fun _ _ _ h => h) hS ?_
    refine rg_load 8 (some 31) (.slice (some ⟨G, 0, none⟩) 1 C) 59 30 (g) (0) (by kernel_rfl) (by kernel_rfl) (by kernel_rfl) (fun w' h => ld_pp h.1) (fun _ _ _ h => h) hS ?_
    refine rg_take 9 (some 32) (.int .i64 0) (by kernel_rfl) (fun _ _ => by kernel_rfl) (fun _ _ _ h => h) hS ?_
    refine rg_take 10 (some 33) (.pointer (some ⟨G, 0, none⟩)) (by kernel_rfl) (fun _ _ => run_ix (x := 31) (y := 32) (n := 1) (c := C) (by kernel_rfl) hpp (by kernel_rfl) (by kernel_rfl) (rfl) (hin)) (fun _ _ _ h => h) hS ?_
    refine rg_take 12 (some 35) (.int .i64 0) (by kernel_rfl) (fun _ _ => by kernel_rfl) (fun _ _ _ h => h) hS ?_
    refine rg_load 13 (some 36) (.agg #[kv, vv]) 65 7 (w.heap.size) (0) (by kernel_rfl) (by kernel_rfl) (by kernel_rfl) (fun w' h => ld_e h.2.1 h.2.2) (fun _ _ _ h => h) hS ?_
    refine rg_ready [11, 14] (by kernel_rfl) (by simp) ?_
    refine ar_val 11 (some 34) (.slice none 0 0) _ (by kernel_rfl) (run_lp 33 (by kernel_rfl) (by kernel_rfl) (ld_p cGd)) hS ?_ (ar_val 14 (some 37) (.slice (some ⟨W3.heap.size, 0, none⟩) 1 1) _ (by kernel_rfl) (run_bs (k := 36) (by kernel_rfl) (by kernel_rfl)) hS1 ?_ ar_nil)
    · refine rg_ready [14] (by kernel_rfl) (by simp) ?_
      refine ar_val 14 (some 37) (.slice (some ⟨W3.heap.size, 0, none⟩) 1 1) _ (by kernel_rfl) (run_bs (k := 36) (by kernel_rfl) (by kernel_rfl)) hS1 ?_ ar_nil
      refine rg_call 15 (some 38) 46 #[.slice none 0 0, .int .i64 0, .slice (some ⟨W3.heap.size, 0, none⟩) 1 1] (by kernel_rfl) (by kernel_rfl) t1 ?_
      rintro e' w2 ⟨b2, c2, rfl, hb2, R2, C2⟩
      rw [← hW4.out] at C2
      have cg2 : w2.cell? ⟨g, 0, none⟩ = _ := (C2.cell (p := ⟨g, 0, none⟩) (cell_lt hcg1)).trans hcg1
      have x02 : w2.cell? ⟨w.heap.size, 0, none⟩ = _ := (C2.cell (p := ⟨w.heap.size, 0, none⟩) (cell_lt hx01)).trans hx01
      have x12 : w2.cell? ⟨w.heap.size, 1, none⟩ = _ := (C2.cell (p := ⟨w.heap.size, 1, none⟩) (cell_lt hx11)).trans hx11
      have cG2 : w2.cell? ⟨G, 0, none⟩ = _ := (C2.cell (p := ⟨G, 0, none⟩) (cell_lt hcG1)).trans hcG1
      have fG2 : w2.frozen? ⟨G, 0, none⟩ = false := ((R3.keep B4).keep C2).free 0
      refine ⟨_, rfl, ⟨cg2, x02, x12⟩, ?_⟩
      replace hS := (show _ ∧ _ ∧ _ from ⟨cg2, x02, x12⟩)
      refine rg_take 16 (some 39) (.pointer (some ⟨G, 0, none⟩)) (by kernel_rfl) (fun _ _ => run_ix (x := 26) (y := 27) (n := 1) (c := C) (by kernel_rfl) hpp (by kernel_rfl) (by kernel_rfl) (rfl) (hin)) (fun _ _ _ h => h) hS ?_
      refine rg_ready [17] (by kernel_rfl) (by simp) ?_
      refine ar_void 17 (w2.setCell ⟨G, 0, none⟩ (.slice (some ⟨b2, 0, none⟩) 1 c2)) (by kernel_rfl) (run_sp 39 38 (by kernel_rfl) (by kernel_rfl) (by kernel_rfl) cG2 fG2) ⟨cell_off hgG cg2, cell_off hxG x02, cell_off hxG x12⟩ ?_ ar_nil
      refine rg_done (by kernel_rfl) ?_
      exact ⟨(b2, c2), by kernel_rfl, w2, rfl, hb2, R2, C2⟩
    · refine rg_ready [11] (by kernel_rfl) (by simp) ?_
      refine ar_val 11 (some 34) (.slice none 0 0) _ (by kernel_rfl) (run_lp 33 (by kernel_rfl) (by kernel_rfl) (ld_p hcG1')) hS1 ?_ ar_nil
      refine rg_call 15 (some 38) 46 #[.slice none 0 0, .int .i64 0, .slice (some ⟨W3.heap.size, 0, none⟩) 1 1] (by kernel_rfl) (by kernel_rfl) t1 ?_
      rintro e' w2 ⟨b2, c2, rfl, hb2, R2, C2⟩
      rw [← hW4.out] at C2
      have cg2 : w2.cell? ⟨g, 0, none⟩ = _ := (C2.cell (p := ⟨g, 0, none⟩) (cell_lt hcg1)).trans hcg1
      have x02 : w2.cell? ⟨w.heap.size, 0, none⟩ = _ := (C2.cell (p := ⟨w.heap.size, 0, none⟩) (cell_lt hx01)).trans hx01
      have x12 : w2.cell? ⟨w.heap.size, 1, none⟩ = _ := (C2.cell (p := ⟨w.heap.size, 1, none⟩) (cell_lt hx11)).trans hx11
      have cG2 : w2.cell? ⟨G, 0, none⟩ = _ := (C2.cell (p := ⟨G, 0, none⟩) (cell_lt hcG1)).trans hcG1
      have fG2 : w2.frozen? ⟨G, 0, none⟩ = false := ((R3.keep B4).keep C2).free 0
      refine ⟨_, rfl, ⟨cg2, x02, x12⟩, ?_⟩
      replace hS := (show _ ∧ _ ∧ _ from ⟨cg2, x02, x12⟩)
      refine rg_take 16 (some 39) (.pointer (some ⟨G, 0, none⟩)) (by kernel_rfl) (fun _ _ => run_ix (x := 26) (y := 27) (n := 1) (c := C) (by kernel_rfl) hpp (by kernel_rfl) (by kernel_rfl) (rfl) (hin)) (fun _ _ _ h => h) hS ?_
      refine rg_ready [17] (by kernel_rfl) (by simp) ?_
      refine ar_void 17 (w2.setCell ⟨G, 0, none⟩ (.slice (some ⟨b2, 0, none⟩) 1 c2)) (by kernel_rfl) (run_sp 39 38 (by kernel_rfl) (by kernel_rfl) (by kernel_rfl) cG2 fG2) ⟨cell_off hgG cg2, cell_off hxG x02, cell_off hxG x12⟩ ?_ ar_nil
      refine rg_done (by kernel_rfl) ?_
      exact ⟨(b2, c2), by kernel_rfl, w2, rfl, hb2, R2, C2⟩
  -- BEHIND IT
  rintro ⟨b2, c4⟩ w' ⟨w4, rfl, hb2, R4, D4⟩
  dsimp only at hb2 R4
  simp only [putAll, Act.put, List.setIfInBounds_toArray, List.set_cons_zero, List.set_cons_succ]
  have hB34 : Below W3.heap.size W3 w4 := joinB B4 D4
  subst hb2
  have hg4 := (hg3.keep hB34).off hgG (i := 0) (.slice (some ⟨W3.heap.size + 1, 0, none⟩) 1 c4)
  have R5 := (R3.keep hB34).set 0 (by simp) (.slice (some ⟨W3.heap.size + 1, 0, none⟩) 1 c4)
  have hNG : W3.heap.size + 1 ≠ G := by have := R3.lt; omega
  have R6 : Rw (w4.setCell ⟨G, 0, none⟩ (.slice (some ⟨W3.heap.size + 1, 0, none⟩) 1 c4)) 65 2 (W3.heap.size + 1) 1 c4 [kv, vv] := R4.same (Below.heap_setCell w4 _ _ _ hNG)
  have E6 : EnA (w4.setCell ⟨G, 0, none⟩ (.slice (some ⟨W3.heap.size + 1, 0, none⟩) 1 c4)) D ⟨kv, kl, vv, vl⟩ := ((hoff3 _ hE).keep hB34).off fun b hb hk => by
    obtain ⟨cs, k⟩ := hk
    obtain ⟨ds, k'⟩ := (R3.keep hB34).kind
    exact Below.heap_setCell w4 _ _ b (blk_ne k k' (by decide))
  have C6 : Chg F w (w4.setCell ⟨G, 0, none⟩ (.slice (some ⟨W3.heap.size + 1, 0, none⟩) 1 c4)) := (C03.trans (Chg.of (F := F) hB34) (fun _ _ h => h)).cell hFG _
  have cg5 := hg4.cell (i := 0) rfl
  have cG5 := R5.cell (i := 0) rfl
  have hfin : MapA (w4.setCell ⟨G, 0, none⟩ (.slice (some ⟨W3.heap.size + 1, 0, none⟩) 1 c4)) (fun x => x = g ∨ x = G ∨ x = W3.heap.size + 1) D g [⟨W3.heap.size + 1, c4, [⟨kv, kl, vv, vl⟩]⟩] := by
    refine ⟨⟨_, hg4, .inl rfl, .inr ⟨G, C, rfl, .inr (.inl rfl), R5⟩⟩, fun p hp => ?_, by simp, fun b hb => ?_⟩
    · simp at hp
      subst hp
      exact ⟨⟨R6, fun e he => by simp at he; subst he; exact E6⟩, .inr (.inr rfl)⟩
    · rcases hb with rfl | rfl | rfl
      · exact ⟨_, _, hg4, by decide⟩
      · obtain ⟨ds, k⟩ := R5.kind
        exact ⟨ds, _, k, by decide⟩
      · obtain ⟨ds, k⟩ := R6.kind
        exact ⟨ds, _, k, by decide⟩
  generalize (w4.setCell ⟨G, 0, none⟩ (.slice (some ⟨W3.heap.size + 1, 0, none⟩) 1 c4)) = W6 at *
  go_wp2
  go_end0
  refine ⟨_, _, rfl, ?_, hfin, fun b hb => ?_, C6⟩
  · rfl
  · rcases hb with rfl | rfl | rfl
    · exact .inl hFg
    · exact hFG
    · exact .inr (by omega)
end Pg
end Go.Proofs.Ytjnjkgakdnjlmaa

namespace Go.Proofs.Ytjnjkgakdnjlmaa
namespace Pg
open Go.RowKit Go.Lib

/-- is the key there? -/
def has (P : List (List En)) (k : List Int) : Bool := !P.isEmpty && thr (kys (P.getD (pgi P k) [])) k
/-- what lies for a key -/
def got (P : List (List En)) (k : List Int) : List Int := ((P.getD (pgi P k) [])[plc (kys (P.getD (pgi P k) [])) k]?.map En.vl).getD []
def setQ (P : List (List En)) (e : En) : List (List En) :=
  if P = [] then [[e]]
  else
    let i := pgi P e.kl
    let es := P.getD i []
    let q := plc (kys es) e.kl
    if thr (kys es) e.kl then P.set i (es.modify q fun x => { x with vv := e.vv, vl := e.vl }) else insQ P i q e
theorem thr_get {es : List En} {k : List Int} (h : thr (kys es) k = true) : ∃ e, es[plc (kys es) k]? = some e ∧ e.kl = k := by
  simp only [thr, decide_eq_true_eq, kys, List.getElem?_map] at h
  obtain ⟨e, he, hk⟩ := Option.map_eq_some_iff.1 h
  exact ⟨e, he, hk⟩
theorem ens_ne {L : List Pg} (h : L ≠ []) : ens L ≠ [] := fun e => h (by simpa [ens] using e)
theorem at_page {L : List Pg} (h : L ≠ []) (k : List Int) : ∃ p, L[pgi (ens L) k]? = some p ∧ (ens L).getD (pgi (ens L) k) [] = p.es := by
  have := pgi_lt (ens_ne h) k
  simp only [ens, List.length_map] at this
  refine ⟨L[pgi (ens L) k]'this, List.getElem?_eq_getElem _, ?_⟩
  exact ens_getD (List.getElem?_eq_getElem _)
/-- storing what lies there already changes nothing -/
theorem set_same {w : World} {G i : Nat} {cs : List Value} {t : TypeId} {v : Value} (h : Blk w G cs t) (hi : cs[i]? = some v) (b : Nat) : (w.setCell ⟨G, i, none⟩ v).heap[b]? = w.heap[b]? := by
  by_cases e : b = G
  · subst e
    have h1 := (h.setCell (i := i) v).blk
    rw [h1, h.blk]
    have : cs.set i v = cs := by
      obtain ⟨hl, rfl⟩ := List.getElem?_eq_some_iff.1 hi
      exact List.set_getElem_self hl
    rw [this]
  · exact Below.heap_setCell w _ v b e
/-- an entry's value put anew -/
theorem MapA.upd {w w1 : World} {F D : Nat → Prop} {g i q : Nat} {L : List Pg} {p : Pg} {e : En} {u : Value} {ul : List Int} (A : MapA w F D g L) (hi : L[i]? = some p) (he : p.es[q]? = some e) (B : Below w.heap.size w w1) (hu : OB w1 (w.heap.size ≤ ·) u ul) :
    MapA (w1.setCell ⟨p.b, q * 2 + 1, none⟩ u) F (fun b => D b ∨ w.heap.size ≤ b) g (L.set i ⟨p.b, p.c, p.es.set q { e with vv := u, vl := ul }⟩) ∧ Chg F w (w1.setCell ⟨p.b, q * 2 + 1, none⟩ u) := by
  have hil := (List.getElem?_eq_some_iff.1 hi).1
  have hL : L ≠ [] := fun e => by subst e; simp at hil
  obtain ⟨G, C, hg, hFg, hFG, hR⟩ := A.opn hL
  have hp := A.pages p (List.mem_of_getElem? hi)
  have hql := (List.getElem?_eq_some_iff.1 he).1
  have hC : Chg (· = p.b) w (w1.setCell ⟨p.b, q * 2 + 1, none⟩ u) := (Chg.of (F := (· = p.b)) B).cell (.inl rfl) _
  have hoff : ∀ {v : Value} {l : List Int} {D' : Nat → Prop}, OB w1 D' v l → OB (w1.setCell ⟨p.b, q * 2 + 1, none⟩ u) D' v l := fun h => ⟨h.oct, h.ex.imp id (by
    rintro ⟨b, c, e, hd, hR'⟩
    refine ⟨b, c, e, hd, hR'.same (Below.heap_setCell w1 _ _ b ?_)⟩
    obtain ⟨ds, k⟩ := hR'.kind
    obtain ⟨ds', k'⟩ := (hp.1.row.keep B).kind
    exact blk_ne k k' (by decide))⟩
  have hrow : Rw (w1.setCell ⟨p.b, q * 2 + 1, none⟩ u) 65 2 p.b p.es.length p.c (flat (p.es.set q { e with vv := u, vl := ul })) :=
    ((hp.1.row.keep B).set (q * 2 + 1) (by rw [flat_len]; omega) u).to (flat_set_v u ul he)
  have hA : PgA (w1.setCell ⟨p.b, q * 2 + 1, none⟩ u) (fun b => D b ∨ w.heap.size ≤ b) ⟨p.b, p.c, p.es.set q { e with vv := u, vl := ul }⟩ := by
    refine ⟨by simpa using hrow, fun e' he' => ?_⟩
    obtain ⟨j, hj⟩ := List.getElem?_of_mem he'
    rw [List.getElem?_set] at hj
    by_cases ej : q = j
    · subst ej
      rw [if_pos rfl, if_pos hql] at hj
      cases hj
      have he0 := hp.1.ents e (List.mem_of_getElem? he)
      exact ⟨(hoff (he0.k.keep B)).mono (fun _ _ h => .inl h), (hoff hu).mono (fun _ _ h => .inr h)⟩
    · rw [if_neg ej] at hj
      have he0 := hp.1.ents e' (List.mem_of_getElem? hj)
      exact ⟨(hoff (he0.k.keep B)).mono (fun _ _ h => .inl h), (hoff (he0.v.keep B)).mono (fun _ _ h => .inl h)⟩
  obtain ⟨A2, C2⟩ := A.put (p' := ⟨p.b, p.c, p.es.set q { e with vv := u, vl := ul }⟩) (D' := fun b => D b ∨ w.heap.size ≤ b) hg hFg hFG hR hi hC (.inl rfl) hA (fun _ _ h => .inl h)
  have hv : (⟨p.b, p.c, p.es.set q { e with vv := u, vl := ul }⟩ : Pg).v = p.v := by simp [Pg.v]
  rw [hv] at A2 C2
  have hRG : Rw (w1.setCell ⟨p.b, q * 2 + 1, none⟩ u) 66 1 G L.length C (L.map Pg.v) := hR.chg hC (fun e => hp.1.ne_row hR e.symm)
  have hsame : ∀ b, ((w1.setCell ⟨p.b, q * 2 + 1, none⟩ u).setCell ⟨G, i, none⟩ p.v).heap[b]? = (w1.setCell ⟨p.b, q * 2 + 1, none⟩ u).heap[b]? := fun b => by
    obtain ⟨sp, h, _⟩ := hRG.ex
    exact set_same h (by rw [List.getElem?_append_left (by simpa using hil)]; simp [hi]) b
  have hFF : ∀ x, ((F x ∧ x ≠ p.b) ∨ x = p.b) ↔ F x := fun x => ⟨fun h => h.elim (fun h => h.1) (fun h => by subst h; exact hp.2), fun h => by
    by_cases ex : x = p.b
    · exact .inr ex
    · exact .inl ⟨h, ex⟩⟩
  have A3 := A2.same (w' := w1.setCell ⟨p.b, q * 2 + 1, none⟩ u) (fun b _ => (hsame b).symm) (fun b _ _ _ => (hsame b).symm)
  rw [show (fun x => (F x ∧ x ≠ p.b) ∨ x = p.b) = F from funext fun x => propext (hFF x)] at A3
  exact ⟨A3, ⟨hC.os, hC.tape, hC.output, hC.size, fun b hb hf => hC.same b hb fun e => hf (by subst e; exact hp.2)⟩⟩
set_option maxHeartbeats 2000000 in
set_option maxRecDepth 100000 in
theorem get_any {w : World} {F D : Nat → Prop} {g : Nat} {L : List Pg} {kv : Value} {k : List Int} (A : MapA w F D g L) (O : Ord (ens L)) (hs : ∀ es ∈ ens L, es.length ≤ 1000) (hn : L.length ≤ 100000000) (h : By w kv k) (hb : ∀ p ∈ L, ∀ e ∈ p.es, e.vl.length ≤ 1000000000) :
    Calls Try.prog 16 #[.pointer (some ⟨g, 0, none⟩), kv] w fun e w' => ∃ v, e = .returned (.tuple #[v, .bool (has (ens L) k)]) ∧ OB w' (w.heap.size ≤ ·) v (if has (ens L) k then got (ens L) k else []) ∧ Below w.heap.size w w' := by
  by_cases hL : L = []
  · subst hL
    have t := find_nil (v := kv) A
    have e1 : has (ens []) k = false := rfl
    rw [e1]
    clear A O hs hb h
    go_enter Try.func16, Try.ntmps16
    go_wp2_with (go_at_call 32; refine t.mono ?_; rintro e' w1 ⟨rfl, rfl⟩)
    go_ret2
    exact ⟨_, rfl, ⟨fun _ h => by simp at h, .inl ⟨rfl, rfl⟩⟩, Below.refl _ _⟩
  · obtain ⟨p, hp, hpe⟩ := at_page hL k
    have hpm := List.mem_of_getElem? hp
    have t := find_at A O h (by omega) hp (by have := hs p.es (List.mem_map.2 ⟨p, hpm, rfl⟩); omega)
    obtain ⟨G, C, hg, hFg, hFG, hR⟩ := A.opn hL
    have hlt := (List.getElem?_eq_some_iff.1 hp).1
    have hh : has (ens L) k = thr (kys p.es) k := by
      unfold has
      rw [hpe]
      have : (ens L).isEmpty = false := by simp [ens, hL]
      simp [this]
    have hg' : got (ens L) k = ((p.es)[plc (kys p.es) k]?.map En.vl).getD [] := by unfold got; rw [hpe]
    rw [hh]
    by_cases ht : thr (kys p.es) k = true
    · obtain ⟨e, he, hek⟩ := thr_get ht
      rw [he] at hg'
      simp only [Option.map_some, Option.getD_some] at hg'
      rw [ht, if_pos rfl, hg']
      rw [ht] at t
      have cg := hg.cell (i := 0) rfl
      have cG := hR.cell (i := pgi (ens L) k) (v := p.v) (by simp [hp])
      have hE := (A.pages p hpm).1.ents e (List.mem_of_getElem? he)
      have cv := (A.pages p hpm).1.row.cell (flat_v he)
      have tC : ∀ w', Below w.heap.size w w' → Calls Try.prog 33 #[e.vv] w' _ := fun w' hB => clone_any (hE.v.keep hB).by (hb p hpm e (List.mem_of_getElem? he))
      have hql := (List.getElem?_eq_some_iff.1 he).1
      generalize pgi (ens L) k = i at *
      generalize plc (kys p.es) k = q at *
      have z1 : (i : Int) < L.length := by omega
      have z2 : (q : Int) < p.es.length := by omega
      simp only [Pg.v] at cG
      generalize L.length = n at *
      generalize p.es.length = m at *
      clear A O hs hb h hR hg hE ht
      go_enter Try.func16, Try.ntmps16
      go_wp2_with (first | (go_at_call 32; refine t.mono ?_; rintro e' w1 ⟨rfl, hB⟩; have cg1 : w1.cell? ⟨g, 0, none⟩ = _ := (hB.cell (p := ⟨g, 0, none⟩) (cell_lt cg)).trans cg; have cG1 : w1.cell? ⟨G, i, none⟩ = _ := (hB.cell (p := ⟨G, i, none⟩) (cell_lt cG)).trans cG; have cv1 : w1.cell? ⟨p.b, q * 2 + 1, none⟩ = _ := (hB.cell (p := ⟨p.b, q * 2 + 1, none⟩) (cell_lt cv)).trans cv; have tC1 := tC w1 hB; clear t tC) | (go_at_call 33; refine tC1.mono ?_; rintro e' w2 ⟨v', rfl, hO, hB2⟩))
      go_ret2
      exact ⟨v', rfl, hO.mono (fun b _ hb => Nat.le_trans hB.size hb), joinB hB hB2⟩
    · have ht' : thr (kys p.es) k = false := by simpa using ht
      rw [ht'] at t ⊢
      generalize pgi (ens L) k = i at *
      generalize plc (kys p.es) k = q at *
      clear A O hs hb h hR hg ht ht' hh hg'
      go_enter Try.func16, Try.ntmps16
      go_wp2_with (go_at_call 32; refine t.mono ?_; rintro e' w1 ⟨rfl, hB⟩)
      go_ret2
      exact ⟨_, rfl, ⟨fun _ h => by simp at h, .inl ⟨rfl, rfl⟩⟩, hB⟩
end Pg
end Go.Proofs.Ytjnjkgakdnjlmaa

namespace Go.Proofs.Ytjnjkgakdnjlmaa
namespace Pg
open Go.RowKit Go.Lib
theorem modify_at {es : List En} {q : Nat} {e : En} (h : es[q]? = some e) (f : En → En) : es.modify q f = es.set q (f e) := by
  have hl := (List.getElem?_eq_some_iff.1 h).1
  apply List.ext_getElem?
  intro j
  rw [List.getElem?_modify, List.getElem?_set]
  by_cases e : q = j
  · subst e; rw [if_pos rfl, if_pos hl, h]; simp
  · rw [if_neg e]; simp [e]
theorem OB.shape {w : World} {D : Nat → Prop} {v : Value} {l : List Int} (h : OB w D v l) : ∃ ao c, v = .slice ao l.length c := by
  rcases h.ex with ⟨rfl, rfl⟩ | ⟨b, c, rfl, _⟩
  · exact ⟨none, 0, rfl⟩
  · exact ⟨_, c, rfl⟩
/-- what Set leaves -/
def SetR (w w' : World) (F D : Nat → Prop) (g : Nat) (L : List Pg) (k v : List Int) : Prop :=
  ∃ F' L' nk nv, ens L' = setQ (ens L) ⟨nk, k, nv, v⟩ ∧ MapA w' F' (fun b => D b ∨ w.heap.size ≤ b) g L' ∧ (∀ b, F' b → F b ∨ w.heap.size ≤ b) ∧ Chg F w w'
set_option maxHeartbeats 2000000 in
set_option maxRecDepth 100000 in
theorem set_there {w : World} {F D : Nat → Prop} {g : Nat} {L : List Pg} {p : Pg} {kv vv : Value} {k v : List Int} (A : MapA w F D g L) (O : Ord (ens L)) (hs : p.es.length ≤ 1000) (hn : L.length ≤ 100000000) (h : By w kv k) (hv : By w vv v) (hvl : v.length ≤ 1000000000) (hL : L ≠ []) (hp : L[pgi (ens L) k]? = some p) (hpe : (ens L).getD (pgi (ens L) k) [] = p.es) (ht : thr (kys p.es) k = true) :
    Calls Try.prog 12 #[.pointer (some ⟨g, 0, none⟩), kv, vv] w fun e w' => e = .returned (.bool false) ∧ SetR w w' F D g L k v := by
  have t := find_at A O h (by omega) hp (by omega)
  obtain ⟨G, C, hg, hFg, hFG, hR⟩ := A.opn hL
  obtain ⟨e, he, hek⟩ := thr_get ht
  have hpm := List.mem_of_getElem? hp
  have hlt := (List.getElem?_eq_some_iff.1 hp).1
  have hql := (List.getElem?_eq_some_iff.1 he).1
  have hS : ∀ u, setQ (ens L) ⟨e.kv, k, u, v⟩ = (ens L).set (pgi (ens L) k) (p.es.set (plc (kys p.es) k) { e with vv := u, vl := v }) := fun u => by
    unfold setQ
    rw [if_neg (ens_ne hL)]
    simp only [hpe]
    rw [if_pos ht, modify_at he]
  have hS : Hid _ := hS
  rw [ht] at t
  have cg := hg.cell (i := 0) rfl
  have cG := hR.cell (i := pgi (ens L) k) (v := p.v) (by simp [hp])
  have tC : ∀ w', Below w.heap.size w w' → Calls Try.prog 33 #[vv] w' _ := fun w' hB => clone_any (hv.keep hB) hvl
  have hPA := (A.pages p hpm).1
  have cv := hPA.row.cell (flat_v he)
  have fv := hPA.row.free (plc (kys p.es) k * 2 + 1)
  have n1 : g ≠ p.b := fun e => hPA.ne_map hg e.symm
  have n2 : G ≠ p.b := fun e => hPA.ne_row hR e.symm
  generalize hgi : pgi (ens L) k = i at *
  generalize hgq : plc (kys p.es) k = q at *
  have hgi : Hid _ := hgi
  have hgq : Hid _ := hgq
  have z1 : (i : Int) < L.length := by omega
  have z2 : (q : Int) < p.es.length := by omega
  simp only [Pg.v] at cG
  generalize hln : L.length = n at *
  generalize hlm : p.es.length = m at *
  have hln : Hid _ := hln
  have hlm : Hid _ := hlm
  clear ht hpe
  have mixed := mixed
  go_enter Try.func12, Try.ntmps12
  go_wp2_with (first | (go_at_call 32; refine t.mono ?_; rintro e' w1 ⟨rfl, hB⟩))
  have cg1 : w1.drew.cell? ⟨g, 0, none⟩ = some (.slice (some ⟨G, 0, none⟩) n C) := (hB.cell (p := ⟨g, 0, none⟩) (cell_lt cg)).trans cg
  have cG1 : w1.drew.cell? ⟨G, i, none⟩ = some (.slice (some ⟨p.b, 0, none⟩) m p.c) := (hB.cell (p := ⟨G, i, none⟩) (cell_lt cG)).trans cG
  have hB1 : Below w.heap.size w w1.drew := joinB hB (belowD w1)
  have tC1 := tC w1.drew hB1
  go_region_held3 (fun w' => w'.cell? ⟨g, 0, none⟩ = some (.slice (some ⟨G, 0, none⟩) n C) ∧ w'.cell? ⟨G, i, none⟩ = some (.slice (some ⟨p.b, 0, none⟩) m p.c)) (first | exact ⟨by assumption, by assumption⟩ | exact ⟨cell_off n1 (by assumption), cell_off n2 (by assumption)⟩)
    (first
    | (go_at_call 33; refine tC1.mono ?_; rintro e' w2 ⟨v', rfl, hO, hB2⟩; obtain ⟨aq, cq, rfl⟩ := hO.shape; have cg2 : w2.cell? ⟨g, 0, none⟩ = _ := (hB2.cell (p := ⟨g, 0, none⟩) (cell_lt cg1)).trans cg1; have cG2 : w2.cell? ⟨G, i, none⟩ = _ := (hB2.cell (p := ⟨G, i, none⟩) (cell_lt cG1)).trans cG1; have hB3 := joinB hB1 hB2; have cv2 : w2.cell? ⟨p.b, q * 2 + 1, none⟩ = _ := (hB3.cell (p := ⟨p.b, q * 2 + 1, none⟩) (cell_lt cv)).trans cv; have fv2 : w2.frozen? ⟨p.b, q * 2 + 1, none⟩ = false := (hPA.row.keep hB3).free _))
  all_goals (
    have hO' : OB w2 (w.heap.size ≤ ·) (.slice aq v.length cq) v := hO.mono (fun b _ hb => Nat.le_trans hB1.size hb)
    obtain ⟨A2, C2⟩ := A.upd hp he hB3 hO'
    generalize (w2.setCell ⟨p.b, q * 2 + 1, none⟩ (.slice aq v.length cq)) = W3 at *
    go_wp2
    go_ret
    exact ⟨rfl, F, _, e.kv, .slice aq v.length cq, by rw [hS.out, ens_set], A2, fun b hb => .inl hb, C2⟩)
set_option maxHeartbeats 2000000 in
set_option maxRecDepth 100000 in
theorem set_new {w : World} {F D : Nat → Prop} {g i q : Nat} {L : List Pg} {kv vv : Value} {k v : List Int} (A : MapA w F D g L) (h : By w kv k) (hv : By w vv v) (hkl : k.length ≤ 1000000000) (hvl : v.length ≤ 1000000000)
    (t : Calls Try.prog 32 #[.pointer (some ⟨g, 0, none⟩), kv] w fun e w' => e = .returned (.tuple #[.int .i64 i, .int .i64 q, .bool false]) ∧ Below w.heap.size w w')
    (tI : ∀ (w' : World) (nk nv : Value), MapA w' F (fun b => D b ∨ w.heap.size ≤ b) g L → EnA w' (fun b => D b ∨ w.heap.size ≤ b) ⟨nk, k, nv, v⟩ → Calls Try.prog 34 #[.pointer (some ⟨g, 0, none⟩), .int .i64 i, .int .i64 q, .agg #[nk, nv]] w' fun e' w'' => ∃ F' L', e' = .returned (.tuple #[]) ∧ ens L' = setQ (ens L) ⟨nk, k, nv, v⟩ ∧ MapA w'' F' (fun b => D b ∨ w.heap.size ≤ b) g L' ∧ (∀ b, F' b → F b ∨ w'.heap.size ≤ b) ∧ Chg F w' w'') :
    Calls Try.prog 12 #[.pointer (some ⟨g, 0, none⟩), kv, vv] w fun e w' => e = .returned (.bool true) ∧ SetR w w' F D g L k v := by
  have tC : ∀ w', Below w.heap.size w w' → Calls Try.prog 33 #[kv] w' _ := fun w' hB => clone_any (h.keep hB) hkl
  have tV : ∀ w', Below w.heap.size w w' → Calls Try.prog 33 #[vv] w' _ := fun w' hB => clone_any (hv.keep hB) hvl
  have mk : True := trivial
  clear h hv
  go_enter Try.func12, Try.ntmps12
  go_wp2_with (first
    | (go_at_call 32; refine t.mono ?_; rintro e' w1 ⟨rfl, hB⟩; have tC1 := tC w1 hB; clear t tC)
    | (go_at_call 33; clear mk; refine tC1.mono ?_; rintro e' w2 ⟨nk, rfl, hO, hB2⟩; have hBB := joinB hB hB2; have tV1 := tV w2 hBB; clear tC1 tV; obtain ⟨aq, cq, rfl⟩ := hO.shape)
    | (go_at_call 33; refine tV1.mono ?_; rintro e' w3 ⟨nv, rfl, hO3, hB3⟩; clear tV1; obtain ⟨ar, cr, rfl⟩ := hO3.shape; have hB0 := joinB hBB hB3; have tI1 := tI w3 _ _ ((A.keep hB0).mono (fun _ _ h => .inl h)) ⟨(hO.keep hB3).mono (fun b _ hb => .inr (Nat.le_trans hB.size hb)), hO3.mono (fun b _ hb => .inr (Nat.le_trans hBB.size hb))⟩)
    | (go_at_call 34; refine tI1.mono ?_; rintro e' w4 ⟨F', L', rfl, hE, hA, hF, hC⟩))
  go_ret
  exact ⟨rfl, F', L', _, _, hE, hA, fun b hb => (hF b hb).imp id (fun h => Nat.le_trans hB0.size h), (Chg.of (F := F) hB0).trans hC (fun _ _ h => h)⟩
/-- Set -/
theorem set_any {w : World} {F D : Nat → Prop} {g : Nat} {L : List Pg} {kv vv : Value} {k v : List Int} (A : MapA w F D g L) (O : Ord (ens L)) (hs : ∀ es ∈ ens L, es.length ≤ 32) (hn : L.length ≤ 100000000) (h : By w kv k) (hv : By w vv v) (hkl : k.length ≤ 1000000000) (hvl : v.length ≤ 1000000000) :
    Calls Try.prog 12 #[.pointer (some ⟨g, 0, none⟩), kv, vv] w fun e w' => e = .returned (.bool (!has (ens L) k)) ∧ SetR w w' F D g L k v := by
  by_cases hL : L = []
  · subst hL
    refine set_new (i := 0) (q := 0) A h hv hkl hvl ((find_nil A).mono ?_) (fun w' nk nv A' E' => (insert_empty A' E').mono ?_)
    · rintro e w' ⟨rfl, rfl⟩; exact ⟨rfl, Below.refl _ _⟩
    · rintro e w'' ⟨F', L', rfl, hE, hA, hF, hC⟩
      exact ⟨F', L', rfl, hE, hA, hF, hC⟩
  · obtain ⟨p, hp, hpe⟩ := at_page hL k
    have hpm := List.mem_of_getElem? hp
    have hps := hs p.es (List.mem_map.2 ⟨p, hpm, rfl⟩)
    have hh : has (ens L) k = thr (kys p.es) k := by
      unfold has
      rw [hpe]
      have : (ens L).isEmpty = false := by simp [ens, hL]
      simp [this]
    rw [hh]
    by_cases ht : thr (kys p.es) k = true
    · rw [ht]
      exact set_there A O (by omega) hn h hv hvl hL hp hpe ht
    · have ht' : thr (kys p.es) k = false := by simpa using ht
      have t := find_at A O h (by omega) hp (by omega)
      rw [ht'] at t ⊢
      have hql := plc_le (kys p.es) k
      simp only [kys, List.length_map] at hql
      refine set_new A h hv hkl hvl t (fun w' nk nv A' E' => (insert_any A' hp (q := plc (kys p.es) k) hql hps hn E').mono ?_)
      rintro e w'' ⟨F', L', rfl, hE, hA, hF, hC⟩
      refine ⟨F', L', rfl, ?_, hA, hF, hC⟩
      rw [hE]
      unfold setQ
      rw [if_neg (ens_ne hL)]
      simp only [hpe]
      rw [if_neg (by rw [ht']; decide)]
end Pg
end Go.Proofs.Ytjnjkgakdnjlmaa

namespace Go.Proofs.Ytjnjkgakdnjlmaa
namespace Pg
open Go.RowKit Go.Lib

/-- may page i and the one behind it become one? -/
def jnb (P : List (List En)) (i : Nat) : Bool := decide (i + 1 < P.length) && decide ((P.getD i []).length + (P.getD (i + 1) []).length ≤ 16)
/-- page i and the one behind it become one -/
def jnQ (P : List (List En)) (i : Nat) : List (List En) := P.take i ++ [P.getD i [] ++ P.getD (i + 1) []] ++ P.drop (i + 2)
set_option maxHeartbeats 1000000 in
set_option maxRecDepth 100000 in
theorem jn_neg {w : World} {v : Value} : Calls Try.prog 50 #[v, .int .i64 (-1)] w fun e w' => e = .returned (.bool false) ∧ Below w.heap.size w w' := by
  have mixed := mixed
  go_enter Try.func50, Try.ntmps50
  go_wp2
  go_region
  go_wp2
  go_ret
  exact ⟨rfl, belowD w⟩
set_option maxHeartbeats 4000000 in
set_option maxRecDepth 100000 in
theorem jn_any {w : World} {F D : Nat → Prop} {g i : Nat} {L : List Pg} (A : MapA w F D g L) (hi : i < L.length) (hn : L.length ≤ 100000000) (hs : ∀ es ∈ ens L, es.length ≤ 1000) :
    Calls Try.prog 50 #[.pointer (some ⟨g, 0, none⟩), .int .i64 i] w fun e w' => e = .returned (.bool (jnb (ens L) i)) ∧ Below w.heap.size w w' := by
  have hL : L ≠ [] := fun e => by subst e; simp at hi
  obtain ⟨G, C, hg, hFg, hFG, hR⟩ := A.opn hL
  have cg := hg.cell (i := 0) rfl
  have hel : (ens L).length = L.length := by simp [ens]
  have mixed := mixed
  have w1 : IntKind.i64.wrap ((i : Int) + 1) = (i : Int) + 1 := by rw [IntKind.wrap_i64]; omega
  have p0 : (0 : Int) ≤ (i : Int) := by omega
  by_cases h1 : i + 1 < L.length
  · obtain ⟨p, hp⟩ : ∃ p, L[i]? = some p := ⟨L[i], List.getElem?_eq_getElem hi⟩
    obtain ⟨p2, hp2⟩ : ∃ p2, L[i + 1]? = some p2 := ⟨L[i + 1], List.getElem?_eq_getElem h1⟩
    have cG := hR.cell (i := i) (v := p.v) (by simp [hp])
    have cG2 := hR.cell (i := i + 1) (v := p2.v) (by simp [hp2])
    have s1 := hs p.es (List.mem_map.2 ⟨p, List.mem_of_getElem? hp, rfl⟩)
    have s2 := hs p2.es (List.mem_map.2 ⟨p2, List.mem_of_getElem? hp2, rfl⟩)
    have hj : Hid (jnb (ens L) i = decide ((p.es.length : Int) + (p2.es.length : Int) ≤ 16)) := by
      show _ = _
      unfold jnb
      rw [hel, decide_eq_true h1, ens_getD hp, ens_getD hp2, Bool.true_and]
      congr 1
      exact propext ⟨fun h => by omega, fun h => by omega⟩
    simp only [Pg.v] at cG cG2
    generalize hln : L.length = n at *
    generalize p.es.length = x at *
    generalize p2.es.length = y at *
    have z1 : (i : Int) + 1 < n := by omega
    have z2 : (i : Int) < n := by omega
    have z3 : ((i : Int) + 1).toNat = i + 1 := by omega
    have z4 : (0 : Int) ≤ (i : Int) + 1 := by omega
    have z5 : IntKind.i64.wrap ((x : Int) + (y : Int)) = (x : Int) + (y : Int) := by rw [IntKind.wrap_i64]; omega
    have cgd : w.drew.cell? ⟨g, 0, none⟩ = some (.slice (some ⟨G, 0, none⟩) n C) := cg
    have cGd : w.drew.cell? ⟨G, i, none⟩ = some (.slice (some ⟨p.b, 0, none⟩) x p.c) := cG
    have cG2d : w.drew.cell? ⟨G, i + 1, none⟩ = some (.slice (some ⟨p2.b, 0, none⟩) y p2.c) := cG2
    clear A hs hR hg hln
    go_enter Try.func50, Try.ntmps50
    go_wp2
    have hpp : Try.prog.underlying 59 = some (.slice 66) := by kernel_rfl
    have hin : i < n := hi
    refine rg_start (S := fun w' => w'.cell? ⟨g, 0, none⟩ = some (.slice (some ⟨G, 0, none⟩) n C) ∧ w'.cell? ⟨G, i, none⟩ = some (.slice (some ⟨p.b, 0, none⟩) x p.c) ∧ w'.cell? ⟨G, i + 1, none⟩ = some (.slice (some ⟨p2.b, 0, none⟩) y p2.c)) (by kernel_rfl) ⟨cgd, cGd, cG2d⟩ ?_
    have hS := (show _ ∧ _ ∧ _ from ⟨cgd, cGd, cG2d⟩)
    -- YES
    refine rg_take 0 (some 5) (.int .i64 i) (by kernel_rfl) (fun _ _ => by kernel_rfl) (fun _ _ _ h => h) hS ?_
    refine rg_eq 1 (some 6) (.bool (decide ((0 : Int) ≤ (i : Int)))) (.bool true) (by rw [decide_eq_true p0]) (by kernel_rfl) (fun _ _ => by kernel_rfl) (fun _ _ _ h => h) hS ?_
    refine rg_take 2 (some 7) (.bool true) (by kernel_rfl) (fun _ _ => by kernel_rfl) (fun _ _ _ h => h) hS ?_
    refine rg_take 3 (some 8) (.int .i64 i) (by kernel_rfl) (fun _ _ => by kernel_rfl) (fun _ _ _ h => h) hS ?_
    refine rg_eq 4 (some 9) (.int .i64 (IntKind.i64.wrap ((i : Int) + 1))) (.int .i64 ((i : Int) + 1)) (by rw [w1]) (by kernel_rfl) (fun _ _ => by kernel_rfl) (fun _ _ _ h => h) hS ?_
    refine rg_take 5 (some 10) (.pointer (some ⟨g, 0, none⟩)) (by kernel_rfl) (fun _ _ => by kernel_rfl) (fun _ _ _ h => h) hS ?_
    refine rg_take 6 (some 11) (.pointer (some ⟨g, 0, none⟩)) (by kernel_rfl) (fun _ _ => by kernel_rfl) (fun _ _ _ h => h) hS ?_
    refine rg_take 7 (some 12) (.pointer (some ⟨g, 0, none⟩)) (by kernel_rfl) (fun _ _ => by kernel_rfl) (fun _ _ _ h => h) hS ?_
    refine rg_load 8 (some 13) (.slice (some ⟨G, 0, none⟩) n C) 59 12 (g) (0) (by kernel_rfl) (by kernel_rfl) (by kernel_rfl) (fun w' h => ld_pp h.1) (fun _ _ _ h => h) hS ?_
    refine rg_take 9 (some 14) (.int .i64 n) (by kernel_rfl) (fun _ _ => by kernel_rfl) (fun _ _ _ h => h) hS ?_
    refine rg_eq 10 (some 15) (.bool (decide ((i : Int) + 1 < (n : Int)))) (.bool true) (by rw [decide_eq_true (by omega)]) (by kernel_rfl) (fun _ _ => by kernel_rfl) (fun _ _ _ h => h) hS ?_
    refine rg_take 11 (some 16) (.bool true) (by kernel_rfl) (fun _ _ => by kernel_rfl) (fun _ _ _ h => h) hS ?_
    refine rg_take 12 (some 17) (.bool true) (by kernel_rfl) (fun _ _ => by kernel_rfl) (fun _ _ _ h => h) hS ?_
    refine rg_take 13 (some 18) (.pointer (some ⟨g, 0, none⟩)) (by kernel_rfl) (fun _ _ => by kernel_rfl) (fun _ _ _ h => h) hS ?_
    refine rg_take 14 (some 19) (.pointer (some ⟨g, 0, none⟩)) (by kernel_rfl) (fun _ _ => by kernel_rfl) (fun _ _ _ h => h) hS ?_
    refine rg_take 15 (some 20) (.pointer (some ⟨g, 0, none⟩)) (by kernel_rfl) (fun _ _ => by kernel_rfl) (fun _ _ _ h => h) hS ?_
    refine rg_load 16 (some 21) (.slice (some ⟨G, 0, none⟩) n C) 59 20 (g) (0) (by kernel_rfl) (by kernel_rfl) (by kernel_rfl) (fun w' h => ld_pp h.1) (fun _ _ _ h => h) hS ?_
    refine rg_take 17 (some 22) (.int .i64 i) (by kernel_rfl) (fun _ _ => by kernel_rfl) (fun _ _ _ h => h) hS ?_
    refine rg_take 18 (some 23) (.pointer (some ⟨G, i, none⟩)) (by kernel_rfl) (fun _ _ => run_ix (x := 21) (y := 22) (n := n) (c := C) (by kernel_rfl) hpp (by kernel_rfl) (by kernel_rfl) (rfl) (hin)) (fun _ _ _ h => h) hS ?_
    refine rg_load 19 (some 24) (.slice (some ⟨p.b, 0, none⟩) x p.c) 66 23 (G) (i) (by kernel_rfl) (by kernel_rfl) (by kernel_rfl) (fun w' h => ld_p h.2.1) (fun _ _ _ h => h) hS ?_
    refine rg_take 20 (some 25) (.int .i64 x) (by kernel_rfl) (fun _ _ => by kernel_rfl) (fun _ _ _ h => h) hS ?_
    refine rg_take 21 (some 26) (.pointer (some ⟨g, 0, none⟩)) (by kernel_rfl) (fun _ _ => by kernel_rfl) (fun _ _ _ h => h) hS ?_
    refine rg_take 22 (some 27) (.pointer (some ⟨g, 0, none⟩)) (by kernel_rfl) (fun _ _ => by kernel_rfl) (fun _ _ _ h => h) hS ?_
    refine rg_take 23 (some 28) (.pointer (some ⟨g, 0, none⟩)) (by kernel_rfl) (fun _ _ => by kernel_rfl) (fun _ _ _ h => h) hS ?_
    refine rg_load 24 (some 29) (.slice (some ⟨G, 0, none⟩) n C) 59 28 (g) (0) (by kernel_rfl) (by kernel_rfl) (by kernel_rfl) (fun w' h => ld_pp h.1) (fun _ _ _ h => h) hS ?_
    refine rg_take 25 (some 30) (.int .i64 i) (by kernel_rfl) (fun _ _ => by kernel_rfl) (fun _ _ _ h => h) hS ?_
    refine rg_eq 26 (some 31) (.int .i64 (IntKind.i64.wrap ((i : Int) + 1))) (.int .i64 ((i : Int) + 1)) (by rw [w1]) (by kernel_rfl) (fun _ _ => by kernel_rfl) (fun _ _ _ h => h) hS ?_
    refine rg_take 27 (some 32) (.pointer (some ⟨G, i + 1, none⟩)) (by kernel_rfl) (fun _ _ => run_ix (x := 29) (y := 31) (n := n) (c := C) (by kernel_rfl) hpp (by kernel_rfl) (by kernel_rfl) (show ((i : Int) + 1) = ((i + 1 : Nat) : Int) from by omega) (h1)) (fun _ _ _ h => h) hS ?_
    refine rg_load 28 (some 33) (.slice (some ⟨p2.b, 0, none⟩) y p2.c) 66 32 (G) (i + 1) (by kernel_rfl) (by kernel_rfl) (by kernel_rfl) (fun w' h => ld_p h.2.2) (fun _ _ _ h => h) hS ?_
    refine rg_take 29 (some 34) (.int .i64 y) (by kernel_rfl) (fun _ _ => by kernel_rfl) (fun _ _ _ h => h) hS ?_
    refine rg_eq 30 (some 35) (.int .i64 (IntKind.i64.wrap ((x : Int) + (y : Int)))) (.int .i64 ((x : Int) + (y : Int))) (by rw [z5]) (by kernel_rfl) (fun _ _ => by kernel_rfl) (fun _ _ _ h => h) hS ?_
    refine rg_take 31 (some 36) (.bool (decide ((x : Int) + (y : Int) ≤ 16))) (by kernel_rfl) (fun _ _ => by kernel_rfl) (fun _ _ _ h => h) hS ?_
    refine rg_take 32 (some 37) (.bool (decide ((x : Int) + (y : Int) ≤ 16))) (by kernel_rfl) (fun _ _ => by kernel_rfl) (fun _ _ _ h => h) hS ?_
    refine rg_take 33 (some 4) (.bool (decide ((x : Int) + (y : Int) ≤ 16))) (by kernel_rfl) (fun _ _ => by kernel_rfl) (fun _ _ _ h => h) hS ?_
    refine rg_done (by kernel_rfl) ?_
    simp only [Act.put, List.setIfInBounds_toArray, List.set_cons_zero, List.set_cons_succ]
    -- YES BEHIND
    go_wp2
    go_ret
    exact ⟨by rw [hj.out]; rfl, belowD w⟩
  · have hj : Hid (jnb (ens L) i = false) := by
      show _ = _
      unfold jnb
      rw [hel, decide_eq_false h1, Bool.false_and]
    generalize hln : L.length = n at *
    have z1 : ¬ ((i : Int) + 1 < n) := by omega
    have cgd : w.drew.cell? ⟨g, 0, none⟩ = some (.slice (some ⟨G, 0, none⟩) n C) := cg
    clear A hs hR hg hln
    go_enter Try.func50, Try.ntmps50
    go_wp2
    refine rg_start (S := fun w' => w'.cell? ⟨g, 0, none⟩ = some (.slice (some ⟨G, 0, none⟩) n C)) (by kernel_rfl) cgd ?_
    have hS := cgd
    -- NO
    refine rg_take 0 (some 5) (.int .i64 i) (by kernel_rfl) (fun _ _ => by kernel_rfl) (fun _ _ _ h => h) hS ?_
    refine rg_eq 1 (some 6) (.bool (decide ((0 : Int) ≤ (i : Int)))) (.bool true) (by rw [decide_eq_true p0]) (by kernel_rfl) (fun _ _ => by kernel_rfl) (fun _ _ _ h => h) hS ?_
    refine rg_take 2 (some 7) (.bool true) (by kernel_rfl) (fun _ _ => by kernel_rfl) (fun _ _ _ h => h) hS ?_
    refine rg_take 3 (some 8) (.int .i64 i) (by kernel_rfl) (fun _ _ => by kernel_rfl) (fun _ _ _ h => h) hS ?_
    refine rg_eq 4 (some 9) (.int .i64 (IntKind.i64.wrap ((i : Int) + 1))) (.int .i64 ((i : Int) + 1)) (by rw [w1]) (by kernel_rfl) (fun _ _ => by kernel_rfl) (fun _ _ _ h => h) hS ?_
    refine rg_take 5 (some 10) (.pointer (some ⟨g, 0, none⟩)) (by kernel_rfl) (fun _ _ => by kernel_rfl) (fun _ _ _ h => h) hS ?_
    refine rg_take 6 (some 11) (.pointer (some ⟨g, 0, none⟩)) (by kernel_rfl) (fun _ _ => by kernel_rfl) (fun _ _ _ h => h) hS ?_
    refine rg_take 7 (some 12) (.pointer (some ⟨g, 0, none⟩)) (by kernel_rfl) (fun _ _ => by kernel_rfl) (fun _ _ _ h => h) hS ?_
    refine rg_load 8 (some 13) (.slice (some ⟨G, 0, none⟩) n C) 59 12 (g) (0) (by kernel_rfl) (by kernel_rfl) (by kernel_rfl) (fun w' h => ld_pp h) (fun _ _ _ h => h) hS ?_
    refine rg_take 9 (some 14) (.int .i64 n) (by kernel_rfl) (fun _ _ => by kernel_rfl) (fun _ _ _ h => h) hS ?_
    refine rg_eq 10 (some 15) (.bool (decide ((i : Int) + 1 < (n : Int)))) (.bool false) (by rw [decide_eq_false (by omega)]) (by kernel_rfl) (fun _ _ => by kernel_rfl) (fun _ _ _ h => h) hS ?_
    refine rg_take 11 (some 16) (.bool false) (by kernel_rfl) (fun _ _ => by kernel_rfl) (fun _ _ _ h => h) hS ?_
    refine rg_take 12 (some 17) (.bool false) (by kernel_rfl) (fun _ _ => by kernel_rfl) (fun _ _ _ h => h) hS ?_
    refine rg_skip 13 (some 18) (by kernel_rfl) (fun _ _ _ h => h) hS ?_
    refine rg_skip 14 (some 19) (by kernel_rfl) (fun _ _ _ h => h) hS ?_
    refine rg_skip 15 (some 20) (by kernel_rfl) (fun _ _ _ h => h) hS ?_
    refine rg_skip 16 (some 21) (by kernel_rfl) (fun _ _ _ h => h) hS ?_
    refine rg_skip 17 (some 22) (by kernel_rfl) (fun _ _ _ h => h) hS ?_
    refine rg_skip 18 (some 23) (by kernel_rfl) (fun _ _ _ h => h) hS ?_
    refine rg_skip 19 (some 24) (by kernel_rfl) (fun _ _ _ h => h) hS ?_
    refine rg_skip 20 (some 25) (by kernel_rfl) (fun _ _ _ h => h) hS ?_
    refine rg_skip 21 (some 26) (by kernel_rfl) (fun _ _ _ h => h) hS ?_
    refine rg_skip 22 (some 27) (by kernel_rfl) (fun _ _ _ h => h) hS ?_
    refine rg_skip 23 (some 28) (by kernel_rfl) (fun _ _ _ h => h) hS ?_
    refine rg_skip 24 (some 29) (by kernel_rfl) (fun _ _ _ h => h) hS ?_
    refine rg_skip 25 (some 30) (by kernel_rfl) (fun _ _ _ h => h) hS ?_
    refine rg_skip 26 (some 31) (by kernel_rfl) (fun _ _ _ h => h) hS ?_
    refine rg_skip 27 (some 32) (by kernel_rfl) (fun _ _ _ h => h) hS ?_
    refine rg_skip 28 (some 33) (by kernel_rfl) (fun _ _ _ h => h) hS ?_
    refine rg_skip 29 (some 34) (by kernel_rfl) (fun _ _ _ h => h) hS ?_
    refine rg_skip 30 (some 35) (by kernel_rfl) (fun _ _ _ h => h) hS ?_
    refine rg_skip 31 (some 36) (by kernel_rfl) (fun _ _ _ h => h) hS ?_
    refine rg_take 32 (some 37) (.bool false) (by kernel_rfl) (fun _ _ => by kernel_rfl) (fun _ _ _ h => h) hS ?_
    refine rg_take 33 (some 4) (.bool false) (by kernel_rfl) (fun _ _ => by kernel_rfl) (fun _ _ _ h => h) hS ?_
    refine rg_done (by kernel_rfl) ?_
    simp only [Act.put, List.setIfInBounds_toArray, List.set_cons_zero, List.set_cons_succ]
    -- NO BEHIND
    go_wp2
    go_ret
    exact ⟨by rw [hj.out]; rfl, belowD w⟩
end Pg
end Go.Proofs.Ytjnjkgakdnjlmaa

namespace Go.Proofs.Ytjnjkgakdnjlmaa
namespace Pg
open Go.RowKit Go.Lib
theorem ens_jn {L : List Pg} {i : Nat} {p p2 q : Pg} (hp : L[i]? = some p) (hp2 : L[i + 1]? = some p2) (hq : q.es = p.es ++ p2.es) : ens ((L.set i q).take (i + 1) ++ (L.set i q).drop (i + 2)) = jnQ (ens L) i := by
  have hil := (List.getElem?_eq_some_iff.1 hp).1
  unfold jnQ
  rw [ens_getD hp, ens_getD hp2, ← hq]
  have e1 : (L.set i q).take (i + 1) = L.take i ++ [q] := by
    rw [List.take_add_one, List.take_set_of_le (Nat.le_refl _), List.getElem?_set_self hil]; rfl
  rw [e1, List.drop_set_of_lt (by omega)]
  simp [ens, List.map_take, List.map_drop]
set_option maxHeartbeats 4000000 in
set_option maxRecDepth 100000 in
theorem join_any {w : World} {F D : Nat → Prop} {g i : Nat} {L : List Pg} {p p2 : Pg} (A : MapA w F D g L) (hp : L[i]? = some p) (hp2 : L[i + 1]? = some p2) (hn : L.length ≤ 100000000) (h0 : 0 < p.es.length) (hs1 : p.es.length ≤ 1000) (hs2 : p2.es.length ≤ 1000) :
    Calls Try.prog 51 #[.pointer (some ⟨g, 0, none⟩), .int .i64 i] w fun e w' => ∃ F' L', e = .returned (.tuple #[]) ∧ ens L' = jnQ (ens L) i ∧ MapA w' F' D g L' ∧ (∀ b, F' b → F b ∨ w.heap.size ≤ b) ∧ Chg F w w' := by
  have hil := (List.getElem?_eq_some_iff.1 hp).1
  have hil2 := (List.getElem?_eq_some_iff.1 hp2).1
  have hL : L ≠ [] := fun e => by subst e; simp at hil
  obtain ⟨G, C, hg, hFg, hFG, hR⟩ := A.opn hL
  have hpA := A.pages p (List.mem_of_getElem? hp)
  have hpA2 := A.pages p2 (List.mem_of_getElem? hp2)
  have cg := hg.cell (i := 0) rfl
  have cG := hR.cell (i := i) (v := p.v) (by simp [hp])
  have cG2 := hR.cell (i := i + 1) (v := p2.v) (by simp [hp2])
  have hCC := hR.le
  simp only [maxLen] at hCC
  obtain ⟨n, hnn⟩ : ∃ n, Hid (L.length = n) := ⟨_, rfl⟩
  obtain ⟨x, hxx⟩ : ∃ m, Hid (p.es.length = m) := ⟨_, rfl⟩
  obtain ⟨y, hyy⟩ : ∃ m, Hid (p2.es.length = m) := ⟨_, rfl⟩
  simp only [Pg.v] at cG cG2
  rw [hnn.out] at cg
  rw [hxx.out] at cG
  rw [hyy.out] at cG2
  have z1 : (i : Int) < n := by have := hnn.out; omega
  have z2 : (i : Int) + 1 < n := by have := hnn.out; omega
  have w1 : IntKind.i64.wrap ((i : Int) + 1) = (i : Int) + 1 := by rw [IntKind.wrap_i64]; have := hnn.out; omega
  have z3 : ((i : Int) + 1).toNat = i + 1 := by omega
  have z4 : (0 : Int) ≤ (i : Int) + 1 := by omega
  have cgd : w.drew.cell? ⟨g, 0, none⟩ = some (.slice (some ⟨G, 0, none⟩) n C) := cg
  have cGd : w.drew.cell? ⟨G, i, none⟩ = some (.slice (some ⟨p.b, 0, none⟩) x p.c) := cG
  have cG2d : w.drew.cell? ⟨G, i + 1, none⟩ = some (.slice (some ⟨p2.b, 0, none⟩) y p2.c) := cG2
  have hgG : g ≠ G := fun e => hR.ne_map hg e.symm
  obtain ⟨W1, hW1⟩ : ∃ W1, Hid (W1 = w.drew.alloc (.cells #[.slice (some ⟨p.b, 0, none⟩) x p.c, .slice (some ⟨p2.b, 0, none⟩) y p2.c] 66)) := ⟨_, rfl⟩
  have B1 : Below w.heap.size w W1 := by rw [hW1.out]; exact joinB (belowD w) (below_alloc w.drew _)
  have V1 : Blk W1 w.heap.size [.slice (some ⟨p.b, 0, none⟩) x p.c, .slice (some ⟨p2.b, 0, none⟩) y p2.c] 66 := by rw [hW1.out]; exact blk_new w.drew _ _
  have t1 := concatE V1 ((hxx.out ▸ hpA.1.row).keep B1) ((hyy.out ▸ hpA2.1.row).keep B1) (by have := hxx.out; omega) (by have := hxx.out; omega) (by have := hyy.out; omega) hpA.1.one hpA2.1.one
  have hcg1 : W1.cell? ⟨g, 0, none⟩ = _ := (B1.cell (p := ⟨g, 0, none⟩) (cell_lt cg)).trans cg
  have hcG1 : W1.cell? ⟨G, i, none⟩ = _ := (B1.cell (p := ⟨G, i, none⟩) (cell_lt cG)).trans cG
  have hcG21 : W1.cell? ⟨G, i + 1, none⟩ = _ := (B1.cell (p := ⟨G, i + 1, none⟩) (cell_lt cG2)).trans cG2
  have hin : i < n := by have := hnn.out; omega
  have hin2 : i + 1 < n := by have := hnn.out; omega
  have hS1 := (show _ ∧ _ from ⟨hcg1, hcG21⟩)
  rw [hW1.out] at hS1 t1
  go_enter Try.func51, Try.ntmps51
  go_wp2
  -- REGION 0
  have hpp : Try.prog.underlying 59 = some (.slice 66) := by kernel_rfl
  refine rg_mid (X := Nat × Nat) (fun z => [(some 4, .pointer (some ⟨g, 0, none⟩)), (some 5, .pointer (some ⟨g, 0, none⟩)), (some 6, .pointer (some ⟨g, 0, none⟩)), (some 7, .slice (some ⟨G, 0, none⟩) n C), (some 8, .int .i64 i), (some 9, .pointer (some ⟨g, 0, none⟩)), (some 10, .pointer (some ⟨g, 0, none⟩)), (some 11, .pointer (some ⟨g, 0, none⟩)), (some 12, .slice (some ⟨G, 0, none⟩) n C), (some 13, .int .i64 i), (some 14, .pointer (some ⟨G, i, none⟩)), (some 15, .slice (some ⟨p.b, 0, none⟩) x p.c), (some 16, .pointer (some ⟨g, 0, none⟩)), (some 17, .pointer (some ⟨g, 0, none⟩)), (some 18, .pointer (some ⟨g, 0, none⟩)), (some 19, .slice (some ⟨G, 0, none⟩) n C), (some 20, .int .i64 i), (some 21, .int .i64 ((i : Int) + 1)), (some 22, .pointer (some ⟨G, i + 1, none⟩)), (some 23, .slice (some ⟨p2.b, 0, none⟩) y p2.c), (some 24, .slice (some ⟨w.heap.size, 0, none⟩) 2 2), (some 25, .slice (some ⟨z.1, 0, none⟩) (x + y) z.2), (some 26, .pointer (some ⟨G, i, none⟩))]) (fun z w' => ∃ w2, w' = w2.setCell ⟨G, i, none⟩ (.slice (some ⟨z.1, 0, none⟩) (x + y) z.2) ∧ W1.heap.size ≤ z.1 ∧ Rw w2 65 2 z.1 (x + y) z.2 (flat p.es ++ flat p2.es) ∧ Below W1.heap.size W1 w2) (fun w' => w'.cell? ⟨g, 0, none⟩ = some (.slice (some ⟨G, 0, none⟩) n C) ∧ w'.cell? ⟨G, i + 1, none⟩ = some (.slice (some ⟨p2.b, 0, none⟩) y p2.c)) (by kernel_rfl) ⟨cgd, cG2d⟩ ?_ ?_
  · have hS := (show _ ∧ _ from ⟨cgd, cG2d⟩)
    refine rg_take 0 (some 4) (.pointer (some ⟨g, 0, none⟩)) (by kernel_rfl) (fun _ _ => by kernel_rfl) (fun _ _ _ h => h) hS ?_
    refine rg_take 1 (some 5) (.pointer (some ⟨g, 0, none⟩)) (by kernel_rfl) (fun _ _ => by kernel_rfl) (fun _ _ _ h => h) hS ?_
    refine rg_take 2 (some 6) (.pointer (some ⟨g, 0, none⟩)) (by kernel_rfl) (fun _ _ => by kernel_rfl) (fun _ _ _ h => h) hS ?_
    refine rg_load 3 (some 7) (.slice (some ⟨G, 0, none⟩) n C) 59 6 (g) (0) (by kernel_rfl) (by kernel_rfl) (by kernel_rfl) (fun w' h => ld_pp h.1) (fun _ _ _ h => h) hS ?_
    refine rg_take 4 (some 8) (.int .i64 i) (by kernel_rfl) (fun _ _ => by kernel_rfl) (fun _ _ _ h => h) hS ?_
    refine rg_take 5 (some 9) (.pointer (some ⟨g, 0, none⟩)) (by kernel_rfl) (fun _ _ => by kernel_rfl) (fun _ _ _ h => h) hS ?_
    refine rg_take 6 (some 10) (.pointer (some ⟨g, 0, none⟩)) (by kernel_rfl) (fun _ _ => by kernel_rfl) (fun _ _ _ h => h) hS ?_
    refine rg_take 7 (some 11) (.pointer (some ⟨g, 0, none⟩)) (by kernel_rfl) (fun _ _ => by kernel_rfl) (fun _ _ _ h => h) hS ?_
    refine rg_load 8 (some 12) (.slice (some ⟨G, 0, none⟩) n C) 59 11 (g) (0) (by kernel_rfl) (by kernel_rfl) (by kernel_rfl) (fun w' h => ld_pp h.1) (fun _ _ _ h => h) hS ?_
    refine rg_take 9 (some 13) (.int .i64 i) (by kernel_rfl) (fun _ _ => by kernel_rfl) (fun _ _ _ h => h) hS ?_
    refine rg_take 10 (some 14) (.pointer (some ⟨G, i, none⟩)) (by kernel_rfl) (fun _ _ => run_ix (x := 12) (y := 13) (n := n) (c := C) (by kernel_rfl) hpp (by kernel_rfl) (by kernel_rfl) (rfl) (hin)) (fun _ _ _ h => h) hS ?_
    refine rg_take 12 (some 16) (.pointer (some ⟨g, 0, none⟩)) (by kernel_rfl) (fun _ _ => by kernel_rfl) (fun _ _ _ h => h) hS ?_
    refine rg_take 13 (some 17) (.pointer (some ⟨g, 0, none⟩)) (by kernel_rfl) (fun _ _ => by kernel_rfl) (fun _ _ _ h => h) hS ?_
    refine rg_take 14 (some 18) (.pointer (some ⟨g, 0, none⟩)) (by kernel_rfl) (fun _ _ => by kernel_rfl) (fun _ _ _ h => h) hS ?_
    refine rg_load 15 (some 19) (.slice (some ⟨G, 0, none⟩) n C) 59 18 (g) (0) (by kernel_rfl) (by kernel_rfl) (by kernel_rfl) (fun w' h => ld_pp h.1) (fun _ _ _ h => h) hS ?_
    refine rg_take 16 (some 20) (.int .i64 i) (by kernel_rfl) (fun _ _ => by kernel_rfl) (fun _ _ _ h => h) hS ?_
    refine rg_eq 17 (some 21) (.int .i64 (IntKind.i64.wrap ((i : Int) + 1))) (.int .i64 ((i : Int) + 1)) (by rw [w1]) (by kernel_rfl) (fun _ _ => by kernel_rfl) (fun _ _ _ h => h) hS ?_
    refine rg_take 18 (some 22) (.pointer (some ⟨G, i + 1, none⟩)) (by kernel_rfl) (fun _ _ => run_ix (x := 19) (y := 21) (n := n) (c := C) (by kernel_rfl) hpp (by kernel_rfl) (by kernel_rfl) (show ((i : Int) + 1) = ((i + 1 : Nat) : Int) from by omega) (hin2)) (fun _ _ _ h => h) hS ?_
    refine rg_load 19 (some 23) (.slice (some ⟨p2.b, 0, none⟩) y p2.c) 66 22 (G) (i + 1) (by kernel_rfl) (by kernel_rfl) (by kernel_rfl) (fun w' h => ld_p h.2) (fun _ _ _ h => h) hS ?_
    refine rg_ready [11] (by kernel_rfl) (by simp) ?_
    refine ar_val 11 (some 15) (.slice (some ⟨p.b, 0, none⟩) x p.c) _ (by kernel_rfl) (run_lp 14 (by kernel_rfl) (by kernel_rfl) (ld_p cGd)) hS ?_ ar_nil
    refine rg_ready [20] (by kernel_rfl) (by simp) ?_
    refine ar_val 20 (some 24) (.slice (some ⟨w.heap.size, 0, none⟩) 2 2) _ (by kernel_rfl) (run_bs2 (x := 15) (y := 23) (by kernel_rfl) (by kernel_rfl) (by kernel_rfl)) hS1 ?_ ar_nil
    refine rg_call 21 (some 25) 61 #[.slice (some ⟨w.heap.size, 0, none⟩) 2 2] (by kernel_rfl) (by kernel_rfl) t1 ?_
    rintro e' w2 ⟨b2, c2, rfl, hb2, R2, D2⟩
    rw [← hW1.out] at D2 hb2
    have cg2 : w2.cell? ⟨g, 0, none⟩ = _ := (D2.cell (p := ⟨g, 0, none⟩) (cell_lt hcg1)).trans hcg1
    have cGi2 : w2.cell? ⟨G, i, none⟩ = _ := (D2.cell (p := ⟨G, i, none⟩) (cell_lt hcG1)).trans hcG1
    have cGj2 : w2.cell? ⟨G, i + 1, none⟩ = _ := (D2.cell (p := ⟨G, i + 1, none⟩) (cell_lt hcG21)).trans hcG21
    have fG2 : w2.frozen? ⟨G, i, none⟩ = false := ((hR.keep B1).keep D2).free i
    refine ⟨_, rfl, ⟨cg2, cGj2⟩, ?_⟩
    replace hS := (show _ ∧ _ from ⟨cg2, cGj2⟩)
    refine rg_take 22 (some 26) (.pointer (some ⟨G, i, none⟩)) (by kernel_rfl) (fun _ _ => run_ix (x := 7) (y := 8) (n := n) (c := C) (by kernel_rfl) hpp (by kernel_rfl) (by kernel_rfl) (rfl) (hin)) (fun _ _ _ h => h) hS ?_
    refine rg_ready [23] (by kernel_rfl) (by simp) ?_
    refine ar_void 23 (w2.setCell ⟨G, i, none⟩ (.slice (some ⟨b2, 0, none⟩) (x + y) c2)) (by kernel_rfl) (run_sp 26 25 (by kernel_rfl) (by kernel_rfl) (by kernel_rfl) cGi2 fG2) ⟨cell_off hgG cg2, cell_far (by omega) cGj2⟩ ?_ ar_nil
    refine rg_done (by kernel_rfl) ?_
    exact ⟨(b2, c2), by kernel_rfl, w2, rfl, hb2, R2, D2⟩
  -- BEHIND IT
  rintro ⟨b2, c2⟩ w' ⟨w2, rfl, hb2, R2, D2⟩
  dsimp only at hb2 R2
  simp only [putAll, Act.put, List.setIfInBounds_toArray, List.set_cons_zero, List.set_cons_succ]
  have hB2 : Below w.heap.size w w2 := joinB B1 D2
  obtain ⟨q, hq⟩ : ∃ q : Pg, Hid (q = ⟨b2, c2, p.es ++ p2.es⟩) := ⟨_, rfl⟩
  have hlen : (p.es ++ p2.es).length = x + y := by rw [List.length_append, hxx.out, hyy.out]
  have hA' : PgA w2 D q := by
    rw [hq.out]
    refine ⟨?_, fun e he => ?_⟩
    · show Rw w2 _ 2 b2 (p.es ++ p2.es).length c2 _
      rw [hlen, flat_append]; exact R2
    · rcases List.mem_append.1 he with h | h
      · exact (hpA.1.ents e h).keep hB2
      · exact (hpA2.1.ents e h).keep hB2
  have hv' : q.v = .slice (some ⟨b2, 0, none⟩) (x + y) c2 := by rw [hq.out]; simp only [Pg.v]; rw [hlen]
  have hqb : q.b = b2 := by rw [hq.out]
  have hqe : q.es = p.es ++ p2.es := by rw [hq.out]
  obtain ⟨A3, C3⟩ := A.put (p' := q) (D' := D) hg hFg hFG hR hp (Chg.of hB2) (.inr (by rw [hqb]; exact Nat.le_trans B1.size hb2)) hA' (fun _ _ h => h)
  rw [hv', hqb] at A3
  rw [hv'] at C3
  have hF3 : ∀ b, ((F b ∧ b ≠ p.b) ∨ b = b2) → F b ∨ w.heap.size ≤ b := fun b h => h.imp (fun h => h.1) (fun h => by rw [h]; exact Nat.le_trans B1.size hb2)
  have hgb3 := (hg.keep hB2).off hgG (i := i) (.slice (some ⟨b2, 0, none⟩) (x + y) c2)
  generalize (w2.setCell ⟨G, i, none⟩ (.slice (some ⟨b2, 0, none⟩) (x + y) c2)) = W3 at *
  generalize hF3d : (fun x => (F x ∧ x ≠ p.b) ∨ x = b2) = F3 at A3
  have hF3' : ∀ b, F3 b → F b ∨ w.heap.size ≤ b := fun b h => hF3 b (by rw [← hF3d] at h; exact h)
  obtain ⟨G2, D3, hg3, hFg3, hFG3, hR3⟩ := A3.opn (by simp [hL])
  obtain ⟨rfl, rfl⟩ : G2 = G ∧ D3 = C := by
    have := (hg3.eq hgb3).1
    simp at this
    exact ⟨this.1, this.2⟩
  have cg3 : W3.cell? ⟨g, 0, none⟩ = some (.slice (some ⟨G2, 0, none⟩) n D3) := by
    have := hgb3.cell (i := 0) rfl
    rwa [hnn.out] at this
  have hR3' := hR3
  rw [List.length_set, hnn.out] at hR3'
  have t4 := delP (i := i + 1) hR3' (by have := hnn.out; omega) (pv_one _)
  rw [show ((i + 1 : Nat) : Int) = (i : Int) + 1 by omega, show (i : Int) + 1 + 1 = (i : Int) + 2 by omega] at t4
  have w2' : IntKind.i64.wrap ((i : Int) + 2) = (i : Int) + 2 := by rw [IntKind.wrap_i64]; have := hnn.out; omega
  go_wp2_with (go_at_call 49; refine t4.mono ?_; rintro e' w5 ⟨rfl, R5, C5⟩; have cg5 : w5.cell? ⟨g, 0, none⟩ = _ := (World.cell?_of_block (a := ⟨g, 0, none⟩) (C5.same g (cell_lt cg3) hgG)).trans cg3; have fg5 : w5.frozen? ⟨g, 0, none⟩ = false := (hgb3.chg C5 hgG).free 0)
  go_end0
  have hsub : ((L.set i q).take (i + 1) ++ (L.set i q).drop (i + 2)).Sublist (L.set i q) := by
    have h := List.Sublist.append (List.Sublist.refl ((L.set i q).take (i + 1))) (List.drop_sublist 1 ((L.set i q).drop (i + 1)))
    rw [List.drop_drop, List.take_append_drop] at h
    exact h
  obtain ⟨A6, C6⟩ := mapA_swap (w := W3) (w1 := w5) (F := F3) (D := D) (g := g) (G := G2) (G' := G2) (C' := D3) (n := n - 1) (L' := (L.set i q).take (i + 1) ++ (L.set i q).drop (i + 2))
    (fun p hp => A3.pages p (hsub.mem hp)) (A3.apart.sublist (hsub.map _)) A3.kind hgb3 hFg3 hFG3 (fun e => hgG e.symm) C5 (fun p hp => (A3.pages p (hsub.mem hp)).1.ne_row hR3)
    (by simp; have := hnn.out; omega) (by simpa [List.map_take, List.map_drop] using R5)
  refine ⟨_, _, rfl, ens_jn hp hp2 hqe, A6, fun b hb => ?_, C3.trans C6 fun b hb h => (hF3' b h).resolve_right (by omega)⟩
  rcases hb with ⟨h, _⟩ | rfl
  · exact hF3' b h
  · exact hF3' _ hFG3
end Pg
end Go.Proofs.Ytjnjkgakdnjlmaa
