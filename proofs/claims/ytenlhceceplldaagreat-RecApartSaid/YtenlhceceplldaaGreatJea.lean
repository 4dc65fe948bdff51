/- Several texts, joined: RcA, RcZ, RcB, RcC. -/
import Derived.Test.YtenlhceceplldaaGreatJba
import Derived.Test.YtenlhceceplldaaGreatJda
import Derived.Deep.RegionHeld3
import Derived.Deep.RegionWith
namespace Go.Proofs.YtenlhceceplldaaGreat
namespace Rc
open Go.RowKit Go.Lib Pg
attribute [local go_sem] Oper.semAt_some
theorem hid3 {p : Prop} (h : p) : Hid p := h
theorem size_al (w : World) (o : Obj) : (w.alloc o).heap.size = w.heap.size + 1 := by
  show (w.heap.push o).size = _
  simp
theorem belowD' (w : World) : Below w.heap.size w w.drew := ⟨rfl, rfl, rfl, Nat.le_refl _, fun _ _ => rfl⟩
/-- what hands do with a field (kind 0: a number, 1: a truth, 2: a decimal) at a place of the record rb -/
structure HC (σ : Type) (Inv : σ → World → Prop) (G : Nat → Prop) (rb : Nat) (f1 f2 f3 : FuncId) (c : Value) (nx : Nat → Nat → σ → σ) (kd : Nat → Nat) (ok : σ → Prop) : Prop where
  oks : ∀ k o s, ok (nx k o s) → ok s
  keep : ∀ s w w', Inv s w → Below w.heap.size w w' → Inv s w'
  old : ∀ s w b, Inv s w → G b → b < w.heap.size
  e1 : ∀ args w, (callFunc f1 args).run Tryz.prog w = .ok (.enter f1 args) w
  e2 : ∀ args w, (callFunc f2 args).run Tryz.prog w = .ok (.enter f2 args) w
  e3 : ∀ args w, (callFunc f3 args).run Tryz.prog w = .ok (.enter f3 args) w
  u : ∀ s w o, Inv s w → ok (nx 0 o s) → kd o = 0 → Calls Tryz.prog f1 #[.pointer (some ⟨rb, o, none⟩), c] w fun e w' => e = .returned (.tuple #[]) ∧ Inv (nx 0 o s) w' ∧ Chg G w w'
  t : ∀ s w o, Inv s w → ok (nx 1 o s) → kd o = 1 → Calls Tryz.prog f2 #[.pointer (some ⟨rb, o, none⟩), c] w fun e w' => e = .returned (.tuple #[]) ∧ Inv (nx 1 o s) w' ∧ Chg G w w'
  d : ∀ s w o, Inv s w → ok (nx 2 o s) → kd o = 2 → Calls Tryz.prog f3 #[.pointer (some ⟨rb, o, none⟩), c] w fun e w' => e = .returned (.tuple #[]) ∧ Inv (nx 2 o s) w' ∧ Chg G w w'
theorem HC.okf {σ : Type} {Inv : σ → World → Prop} {G : Nat → Prop} {rb : Nat} {f1 f2 f3 : FuncId} {c : Value} {nx : Nat → Nat → σ → σ} {kd : Nat → Nat} {ok : σ → Prop} (H : HC σ Inv G rb f1 f2 f3 c nx kd ok) (k : Nat) (l : List Nat) : ∀ s, ok (l.foldl (fun s o => nx k o s) s) → ok s := by
  induction l with
  | nil => exact fun _ h => h
  | cons o l ih => exact fun s h => H.oks _ _ _ (ih _ h)
structure FinH (σ : Type) (Inv : σ → World → Prop) (G : Nat → Prop) (s : σ) (w : World) (e : Ending) (w' : World) : Prop where
  ret : e = .returned (.tuple #[])
  inv : Inv s w'
  chg : Chg G w w'
set_option maxHeartbeats 2000000 in
set_option maxRecDepth 100000 in
theorem numbers_any {σ : Type} {Inv : σ → World → Prop} {G : Nat → Prop} {rb sb n cc : Nat} {f1 f2 f3 : FuncId} {c : Value} {nx : Nat → Nat → σ → σ} {kd : Nat → Nat} {ok : σ → Prop} {s : σ} {offs : List Nat} {w : World} (H : HC σ Inv G rb f1 f2 f3 c nx kd ok) (hI : Inv s w) (hb : Blk w sb (offs.map fun o => .pointer (some ⟨rb, o, none⟩)) 161) (hG : ¬ G sb) (hk : ∀ o ∈ offs, kd o = 0) (hok : ok (offs.foldl (fun s o => nx 0 o s) s)) (hn : offs.length = n) (hn2 : n ≤ 1000) :
    Calls Tryz.prog 106 #[.agg #[.func (.func f1) #[] #[c], .func (.func f2) #[] #[c], .func (.func f3) #[] #[c]], .slice (some ⟨sb, 0, none⟩) n cc] w (FinH σ Inv G (offs.foldl (fun s o => nx 0 o s) s) w) := by
  have al := below_alloc w (.cells #[.func (.func f1) #[] #[c], .func (.func f2) #[] #[c], .func (.func f3) #[] #[c]] 171)
  have nb := blk_new w [.func (.func f1) #[] #[c], .func (.func f2) #[] #[c], .func (.func f3) #[] #[c]] 171
  have HH := hid3 H
  have HI := hid3 hI
  have HB := hid3 hb
  have HK := hid3 hk
  have HN := hid3 hn
  have HO := hid3 hok
  have AL := hid3 al
  have NB := hid3 nb
  have hgw : ¬ G w.heap.size := fun h => by have := H.old s w _ hI h; omega
  have HG := hid3 hG
  have HGW := hid3 hgw
  clear H hI hb hk hn al nb hG hgw hok
  go_enter Tryz.func106, Tryz.ntmps106
  go_wp2_with fail
  go_loopw [8] (fun ti wr => ∃ k : Nat, k ≤ n ∧ ti = .int .i64 k ∧ Hid (Inv ((offs.take k).foldl (fun s o => nx 0 o s) s) wr) ∧ Hid (Chg G w wr) ∧ Hid (Blk wr w.heap.size [.func (.func f1) #[] #[c], .func (.func f2) #[] #[c], .func (.func f3) #[] #[c]] 171)) (fun ti _ => n - (intOf ti).toNat)
  case atStart => exact ⟨0, Nat.zero_le _, rfl, HH.out.keep _ _ _ HI.out AL.out, Chg.of AL.out, NB.out⟩
  case round =>
    obtain ⟨k, hk, rfl, H1, H2, H3⟩ := hrel
    by_cases hlt : k < n
    · obtain ⟨o, ho⟩ : ∃ o, Hid (offs[k]? = some o) := ⟨offs[k]'(by have := HN.out; omega), List.getElem?_eq_getElem _⟩
      have hb1 := HB.out.chg H2.out HG.out
      have c1 : wr.cell? ⟨sb, k, none⟩ = some (.pointer (some ⟨rb, o, none⟩)) := hb1.cell (i := k) (by rw [List.getElem?_map, ho.out]; rfl)
      have c2 := H3.out.cell (i := 0) rfl
      have hk0 : (k : Int) < n := by omega
      have hov : ok (nx 0 o ((offs.take k).foldl (fun s o => nx 0 o s) s)) := by
        have h := HO.out
        rw [← List.take_append_drop (k + 1) offs, List.foldl_append] at h
        have h2 := HH.out.okf 0 _ _ h
        rw [List.take_add_one, ho.out, List.foldl_append] at h2
        exact h2
      have U := HH.out.u _ wr o H1.out hov (HK.out o (List.mem_of_getElem? ho.out))
      clear hb1 hov
      go_wp2_with fail
      rw [HH.out.e1]
      refine U.mono ?_
      rintro e' w3 ⟨rfl, I3, C3⟩
      go_wp2_with fail
      go_roundw
      case rel => exact ⟨k + 1, by omega, by go_num, by show Inv _ _; rw [List.take_add_one, ho.out, List.foldl_append]; exact I3, H2.out.trans C3 (fun _ _ h => h), H3.out.chg C3 HGW.out⟩
      case measure => simp [intOf]; omega
    · obtain rfl : k = n := by omega
      have hk0 : ¬ ((k : Int) < k) := by omega
      go_wp2
      go_end0
      refine ⟨rfl, ?_, H2.out⟩
      have h := H1.out
      rw [List.take_of_length_le (by have := HN.out; omega)] at h
      exact h
set_option maxHeartbeats 2000000 in
set_option maxRecDepth 100000 in
theorem decimals_any {σ : Type} {Inv : σ → World → Prop} {G : Nat → Prop} {rb sb n cc : Nat} {f1 f2 f3 : FuncId} {c : Value} {nx : Nat → Nat → σ → σ} {kd : Nat → Nat} {ok : σ → Prop} {s : σ} {offs : List Nat} {w : World} (H : HC σ Inv G rb f1 f2 f3 c nx kd ok) (hI : Inv s w) (hb : Blk w sb (offs.map fun o => .pointer (some ⟨rb, o, none⟩)) 167) (hG : ¬ G sb) (hk : ∀ o ∈ offs, kd o = 2) (hok : ok (offs.foldl (fun s o => nx 2 o s) s)) (hn : offs.length = n) (hn2 : n ≤ 1000) :
    Calls Tryz.prog 113 #[.agg #[.func (.func f1) #[] #[c], .func (.func f2) #[] #[c], .func (.func f3) #[] #[c]], .slice (some ⟨sb, 0, none⟩) n cc] w (FinH σ Inv G (offs.foldl (fun s o => nx 2 o s) s) w) := by
  have al := below_alloc w (.cells #[.func (.func f1) #[] #[c], .func (.func f2) #[] #[c], .func (.func f3) #[] #[c]] 171)
  have nb := blk_new w [.func (.func f1) #[] #[c], .func (.func f2) #[] #[c], .func (.func f3) #[] #[c]] 171
  have HH := hid3 H
  have HI := hid3 hI
  have HB := hid3 hb
  have HK := hid3 hk
  have HN := hid3 hn
  have HO := hid3 hok
  have AL := hid3 al
  have NB := hid3 nb
  have hgw : ¬ G w.heap.size := fun h => by have := H.old s w _ hI h; omega
  have HG := hid3 hG
  have HGW := hid3 hgw
  clear H hI hb hk hn al nb hG hgw hok
  go_enter Tryz.func113, Tryz.ntmps113
  go_wp2_with fail
  go_loopw [8] (fun ti wr => ∃ k : Nat, k ≤ n ∧ ti = .int .i64 k ∧ Hid (Inv ((offs.take k).foldl (fun s o => nx 2 o s) s) wr) ∧ Hid (Chg G w wr) ∧ Hid (Blk wr w.heap.size [.func (.func f1) #[] #[c], .func (.func f2) #[] #[c], .func (.func f3) #[] #[c]] 171)) (fun ti _ => n - (intOf ti).toNat)
  case atStart => exact ⟨0, Nat.zero_le _, rfl, HH.out.keep _ _ _ HI.out AL.out, Chg.of AL.out, NB.out⟩
  case round =>
    obtain ⟨k, hk, rfl, H1, H2, H3⟩ := hrel
    by_cases hlt : k < n
    · obtain ⟨o, ho⟩ : ∃ o, Hid (offs[k]? = some o) := ⟨offs[k]'(by have := HN.out; omega), List.getElem?_eq_getElem _⟩
      have hb1 := HB.out.chg H2.out HG.out
      have c1 : wr.cell? ⟨sb, k, none⟩ = some (.pointer (some ⟨rb, o, none⟩)) := hb1.cell (i := k) (by rw [List.getElem?_map, ho.out]; rfl)
      have c2 := H3.out.cell (i := 2) rfl
      have hk0 : (k : Int) < n := by omega
      have hov : ok (nx 2 o ((offs.take k).foldl (fun s o => nx 2 o s) s)) := by
        have h := HO.out
        rw [← List.take_append_drop (k + 1) offs, List.foldl_append] at h
        have h2 := HH.out.okf 2 _ _ h
        rw [List.take_add_one, ho.out, List.foldl_append] at h2
        exact h2
      have U := HH.out.d _ wr o H1.out hov (HK.out o (List.mem_of_getElem? ho.out))
      clear hb1 hov
      go_wp2_with fail
      rw [HH.out.e3]
      refine U.mono ?_
      rintro e' w3 ⟨rfl, I3, C3⟩
      go_wp2_with fail
      go_roundw
      case rel => exact ⟨k + 1, by omega, by go_num, by show Inv _ _; rw [List.take_add_one, ho.out, List.foldl_append]; exact I3, H2.out.trans C3 (fun _ _ h => h), H3.out.chg C3 HGW.out⟩
      case measure => simp [intOf]; omega
    · obtain rfl : k = n := by omega
      have hk0 : ¬ ((k : Int) < k) := by omega
      go_wp2
      go_end0
      refine ⟨rfl, ?_, H2.out⟩
      have h := H1.out
      rw [List.take_of_length_le (by have := HN.out; omega)] at h
      exact h
end Rc
end Go.Proofs.YtenlhceceplldaaGreat

namespace Go.Proofs.YtenlhceceplldaaGreat
namespace Pg
open Go.RowKit Go.Lib
section
variable {ops : Array Oper} {Q : Exit → Act → World → Prop} {S : World → Prop} {fuel : Nat} {listed : Array Bool} {a : Act} {w : World}

/-- operation i may be taken first, is wanted, and writes d -/
def rgChk (ops : Array Oper) (listed : Array Bool) (a : Act) (i : Nat) (d : Option Tmp) : Bool :=
  Region.noSelect ops && Region.free .any ops listed i && (Region.ready .any ops listed).contains i && decide (i < ops.size) && Region.wanted (ops.getD i default) (yielded ops a.tmps) && decide ((ops.getD i default).dst = d)
/-- operation i may be taken first, is passed over by its guard, and would write d -/
def rgNot (ops : Array Oper) (listed : Array Bool) (a : Act) (i : Nat) (d : Option Tmp) : Bool :=
  Region.noSelect ops && Region.free .any ops listed i && (Region.ready .any ops listed).contains i && decide (i < ops.size) && !Region.wanted (ops.getD i default) (yielded ops a.tmps) && decide ((ops.getD i default).dst = d)
/-- operation i alone may come up, is wanted, and writes d -/
def rgLone (ops : Array Oper) (listed : Array Bool) (a : Act) (i : Nat) (d : Option Tmp) : Bool :=
  decide (Region.ready .any ops listed = [i]) && decide (i < ops.size) && Region.wanted (ops.getD i default) (yielded ops a.tmps) && decide ((ops.getD i default).dst = d)
theorem at_getD {i : Nat} (h : i < ops.size) : ops[i]? = some (ops.getD i default) := by
  simp [Array.getD, h]
theorem rg_take (i : Nat) (d : Option Tmp) (v : Value) (hc : rgChk ops listed a i d = true) (hy : ∀ w', S w' → (execOp a.eval (ops.getD i default)).run Tryz.prog w' = .ok (.value v) w')
    (hQ : ∀ c a w, Q (.panic c) (a.put d v) w → Q (.panic c) a w) (hS : S w)
    (h : wpAnyH Tryz.prog .any ops Q S fuel (listed.setIfInBounds i true) (a.put d v) w) : wpAnyH Tryz.prog .any ops Q S (fuel + 1) listed a w := by
  simp only [rgChk, Bool.and_eq_true, decide_eq_true_eq] at hc
  obtain ⟨⟨⟨⟨⟨h1, h2⟩, h3⟩, h4⟩, h5⟩, h6⟩ := hc
  subst h6
  exact wpAnyH_take (at_getD h4) h1 h2 h3 hQ (.inl ⟨h5, hy⟩) hS h
theorem rg_eq (i : Nat) (d : Option Tmp) (v v' : Value) (hv : v = v') (hc : rgChk ops listed a i d = true) (hy : ∀ w', S w' → (execOp a.eval (ops.getD i default)).run Tryz.prog w' = .ok (.value v) w')
    (hQ : ∀ c a w, Q (.panic c) (a.put d v') w → Q (.panic c) a w) (hS : S w)
    (h : wpAnyH Tryz.prog .any ops Q S fuel (listed.setIfInBounds i true) (a.put d v') w) : wpAnyH Tryz.prog .any ops Q S (fuel + 1) listed a w := by
  subst hv
  exact rg_take i d v hc hy hQ hS h
theorem rg_skip (i : Nat) (d : Option Tmp) (hc : rgNot ops listed a i d = true) (hQ : ∀ c a w, Q (.panic c) (a.put d undef) w → Q (.panic c) a w) (hS : S w)
    (h : wpAnyH Tryz.prog .any ops Q S fuel (listed.setIfInBounds i true) (a.put d undef) w) : wpAnyH Tryz.prog .any ops Q S (fuel + 1) listed a w := by
  simp only [rgNot, Bool.and_eq_true, decide_eq_true_eq, Bool.not_eq_true'] at hc
  obtain ⟨⟨⟨⟨⟨h1, h2⟩, h3⟩, h4⟩, h5⟩, h6⟩ := hc
  subst h6
  exact wpAnyH_take (at_getD h4) h1 h2 h3 hQ (.inr ⟨h5, rfl⟩) hS h
theorem rg_load (i : Nat) (d : Option Tmp) (v : Value) (T : TypeId) (k g o : Nat) (hc : rgChk ops listed a i d = true) (ho : (ops.getD i default).op = .load T (.tmp k)) (hp : a.eval (.tmp k) = .pointer (some ⟨g, o, none⟩))
    (hl : ∀ w', S w' → (loadVar T ⟨g, o, none⟩).run Tryz.prog w' = .ok v w')
    (hQ : ∀ c a w, Q (.panic c) (a.put d v) w → Q (.panic c) a w) (hS : S w)
    (h : wpAnyH Tryz.prog .any ops Q S fuel (listed.setIfInBounds i true) (a.put d v) w) : wpAnyH Tryz.prog .any ops Q S (fuel + 1) listed a w :=
  rg_take i d v hc (fun w' hS' => by
    have := hl w' hS'
    simp only [execOp, ho, hp]
    simp [Instr.loadAt, Instr.sureAddr, Result.andThen, this]) hQ hS h
theorem rg_call (i : Nat) (d : Option Tmp) (f : FuncId) (args : Array Value) {Qc : Ending → World → Prop} (hc : rgLone ops listed a i d = true) (hrun : (execOp a.eval (ops.getD i default)).run Tryz.prog w = .ok (.enter f args) w)
    (hcall : Calls Tryz.prog f args w Qc) (hk : ∀ e w', Qc e w' → ∃ v, e = .returned v ∧ S w' ∧ wpAnyH Tryz.prog .any ops Q S fuel (listed.setIfInBounds i true) (a.put d v) w') :
    wpAnyH Tryz.prog .any ops Q S (fuel + 1) listed a w := by
  simp only [rgLone, Bool.and_eq_true, decide_eq_true_eq] at hc
  obtain ⟨⟨⟨h3, h4⟩, h5⟩, h6⟩ := hc
  subst h6
  refine wpAnyH_all h3 (by simp) fun j hj => ?_
  obtain rfl : j = i := by simpa using hj
  refine wpOp_step (at_getD h4) fun K hK => ?_
  rw [if_pos h5]
  unfold Oper.wp
  rw [hrun]
  refine hcall.mono fun e w' he => ?_
  obtain ⟨v, rfl, hS', hw⟩ := hk e w' he
  exact hK _ _ ⟨hS', hw⟩
theorem rg_done (hr : Region.ready .any ops listed = []) (h : Q .normal a w) : wpAnyH Tryz.prog .any ops Q S fuel listed a w := wpAnyH_done hr h fuel
theorem rg_start {id : Nat} (hm : Tryz.prog.follows .mixedOrders = true) (hS : S w.drew) (h : wpAnyH Tryz.prog .any ops Q S ops.size (Array.replicate ops.size false) a w.drew) : (Code.region id ops true).wp Tryz.prog Q a w :=
  wp_region_held_drew hm hS fun _ => h
end
/-- the frame with these slots put -/
def putAll (a : Act) : List (Option Tmp × Value) → Act
  | [] => a
  | p :: l => putAll (a.put p.1 p.2) l
section
variable {ops : Array Oper} {Q : Exit → Act → World → Prop} {S : World → Prop} {fuel : Nat} {listed : Array Bool} {a : Act} {w : World}
theorem rg_mid {X : Type} {id : Nat} {K : Act → World → Prop} {Q' : Exit → Act → World → Prop} (upd : X → List (Option Tmp × Value)) (F : X → World → Prop) (S : World → Prop) (hm : Tryz.prog.follows .mixedOrders = true) (hS : S w.drew)
    (h1 : wpAnyH Tryz.prog .any ops (Exit.then (fun a' w' => ∃ x, a' = putAll a (upd x) ∧ F x w') (fun _ _ _ => False)) S ops.size (Array.replicate ops.size false) a w.drew)
    (h2 : ∀ x w', F x w' → K (putAll a (upd x)) w') : (Code.region id ops true).wp Tryz.prog (Exit.then K Q') a w :=
  Code.wp_mono (fun e a' w' h => by
    cases e <;> first
      | (obtain ⟨x, rfl, hF⟩ := h; exact h2 x w' hF)
      | exact h.elim) (wp_region_held_drew (S := S) hm hS fun _ => h1)
def rgWant (ops : Array Oper) (a : Act) (i : Nat) (d : Option Tmp) : Bool :=
  decide (i < ops.size) && Region.wanted (ops.getD i default) (yielded ops a.tmps) && decide ((ops.getD i default).dst = d)
theorem rg_ready (rs : List Nat) (hr : Region.ready .any ops listed = rs) (hne : rs ≠ []) (h : AllReadyH Tryz.prog .any ops Q S fuel listed a w rs) : wpAnyH Tryz.prog .any ops Q S (fuel + 1) listed a w := wpAnyH_ready hr hne h
theorem ar_nil : AllReadyH Tryz.prog .any ops Q S fuel listed a w [] := AllReadyH.nil
theorem ar_call {rs : List Nat} (i : Nat) (d : Option Tmp) (f : FuncId) (args : Array Value) {Qc : Ending → World → Prop} (hc : rgWant ops a i d = true) (hrun : (execOp a.eval (ops.getD i default)).run Tryz.prog w = .ok (.enter f args) w)
    (hcall : Calls Tryz.prog f args w Qc) (hk : ∀ e w', Qc e w' → ∃ v, e = .returned v ∧ S w' ∧ wpAnyH Tryz.prog .any ops Q S fuel (listed.setIfInBounds i true) (a.put d v) w')
    (hs : AllReadyH Tryz.prog .any ops Q S fuel listed a w rs) : AllReadyH Tryz.prog .any ops Q S fuel listed a w (i :: rs) := by
  simp only [rgWant, Bool.and_eq_true, decide_eq_true_eq] at hc
  obtain ⟨⟨h4, h5⟩, h6⟩ := hc
  subst h6
  refine AllReadyH.cons (at_getD h4) (fun K hK => ?_) hs
  rw [if_pos h5]
  unfold Oper.wp
  rw [hrun]
  refine hcall.mono fun e w' he => ?_
  obtain ⟨v, rfl, hS', hw⟩ := hk e w' he
  exact hK.out _ _ hS' fun _ => hw
theorem ar_val {rs : List Nat} (i : Nat) (d : Option Tmp) (v : Value) (w1 : World) (hc : rgWant ops a i d = true) (hrun : (execOp a.eval (ops.getD i default)).run Tryz.prog w = .ok (.value v) w1)
    (hS1 : S w1) (h : wpAnyH Tryz.prog .any ops Q S fuel (listed.setIfInBounds i true) (a.put d v) w1)
    (hs : AllReadyH Tryz.prog .any ops Q S fuel listed a w rs) : AllReadyH Tryz.prog .any ops Q S fuel listed a w (i :: rs) := by
  simp only [rgWant, Bool.and_eq_true, decide_eq_true_eq] at hc
  obtain ⟨⟨h4, h5⟩, h6⟩ := hc
  subst h6
  refine AllReadyH.cons (at_getD h4) (fun K hK => ?_) hs
  rw [if_pos h5]
  unfold Oper.wp
  rw [hrun]
  show K (a.put (ops.getD i default).dst v) w1
  exact hK.out _ _ hS1 fun _ => h
theorem ar_void {rs : List Nat} (i : Nat) (w1 : World) (hc : rgWant ops a i none = true) (hrun : (execOp a.eval (ops.getD i default)).run Tryz.prog w = .ok .skip w1)
    (hS1 : S w1) (h : wpAnyH Tryz.prog .any ops Q S fuel (listed.setIfInBounds i true) (a.put none undef) w1)
    (hs : AllReadyH Tryz.prog .any ops Q S fuel listed a w rs) : AllReadyH Tryz.prog .any ops Q S fuel listed a w (i :: rs) := by
  simp only [rgWant, Bool.and_eq_true, decide_eq_true_eq] at hc
  obtain ⟨⟨h4, h5⟩, h6⟩ := hc
  refine AllReadyH.cons (at_getD h4) (fun K hK => ?_) hs
  rw [if_pos h5]
  unfold Oper.wp
  rw [hrun]
  show K (a.put (ops.getD i default).dst undef) w1
  rw [h6]
  exact hK.out _ _ hS1 fun _ => h
end
theorem run_lp {a : Act} {w : World} {o : Oper} {T : TypeId} (k : Nat) {g off : Nat} {v : Value} (ho : o.op = .load T (.tmp k)) (hp : a.eval (.tmp k) = .pointer (some ⟨g, off, none⟩)) (hl : (loadVar T ⟨g, off, none⟩).run Tryz.prog w = .ok v w) : (execOp a.eval o).run Tryz.prog w = .ok (.value v) w := by
  simp only [execOp, ho, hp]
  simp [Instr.loadAt, Instr.sureAddr, Result.andThen, hl]
end Pg
end Go.Proofs.YtenlhceceplldaaGreat

namespace Go.Proofs.YtenlhceceplldaaGreat
namespace Rc
open Go.RowKit Go.Lib Pg
attribute [local go_sem] Oper.semAt_some
def thr {σ : Type} (nx : Nat → Nat → σ → σ) (l : List (Nat × Nat)) (s : σ) : σ := l.foldl (fun s p => nx p.1 p.2 s) s
theorem HC.okt {σ : Type} {Inv : σ → World → Prop} {G : Nat → Prop} {rb : Nat} {f1 f2 f3 : FuncId} {c : Value} {nx : Nat → Nat → σ → σ} {kd : Nat → Nat} {ok : σ → Prop} (H : HC σ Inv G rb f1 f2 f3 c nx kd ok) (l : List (Nat × Nat)) : ∀ s, ok (thr nx l s) → ok s := by
  induction l with
  | nil => exact fun _ h => h
  | cons o l ih => exact fun s h => H.oks _ _ _ (ih _ h)
theorem ld_h {w : World} {g : Nat} {u v i : Value} (c0 : w.cell? ⟨g, 0, none⟩ = some u) (c1 : w.cell? ⟨g, 1, none⟩ = some v) (c2 : w.cell? ⟨g, 2, none⟩ = some i) : (loadVar 171 ⟨g, 0, none⟩).run Tryz.prog w = .ok (.agg #[u, v, i]) w := by go_simp
theorem ld_f2 {w : World} {g o : Nat} {v : Value} (c : w.cell? ⟨g, o, none⟩ = some v) : (loadVar 166 ⟨g, o, none⟩).run Tryz.prog w = .ok v w := by go_simp
theorem run_cv {a : Act} {w : World} {o : Oper} {x y : Nat} {f : FuncId} {v c : Value} {T : Array TypeId} (ho : o.op = .call { callee := .value (.tmp x), args := #[.tmp y], argTypes := T }) (hx : a.eval (.tmp x) = .func (.func f) #[] #[c]) (hy : a.eval (.tmp y) = v) (he : ∀ args w, (callFunc f args).run Tryz.prog w = .ok (.enter f args) w) : (execOp a.eval o).run Tryz.prog w = .ok (.enter f #[v, c]) w := by
  have hx' : a.tmps[x]?.getD undef = .func (.func f) #[] #[c] := by simpa [Act.eval] using hx
  have hy' : a.tmps[y]?.getD undef = v := by simpa [Act.eval] using hy
  have h9 := he #[v, c] w
  simp only [execOp, ho]
  go_simp
set_option maxHeartbeats 2000000 in
set_option maxRecDepth 100000 in
theorem ofParams_any {σ : Type} {Inv : σ → World → Prop} {G : Nat → Prop} {rb : Nat} {f1 f2 f3 : FuncId} {c : Value} {nx : Nat → Nat → σ → σ} {kd : Nat → Nat} {ok : σ → Prop} {s : σ} {w : World} (H : HC σ Inv G rb f1 f2 f3 c nx kd ok) (hI : Inv s w) (hkd : ∀ p ∈ [(0, 0), (0, 1), (0, 2), (0, 3), (0, 4), (0, 5), (0, 6), (0, 7), (0, 8), (0, 9)], kd p.2 = p.1) (hok : ok (thr nx [(0, 0), (0, 1), (0, 2), (0, 3), (0, 4), (0, 5), (0, 6), (0, 7), (0, 8), (0, 9)] s)) :
    Calls Tryz.prog 47 #[.pointer (some ⟨rb, 0, none⟩), .agg #[.func (.func f1) #[] #[c], .func (.func f2) #[] #[c], .func (.func f3) #[] #[c]]] w (FinH σ Inv G (thr nx [(0, 0), (0, 1), (0, 2), (0, 3), (0, 4), (0, 5), (0, 6), (0, 7), (0, 8), (0, 9)] s) w) := by
  have al0 := below_alloc w (.cells #[.func (.func f1) #[] #[c], .func (.func f2) #[] #[c], .func (.func f3) #[] #[c]] 171)
  have XB := hid3 (blk_new w [.func (.func f1) #[] #[c], .func (.func f2) #[] #[c], .func (.func f3) #[] #[c]] 171)
  have HG := hid3 (show ¬ G w.heap.size from fun h => by have := H.old s w _ hI h; omega)
  have I0 := hid3 (H.keep _ _ _ hI al0)
  have C0 := hid3 (show Chg G w _ from Chg.of al0)
  have k0 : Hid (kd 0 = 0) := hkd (0, 0) (by simp)
  have k1 : Hid (kd 1 = 0) := hkd (0, 1) (by simp)
  have k2 : Hid (kd 2 = 0) := hkd (0, 2) (by simp)
  have k3 : Hid (kd 3 = 0) := hkd (0, 3) (by simp)
  have k4 : Hid (kd 4 = 0) := hkd (0, 4) (by simp)
  have k5 : Hid (kd 5 = 0) := hkd (0, 5) (by simp)
  have k6 : Hid (kd 6 = 0) := hkd (0, 6) (by simp)
  have k7 : Hid (kd 7 = 0) := hkd (0, 7) (by simp)
  have k8 : Hid (kd 8 = 0) := hkd (0, 8) (by simp)
  have k9 : Hid (kd 9 = 0) := hkd (0, 9) (by simp)
  have HH := hid3 H
  have HO := hid3 hok
  clear H hI hkd al0 hok
  go_enter Tryz.func47, Tryz.ntmps47
  go_wp2_with fail
  obtain ⟨V0, hV0⟩ : ∃ V0, Hid (w.alloc (.cells #[.func (.func f1) #[] #[c], .func (.func f2) #[] #[c], .func (.func f3) #[] #[c]] 171) = V0) := ⟨_, rfl⟩
  rw [hV0.out] at XB I0 C0 ⊢
  have ID0 := hid3 (HH.out.keep _ _ _ I0.out (belowD' V0))
  have XD0 := hid3 (XB.out.keep (belowD' V0))
  refine rg_start (S := fun u => Blk u w.heap.size [.func (.func f1) #[] #[c], .func (.func f2) #[] #[c], .func (.func f3) #[] #[c]] 171) (by kernel_rfl) XD0.out ?_
  refine rg_load 0 (some 4) (.agg #[.func (.func f1) #[] #[c], .func (.func f2) #[] #[c], .func (.func f3) #[] #[c]]) 171 3 w.heap.size 0 (by kernel_rfl) (by kernel_rfl) (by kernel_rfl) (fun u h => ld_h (h.cell (i := 0) rfl) (h.cell (i := 1) rfl) (h.cell (i := 2) rfl)) (fun _ _ _ h => h) XD0.out ?_
  refine rg_take 1 (some 5) (.pointer (some ⟨rb, 0, none⟩)) (by kernel_rfl) (fun _ _ => by kernel_rfl) (fun _ _ _ h => h) XD0.out ?_
  refine rg_take 2 (some 6) (.pointer (some ⟨rb, 0, none⟩)) (by kernel_rfl) (fun _ _ => by kernel_rfl) (fun _ _ _ h => h) XD0.out ?_
  refine rg_take 3 (some 7) (.pointer (some ⟨rb, 0, none⟩)) (by kernel_rfl) (fun _ _ => by kernel_rfl) (fun _ _ _ h => h) XD0.out ?_
  refine rg_take 4 (some 8) (.pointer (some ⟨rb, 0, none⟩)) (by kernel_rfl) (fun _ _ => by kernel_rfl) (fun _ _ _ h => h) XD0.out ?_
  refine rg_take 5 (some 9) (.pointer (some ⟨rb, 0, none⟩)) (by kernel_rfl) (fun _ _ => by kernel_rfl) (fun _ _ _ h => h) XD0.out ?_
  refine rg_take 6 (some 10) (.pointer (some ⟨rb, 1, none⟩)) (by kernel_rfl) (fun _ _ => by kernel_rfl) (fun _ _ _ h => h) XD0.out ?_
  refine rg_take 7 (some 11) (.pointer (some ⟨rb, 0, none⟩)) (by kernel_rfl) (fun _ _ => by kernel_rfl) (fun _ _ _ h => h) XD0.out ?_
  refine rg_take 8 (some 12) (.pointer (some ⟨rb, 0, none⟩)) (by kernel_rfl) (fun _ _ => by kernel_rfl) (fun _ _ _ h => h) XD0.out ?_
  refine rg_take 9 (some 13) (.pointer (some ⟨rb, 2, none⟩)) (by kernel_rfl) (fun _ _ => by kernel_rfl) (fun _ _ _ h => h) XD0.out ?_
  refine rg_take 10 (some 14) (.pointer (some ⟨rb, 0, none⟩)) (by kernel_rfl) (fun _ _ => by kernel_rfl) (fun _ _ _ h => h) XD0.out ?_
  refine rg_take 11 (some 15) (.pointer (some ⟨rb, 0, none⟩)) (by kernel_rfl) (fun _ _ => by kernel_rfl) (fun _ _ _ h => h) XD0.out ?_
  refine rg_take 12 (some 16) (.pointer (some ⟨rb, 3, none⟩)) (by kernel_rfl) (fun _ _ => by kernel_rfl) (fun _ _ _ h => h) XD0.out ?_
  refine rg_take 13 (some 17) (.pointer (some ⟨rb, 0, none⟩)) (by kernel_rfl) (fun _ _ => by kernel_rfl) (fun _ _ _ h => h) XD0.out ?_
  refine rg_take 14 (some 18) (.pointer (some ⟨rb, 0, none⟩)) (by kernel_rfl) (fun _ _ => by kernel_rfl) (fun _ _ _ h => h) XD0.out ?_
  refine rg_take 15 (some 19) (.pointer (some ⟨rb, 4, none⟩)) (by kernel_rfl) (fun _ _ => by kernel_rfl) (fun _ _ _ h => h) XD0.out ?_
  refine rg_take 16 (some 20) (.pointer (some ⟨rb, 0, none⟩)) (by kernel_rfl) (fun _ _ => by kernel_rfl) (fun _ _ _ h => h) XD0.out ?_
  refine rg_take 17 (some 21) (.pointer (some ⟨rb, 0, none⟩)) (by kernel_rfl) (fun _ _ => by kernel_rfl) (fun _ _ _ h => h) XD0.out ?_
  refine rg_take 18 (some 22) (.pointer (some ⟨rb, 5, none⟩)) (by kernel_rfl) (fun _ _ => by kernel_rfl) (fun _ _ _ h => h) XD0.out ?_
  refine rg_take 19 (some 23) (.pointer (some ⟨rb, 0, none⟩)) (by kernel_rfl) (fun _ _ => by kernel_rfl) (fun _ _ _ h => h) XD0.out ?_
  refine rg_take 20 (some 24) (.pointer (some ⟨rb, 0, none⟩)) (by kernel_rfl) (fun _ _ => by kernel_rfl) (fun _ _ _ h => h) XD0.out ?_
  refine rg_take 21 (some 25) (.pointer (some ⟨rb, 6, none⟩)) (by kernel_rfl) (fun _ _ => by kernel_rfl) (fun _ _ _ h => h) XD0.out ?_
  refine rg_take 22 (some 26) (.pointer (some ⟨rb, 0, none⟩)) (by kernel_rfl) (fun _ _ => by kernel_rfl) (fun _ _ _ h => h) XD0.out ?_
  refine rg_take 23 (some 27) (.pointer (some ⟨rb, 0, none⟩)) (by kernel_rfl) (fun _ _ => by kernel_rfl) (fun _ _ _ h => h) XD0.out ?_
  refine rg_take 24 (some 28) (.pointer (some ⟨rb, 7, none⟩)) (by kernel_rfl) (fun _ _ => by kernel_rfl) (fun _ _ _ h => h) XD0.out ?_
  refine rg_take 25 (some 29) (.pointer (some ⟨rb, 0, none⟩)) (by kernel_rfl) (fun _ _ => by kernel_rfl) (fun _ _ _ h => h) XD0.out ?_
  refine rg_take 26 (some 30) (.pointer (some ⟨rb, 0, none⟩)) (by kernel_rfl) (fun _ _ => by kernel_rfl) (fun _ _ _ h => h) XD0.out ?_
  refine rg_take 27 (some 31) (.pointer (some ⟨rb, 8, none⟩)) (by kernel_rfl) (fun _ _ => by kernel_rfl) (fun _ _ _ h => h) XD0.out ?_
  refine rg_take 28 (some 32) (.pointer (some ⟨rb, 0, none⟩)) (by kernel_rfl) (fun _ _ => by kernel_rfl) (fun _ _ _ h => h) XD0.out ?_
  refine rg_take 29 (some 33) (.pointer (some ⟨rb, 0, none⟩)) (by kernel_rfl) (fun _ _ => by kernel_rfl) (fun _ _ _ h => h) XD0.out ?_
  refine rg_take 30 (some 34) (.pointer (some ⟨rb, 9, none⟩)) (by kernel_rfl) (fun _ _ => by kernel_rfl) (fun _ _ _ h => h) XD0.out ?_
  have al0 := below_alloc V0.drew (.cells #[.pointer (some ⟨rb, 0, none⟩), .pointer (some ⟨rb, 1, none⟩), .pointer (some ⟨rb, 2, none⟩), .pointer (some ⟨rb, 3, none⟩), .pointer (some ⟨rb, 4, none⟩), .pointer (some ⟨rb, 5, none⟩), .pointer (some ⟨rb, 6, none⟩), .pointer (some ⟨rb, 7, none⟩), .pointer (some ⟨rb, 8, none⟩), .pointer (some ⟨rb, 9, none⟩)] 161)
  have nb0 := blk_new V0.drew [.pointer (some ⟨rb, 0, none⟩), .pointer (some ⟨rb, 1, none⟩), .pointer (some ⟨rb, 2, none⟩), .pointer (some ⟨rb, 3, none⟩), .pointer (some ⟨rb, 4, none⟩), .pointer (some ⟨rb, 5, none⟩), .pointer (some ⟨rb, 6, none⟩), .pointer (some ⟨rb, 7, none⟩), .pointer (some ⟨rb, 8, none⟩), .pointer (some ⟨rb, 9, none⟩)] 161
  refine rg_ready [31] (by kernel_rfl) (by simp) (ar_val 31 (some 35) (.slice (some ⟨V0.drew.heap.size, 0, none⟩) 10 10) (V0.drew.alloc (.cells #[.pointer (some ⟨rb, 0, none⟩), .pointer (some ⟨rb, 1, none⟩), .pointer (some ⟨rb, 2, none⟩), .pointer (some ⟨rb, 3, none⟩), .pointer (some ⟨rb, 4, none⟩), .pointer (some ⟨rb, 5, none⟩), .pointer (some ⟨rb, 6, none⟩), .pointer (some ⟨rb, 7, none⟩), .pointer (some ⟨rb, 8, none⟩), .pointer (some ⟨rb, 9, none⟩)] 161)) (by kernel_rfl) (by kernel_rfl) (XD0.out.keep al0) ?_ ar_nil)
  refine rg_call 32 (some 36) 106 #[.agg #[.func (.func f1) #[] #[c], .func (.func f2) #[] #[c], .func (.func f3) #[] #[c]], .slice (some ⟨V0.drew.heap.size, 0, none⟩) 10 10] (by kernel_rfl) (by kernel_rfl) (numbers_any (offs := [0, 1, 2, 3, 4, 5, 6, 7, 8, 9]) HH.out (HH.out.keep _ _ _ ID0.out al0) nb0 (fun h => by have := HH.out.old _ _ _ ID0.out h; omega) (by simp [k0.out, k1.out, k2.out, k3.out, k4.out, k5.out, k6.out, k7.out, k8.out, k9.out]) (HH.out.okt [] _ HO.out) rfl (by decide)) ?_
  rintro e' V1 ⟨rfl, II0, CC0⟩
  refine ⟨_, rfl, ((XD0.out.keep al0).chg CC0 HG.out), ?_⟩
  refine rg_done (by kernel_rfl) ?_
  simp only [Act.put, List.setIfInBounds_toArray, List.set_cons_zero, List.set_cons_succ]
  have I1 := hid3 II0
  have C1 := hid3 ((C0.out.trans (Chg.of (F := G) (joinB (belowD' V0) al0)) (fun _ _ h => h)).trans CC0 (fun _ _ h => h))
  have XB1 := hid3 ((XD0.out.keep al0).chg CC0 HG.out)
  go_wp2_with fail
  go_end0
  exact ⟨rfl, I1.out, C1.out⟩
set_option maxHeartbeats 2000000 in
set_option maxRecDepth 100000 in
theorem ofChain_any {σ : Type} {Inv : σ → World → Prop} {G : Nat → Prop} {rb : Nat} {f1 f2 f3 : FuncId} {c : Value} {nx : Nat → Nat → σ → σ} {kd : Nat → Nat} {ok : σ → Prop} {s : σ} {w : World} (H : HC σ Inv G rb f1 f2 f3 c nx kd ok) (hI : Inv s w) (hkd : ∀ p ∈ [(0, 0), (0, 1)], kd p.2 = p.1) (hok : ok (thr nx [(0, 0), (0, 1)] s)) :
    Calls Tryz.prog 49 #[.pointer (some ⟨rb, 0, none⟩), .agg #[.func (.func f1) #[] #[c], .func (.func f2) #[] #[c], .func (.func f3) #[] #[c]]] w (FinH σ Inv G (thr nx [(0, 0), (0, 1)] s) w) := by
  have al0 := below_alloc w (.cells #[.func (.func f1) #[] #[c], .func (.func f2) #[] #[c], .func (.func f3) #[] #[c]] 171)
  have XB := hid3 (blk_new w [.func (.func f1) #[] #[c], .func (.func f2) #[] #[c], .func (.func f3) #[] #[c]] 171)
  have HG := hid3 (show ¬ G w.heap.size from fun h => by have := H.old s w _ hI h; omega)
  have I0 := hid3 (H.keep _ _ _ hI al0)
  have C0 := hid3 (show Chg G w _ from Chg.of al0)
  have k0 : Hid (kd 0 = 0) := hkd (0, 0) (by simp)
  have k1 : Hid (kd 1 = 0) := hkd (0, 1) (by simp)
  have HH := hid3 H
  have HO := hid3 hok
  clear H hI hkd al0 hok
  go_enter Tryz.func49, Tryz.ntmps49
  go_wp2_with fail
  obtain ⟨V0, hV0⟩ : ∃ V0, Hid (w.alloc (.cells #[.func (.func f1) #[] #[c], .func (.func f2) #[] #[c], .func (.func f3) #[] #[c]] 171) = V0) := ⟨_, rfl⟩
  rw [hV0.out] at XB I0 C0 ⊢
  have ID0 := hid3 (HH.out.keep _ _ _ I0.out (belowD' V0))
  have XD0 := hid3 (XB.out.keep (belowD' V0))
  refine rg_start (S := fun u => Blk u w.heap.size [.func (.func f1) #[] #[c], .func (.func f2) #[] #[c], .func (.func f3) #[] #[c]] 171) (by kernel_rfl) XD0.out ?_
  refine rg_load 0 (some 4) (.agg #[.func (.func f1) #[] #[c], .func (.func f2) #[] #[c], .func (.func f3) #[] #[c]]) 171 3 w.heap.size 0 (by kernel_rfl) (by kernel_rfl) (by kernel_rfl) (fun u h => ld_h (h.cell (i := 0) rfl) (h.cell (i := 1) rfl) (h.cell (i := 2) rfl)) (fun _ _ _ h => h) XD0.out ?_
  refine rg_take 1 (some 5) (.pointer (some ⟨rb, 0, none⟩)) (by kernel_rfl) (fun _ _ => by kernel_rfl) (fun _ _ _ h => h) XD0.out ?_
  refine rg_take 2 (some 6) (.pointer (some ⟨rb, 0, none⟩)) (by kernel_rfl) (fun _ _ => by kernel_rfl) (fun _ _ _ h => h) XD0.out ?_
  refine rg_take 3 (some 7) (.pointer (some ⟨rb, 0, none⟩)) (by kernel_rfl) (fun _ _ => by kernel_rfl) (fun _ _ _ h => h) XD0.out ?_
  refine rg_take 4 (some 8) (.pointer (some ⟨rb, 0, none⟩)) (by kernel_rfl) (fun _ _ => by kernel_rfl) (fun _ _ _ h => h) XD0.out ?_
  refine rg_take 5 (some 9) (.pointer (some ⟨rb, 0, none⟩)) (by kernel_rfl) (fun _ _ => by kernel_rfl) (fun _ _ _ h => h) XD0.out ?_
  refine rg_take 6 (some 10) (.pointer (some ⟨rb, 1, none⟩)) (by kernel_rfl) (fun _ _ => by kernel_rfl) (fun _ _ _ h => h) XD0.out ?_
  have al0 := below_alloc V0.drew (.cells #[.pointer (some ⟨rb, 0, none⟩), .pointer (some ⟨rb, 1, none⟩)] 161)
  have nb0 := blk_new V0.drew [.pointer (some ⟨rb, 0, none⟩), .pointer (some ⟨rb, 1, none⟩)] 161
  refine rg_ready [7] (by kernel_rfl) (by simp) (ar_val 7 (some 11) (.slice (some ⟨V0.drew.heap.size, 0, none⟩) 2 2) (V0.drew.alloc (.cells #[.pointer (some ⟨rb, 0, none⟩), .pointer (some ⟨rb, 1, none⟩)] 161)) (by kernel_rfl) (by kernel_rfl) (XD0.out.keep al0) ?_ ar_nil)
  refine rg_call 8 (some 12) 106 #[.agg #[.func (.func f1) #[] #[c], .func (.func f2) #[] #[c], .func (.func f3) #[] #[c]], .slice (some ⟨V0.drew.heap.size, 0, none⟩) 2 2] (by kernel_rfl) (by kernel_rfl) (numbers_any (offs := [0, 1]) HH.out (HH.out.keep _ _ _ ID0.out al0) nb0 (fun h => by have := HH.out.old _ _ _ ID0.out h; omega) (by simp [k0.out, k1.out]) (HH.out.okt [] _ HO.out) rfl (by decide)) ?_
  rintro e' V1 ⟨rfl, II0, CC0⟩
  refine ⟨_, rfl, ((XD0.out.keep al0).chg CC0 HG.out), ?_⟩
  refine rg_done (by kernel_rfl) ?_
  simp only [Act.put, List.setIfInBounds_toArray, List.set_cons_zero, List.set_cons_succ]
  have I1 := hid3 II0
  have C1 := hid3 ((C0.out.trans (Chg.of (F := G) (joinB (belowD' V0) al0)) (fun _ _ h => h)).trans CC0 (fun _ _ h => h))
  have XB1 := hid3 ((XD0.out.keep al0).chg CC0 HG.out)
  go_wp2_with fail
  go_end0
  exact ⟨rfl, I1.out, C1.out⟩
set_option maxHeartbeats 2000000 in
set_option maxRecDepth 100000 in
theorem ofPool_any {σ : Type} {Inv : σ → World → Prop} {G : Nat → Prop} {rb : Nat} {f1 f2 f3 : FuncId} {c : Value} {nx : Nat → Nat → σ → σ} {kd : Nat → Nat} {ok : σ → Prop} {s : σ} {w : World} (H : HC σ Inv G rb f1 f2 f3 c nx kd ok) (hI : Inv s w) (hkd : ∀ p ∈ [(2, 0)], kd p.2 = p.1) (hok : ok (thr nx [(2, 0)] s)) :
    Calls Tryz.prog 51 #[.pointer (some ⟨rb, 0, none⟩), .agg #[.func (.func f1) #[] #[c], .func (.func f2) #[] #[c], .func (.func f3) #[] #[c]]] w (FinH σ Inv G (thr nx [(2, 0)] s) w) := by
  have al0 := below_alloc w (.cells #[.func (.func f1) #[] #[c], .func (.func f2) #[] #[c], .func (.func f3) #[] #[c]] 171)
  have XB := hid3 (blk_new w [.func (.func f1) #[] #[c], .func (.func f2) #[] #[c], .func (.func f3) #[] #[c]] 171)
  have HG := hid3 (show ¬ G w.heap.size from fun h => by have := H.old s w _ hI h; omega)
  have I0 := hid3 (H.keep _ _ _ hI al0)
  have C0 := hid3 (show Chg G w _ from Chg.of al0)
  have k0 : Hid (kd 0 = 2) := hkd (2, 0) (by simp)
  have HH := hid3 H
  have HO := hid3 hok
  clear H hI hkd al0 hok
  have z0 := XB.out.cell (i := 0) rfl
  have z1 := XB.out.cell (i := 1) rfl
  have z2 := XB.out.cell (i := 2) rfl
  go_enter Tryz.func51, Tryz.ntmps51
  go_wp2_with fail
  obtain ⟨V0, hV0⟩ : ∃ V0, Hid (w.alloc (.cells #[.func (.func f1) #[] #[c], .func (.func f2) #[] #[c], .func (.func f3) #[] #[c]] 171) = V0) := ⟨_, rfl⟩
  rw [hV0.out] at XB I0 C0 ⊢
  have al := below_alloc V0 (.cells #[.pointer (some ⟨rb, 0, none⟩)] 167)
  have nb := blk_new V0 [.pointer (some ⟨rb, 0, none⟩)] 167
  have hsz : Hid (V0.heap.size = w.heap.size + 1) := by show _ = _; rw [← hV0.out]; exact size_al _ _
  rw [hsz.out] at nb
  refine (decimals_any (offs := [0]) HH.out (HH.out.keep _ _ _ I0.out al) nb (fun h => by have := HH.out.old _ _ _ I0.out h; have := hsz.out; omega) (by simp [k0.out]) HO.out rfl (by decide)).mono ?_
  rintro e' V1 ⟨rfl, I1, C1⟩
  go_wp2
  go_end0
  exact ⟨rfl, I1, (C0.out.trans (Chg.of (F := G) al) (fun _ _ h => h)).trans C1 (fun _ _ h => h)⟩
set_option maxHeartbeats 2000000 in
set_option maxRecDepth 100000 in
theorem ofAccount_any {σ : Type} {Inv : σ → World → Prop} {G : Nat → Prop} {rb : Nat} {f1 f2 f3 : FuncId} {c : Value} {nx : Nat → Nat → σ → σ} {kd : Nat → Nat} {ok : σ → Prop} {s : σ} {w : World} (H : HC σ Inv G rb f1 f2 f3 c nx kd ok) (hI : Inv s w) (hkd : ∀ p ∈ [(0, 0), (0, 1)], kd p.2 = p.1) (hok : ok (thr nx [(0, 0), (0, 1)] s)) :
    Calls Tryz.prog 53 #[.pointer (some ⟨rb, 0, none⟩), .agg #[.func (.func f1) #[] #[c], .func (.func f2) #[] #[c], .func (.func f3) #[] #[c]]] w (FinH σ Inv G (thr nx [(0, 0), (0, 1)] s) w) := by
  have al0 := below_alloc w (.cells #[.func (.func f1) #[] #[c], .func (.func f2) #[] #[c], .func (.func f3) #[] #[c]] 171)
  have XB := hid3 (blk_new w [.func (.func f1) #[] #[c], .func (.func f2) #[] #[c], .func (.func f3) #[] #[c]] 171)
  have HG := hid3 (show ¬ G w.heap.size from fun h => by have := H.old s w _ hI h; omega)
  have I0 := hid3 (H.keep _ _ _ hI al0)
  have C0 := hid3 (show Chg G w _ from Chg.of al0)
  have k0 : Hid (kd 0 = 0) := hkd (0, 0) (by simp)
  have k1 : Hid (kd 1 = 0) := hkd (0, 1) (by simp)
  have HH := hid3 H
  have HO := hid3 hok
  clear H hI hkd al0 hok
  go_enter Tryz.func53, Tryz.ntmps53
  go_wp2_with fail
  obtain ⟨V0, hV0⟩ : ∃ V0, Hid (w.alloc (.cells #[.func (.func f1) #[] #[c], .func (.func f2) #[] #[c], .func (.func f3) #[] #[c]] 171) = V0) := ⟨_, rfl⟩
  rw [hV0.out] at XB I0 C0 ⊢
  have ID0 := hid3 (HH.out.keep _ _ _ I0.out (belowD' V0))
  have XD0 := hid3 (XB.out.keep (belowD' V0))
  refine rg_start (S := fun u => Blk u w.heap.size [.func (.func f1) #[] #[c], .func (.func f2) #[] #[c], .func (.func f3) #[] #[c]] 171) (by kernel_rfl) XD0.out ?_
  refine rg_load 0 (some 4) (.agg #[.func (.func f1) #[] #[c], .func (.func f2) #[] #[c], .func (.func f3) #[] #[c]]) 171 3 w.heap.size 0 (by kernel_rfl) (by kernel_rfl) (by kernel_rfl) (fun u h => ld_h (h.cell (i := 0) rfl) (h.cell (i := 1) rfl) (h.cell (i := 2) rfl)) (fun _ _ _ h => h) XD0.out ?_
  refine rg_take 1 (some 5) (.pointer (some ⟨rb, 0, none⟩)) (by kernel_rfl) (fun _ _ => by kernel_rfl) (fun _ _ _ h => h) XD0.out ?_
  refine rg_take 2 (some 6) (.pointer (some ⟨rb, 0, none⟩)) (by kernel_rfl) (fun _ _ => by kernel_rfl) (fun _ _ _ h => h) XD0.out ?_
  refine rg_take 3 (some 7) (.pointer (some ⟨rb, 0, none⟩)) (by kernel_rfl) (fun _ _ => by kernel_rfl) (fun _ _ _ h => h) XD0.out ?_
  refine rg_take 4 (some 8) (.pointer (some ⟨rb, 0, none⟩)) (by kernel_rfl) (fun _ _ => by kernel_rfl) (fun _ _ _ h => h) XD0.out ?_
  refine rg_take 5 (some 9) (.pointer (some ⟨rb, 0, none⟩)) (by kernel_rfl) (fun _ _ => by kernel_rfl) (fun _ _ _ h => h) XD0.out ?_
  refine rg_take 6 (some 10) (.pointer (some ⟨rb, 1, none⟩)) (by kernel_rfl) (fun _ _ => by kernel_rfl) (fun _ _ _ h => h) XD0.out ?_
  have al0 := below_alloc V0.drew (.cells #[.pointer (some ⟨rb, 0, none⟩), .pointer (some ⟨rb, 1, none⟩)] 161)
  have nb0 := blk_new V0.drew [.pointer (some ⟨rb, 0, none⟩), .pointer (some ⟨rb, 1, none⟩)] 161
  refine rg_ready [7] (by kernel_rfl) (by simp) (ar_val 7 (some 11) (.slice (some ⟨V0.drew.heap.size, 0, none⟩) 2 2) (V0.drew.alloc (.cells #[.pointer (some ⟨rb, 0, none⟩), .pointer (some ⟨rb, 1, none⟩)] 161)) (by kernel_rfl) (by kernel_rfl) (XD0.out.keep al0) ?_ ar_nil)
  refine rg_call 8 (some 12) 106 #[.agg #[.func (.func f1) #[] #[c], .func (.func f2) #[] #[c], .func (.func f3) #[] #[c]], .slice (some ⟨V0.drew.heap.size, 0, none⟩) 2 2] (by kernel_rfl) (by kernel_rfl) (numbers_any (offs := [0, 1]) HH.out (HH.out.keep _ _ _ ID0.out al0) nb0 (fun h => by have := HH.out.old _ _ _ ID0.out h; omega) (by simp [k0.out, k1.out]) (HH.out.okt [] _ HO.out) rfl (by decide)) ?_
  rintro e' V1 ⟨rfl, II0, CC0⟩
  refine ⟨_, rfl, ((XD0.out.keep al0).chg CC0 HG.out), ?_⟩
  refine rg_done (by kernel_rfl) ?_
  simp only [Act.put, List.setIfInBounds_toArray, List.set_cons_zero, List.set_cons_succ]
  have I1 := hid3 II0
  have C1 := hid3 ((C0.out.trans (Chg.of (F := G) (joinB (belowD' V0) al0)) (fun _ _ h => h)).trans CC0 (fun _ _ h => h))
  have XB1 := hid3 ((XD0.out.keep al0).chg CC0 HG.out)
  go_wp2_with fail
  go_end0
  exact ⟨rfl, I1.out, C1.out⟩
set_option maxHeartbeats 2000000 in
set_option maxRecDepth 100000 in
theorem ofVal_any {σ : Type} {Inv : σ → World → Prop} {G : Nat → Prop} {rb : Nat} {f1 f2 f3 : FuncId} {c : Value} {nx : Nat → Nat → σ → σ} {kd : Nat → Nat} {ok : σ → Prop} {s : σ} {w : World} (H : HC σ Inv G rb f1 f2 f3 c nx kd ok) (hI : Inv s w) (hkd : ∀ p ∈ [(0, 0), (0, 1), (2, 2), (1, 3), (0, 4), (1, 5), (0, 6), (2, 7), (2, 8), (2, 9)], kd p.2 = p.1) (hok : ok (thr nx [(0, 0), (0, 1), (2, 2), (1, 3), (0, 4), (1, 5), (0, 6), (2, 7), (2, 8), (2, 9)] s)) :
    Calls Tryz.prog 55 #[.pointer (some ⟨rb, 0, none⟩), .agg #[.func (.func f1) #[] #[c], .func (.func f2) #[] #[c], .func (.func f3) #[] #[c]]] w (FinH σ Inv G (thr nx [(0, 0), (0, 1), (2, 2), (1, 3), (0, 4), (1, 5), (0, 6), (2, 7), (2, 8), (2, 9)] s) w) := by
  have al0 := below_alloc w (.cells #[.func (.func f1) #[] #[c], .func (.func f2) #[] #[c], .func (.func f3) #[] #[c]] 171)
  have XB := hid3 (blk_new w [.func (.func f1) #[] #[c], .func (.func f2) #[] #[c], .func (.func f3) #[] #[c]] 171)
  have HG := hid3 (show ¬ G w.heap.size from fun h => by have := H.old s w _ hI h; omega)
  have I0 := hid3 (H.keep _ _ _ hI al0)
  have C0 := hid3 (show Chg G w _ from Chg.of al0)
  have k0 : Hid (kd 0 = 0) := hkd (0, 0) (by simp)
  have k1 : Hid (kd 1 = 0) := hkd (0, 1) (by simp)
  have k2 : Hid (kd 2 = 2) := hkd (2, 2) (by simp)
  have k3 : Hid (kd 3 = 1) := hkd (1, 3) (by simp)
  have k4 : Hid (kd 4 = 0) := hkd (0, 4) (by simp)
  have k5 : Hid (kd 5 = 1) := hkd (1, 5) (by simp)
  have k6 : Hid (kd 6 = 0) := hkd (0, 6) (by simp)
  have k7 : Hid (kd 7 = 2) := hkd (2, 7) (by simp)
  have k8 : Hid (kd 8 = 2) := hkd (2, 8) (by simp)
  have k9 : Hid (kd 9 = 2) := hkd (2, 9) (by simp)
  have HH := hid3 H
  have HO := hid3 hok
  clear H hI hkd al0 hok
  go_enter Tryz.func55, Tryz.ntmps55
  go_wp2_with fail
  obtain ⟨V0, hV0⟩ : ∃ V0, Hid (w.alloc (.cells #[.func (.func f1) #[] #[c], .func (.func f2) #[] #[c], .func (.func f3) #[] #[c]] 171) = V0) := ⟨_, rfl⟩
  rw [hV0.out] at XB I0 C0 ⊢
  have ID0 := hid3 (HH.out.keep _ _ _ I0.out (belowD' V0))
  have XD0 := hid3 (XB.out.keep (belowD' V0))
  refine rg_start (S := fun u => Blk u w.heap.size [.func (.func f1) #[] #[c], .func (.func f2) #[] #[c], .func (.func f3) #[] #[c]] 171) (by kernel_rfl) XD0.out ?_
  refine rg_load 0 (some 4) (.agg #[.func (.func f1) #[] #[c], .func (.func f2) #[] #[c], .func (.func f3) #[] #[c]]) 171 3 w.heap.size 0 (by kernel_rfl) (by kernel_rfl) (by kernel_rfl) (fun u h => ld_h (h.cell (i := 0) rfl) (h.cell (i := 1) rfl) (h.cell (i := 2) rfl)) (fun _ _ _ h => h) XD0.out ?_
  refine rg_take 1 (some 5) (.pointer (some ⟨rb, 0, none⟩)) (by kernel_rfl) (fun _ _ => by kernel_rfl) (fun _ _ _ h => h) XD0.out ?_
  refine rg_take 2 (some 6) (.pointer (some ⟨rb, 0, none⟩)) (by kernel_rfl) (fun _ _ => by kernel_rfl) (fun _ _ _ h => h) XD0.out ?_
  refine rg_take 3 (some 7) (.pointer (some ⟨rb, 0, none⟩)) (by kernel_rfl) (fun _ _ => by kernel_rfl) (fun _ _ _ h => h) XD0.out ?_
  refine rg_take 4 (some 8) (.pointer (some ⟨rb, 0, none⟩)) (by kernel_rfl) (fun _ _ => by kernel_rfl) (fun _ _ _ h => h) XD0.out ?_
  refine rg_take 5 (some 9) (.pointer (some ⟨rb, 0, none⟩)) (by kernel_rfl) (fun _ _ => by kernel_rfl) (fun _ _ _ h => h) XD0.out ?_
  refine rg_take 6 (some 10) (.pointer (some ⟨rb, 1, none⟩)) (by kernel_rfl) (fun _ _ => by kernel_rfl) (fun _ _ _ h => h) XD0.out ?_
  have al0 := below_alloc V0.drew (.cells #[.pointer (some ⟨rb, 0, none⟩), .pointer (some ⟨rb, 1, none⟩)] 161)
  have nb0 := blk_new V0.drew [.pointer (some ⟨rb, 0, none⟩), .pointer (some ⟨rb, 1, none⟩)] 161
  refine rg_ready [7] (by kernel_rfl) (by simp) (ar_val 7 (some 11) (.slice (some ⟨V0.drew.heap.size, 0, none⟩) 2 2) (V0.drew.alloc (.cells #[.pointer (some ⟨rb, 0, none⟩), .pointer (some ⟨rb, 1, none⟩)] 161)) (by kernel_rfl) (by kernel_rfl) (XD0.out.keep al0) ?_ ar_nil)
  refine rg_call 8 (some 12) 106 #[.agg #[.func (.func f1) #[] #[c], .func (.func f2) #[] #[c], .func (.func f3) #[] #[c]], .slice (some ⟨V0.drew.heap.size, 0, none⟩) 2 2] (by kernel_rfl) (by kernel_rfl) (numbers_any (offs := [0, 1]) HH.out (HH.out.keep _ _ _ ID0.out al0) nb0 (fun h => by have := HH.out.old _ _ _ ID0.out h; omega) (by simp [k0.out, k1.out]) (HH.out.okt [(2, 2), (1, 3), (0, 4), (1, 5), (0, 6), (2, 7), (2, 8), (2, 9)] _ HO.out) rfl (by decide)) ?_
  rintro e' V1 ⟨rfl, II0, CC0⟩
  refine ⟨_, rfl, ((XD0.out.keep al0).chg CC0 HG.out), ?_⟩
  refine rg_done (by kernel_rfl) ?_
  simp only [Act.put, List.setIfInBounds_toArray, List.set_cons_zero, List.set_cons_succ]
  have I1 := hid3 II0
  have C1 := hid3 ((C0.out.trans (Chg.of (F := G) (joinB (belowD' V0) al0)) (fun _ _ h => h)).trans CC0 (fun _ _ h => h))
  have XB1 := hid3 ((XD0.out.keep al0).chg CC0 HG.out)
  go_wp2_with fail
  have ID1 := hid3 (HH.out.keep _ _ _ I1.out (belowD' V1))
  have XD1 := hid3 (XB1.out.keep (belowD' V1))
  refine rg_start (S := fun u => Blk u w.heap.size [.func (.func f1) #[] #[c], .func (.func f2) #[] #[c], .func (.func f3) #[] #[c]] 171) (by kernel_rfl) XD1.out ?_
  refine rg_load 0 (some 13) (.agg #[.func (.func f1) #[] #[c], .func (.func f2) #[] #[c], .func (.func f3) #[] #[c]]) 171 3 w.heap.size 0 (by kernel_rfl) (by kernel_rfl) (by kernel_rfl) (fun u h => ld_h (h.cell (i := 0) rfl) (h.cell (i := 1) rfl) (h.cell (i := 2) rfl)) (fun _ _ _ h => h) XD1.out ?_
  refine rg_take 1 (some 14) (.pointer (some ⟨rb, 0, none⟩)) (by kernel_rfl) (fun _ _ => by kernel_rfl) (fun _ _ _ h => h) XD1.out ?_
  refine rg_take 2 (some 15) (.pointer (some ⟨rb, 0, none⟩)) (by kernel_rfl) (fun _ _ => by kernel_rfl) (fun _ _ _ h => h) XD1.out ?_
  refine rg_take 3 (some 16) (.pointer (some ⟨rb, 2, none⟩)) (by kernel_rfl) (fun _ _ => by kernel_rfl) (fun _ _ _ h => h) XD1.out ?_
  have al1 := below_alloc V1.drew (.cells #[.pointer (some ⟨rb, 2, none⟩)] 167)
  have nb1 := blk_new V1.drew [.pointer (some ⟨rb, 2, none⟩)] 167
  refine rg_ready [4] (by kernel_rfl) (by simp) (ar_val 4 (some 17) (.slice (some ⟨V1.drew.heap.size, 0, none⟩) 1 1) (V1.drew.alloc (.cells #[.pointer (some ⟨rb, 2, none⟩)] 167)) (by kernel_rfl) (by kernel_rfl) (XD1.out.keep al1) ?_ ar_nil)
  refine rg_call 5 (some 18) 113 #[.agg #[.func (.func f1) #[] #[c], .func (.func f2) #[] #[c], .func (.func f3) #[] #[c]], .slice (some ⟨V1.drew.heap.size, 0, none⟩) 1 1] (by kernel_rfl) (by kernel_rfl) (decimals_any (offs := [2]) HH.out (HH.out.keep _ _ _ ID1.out al1) nb1 (fun h => by have := HH.out.old _ _ _ ID1.out h; omega) (by simp [k2.out]) (HH.out.okt [(1, 3), (0, 4), (1, 5), (0, 6), (2, 7), (2, 8), (2, 9)] _ HO.out) rfl (by decide)) ?_
  rintro e' V2 ⟨rfl, II1, CC1⟩
  refine ⟨_, rfl, ((XD1.out.keep al1).chg CC1 HG.out), ?_⟩
  refine rg_done (by kernel_rfl) ?_
  simp only [Act.put, List.setIfInBounds_toArray, List.set_cons_zero, List.set_cons_succ]
  have I2 := hid3 II1
  have C2 := hid3 ((C1.out.trans (Chg.of (F := G) (joinB (belowD' V1) al1)) (fun _ _ h => h)).trans CC1 (fun _ _ h => h))
  have XB2 := hid3 ((XD1.out.keep al1).chg CC1 HG.out)
  go_wp2_with fail
  have ID2 := hid3 (HH.out.keep _ _ _ I2.out (belowD' V2))
  have XD2 := hid3 (XB2.out.keep (belowD' V2))
  refine rg_start (S := fun u => Blk u w.heap.size [.func (.func f1) #[] #[c], .func (.func f2) #[] #[c], .func (.func f3) #[] #[c]] 171) (by kernel_rfl) XD2.out ?_
  refine rg_take 0 (some 19) (.pointer (some ⟨w.heap.size, 1, none⟩)) (by kernel_rfl) (fun _ _ => by kernel_rfl) (fun _ _ _ h => h) XD2.out ?_
  refine rg_load 1 (some 20) (.func (.func f2) #[] #[c]) 166 19 w.heap.size 1 (by kernel_rfl) (by kernel_rfl) (by kernel_rfl) (fun u h => ld_f2 (h.cell (i := 1) rfl)) (fun _ _ _ h => h) XD2.out ?_
  refine rg_take 2 (some 21) (.pointer (some ⟨rb, 0, none⟩)) (by kernel_rfl) (fun _ _ => by kernel_rfl) (fun _ _ _ h => h) XD2.out ?_
  refine rg_take 3 (some 22) (.pointer (some ⟨rb, 0, none⟩)) (by kernel_rfl) (fun _ _ => by kernel_rfl) (fun _ _ _ h => h) XD2.out ?_
  refine rg_take 4 (some 23) (.pointer (some ⟨rb, 3, none⟩)) (by kernel_rfl) (fun _ _ => by kernel_rfl) (fun _ _ _ h => h) XD2.out ?_
  refine rg_call 5 (some 24) f2 #[.pointer (some ⟨rb, 3, none⟩), c] (by kernel_rfl) (run_cv (T := #[164]) (x := 20) (y := 23) (by kernel_rfl) (by kernel_rfl) (by kernel_rfl) HH.out.e2) (HH.out.t _ _ _ ID2.out (HH.out.okt [(0, 4), (1, 5), (0, 6), (2, 7), (2, 8), (2, 9)] _ HO.out) k3.out) ?_
  rintro e' V3 ⟨rfl, II2, CC2⟩
  refine ⟨_, rfl, (XD2.out.chg CC2 HG.out), ?_⟩
  refine rg_done (by kernel_rfl) ?_
  simp only [Act.put, List.setIfInBounds_toArray, List.set_cons_zero, List.set_cons_succ]
  have I3 := hid3 II2
  have C3 := hid3 ((C2.out.trans (Chg.of (F := G) (belowD' V2)) (fun _ _ h => h)).trans CC2 (fun _ _ h => h))
  have XB3 := hid3 (XD2.out.chg CC2 HG.out)
  go_wp2_with fail
  have ID3 := hid3 (HH.out.keep _ _ _ I3.out (belowD' V3))
  have XD3 := hid3 (XB3.out.keep (belowD' V3))
  refine rg_start (S := fun u => Blk u w.heap.size [.func (.func f1) #[] #[c], .func (.func f2) #[] #[c], .func (.func f3) #[] #[c]] 171) (by kernel_rfl) XD3.out ?_
  refine rg_load 0 (some 25) (.agg #[.func (.func f1) #[] #[c], .func (.func f2) #[] #[c], .func (.func f3) #[] #[c]]) 171 3 w.heap.size 0 (by kernel_rfl) (by kernel_rfl) (by kernel_rfl) (fun u h => ld_h (h.cell (i := 0) rfl) (h.cell (i := 1) rfl) (h.cell (i := 2) rfl)) (fun _ _ _ h => h) XD3.out ?_
  refine rg_take 1 (some 26) (.pointer (some ⟨rb, 0, none⟩)) (by kernel_rfl) (fun _ _ => by kernel_rfl) (fun _ _ _ h => h) XD3.out ?_
  refine rg_take 2 (some 27) (.pointer (some ⟨rb, 0, none⟩)) (by kernel_rfl) (fun _ _ => by kernel_rfl) (fun _ _ _ h => h) XD3.out ?_
  refine rg_take 3 (some 28) (.pointer (some ⟨rb, 4, none⟩)) (by kernel_rfl) (fun _ _ => by kernel_rfl) (fun _ _ _ h => h) XD3.out ?_
  have al3 := below_alloc V3.drew (.cells #[.pointer (some ⟨rb, 4, none⟩)] 161)
  have nb3 := blk_new V3.drew [.pointer (some ⟨rb, 4, none⟩)] 161
  refine rg_ready [4] (by kernel_rfl) (by simp) (ar_val 4 (some 29) (.slice (some ⟨V3.drew.heap.size, 0, none⟩) 1 1) (V3.drew.alloc (.cells #[.pointer (some ⟨rb, 4, none⟩)] 161)) (by kernel_rfl) (by kernel_rfl) (XD3.out.keep al3) ?_ ar_nil)
  refine rg_call 5 (some 30) 106 #[.agg #[.func (.func f1) #[] #[c], .func (.func f2) #[] #[c], .func (.func f3) #[] #[c]], .slice (some ⟨V3.drew.heap.size, 0, none⟩) 1 1] (by kernel_rfl) (by kernel_rfl) (numbers_any (offs := [4]) HH.out (HH.out.keep _ _ _ ID3.out al3) nb3 (fun h => by have := HH.out.old _ _ _ ID3.out h; omega) (by simp [k4.out]) (HH.out.okt [(1, 5), (0, 6), (2, 7), (2, 8), (2, 9)] _ HO.out) rfl (by decide)) ?_
  rintro e' V4 ⟨rfl, II3, CC3⟩
  refine ⟨_, rfl, ((XD3.out.keep al3).chg CC3 HG.out), ?_⟩
  refine rg_done (by kernel_rfl) ?_
  simp only [Act.put, List.setIfInBounds_toArray, List.set_cons_zero, List.set_cons_succ]
  have I4 := hid3 II3
  have C4 := hid3 ((C3.out.trans (Chg.of (F := G) (joinB (belowD' V3) al3)) (fun _ _ h => h)).trans CC3 (fun _ _ h => h))
  have XB4 := hid3 ((XD3.out.keep al3).chg CC3 HG.out)
  go_wp2_with fail
  have ID4 := hid3 (HH.out.keep _ _ _ I4.out (belowD' V4))
  have XD4 := hid3 (XB4.out.keep (belowD' V4))
  refine rg_start (S := fun u => Blk u w.heap.size [.func (.func f1) #[] #[c], .func (.func f2) #[] #[c], .func (.func f3) #[] #[c]] 171) (by kernel_rfl) XD4.out ?_
  refine rg_take 0 (some 31) (.pointer (some ⟨w.heap.size, 1, none⟩)) (by kernel_rfl) (fun _ _ => by kernel_rfl) (fun _ _ _ h => h) XD4.out ?_
  refine rg_load 1 (some 32) (.func (.func f2) #[] #[c]) 166 31 w.heap.size 1 (by kernel_rfl) (by kernel_rfl) (by kernel_rfl) (fun u h => ld_f2 (h.cell (i := 1) rfl)) (fun _ _ _ h => h) XD4.out ?_
  refine rg_take 2 (some 33) (.pointer (some ⟨rb, 0, none⟩)) (by kernel_rfl) (fun _ _ => by kernel_rfl) (fun _ _ _ h => h) XD4.out ?_
  refine rg_take 3 (some 34) (.pointer (some ⟨rb, 0, none⟩)) (by kernel_rfl) (fun _ _ => by kernel_rfl) (fun _ _ _ h => h) XD4.out ?_
  refine rg_take 4 (some 35) (.pointer (some ⟨rb, 5, none⟩)) (by kernel_rfl) (fun _ _ => by kernel_rfl) (fun _ _ _ h => h) XD4.out ?_
  refine rg_call 5 (some 36) f2 #[.pointer (some ⟨rb, 5, none⟩), c] (by kernel_rfl) (run_cv (T := #[164]) (x := 32) (y := 35) (by kernel_rfl) (by kernel_rfl) (by kernel_rfl) HH.out.e2) (HH.out.t _ _ _ ID4.out (HH.out.okt [(0, 6), (2, 7), (2, 8), (2, 9)] _ HO.out) k5.out) ?_
  rintro e' V5 ⟨rfl, II4, CC4⟩
  refine ⟨_, rfl, (XD4.out.chg CC4 HG.out), ?_⟩
  refine rg_done (by kernel_rfl) ?_
  simp only [Act.put, List.setIfInBounds_toArray, List.set_cons_zero, List.set_cons_succ]
  have I5 := hid3 II4
  have C5 := hid3 ((C4.out.trans (Chg.of (F := G) (belowD' V4)) (fun _ _ h => h)).trans CC4 (fun _ _ h => h))
  have XB5 := hid3 (XD4.out.chg CC4 HG.out)
  go_wp2_with fail
  have ID5 := hid3 (HH.out.keep _ _ _ I5.out (belowD' V5))
  have XD5 := hid3 (XB5.out.keep (belowD' V5))
  refine rg_start (S := fun u => Blk u w.heap.size [.func (.func f1) #[] #[c], .func (.func f2) #[] #[c], .func (.func f3) #[] #[c]] 171) (by kernel_rfl) XD5.out ?_
  refine rg_load 0 (some 37) (.agg #[.func (.func f1) #[] #[c], .func (.func f2) #[] #[c], .func (.func f3) #[] #[c]]) 171 3 w.heap.size 0 (by kernel_rfl) (by kernel_rfl) (by kernel_rfl) (fun u h => ld_h (h.cell (i := 0) rfl) (h.cell (i := 1) rfl) (h.cell (i := 2) rfl)) (fun _ _ _ h => h) XD5.out ?_
  refine rg_take 1 (some 38) (.pointer (some ⟨rb, 0, none⟩)) (by kernel_rfl) (fun _ _ => by kernel_rfl) (fun _ _ _ h => h) XD5.out ?_
  refine rg_take 2 (some 39) (.pointer (some ⟨rb, 0, none⟩)) (by kernel_rfl) (fun _ _ => by kernel_rfl) (fun _ _ _ h => h) XD5.out ?_
  refine rg_take 3 (some 40) (.pointer (some ⟨rb, 6, none⟩)) (by kernel_rfl) (fun _ _ => by kernel_rfl) (fun _ _ _ h => h) XD5.out ?_
  have al5 := below_alloc V5.drew (.cells #[.pointer (some ⟨rb, 6, none⟩)] 161)
  have nb5 := blk_new V5.drew [.pointer (some ⟨rb, 6, none⟩)] 161
  refine rg_ready [4] (by kernel_rfl) (by simp) (ar_val 4 (some 41) (.slice (some ⟨V5.drew.heap.size, 0, none⟩) 1 1) (V5.drew.alloc (.cells #[.pointer (some ⟨rb, 6, none⟩)] 161)) (by kernel_rfl) (by kernel_rfl) (XD5.out.keep al5) ?_ ar_nil)
  refine rg_call 5 (some 42) 106 #[.agg #[.func (.func f1) #[] #[c], .func (.func f2) #[] #[c], .func (.func f3) #[] #[c]], .slice (some ⟨V5.drew.heap.size, 0, none⟩) 1 1] (by kernel_rfl) (by kernel_rfl) (numbers_any (offs := [6]) HH.out (HH.out.keep _ _ _ ID5.out al5) nb5 (fun h => by have := HH.out.old _ _ _ ID5.out h; omega) (by simp [k6.out]) (HH.out.okt [(2, 7), (2, 8), (2, 9)] _ HO.out) rfl (by decide)) ?_
  rintro e' V6 ⟨rfl, II5, CC5⟩
  refine ⟨_, rfl, ((XD5.out.keep al5).chg CC5 HG.out), ?_⟩
  refine rg_done (by kernel_rfl) ?_
  simp only [Act.put, List.setIfInBounds_toArray, List.set_cons_zero, List.set_cons_succ]
  have I6 := hid3 II5
  have C6 := hid3 ((C5.out.trans (Chg.of (F := G) (joinB (belowD' V5) al5)) (fun _ _ h => h)).trans CC5 (fun _ _ h => h))
  have XB6 := hid3 ((XD5.out.keep al5).chg CC5 HG.out)
  go_wp2_with fail
  have ID6 := hid3 (HH.out.keep _ _ _ I6.out (belowD' V6))
  have XD6 := hid3 (XB6.out.keep (belowD' V6))
  refine rg_start (S := fun u => Blk u w.heap.size [.func (.func f1) #[] #[c], .func (.func f2) #[] #[c], .func (.func f3) #[] #[c]] 171) (by kernel_rfl) XD6.out ?_
  refine rg_load 0 (some 43) (.agg #[.func (.func f1) #[] #[c], .func (.func f2) #[] #[c], .func (.func f3) #[] #[c]]) 171 3 w.heap.size 0 (by kernel_rfl) (by kernel_rfl) (by kernel_rfl) (fun u h => ld_h (h.cell (i := 0) rfl) (h.cell (i := 1) rfl) (h.cell (i := 2) rfl)) (fun _ _ _ h => h) XD6.out ?_
  refine rg_take 1 (some 44) (.pointer (some ⟨rb, 0, none⟩)) (by kernel_rfl) (fun _ _ => by kernel_rfl) (fun _ _ _ h => h) XD6.out ?_
  refine rg_take 2 (some 45) (.pointer (some ⟨rb, 0, none⟩)) (by kernel_rfl) (fun _ _ => by kernel_rfl) (fun _ _ _ h => h) XD6.out ?_
  refine rg_take 3 (some 46) (.pointer (some ⟨rb, 7, none⟩)) (by kernel_rfl) (fun _ _ => by kernel_rfl) (fun _ _ _ h => h) XD6.out ?_
  refine rg_take 4 (some 47) (.pointer (some ⟨rb, 0, none⟩)) (by kernel_rfl) (fun _ _ => by kernel_rfl) (fun _ _ _ h => h) XD6.out ?_
  refine rg_take 5 (some 48) (.pointer (some ⟨rb, 0, none⟩)) (by kernel_rfl) (fun _ _ => by kernel_rfl) (fun _ _ _ h => h) XD6.out ?_
  refine rg_take 6 (some 49) (.pointer (some ⟨rb, 8, none⟩)) (by kernel_rfl) (fun _ _ => by kernel_rfl) (fun _ _ _ h => h) XD6.out ?_
  refine rg_take 7 (some 50) (.pointer (some ⟨rb, 0, none⟩)) (by kernel_rfl) (fun _ _ => by kernel_rfl) (fun _ _ _ h => h) XD6.out ?_
  refine rg_take 8 (some 51) (.pointer (some ⟨rb, 0, none⟩)) (by kernel_rfl) (fun _ _ => by kernel_rfl) (fun _ _ _ h => h) XD6.out ?_
  refine rg_take 9 (some 52) (.pointer (some ⟨rb, 9, none⟩)) (by kernel_rfl) (fun _ _ => by kernel_rfl) (fun _ _ _ h => h) XD6.out ?_
  have al6 := below_alloc V6.drew (.cells #[.pointer (some ⟨rb, 7, none⟩), .pointer (some ⟨rb, 8, none⟩), .pointer (some ⟨rb, 9, none⟩)] 167)
  have nb6 := blk_new V6.drew [.pointer (some ⟨rb, 7, none⟩), .pointer (some ⟨rb, 8, none⟩), .pointer (some ⟨rb, 9, none⟩)] 167
  refine rg_ready [10] (by kernel_rfl) (by simp) (ar_val 10 (some 53) (.slice (some ⟨V6.drew.heap.size, 0, none⟩) 3 3) (V6.drew.alloc (.cells #[.pointer (some ⟨rb, 7, none⟩), .pointer (some ⟨rb, 8, none⟩), .pointer (some ⟨rb, 9, none⟩)] 167)) (by kernel_rfl) (by kernel_rfl) (XD6.out.keep al6) ?_ ar_nil)
  refine rg_call 11 (some 54) 113 #[.agg #[.func (.func f1) #[] #[c], .func (.func f2) #[] #[c], .func (.func f3) #[] #[c]], .slice (some ⟨V6.drew.heap.size, 0, none⟩) 3 3] (by kernel_rfl) (by kernel_rfl) (decimals_any (offs := [7, 8, 9]) HH.out (HH.out.keep _ _ _ ID6.out al6) nb6 (fun h => by have := HH.out.old _ _ _ ID6.out h; omega) (by simp [k7.out, k8.out, k9.out]) (HH.out.okt [] _ HO.out) rfl (by decide)) ?_
  rintro e' V7 ⟨rfl, II6, CC6⟩
  refine ⟨_, rfl, ((XD6.out.keep al6).chg CC6 HG.out), ?_⟩
  refine rg_done (by kernel_rfl) ?_
  simp only [Act.put, List.setIfInBounds_toArray, List.set_cons_zero, List.set_cons_succ]
  have I7 := hid3 II6
  have C7 := hid3 ((C6.out.trans (Chg.of (F := G) (joinB (belowD' V6) al6)) (fun _ _ h => h)).trans CC6 (fun _ _ h => h))
  have XB7 := hid3 ((XD6.out.keep al6).chg CC6 HG.out)
  go_wp2_with fail
  go_end0
  exact ⟨rfl, I7.out, C7.out⟩
set_option maxHeartbeats 2000000 in
set_option maxRecDepth 100000 in
theorem ofDelegation_any {σ : Type} {Inv : σ → World → Prop} {G : Nat → Prop} {rb : Nat} {f1 f2 f3 : FuncId} {c : Value} {nx : Nat → Nat → σ → σ} {kd : Nat → Nat} {ok : σ → Prop} {s : σ} {w : World} (H : HC σ Inv G rb f1 f2 f3 c nx kd ok) (hI : Inv s w) (hkd : ∀ p ∈ [(2, 0), (0, 1), (2, 2)], kd p.2 = p.1) (hok : ok (thr nx [(2, 0), (0, 1), (2, 2)] s)) :
    Calls Tryz.prog 57 #[.pointer (some ⟨rb, 0, none⟩), .agg #[.func (.func f1) #[] #[c], .func (.func f2) #[] #[c], .func (.func f3) #[] #[c]]] w (FinH σ Inv G (thr nx [(2, 0), (0, 1), (2, 2)] s) w) := by
  have al0 := below_alloc w (.cells #[.func (.func f1) #[] #[c], .func (.func f2) #[] #[c], .func (.func f3) #[] #[c]] 171)
  have XB := hid3 (blk_new w [.func (.func f1) #[] #[c], .func (.func f2) #[] #[c], .func (.func f3) #[] #[c]] 171)
  have HG := hid3 (show ¬ G w.heap.size from fun h => by have := H.old s w _ hI h; omega)
  have I0 := hid3 (H.keep _ _ _ hI al0)
  have C0 := hid3 (show Chg G w _ from Chg.of al0)
  have k0 : Hid (kd 0 = 2) := hkd (2, 0) (by simp)
  have k1 : Hid (kd 1 = 0) := hkd (0, 1) (by simp)
  have k2 : Hid (kd 2 = 2) := hkd (2, 2) (by simp)
  have HH := hid3 H
  have HO := hid3 hok
  clear H hI hkd al0 hok
  go_enter Tryz.func57, Tryz.ntmps57
  go_wp2_with fail
  obtain ⟨V0, hV0⟩ : ∃ V0, Hid (w.alloc (.cells #[.func (.func f1) #[] #[c], .func (.func f2) #[] #[c], .func (.func f3) #[] #[c]] 171) = V0) := ⟨_, rfl⟩
  rw [hV0.out] at XB I0 C0 ⊢
  have ID0 := hid3 (HH.out.keep _ _ _ I0.out (belowD' V0))
  have XD0 := hid3 (XB.out.keep (belowD' V0))
  refine rg_start (S := fun u => Blk u w.heap.size [.func (.func f1) #[] #[c], .func (.func f2) #[] #[c], .func (.func f3) #[] #[c]] 171) (by kernel_rfl) XD0.out ?_
  refine rg_load 0 (some 4) (.agg #[.func (.func f1) #[] #[c], .func (.func f2) #[] #[c], .func (.func f3) #[] #[c]]) 171 3 w.heap.size 0 (by kernel_rfl) (by kernel_rfl) (by kernel_rfl) (fun u h => ld_h (h.cell (i := 0) rfl) (h.cell (i := 1) rfl) (h.cell (i := 2) rfl)) (fun _ _ _ h => h) XD0.out ?_
  refine rg_take 1 (some 5) (.pointer (some ⟨rb, 0, none⟩)) (by kernel_rfl) (fun _ _ => by kernel_rfl) (fun _ _ _ h => h) XD0.out ?_
  refine rg_take 2 (some 6) (.pointer (some ⟨rb, 0, none⟩)) (by kernel_rfl) (fun _ _ => by kernel_rfl) (fun _ _ _ h => h) XD0.out ?_
  refine rg_take 3 (some 7) (.pointer (some ⟨rb, 0, none⟩)) (by kernel_rfl) (fun _ _ => by kernel_rfl) (fun _ _ _ h => h) XD0.out ?_
  have al0 := below_alloc V0.drew (.cells #[.pointer (some ⟨rb, 0, none⟩)] 167)
  have nb0 := blk_new V0.drew [.pointer (some ⟨rb, 0, none⟩)] 167
  refine rg_ready [4] (by kernel_rfl) (by simp) (ar_val 4 (some 8) (.slice (some ⟨V0.drew.heap.size, 0, none⟩) 1 1) (V0.drew.alloc (.cells #[.pointer (some ⟨rb, 0, none⟩)] 167)) (by kernel_rfl) (by kernel_rfl) (XD0.out.keep al0) ?_ ar_nil)
  refine rg_call 5 (some 9) 113 #[.agg #[.func (.func f1) #[] #[c], .func (.func f2) #[] #[c], .func (.func f3) #[] #[c]], .slice (some ⟨V0.drew.heap.size, 0, none⟩) 1 1] (by kernel_rfl) (by kernel_rfl) (decimals_any (offs := [0]) HH.out (HH.out.keep _ _ _ ID0.out al0) nb0 (fun h => by have := HH.out.old _ _ _ ID0.out h; omega) (by simp [k0.out]) (HH.out.okt [(0, 1), (2, 2)] _ HO.out) rfl (by decide)) ?_
  rintro e' V1 ⟨rfl, II0, CC0⟩
  refine ⟨_, rfl, ((XD0.out.keep al0).chg CC0 HG.out), ?_⟩
  refine rg_done (by kernel_rfl) ?_
  simp only [Act.put, List.setIfInBounds_toArray, List.set_cons_zero, List.set_cons_succ]
  have I1 := hid3 II0
  have C1 := hid3 ((C0.out.trans (Chg.of (F := G) (joinB (belowD' V0) al0)) (fun _ _ h => h)).trans CC0 (fun _ _ h => h))
  have XB1 := hid3 ((XD0.out.keep al0).chg CC0 HG.out)
  go_wp2_with fail
  have ID1 := hid3 (HH.out.keep _ _ _ I1.out (belowD' V1))
  have XD1 := hid3 (XB1.out.keep (belowD' V1))
  refine rg_start (S := fun u => Blk u w.heap.size [.func (.func f1) #[] #[c], .func (.func f2) #[] #[c], .func (.func f3) #[] #[c]] 171) (by kernel_rfl) XD1.out ?_
  refine rg_load 0 (some 10) (.agg #[.func (.func f1) #[] #[c], .func (.func f2) #[] #[c], .func (.func f3) #[] #[c]]) 171 3 w.heap.size 0 (by kernel_rfl) (by kernel_rfl) (by kernel_rfl) (fun u h => ld_h (h.cell (i := 0) rfl) (h.cell (i := 1) rfl) (h.cell (i := 2) rfl)) (fun _ _ _ h => h) XD1.out ?_
  refine rg_take 1 (some 11) (.pointer (some ⟨rb, 0, none⟩)) (by kernel_rfl) (fun _ _ => by kernel_rfl) (fun _ _ _ h => h) XD1.out ?_
  refine rg_take 2 (some 12) (.pointer (some ⟨rb, 0, none⟩)) (by kernel_rfl) (fun _ _ => by kernel_rfl) (fun _ _ _ h => h) XD1.out ?_
  refine rg_take 3 (some 13) (.pointer (some ⟨rb, 1, none⟩)) (by kernel_rfl) (fun _ _ => by kernel_rfl) (fun _ _ _ h => h) XD1.out ?_
  have al1 := below_alloc V1.drew (.cells #[.pointer (some ⟨rb, 1, none⟩)] 161)
  have nb1 := blk_new V1.drew [.pointer (some ⟨rb, 1, none⟩)] 161
  refine rg_ready [4] (by kernel_rfl) (by simp) (ar_val 4 (some 14) (.slice (some ⟨V1.drew.heap.size, 0, none⟩) 1 1) (V1.drew.alloc (.cells #[.pointer (some ⟨rb, 1, none⟩)] 161)) (by kernel_rfl) (by kernel_rfl) (XD1.out.keep al1) ?_ ar_nil)
  refine rg_call 5 (some 15) 106 #[.agg #[.func (.func f1) #[] #[c], .func (.func f2) #[] #[c], .func (.func f3) #[] #[c]], .slice (some ⟨V1.drew.heap.size, 0, none⟩) 1 1] (by kernel_rfl) (by kernel_rfl) (numbers_any (offs := [1]) HH.out (HH.out.keep _ _ _ ID1.out al1) nb1 (fun h => by have := HH.out.old _ _ _ ID1.out h; omega) (by simp [k1.out]) (HH.out.okt [(2, 2)] _ HO.out) rfl (by decide)) ?_
  rintro e' V2 ⟨rfl, II1, CC1⟩
  refine ⟨_, rfl, ((XD1.out.keep al1).chg CC1 HG.out), ?_⟩
  refine rg_done (by kernel_rfl) ?_
  simp only [Act.put, List.setIfInBounds_toArray, List.set_cons_zero, List.set_cons_succ]
  have I2 := hid3 II1
  have C2 := hid3 ((C1.out.trans (Chg.of (F := G) (joinB (belowD' V1) al1)) (fun _ _ h => h)).trans CC1 (fun _ _ h => h))
  have XB2 := hid3 ((XD1.out.keep al1).chg CC1 HG.out)
  go_wp2_with fail
  have ID2 := hid3 (HH.out.keep _ _ _ I2.out (belowD' V2))
  have XD2 := hid3 (XB2.out.keep (belowD' V2))
  refine rg_start (S := fun u => Blk u w.heap.size [.func (.func f1) #[] #[c], .func (.func f2) #[] #[c], .func (.func f3) #[] #[c]] 171) (by kernel_rfl) XD2.out ?_
  refine rg_load 0 (some 16) (.agg #[.func (.func f1) #[] #[c], .func (.func f2) #[] #[c], .func (.func f3) #[] #[c]]) 171 3 w.heap.size 0 (by kernel_rfl) (by kernel_rfl) (by kernel_rfl) (fun u h => ld_h (h.cell (i := 0) rfl) (h.cell (i := 1) rfl) (h.cell (i := 2) rfl)) (fun _ _ _ h => h) XD2.out ?_
  refine rg_take 1 (some 17) (.pointer (some ⟨rb, 0, none⟩)) (by kernel_rfl) (fun _ _ => by kernel_rfl) (fun _ _ _ h => h) XD2.out ?_
  refine rg_take 2 (some 18) (.pointer (some ⟨rb, 0, none⟩)) (by kernel_rfl) (fun _ _ => by kernel_rfl) (fun _ _ _ h => h) XD2.out ?_
  refine rg_take 3 (some 19) (.pointer (some ⟨rb, 2, none⟩)) (by kernel_rfl) (fun _ _ => by kernel_rfl) (fun _ _ _ h => h) XD2.out ?_
  have al2 := below_alloc V2.drew (.cells #[.pointer (some ⟨rb, 2, none⟩)] 167)
  have nb2 := blk_new V2.drew [.pointer (some ⟨rb, 2, none⟩)] 167
  refine rg_ready [4] (by kernel_rfl) (by simp) (ar_val 4 (some 20) (.slice (some ⟨V2.drew.heap.size, 0, none⟩) 1 1) (V2.drew.alloc (.cells #[.pointer (some ⟨rb, 2, none⟩)] 167)) (by kernel_rfl) (by kernel_rfl) (XD2.out.keep al2) ?_ ar_nil)
  refine rg_call 5 (some 21) 113 #[.agg #[.func (.func f1) #[] #[c], .func (.func f2) #[] #[c], .func (.func f3) #[] #[c]], .slice (some ⟨V2.drew.heap.size, 0, none⟩) 1 1] (by kernel_rfl) (by kernel_rfl) (decimals_any (offs := [2]) HH.out (HH.out.keep _ _ _ ID2.out al2) nb2 (fun h => by have := HH.out.old _ _ _ ID2.out h; omega) (by simp [k2.out]) (HH.out.okt [] _ HO.out) rfl (by decide)) ?_
  rintro e' V3 ⟨rfl, II2, CC2⟩
  refine ⟨_, rfl, ((XD2.out.keep al2).chg CC2 HG.out), ?_⟩
  refine rg_done (by kernel_rfl) ?_
  simp only [Act.put, List.setIfInBounds_toArray, List.set_cons_zero, List.set_cons_succ]
  have I3 := hid3 II2
  have C3 := hid3 ((C2.out.trans (Chg.of (F := G) (joinB (belowD' V2) al2)) (fun _ _ h => h)).trans CC2 (fun _ _ h => h))
  have XB3 := hid3 ((XD2.out.keep al2).chg CC2 HG.out)
  go_wp2_with fail
  go_end0
  exact ⟨rfl, I3.out, C3.out⟩
set_option maxHeartbeats 2000000 in
set_option maxRecDepth 100000 in
theorem ofHistory_any {σ : Type} {Inv : σ → World → Prop} {G : Nat → Prop} {rb : Nat} {f1 f2 f3 : FuncId} {c : Value} {nx : Nat → Nat → σ → σ} {kd : Nat → Nat} {ok : σ → Prop} {s : σ} {w : World} (H : HC σ Inv G rb f1 f2 f3 c nx kd ok) (hI : Inv s w) (hkd : ∀ p ∈ [(2, 0), (0, 1)], kd p.2 = p.1) (hok : ok (thr nx [(2, 0), (0, 1)] s)) :
    Calls Tryz.prog 59 #[.pointer (some ⟨rb, 0, none⟩), .agg #[.func (.func f1) #[] #[c], .func (.func f2) #[] #[c], .func (.func f3) #[] #[c]]] w (FinH σ Inv G (thr nx [(2, 0), (0, 1)] s) w) := by
  have al0 := below_alloc w (.cells #[.func (.func f1) #[] #[c], .func (.func f2) #[] #[c], .func (.func f3) #[] #[c]] 171)
  have XB := hid3 (blk_new w [.func (.func f1) #[] #[c], .func (.func f2) #[] #[c], .func (.func f3) #[] #[c]] 171)
  have HG := hid3 (show ¬ G w.heap.size from fun h => by have := H.old s w _ hI h; omega)
  have I0 := hid3 (H.keep _ _ _ hI al0)
  have C0 := hid3 (show Chg G w _ from Chg.of al0)
  have k0 : Hid (kd 0 = 2) := hkd (2, 0) (by simp)
  have k1 : Hid (kd 1 = 0) := hkd (0, 1) (by simp)
  have HH := hid3 H
  have HO := hid3 hok
  clear H hI hkd al0 hok
  go_enter Tryz.func59, Tryz.ntmps59
  go_wp2_with fail
  obtain ⟨V0, hV0⟩ : ∃ V0, Hid (w.alloc (.cells #[.func (.func f1) #[] #[c], .func (.func f2) #[] #[c], .func (.func f3) #[] #[c]] 171) = V0) := ⟨_, rfl⟩
  rw [hV0.out] at XB I0 C0 ⊢
  have ID0 := hid3 (HH.out.keep _ _ _ I0.out (belowD' V0))
  have XD0 := hid3 (XB.out.keep (belowD' V0))
  refine rg_start (S := fun u => Blk u w.heap.size [.func (.func f1) #[] #[c], .func (.func f2) #[] #[c], .func (.func f3) #[] #[c]] 171) (by kernel_rfl) XD0.out ?_
  refine rg_load 0 (some 4) (.agg #[.func (.func f1) #[] #[c], .func (.func f2) #[] #[c], .func (.func f3) #[] #[c]]) 171 3 w.heap.size 0 (by kernel_rfl) (by kernel_rfl) (by kernel_rfl) (fun u h => ld_h (h.cell (i := 0) rfl) (h.cell (i := 1) rfl) (h.cell (i := 2) rfl)) (fun _ _ _ h => h) XD0.out ?_
  refine rg_take 1 (some 5) (.pointer (some ⟨rb, 0, none⟩)) (by kernel_rfl) (fun _ _ => by kernel_rfl) (fun _ _ _ h => h) XD0.out ?_
  refine rg_take 2 (some 6) (.pointer (some ⟨rb, 0, none⟩)) (by kernel_rfl) (fun _ _ => by kernel_rfl) (fun _ _ _ h => h) XD0.out ?_
  refine rg_take 3 (some 7) (.pointer (some ⟨rb, 0, none⟩)) (by kernel_rfl) (fun _ _ => by kernel_rfl) (fun _ _ _ h => h) XD0.out ?_
  have al0 := below_alloc V0.drew (.cells #[.pointer (some ⟨rb, 0, none⟩)] 167)
  have nb0 := blk_new V0.drew [.pointer (some ⟨rb, 0, none⟩)] 167
  refine rg_ready [4] (by kernel_rfl) (by simp) (ar_val 4 (some 8) (.slice (some ⟨V0.drew.heap.size, 0, none⟩) 1 1) (V0.drew.alloc (.cells #[.pointer (some ⟨rb, 0, none⟩)] 167)) (by kernel_rfl) (by kernel_rfl) (XD0.out.keep al0) ?_ ar_nil)
  refine rg_call 5 (some 9) 113 #[.agg #[.func (.func f1) #[] #[c], .func (.func f2) #[] #[c], .func (.func f3) #[] #[c]], .slice (some ⟨V0.drew.heap.size, 0, none⟩) 1 1] (by kernel_rfl) (by kernel_rfl) (decimals_any (offs := [0]) HH.out (HH.out.keep _ _ _ ID0.out al0) nb0 (fun h => by have := HH.out.old _ _ _ ID0.out h; omega) (by simp [k0.out]) (HH.out.okt [(0, 1)] _ HO.out) rfl (by decide)) ?_
  rintro e' V1 ⟨rfl, II0, CC0⟩
  refine ⟨_, rfl, ((XD0.out.keep al0).chg CC0 HG.out), ?_⟩
  refine rg_done (by kernel_rfl) ?_
  simp only [Act.put, List.setIfInBounds_toArray, List.set_cons_zero, List.set_cons_succ]
  have I1 := hid3 II0
  have C1 := hid3 ((C0.out.trans (Chg.of (F := G) (joinB (belowD' V0) al0)) (fun _ _ h => h)).trans CC0 (fun _ _ h => h))
  have XB1 := hid3 ((XD0.out.keep al0).chg CC0 HG.out)
  go_wp2_with fail
  have ID1 := hid3 (HH.out.keep _ _ _ I1.out (belowD' V1))
  have XD1 := hid3 (XB1.out.keep (belowD' V1))
  refine rg_start (S := fun u => Blk u w.heap.size [.func (.func f1) #[] #[c], .func (.func f2) #[] #[c], .func (.func f3) #[] #[c]] 171) (by kernel_rfl) XD1.out ?_
  refine rg_load 0 (some 10) (.agg #[.func (.func f1) #[] #[c], .func (.func f2) #[] #[c], .func (.func f3) #[] #[c]]) 171 3 w.heap.size 0 (by kernel_rfl) (by kernel_rfl) (by kernel_rfl) (fun u h => ld_h (h.cell (i := 0) rfl) (h.cell (i := 1) rfl) (h.cell (i := 2) rfl)) (fun _ _ _ h => h) XD1.out ?_
  refine rg_take 1 (some 11) (.pointer (some ⟨rb, 0, none⟩)) (by kernel_rfl) (fun _ _ => by kernel_rfl) (fun _ _ _ h => h) XD1.out ?_
  refine rg_take 2 (some 12) (.pointer (some ⟨rb, 0, none⟩)) (by kernel_rfl) (fun _ _ => by kernel_rfl) (fun _ _ _ h => h) XD1.out ?_
  refine rg_take 3 (some 13) (.pointer (some ⟨rb, 1, none⟩)) (by kernel_rfl) (fun _ _ => by kernel_rfl) (fun _ _ _ h => h) XD1.out ?_
  have al1 := below_alloc V1.drew (.cells #[.pointer (some ⟨rb, 1, none⟩)] 161)
  have nb1 := blk_new V1.drew [.pointer (some ⟨rb, 1, none⟩)] 161
  refine rg_ready [4] (by kernel_rfl) (by simp) (ar_val 4 (some 14) (.slice (some ⟨V1.drew.heap.size, 0, none⟩) 1 1) (V1.drew.alloc (.cells #[.pointer (some ⟨rb, 1, none⟩)] 161)) (by kernel_rfl) (by kernel_rfl) (XD1.out.keep al1) ?_ ar_nil)
  refine rg_call 5 (some 15) 106 #[.agg #[.func (.func f1) #[] #[c], .func (.func f2) #[] #[c], .func (.func f3) #[] #[c]], .slice (some ⟨V1.drew.heap.size, 0, none⟩) 1 1] (by kernel_rfl) (by kernel_rfl) (numbers_any (offs := [1]) HH.out (HH.out.keep _ _ _ ID1.out al1) nb1 (fun h => by have := HH.out.old _ _ _ ID1.out h; omega) (by simp [k1.out]) (HH.out.okt [] _ HO.out) rfl (by decide)) ?_
  rintro e' V2 ⟨rfl, II1, CC1⟩
  refine ⟨_, rfl, ((XD1.out.keep al1).chg CC1 HG.out), ?_⟩
  refine rg_done (by kernel_rfl) ?_
  simp only [Act.put, List.setIfInBounds_toArray, List.set_cons_zero, List.set_cons_succ]
  have I2 := hid3 II1
  have C2 := hid3 ((C1.out.trans (Chg.of (F := G) (joinB (belowD' V1) al1)) (fun _ _ h => h)).trans CC1 (fun _ _ h => h))
  have XB2 := hid3 ((XD1.out.keep al1).chg CC1 HG.out)
  go_wp2_with fail
  go_end0
  exact ⟨rfl, I2.out, C2.out⟩
set_option maxHeartbeats 2000000 in
set_option maxRecDepth 100000 in
theorem ofCut_any {σ : Type} {Inv : σ → World → Prop} {G : Nat → Prop} {rb : Nat} {f1 f2 f3 : FuncId} {c : Value} {nx : Nat → Nat → σ → σ} {kd : Nat → Nat} {ok : σ → Prop} {s : σ} {w : World} (H : HC σ Inv G rb f1 f2 f3 c nx kd ok) (hI : Inv s w) (hkd : ∀ p ∈ [(0, 0), (0, 1)], kd p.2 = p.1) (hok : ok (thr nx [(0, 0), (0, 1)] s)) :
    Calls Tryz.prog 61 #[.pointer (some ⟨rb, 0, none⟩), .agg #[.func (.func f1) #[] #[c], .func (.func f2) #[] #[c], .func (.func f3) #[] #[c]]] w (FinH σ Inv G (thr nx [(0, 0), (0, 1)] s) w) := by
  have al0 := below_alloc w (.cells #[.func (.func f1) #[] #[c], .func (.func f2) #[] #[c], .func (.func f3) #[] #[c]] 171)
  have XB := hid3 (blk_new w [.func (.func f1) #[] #[c], .func (.func f2) #[] #[c], .func (.func f3) #[] #[c]] 171)
  have HG := hid3 (show ¬ G w.heap.size from fun h => by have := H.old s w _ hI h; omega)
  have I0 := hid3 (H.keep _ _ _ hI al0)
  have C0 := hid3 (show Chg G w _ from Chg.of al0)
  have k0 : Hid (kd 0 = 0) := hkd (0, 0) (by simp)
  have k1 : Hid (kd 1 = 0) := hkd (0, 1) (by simp)
  have HH := hid3 H
  have HO := hid3 hok
  clear H hI hkd al0 hok
  go_enter Tryz.func61, Tryz.ntmps61
  go_wp2_with fail
  obtain ⟨V0, hV0⟩ : ∃ V0, Hid (w.alloc (.cells #[.func (.func f1) #[] #[c], .func (.func f2) #[] #[c], .func (.func f3) #[] #[c]] 171) = V0) := ⟨_, rfl⟩
  rw [hV0.out] at XB I0 C0 ⊢
  have ID0 := hid3 (HH.out.keep _ _ _ I0.out (belowD' V0))
  have XD0 := hid3 (XB.out.keep (belowD' V0))
  refine rg_start (S := fun u => Blk u w.heap.size [.func (.func f1) #[] #[c], .func (.func f2) #[] #[c], .func (.func f3) #[] #[c]] 171) (by kernel_rfl) XD0.out ?_
  refine rg_load 0 (some 4) (.agg #[.func (.func f1) #[] #[c], .func (.func f2) #[] #[c], .func (.func f3) #[] #[c]]) 171 3 w.heap.size 0 (by kernel_rfl) (by kernel_rfl) (by kernel_rfl) (fun u h => ld_h (h.cell (i := 0) rfl) (h.cell (i := 1) rfl) (h.cell (i := 2) rfl)) (fun _ _ _ h => h) XD0.out ?_
  refine rg_take 1 (some 5) (.pointer (some ⟨rb, 0, none⟩)) (by kernel_rfl) (fun _ _ => by kernel_rfl) (fun _ _ _ h => h) XD0.out ?_
  refine rg_take 2 (some 6) (.pointer (some ⟨rb, 0, none⟩)) (by kernel_rfl) (fun _ _ => by kernel_rfl) (fun _ _ _ h => h) XD0.out ?_
  refine rg_take 3 (some 7) (.pointer (some ⟨rb, 0, none⟩)) (by kernel_rfl) (fun _ _ => by kernel_rfl) (fun _ _ _ h => h) XD0.out ?_
  refine rg_take 4 (some 8) (.pointer (some ⟨rb, 0, none⟩)) (by kernel_rfl) (fun _ _ => by kernel_rfl) (fun _ _ _ h => h) XD0.out ?_
  refine rg_take 5 (some 9) (.pointer (some ⟨rb, 0, none⟩)) (by kernel_rfl) (fun _ _ => by kernel_rfl) (fun _ _ _ h => h) XD0.out ?_
  refine rg_take 6 (some 10) (.pointer (some ⟨rb, 1, none⟩)) (by kernel_rfl) (fun _ _ => by kernel_rfl) (fun _ _ _ h => h) XD0.out ?_
  have al0 := below_alloc V0.drew (.cells #[.pointer (some ⟨rb, 0, none⟩), .pointer (some ⟨rb, 1, none⟩)] 161)
  have nb0 := blk_new V0.drew [.pointer (some ⟨rb, 0, none⟩), .pointer (some ⟨rb, 1, none⟩)] 161
  refine rg_ready [7] (by kernel_rfl) (by simp) (ar_val 7 (some 11) (.slice (some ⟨V0.drew.heap.size, 0, none⟩) 2 2) (V0.drew.alloc (.cells #[.pointer (some ⟨rb, 0, none⟩), .pointer (some ⟨rb, 1, none⟩)] 161)) (by kernel_rfl) (by kernel_rfl) (XD0.out.keep al0) ?_ ar_nil)
  refine rg_call 8 (some 12) 106 #[.agg #[.func (.func f1) #[] #[c], .func (.func f2) #[] #[c], .func (.func f3) #[] #[c]], .slice (some ⟨V0.drew.heap.size, 0, none⟩) 2 2] (by kernel_rfl) (by kernel_rfl) (numbers_any (offs := [0, 1]) HH.out (HH.out.keep _ _ _ ID0.out al0) nb0 (fun h => by have := HH.out.old _ _ _ ID0.out h; omega) (by simp [k0.out, k1.out]) (HH.out.okt [] _ HO.out) rfl (by decide)) ?_
  rintro e' V1 ⟨rfl, II0, CC0⟩
  refine ⟨_, rfl, ((XD0.out.keep al0).chg CC0 HG.out), ?_⟩
  refine rg_done (by kernel_rfl) ?_
  simp only [Act.put, List.setIfInBounds_toArray, List.set_cons_zero, List.set_cons_succ]
  have I1 := hid3 II0
  have C1 := hid3 ((C0.out.trans (Chg.of (F := G) (joinB (belowD' V0) al0)) (fun _ _ h => h)).trans CC0 (fun _ _ h => h))
  have XB1 := hid3 ((XD0.out.keep al0).chg CC0 HG.out)
  go_wp2_with fail
  go_end0
  exact ⟨rfl, I1.out, C1.out⟩
set_option maxHeartbeats 2000000 in
set_option maxRecDepth 100000 in
theorem ofUnbonding_any {σ : Type} {Inv : σ → World → Prop} {G : Nat → Prop} {rb : Nat} {f1 f2 f3 : FuncId} {c : Value} {nx : Nat → Nat → σ → σ} {kd : Nat → Nat} {ok : σ → Prop} {s : σ} {w : World} (H : HC σ Inv G rb f1 f2 f3 c nx kd ok) (hI : Inv s w) (hkd : ∀ p ∈ [(0, 0), (0, 1), (0, 2), (0, 3), (0, 4), (0, 5)], kd p.2 = p.1) (hok : ok (thr nx [(0, 0), (0, 1), (0, 2), (0, 3), (0, 4), (0, 5)] s)) :
    Calls Tryz.prog 63 #[.pointer (some ⟨rb, 0, none⟩), .agg #[.func (.func f1) #[] #[c], .func (.func f2) #[] #[c], .func (.func f3) #[] #[c]]] w (FinH σ Inv G (thr nx [(0, 0), (0, 1), (0, 2), (0, 3), (0, 4), (0, 5)] s) w) := by
  have al0 := below_alloc w (.cells #[.func (.func f1) #[] #[c], .func (.func f2) #[] #[c], .func (.func f3) #[] #[c]] 171)
  have XB := hid3 (blk_new w [.func (.func f1) #[] #[c], .func (.func f2) #[] #[c], .func (.func f3) #[] #[c]] 171)
  have HG := hid3 (show ¬ G w.heap.size from fun h => by have := H.old s w _ hI h; omega)
  have I0 := hid3 (H.keep _ _ _ hI al0)
  have C0 := hid3 (show Chg G w _ from Chg.of al0)
  have k0 : Hid (kd 0 = 0) := hkd (0, 0) (by simp)
  have k1 : Hid (kd 1 = 0) := hkd (0, 1) (by simp)
  have k2 : Hid (kd 2 = 0) := hkd (0, 2) (by simp)
  have k3 : Hid (kd 3 = 0) := hkd (0, 3) (by simp)
  have k4 : Hid (kd 4 = 0) := hkd (0, 4) (by simp)
  have k5 : Hid (kd 5 = 0) := hkd (0, 5) (by simp)
  have HH := hid3 H
  have HO := hid3 hok
  clear H hI hkd al0 hok
  go_enter Tryz.func63, Tryz.ntmps63
  go_wp2_with fail
  obtain ⟨V0, hV0⟩ : ∃ V0, Hid (w.alloc (.cells #[.func (.func f1) #[] #[c], .func (.func f2) #[] #[c], .func (.func f3) #[] #[c]] 171) = V0) := ⟨_, rfl⟩
  rw [hV0.out] at XB I0 C0 ⊢
  have ID0 := hid3 (HH.out.keep _ _ _ I0.out (belowD' V0))
  have XD0 := hid3 (XB.out.keep (belowD' V0))
  refine rg_start (S := fun u => Blk u w.heap.size [.func (.func f1) #[] #[c], .func (.func f2) #[] #[c], .func (.func f3) #[] #[c]] 171) (by kernel_rfl) XD0.out ?_
  refine rg_load 0 (some 4) (.agg #[.func (.func f1) #[] #[c], .func (.func f2) #[] #[c], .func (.func f3) #[] #[c]]) 171 3 w.heap.size 0 (by kernel_rfl) (by kernel_rfl) (by kernel_rfl) (fun u h => ld_h (h.cell (i := 0) rfl) (h.cell (i := 1) rfl) (h.cell (i := 2) rfl)) (fun _ _ _ h => h) XD0.out ?_
  refine rg_take 1 (some 5) (.pointer (some ⟨rb, 0, none⟩)) (by kernel_rfl) (fun _ _ => by kernel_rfl) (fun _ _ _ h => h) XD0.out ?_
  refine rg_take 2 (some 6) (.pointer (some ⟨rb, 0, none⟩)) (by kernel_rfl) (fun _ _ => by kernel_rfl) (fun _ _ _ h => h) XD0.out ?_
  refine rg_take 3 (some 7) (.pointer (some ⟨rb, 0, none⟩)) (by kernel_rfl) (fun _ _ => by kernel_rfl) (fun _ _ _ h => h) XD0.out ?_
  refine rg_take 4 (some 8) (.pointer (some ⟨rb, 0, none⟩)) (by kernel_rfl) (fun _ _ => by kernel_rfl) (fun _ _ _ h => h) XD0.out ?_
  refine rg_take 5 (some 9) (.pointer (some ⟨rb, 0, none⟩)) (by kernel_rfl) (fun _ _ => by kernel_rfl) (fun _ _ _ h => h) XD0.out ?_
  refine rg_take 6 (some 10) (.pointer (some ⟨rb, 1, none⟩)) (by kernel_rfl) (fun _ _ => by kernel_rfl) (fun _ _ _ h => h) XD0.out ?_
  refine rg_take 7 (some 11) (.pointer (some ⟨rb, 0, none⟩)) (by kernel_rfl) (fun _ _ => by kernel_rfl) (fun _ _ _ h => h) XD0.out ?_
  refine rg_take 8 (some 12) (.pointer (some ⟨rb, 0, none⟩)) (by kernel_rfl) (fun _ _ => by kernel_rfl) (fun _ _ _ h => h) XD0.out ?_
  refine rg_take 9 (some 13) (.pointer (some ⟨rb, 2, none⟩)) (by kernel_rfl) (fun _ _ => by kernel_rfl) (fun _ _ _ h => h) XD0.out ?_
  refine rg_take 10 (some 14) (.pointer (some ⟨rb, 0, none⟩)) (by kernel_rfl) (fun _ _ => by kernel_rfl) (fun _ _ _ h => h) XD0.out ?_
  refine rg_take 11 (some 15) (.pointer (some ⟨rb, 0, none⟩)) (by kernel_rfl) (fun _ _ => by kernel_rfl) (fun _ _ _ h => h) XD0.out ?_
  refine rg_take 12 (some 16) (.pointer (some ⟨rb, 3, none⟩)) (by kernel_rfl) (fun _ _ => by kernel_rfl) (fun _ _ _ h => h) XD0.out ?_
  refine rg_take 13 (some 17) (.pointer (some ⟨rb, 0, none⟩)) (by kernel_rfl) (fun _ _ => by kernel_rfl) (fun _ _ _ h => h) XD0.out ?_
  refine rg_take 14 (some 18) (.pointer (some ⟨rb, 0, none⟩)) (by kernel_rfl) (fun _ _ => by kernel_rfl) (fun _ _ _ h => h) XD0.out ?_
  refine rg_take 15 (some 19) (.pointer (some ⟨rb, 4, none⟩)) (by kernel_rfl) (fun _ _ => by kernel_rfl) (fun _ _ _ h => h) XD0.out ?_
  refine rg_take 16 (some 20) (.pointer (some ⟨rb, 0, none⟩)) (by kernel_rfl) (fun _ _ => by kernel_rfl) (fun _ _ _ h => h) XD0.out ?_
  refine rg_take 17 (some 21) (.pointer (some ⟨rb, 0, none⟩)) (by kernel_rfl) (fun _ _ => by kernel_rfl) (fun _ _ _ h => h) XD0.out ?_
  refine rg_take 18 (some 22) (.pointer (some ⟨rb, 5, none⟩)) (by kernel_rfl) (fun _ _ => by kernel_rfl) (fun _ _ _ h => h) XD0.out ?_
  have al0 := below_alloc V0.drew (.cells #[.pointer (some ⟨rb, 0, none⟩), .pointer (some ⟨rb, 1, none⟩), .pointer (some ⟨rb, 2, none⟩), .pointer (some ⟨rb, 3, none⟩), .pointer (some ⟨rb, 4, none⟩), .pointer (some ⟨rb, 5, none⟩)] 161)
  have nb0 := blk_new V0.drew [.pointer (some ⟨rb, 0, none⟩), .pointer (some ⟨rb, 1, none⟩), .pointer (some ⟨rb, 2, none⟩), .pointer (some ⟨rb, 3, none⟩), .pointer (some ⟨rb, 4, none⟩), .pointer (some ⟨rb, 5, none⟩)] 161
  refine rg_ready [19] (by kernel_rfl) (by simp) (ar_val 19 (some 23) (.slice (some ⟨V0.drew.heap.size, 0, none⟩) 6 6) (V0.drew.alloc (.cells #[.pointer (some ⟨rb, 0, none⟩), .pointer (some ⟨rb, 1, none⟩), .pointer (some ⟨rb, 2, none⟩), .pointer (some ⟨rb, 3, none⟩), .pointer (some ⟨rb, 4, none⟩), .pointer (some ⟨rb, 5, none⟩)] 161)) (by kernel_rfl) (by kernel_rfl) (XD0.out.keep al0) ?_ ar_nil)
  refine rg_call 20 (some 24) 106 #[.agg #[.func (.func f1) #[] #[c], .func (.func f2) #[] #[c], .func (.func f3) #[] #[c]], .slice (some ⟨V0.drew.heap.size, 0, none⟩) 6 6] (by kernel_rfl) (by kernel_rfl) (numbers_any (offs := [0, 1, 2, 3, 4, 5]) HH.out (HH.out.keep _ _ _ ID0.out al0) nb0 (fun h => by have := HH.out.old _ _ _ ID0.out h; omega) (by simp [k0.out, k1.out, k2.out, k3.out, k4.out, k5.out]) (HH.out.okt [] _ HO.out) rfl (by decide)) ?_
  rintro e' V1 ⟨rfl, II0, CC0⟩
  refine ⟨_, rfl, ((XD0.out.keep al0).chg CC0 HG.out), ?_⟩
  refine rg_done (by kernel_rfl) ?_
  simp only [Act.put, List.setIfInBounds_toArray, List.set_cons_zero, List.set_cons_succ]
  have I1 := hid3 II0
  have C1 := hid3 ((C0.out.trans (Chg.of (F := G) (joinB (belowD' V0) al0)) (fun _ _ h => h)).trans CC0 (fun _ _ h => h))
  have XB1 := hid3 ((XD0.out.keep al0).chg CC0 HG.out)
  go_wp2_with fail
  go_end0
  exact ⟨rfl, I1.out, C1.out⟩
set_option maxHeartbeats 2000000 in
set_option maxRecDepth 100000 in
theorem ofMove_any {σ : Type} {Inv : σ → World → Prop} {G : Nat → Prop} {rb : Nat} {f1 f2 f3 : FuncId} {c : Value} {nx : Nat → Nat → σ → σ} {kd : Nat → Nat} {ok : σ → Prop} {s : σ} {w : World} (H : HC σ Inv G rb f1 f2 f3 c nx kd ok) (hI : Inv s w) (hkd : ∀ p ∈ [(0, 0), (0, 1), (0, 2), (0, 3), (0, 4), (0, 5), (2, 6)], kd p.2 = p.1) (hok : ok (thr nx [(0, 0), (0, 1), (0, 2), (0, 3), (0, 4), (0, 5), (2, 6)] s)) :
    Calls Tryz.prog 65 #[.pointer (some ⟨rb, 0, none⟩), .agg #[.func (.func f1) #[] #[c], .func (.func f2) #[] #[c], .func (.func f3) #[] #[c]]] w (FinH σ Inv G (thr nx [(0, 0), (0, 1), (0, 2), (0, 3), (0, 4), (0, 5), (2, 6)] s) w) := by
  have al0 := below_alloc w (.cells #[.func (.func f1) #[] #[c], .func (.func f2) #[] #[c], .func (.func f3) #[] #[c]] 171)
  have XB := hid3 (blk_new w [.func (.func f1) #[] #[c], .func (.func f2) #[] #[c], .func (.func f3) #[] #[c]] 171)
  have HG := hid3 (show ¬ G w.heap.size from fun h => by have := H.old s w _ hI h; omega)
  have I0 := hid3 (H.keep _ _ _ hI al0)
  have C0 := hid3 (show Chg G w _ from Chg.of al0)
  have k0 : Hid (kd 0 = 0) := hkd (0, 0) (by simp)
  have k1 : Hid (kd 1 = 0) := hkd (0, 1) (by simp)
  have k2 : Hid (kd 2 = 0) := hkd (0, 2) (by simp)
  have k3 : Hid (kd 3 = 0) := hkd (0, 3) (by simp)
  have k4 : Hid (kd 4 = 0) := hkd (0, 4) (by simp)
  have k5 : Hid (kd 5 = 0) := hkd (0, 5) (by simp)
  have k6 : Hid (kd 6 = 2) := hkd (2, 6) (by simp)
  have HH := hid3 H
  have HO := hid3 hok
  clear H hI hkd al0 hok
  go_enter Tryz.func65, Tryz.ntmps65
  go_wp2_with fail
  obtain ⟨V0, hV0⟩ : ∃ V0, Hid (w.alloc (.cells #[.func (.func f1) #[] #[c], .func (.func f2) #[] #[c], .func (.func f3) #[] #[c]] 171) = V0) := ⟨_, rfl⟩
  rw [hV0.out] at XB I0 C0 ⊢
  have ID0 := hid3 (HH.out.keep _ _ _ I0.out (belowD' V0))
  have XD0 := hid3 (XB.out.keep (belowD' V0))
  refine rg_start (S := fun u => Blk u w.heap.size [.func (.func f1) #[] #[c], .func (.func f2) #[] #[c], .func (.func f3) #[] #[c]] 171) (by kernel_rfl) XD0.out ?_
  refine rg_load 0 (some 4) (.agg #[.func (.func f1) #[] #[c], .func (.func f2) #[] #[c], .func (.func f3) #[] #[c]]) 171 3 w.heap.size 0 (by kernel_rfl) (by kernel_rfl) (by kernel_rfl) (fun u h => ld_h (h.cell (i := 0) rfl) (h.cell (i := 1) rfl) (h.cell (i := 2) rfl)) (fun _ _ _ h => h) XD0.out ?_
  refine rg_take 1 (some 5) (.pointer (some ⟨rb, 0, none⟩)) (by kernel_rfl) (fun _ _ => by kernel_rfl) (fun _ _ _ h => h) XD0.out ?_
  refine rg_take 2 (some 6) (.pointer (some ⟨rb, 0, none⟩)) (by kernel_rfl) (fun _ _ => by kernel_rfl) (fun _ _ _ h => h) XD0.out ?_
  refine rg_take 3 (some 7) (.pointer (some ⟨rb, 0, none⟩)) (by kernel_rfl) (fun _ _ => by kernel_rfl) (fun _ _ _ h => h) XD0.out ?_
  refine rg_take 4 (some 8) (.pointer (some ⟨rb, 0, none⟩)) (by kernel_rfl) (fun _ _ => by kernel_rfl) (fun _ _ _ h => h) XD0.out ?_
  refine rg_take 5 (some 9) (.pointer (some ⟨rb, 0, none⟩)) (by kernel_rfl) (fun _ _ => by kernel_rfl) (fun _ _ _ h => h) XD0.out ?_
  refine rg_take 6 (some 10) (.pointer (some ⟨rb, 1, none⟩)) (by kernel_rfl) (fun _ _ => by kernel_rfl) (fun _ _ _ h => h) XD0.out ?_
  refine rg_take 7 (some 11) (.pointer (some ⟨rb, 0, none⟩)) (by kernel_rfl) (fun _ _ => by kernel_rfl) (fun _ _ _ h => h) XD0.out ?_
  refine rg_take 8 (some 12) (.pointer (some ⟨rb, 0, none⟩)) (by kernel_rfl) (fun _ _ => by kernel_rfl) (fun _ _ _ h => h) XD0.out ?_
  refine rg_take 9 (some 13) (.pointer (some ⟨rb, 2, none⟩)) (by kernel_rfl) (fun _ _ => by kernel_rfl) (fun _ _ _ h => h) XD0.out ?_
  refine rg_take 10 (some 14) (.pointer (some ⟨rb, 0, none⟩)) (by kernel_rfl) (fun _ _ => by kernel_rfl) (fun _ _ _ h => h) XD0.out ?_
  refine rg_take 11 (some 15) (.pointer (some ⟨rb, 0, none⟩)) (by kernel_rfl) (fun _ _ => by kernel_rfl) (fun _ _ _ h => h) XD0.out ?_
  refine rg_take 12 (some 16) (.pointer (some ⟨rb, 3, none⟩)) (by kernel_rfl) (fun _ _ => by kernel_rfl) (fun _ _ _ h => h) XD0.out ?_
  refine rg_take 13 (some 17) (.pointer (some ⟨rb, 0, none⟩)) (by kernel_rfl) (fun _ _ => by kernel_rfl) (fun _ _ _ h => h) XD0.out ?_
  refine rg_take 14 (some 18) (.pointer (some ⟨rb, 0, none⟩)) (by kernel_rfl) (fun _ _ => by kernel_rfl) (fun _ _ _ h => h) XD0.out ?_
  refine rg_take 15 (some 19) (.pointer (some ⟨rb, 4, none⟩)) (by kernel_rfl) (fun _ _ => by kernel_rfl) (fun _ _ _ h => h) XD0.out ?_
  refine rg_take 16 (some 20) (.pointer (some ⟨rb, 0, none⟩)) (by kernel_rfl) (fun _ _ => by kernel_rfl) (fun _ _ _ h => h) XD0.out ?_
  refine rg_take 17 (some 21) (.pointer (some ⟨rb, 0, none⟩)) (by kernel_rfl) (fun _ _ => by kernel_rfl) (fun _ _ _ h => h) XD0.out ?_
  refine rg_take 18 (some 22) (.pointer (some ⟨rb, 5, none⟩)) (by kernel_rfl) (fun _ _ => by kernel_rfl) (fun _ _ _ h => h) XD0.out ?_
  have al0 := below_alloc V0.drew (.cells #[.pointer (some ⟨rb, 0, none⟩), .pointer (some ⟨rb, 1, none⟩), .pointer (some ⟨rb, 2, none⟩), .pointer (some ⟨rb, 3, none⟩), .pointer (some ⟨rb, 4, none⟩), .pointer (some ⟨rb, 5, none⟩)] 161)
  have nb0 := blk_new V0.drew [.pointer (some ⟨rb, 0, none⟩), .pointer (some ⟨rb, 1, none⟩), .pointer (some ⟨rb, 2, none⟩), .pointer (some ⟨rb, 3, none⟩), .pointer (some ⟨rb, 4, none⟩), .pointer (some ⟨rb, 5, none⟩)] 161
  refine rg_ready [19] (by kernel_rfl) (by simp) (ar_val 19 (some 23) (.slice (some ⟨V0.drew.heap.size, 0, none⟩) 6 6) (V0.drew.alloc (.cells #[.pointer (some ⟨rb, 0, none⟩), .pointer (some ⟨rb, 1, none⟩), .pointer (some ⟨rb, 2, none⟩), .pointer (some ⟨rb, 3, none⟩), .pointer (some ⟨rb, 4, none⟩), .pointer (some ⟨rb, 5, none⟩)] 161)) (by kernel_rfl) (by kernel_rfl) (XD0.out.keep al0) ?_ ar_nil)
  refine rg_call 20 (some 24) 106 #[.agg #[.func (.func f1) #[] #[c], .func (.func f2) #[] #[c], .func (.func f3) #[] #[c]], .slice (some ⟨V0.drew.heap.size, 0, none⟩) 6 6] (by kernel_rfl) (by kernel_rfl) (numbers_any (offs := [0, 1, 2, 3, 4, 5]) HH.out (HH.out.keep _ _ _ ID0.out al0) nb0 (fun h => by have := HH.out.old _ _ _ ID0.out h; omega) (by simp [k0.out, k1.out, k2.out, k3.out, k4.out, k5.out]) (HH.out.okt [(2, 6)] _ HO.out) rfl (by decide)) ?_
  rintro e' V1 ⟨rfl, II0, CC0⟩
  refine ⟨_, rfl, ((XD0.out.keep al0).chg CC0 HG.out), ?_⟩
  refine rg_done (by kernel_rfl) ?_
  simp only [Act.put, List.setIfInBounds_toArray, List.set_cons_zero, List.set_cons_succ]
  have I1 := hid3 II0
  have C1 := hid3 ((C0.out.trans (Chg.of (F := G) (joinB (belowD' V0) al0)) (fun _ _ h => h)).trans CC0 (fun _ _ h => h))
  have XB1 := hid3 ((XD0.out.keep al0).chg CC0 HG.out)
  go_wp2_with fail
  have ID1 := hid3 (HH.out.keep _ _ _ I1.out (belowD' V1))
  have XD1 := hid3 (XB1.out.keep (belowD' V1))
  refine rg_start (S := fun u => Blk u w.heap.size [.func (.func f1) #[] #[c], .func (.func f2) #[] #[c], .func (.func f3) #[] #[c]] 171) (by kernel_rfl) XD1.out ?_
  refine rg_load 0 (some 25) (.agg #[.func (.func f1) #[] #[c], .func (.func f2) #[] #[c], .func (.func f3) #[] #[c]]) 171 3 w.heap.size 0 (by kernel_rfl) (by kernel_rfl) (by kernel_rfl) (fun u h => ld_h (h.cell (i := 0) rfl) (h.cell (i := 1) rfl) (h.cell (i := 2) rfl)) (fun _ _ _ h => h) XD1.out ?_
  refine rg_take 1 (some 26) (.pointer (some ⟨rb, 0, none⟩)) (by kernel_rfl) (fun _ _ => by kernel_rfl) (fun _ _ _ h => h) XD1.out ?_
  refine rg_take 2 (some 27) (.pointer (some ⟨rb, 0, none⟩)) (by kernel_rfl) (fun _ _ => by kernel_rfl) (fun _ _ _ h => h) XD1.out ?_
  refine rg_take 3 (some 28) (.pointer (some ⟨rb, 6, none⟩)) (by kernel_rfl) (fun _ _ => by kernel_rfl) (fun _ _ _ h => h) XD1.out ?_
  have al1 := below_alloc V1.drew (.cells #[.pointer (some ⟨rb, 6, none⟩)] 167)
  have nb1 := blk_new V1.drew [.pointer (some ⟨rb, 6, none⟩)] 167
  refine rg_ready [4] (by kernel_rfl) (by simp) (ar_val 4 (some 29) (.slice (some ⟨V1.drew.heap.size, 0, none⟩) 1 1) (V1.drew.alloc (.cells #[.pointer (some ⟨rb, 6, none⟩)] 167)) (by kernel_rfl) (by kernel_rfl) (XD1.out.keep al1) ?_ ar_nil)
  refine rg_call 5 (some 30) 113 #[.agg #[.func (.func f1) #[] #[c], .func (.func f2) #[] #[c], .func (.func f3) #[] #[c]], .slice (some ⟨V1.drew.heap.size, 0, none⟩) 1 1] (by kernel_rfl) (by kernel_rfl) (decimals_any (offs := [6]) HH.out (HH.out.keep _ _ _ ID1.out al1) nb1 (fun h => by have := HH.out.old _ _ _ ID1.out h; omega) (by simp [k6.out]) (HH.out.okt [] _ HO.out) rfl (by decide)) ?_
  rintro e' V2 ⟨rfl, II1, CC1⟩
  refine ⟨_, rfl, ((XD1.out.keep al1).chg CC1 HG.out), ?_⟩
  refine rg_done (by kernel_rfl) ?_
  simp only [Act.put, List.setIfInBounds_toArray, List.set_cons_zero, List.set_cons_succ]
  have I2 := hid3 II1
  have C2 := hid3 ((C1.out.trans (Chg.of (F := G) (joinB (belowD' V1) al1)) (fun _ _ h => h)).trans CC1 (fun _ _ h => h))
  have XB2 := hid3 ((XD1.out.keep al1).chg CC1 HG.out)
  go_wp2_with fail
  go_end0
  exact ⟨rfl, I2.out, C2.out⟩
set_option maxHeartbeats 2000000 in
set_option maxRecDepth 100000 in
theorem ofNumber_any {σ : Type} {Inv : σ → World → Prop} {G : Nat → Prop} {rb : Nat} {f1 f2 f3 : FuncId} {c : Value} {nx : Nat → Nat → σ → σ} {kd : Nat → Nat} {ok : σ → Prop} {s : σ} {w : World} (H : HC σ Inv G rb f1 f2 f3 c nx kd ok) (hI : Inv s w) (hkd : ∀ p ∈ [(0, 0)], kd p.2 = p.1) (hok : ok (thr nx [(0, 0)] s)) :
    Calls Tryz.prog 67 #[.pointer (some ⟨rb, 0, none⟩), .agg #[.func (.func f1) #[] #[c], .func (.func f2) #[] #[c], .func (.func f3) #[] #[c]]] w (FinH σ Inv G (thr nx [(0, 0)] s) w) := by
  have al0 := below_alloc w (.cells #[.func (.func f1) #[] #[c], .func (.func f2) #[] #[c], .func (.func f3) #[] #[c]] 171)
  have XB := hid3 (blk_new w [.func (.func f1) #[] #[c], .func (.func f2) #[] #[c], .func (.func f3) #[] #[c]] 171)
  have HG := hid3 (show ¬ G w.heap.size from fun h => by have := H.old s w _ hI h; omega)
  have I0 := hid3 (H.keep _ _ _ hI al0)
  have C0 := hid3 (show Chg G w _ from Chg.of al0)
  have k0 : Hid (kd 0 = 0) := hkd (0, 0) (by simp)
  have HH := hid3 H
  have HO := hid3 hok
  clear H hI hkd al0 hok
  have z0 := XB.out.cell (i := 0) rfl
  have z1 := XB.out.cell (i := 1) rfl
  have z2 := XB.out.cell (i := 2) rfl
  go_enter Tryz.func67, Tryz.ntmps67
  go_wp2_with fail
  obtain ⟨V0, hV0⟩ : ∃ V0, Hid (w.alloc (.cells #[.func (.func f1) #[] #[c], .func (.func f2) #[] #[c], .func (.func f3) #[] #[c]] 171) = V0) := ⟨_, rfl⟩
  rw [hV0.out] at XB I0 C0 ⊢
  have al := below_alloc V0 (.cells #[.pointer (some ⟨rb, 0, none⟩)] 161)
  have nb := blk_new V0 [.pointer (some ⟨rb, 0, none⟩)] 161
  have hsz : Hid (V0.heap.size = w.heap.size + 1) := by show _ = _; rw [← hV0.out]; exact size_al _ _
  rw [hsz.out] at nb
  refine (numbers_any (offs := [0]) HH.out (HH.out.keep _ _ _ I0.out al) nb (fun h => by have := HH.out.old _ _ _ I0.out h; have := hsz.out; omega) (by simp [k0.out]) HO.out rfl (by decide)).mono ?_
  rintro e' V1 ⟨rfl, I1, C1⟩
  go_wp2
  go_end0
  exact ⟨rfl, I1, (C0.out.trans (Chg.of (F := G) al) (fun _ _ h => h)).trans C1 (fun _ _ h => h)⟩
end Rc
end Go.Proofs.YtenlhceceplldaaGreat

namespace Go.Proofs.YtenlhceceplldaaGreat
namespace Rc
open Go.RowKit Go.Lib Pg
attribute [local go_sem] Oper.semAt_some
/-- a number as a record holds it -/
def fit (V : Int) : Int := if (natB V).length < 256 then V else 0
theorem fit_len (V : Int) : (natB (fit V)).length < 256 := by
  unfold fit
  split
  · assumption
  · rw [natB_0]; decide
/-- a field's bytes -/
def enc1 : Nat → Int → List Int
  | 0, x => be 8 x
  | 1, x => be 1 x
  | _, x => cntd 1 (natB (fit x))
theorem But.chg {g : Nat} {w w' : World} (h : But g w w') : Chg (· = g) w w' := ⟨h.os, h.tape, h.output, h.size, fun b hb hne => h.block b hb hne⟩
set_option maxHeartbeats 2000000 in
set_option maxRecDepth 100000 in
theorem fitting_any {w : World} {ao : Option Addr} {n c : Nat} {V : Int} (h : NatA w ao n c V) (hn : n ≤ 1000000) :
    Calls Tryz.prog 104 #[.agg #[.slice ao n c]] w fun e w' => ∃ a1 n1 c1, e = .returned (.agg #[.slice a1 n1 c1]) ∧ NatA w' a1 n1 c1 (fit V) ∧ n1 ≤ 1000000 ∧ Below w.heap.size w w' := by
  have b1 := below_alloc w (.cells #[.slice ao n c] 30)
  have b2 := below_alloc (w.alloc (.cells #[.slice ao n c] 30)) (.cells #[.slice none 0 0] 30)
  have b3 := below_alloc ((w.alloc (.cells #[.slice ao n c] 30)).alloc (.cells #[.slice none 0 0] 30)) (.cells Tryz.zeroCells159 159)
  have s1 := size_al w (.cells #[.slice ao n c] 30)
  have s2 := size_al (w.alloc (.cells #[.slice ao n c] 30)) (.cells #[.slice none 0 0] 30)
  have x1 := ((blk_new w [.slice ao n c] 30).keep b2).keep b3
  have x2 := (blk_new (w.alloc (.cells #[.slice ao n c] 30)) [.slice none 0 0] 30).keep b3
  have X := wrNew ((w.alloc (.cells #[.slice ao n c] 30)).alloc (.cells #[.slice none 0 0] 30))
  rw [s2, s1] at X
  rw [s1] at x2
  obtain ⟨W3, hW3⟩ : ∃ W3, Hid ((((w.alloc (.cells #[.slice ao n c] 30)).alloc (.cells #[.slice none 0 0] 30)).alloc (.cells Tryz.zeroCells159 159)) = W3) := ⟨_, rfl⟩
  have BZ := joinB (joinB b1 b2) b3
  rw [hW3.out] at BZ x1 x2 X
  have HB3 := hid3 BZ
  have HX1 := hid3 x1
  have HX2 := hid3 x2
  have HX := hid3 X
  have HN := hid3 (h.keep BZ)
  have HNw := hid3 h
  have HG1 := hid3 (show ¬ (w.heap.size = w.heap.size + 1 + 1) by omega)
  have HG2 := hid3 (show ¬ (w.heap.size + 1 = w.heap.size + 1 + 1) by omega)
  clear b1 b2 s1 s2 x1 x2 b3 X h BZ
  by_cases hf : (natB V).length < 256
  · have HE := hid3 (show natE V 0 = 0 by unfold natE; rw [if_pos hf])
    have HF := hid3 (show fit V = V by unfold fit; rw [if_pos hf])
    have HL := hid3 (show (natL V 0 []).length ≤ 17592186044416 by
      unfold natL wrote
      rw [if_pos hf, if_pos rfl]
      simp [cntd, be_length]
      omega)
    clear hf
    go_enter Tryz.func104, Tryz.ntmps104
    go_wp2_with fail
    rw [hW3.out]
    refine (wrDec HX.out HN.out (by omega) (by simp; omega)).mono ?_
    rintro e' w4 ⟨rfl, X4, B4⟩
    rw [HE.out] at X4
    go_wp2_with fail
    refine (wrOut X4 HL.out).mono ?_
    rintro e' w5 ⟨rfl, -, B5⟩
    have k1 := HX1.out.chg (But.chg B4) HG1.out
    have k2 := HX2.out.chg (But.chg B4) HG2.out
    have d1 := (k1.keep B5).cell (i := 0) rfl
    have d2 := (k2.keep B5).cell (i := 0) rfl
    have f2 := (k2.keep B5).free 0
    have BB := hid3 ((B4.below HB3.out (by omega) (Nat.le_refl _)).trans (B5.mono (by have := HB3.out.size; have := B4.size; omega)))
    have S9 := hid3 (show Slot _ _ _ _ from ⟨((k2.keep B5).setCell (i := 0) (.slice ao n c)).blk⟩)
    clear k1 k2 X4 B4 B5
    go_wp2
    refine bodyPost_ret (ret_dec rfl rfl S9.out) rfl ?_
    refine ⟨ao, n, c, rfl, ?_, hn, ?_⟩
    · rw [HF.out]
      exact HNw.out.keep (BB.out.setCell (Nat.le_succ _) _)
    · exact BB.out.setCell (Nat.le_succ _) _
  · have HE := hid3 (show natE V 0 = 42 by unfold natE; rw [if_neg hf]; rfl)
    have HF := hid3 (show fit V = 0 by unfold fit; rw [if_neg hf])
    clear hf
    go_enter Tryz.func104, Tryz.ntmps104
    go_wp2_with fail
    rw [hW3.out]
    refine (wrDec HX.out HN.out (by omega) (by simp; omega)).mono ?_
    rintro e' w4 ⟨rfl, X4, B4⟩
    rw [HE.out] at X4
    go_wp2_with fail
    refine (wrOutE X4 (by decide)).mono ?_
    rintro e' w5 ⟨rfl, B5⟩
    have k1 := HX1.out.chg (But.chg B4) HG1.out
    have k2 := HX2.out.chg (But.chg B4) HG2.out
    have d1 := (k1.keep B5).cell (i := 0) rfl
    have d2 := (k2.keep B5).cell (i := 0) rfl
    have f2 := (k2.keep B5).free 0
    have BB := hid3 ((B4.below HB3.out (by omega) (Nat.le_refl _)).trans (B5.mono (by have := HB3.out.size; have := B4.size; omega)))
    have S9 := hid3 (show Slot _ _ _ _ from ⟨((k2.keep B5).setCell (i := 0) (.slice none 0 0)).blk⟩)
    clear k1 k2 X4 B4 B5
    go_wp2
    refine bodyPost_ret (ret_dec rfl rfl S9.out) rfl ?_
    refine ⟨none, 0, 0, rfl, ?_, by decide, ?_⟩
    · rw [HF.out]
      exact (natO_nil _).a
    · exact BB.out.setCell (Nat.le_succ _) _
end Rc
end Go.Proofs.YtenlhceceplldaaGreat
