/- Several texts, joined: GlA, GlB. -/
import Derived.Test.YtlbndpkdkdgggaaGreatDoorJrg
import Derived.Deep.RegionHeld3
import Derived.Deep.RegionWith
import Derived.Deep.WholeRow
import Derived.Deep.MidRow
import Derived.Deep.LoopGhost
import Derived.BigFrame
set_option maxRecDepth 100000
set_option maxHeartbeats 8000000
namespace Go.Proofs.YtlbndpkdkdgggaaGreatDoor
section
namespace Gl
open Go.RowKit Go.Lib Pg
abbrev Fr:=List (Nat × Value)
def lk:Fr->Nat->Option Value
 | [],_=>none
 | p :: r,k=>bif Nat.beq p.1 k then some p.2 else lk r k
def evL (l:Fr):Operand->Value
 | .tmp k=>(lk l k).getD undef
 | .const v=>v
 | .global g=>.pointer (some ⟨g,0,none⟩)
 | .func f=>.func (.func f) #[] #[]
def kn (l:Fr):Operand->Bool
 | .tmp k=>(lk l k).isSome
 | _=>true
structure Rd (n:Nat) (ds:List Deferred) (l:Fr) (a:Act):Prop where
 size:a.tmps.size=n
 dfs:a.defers=ds
 get:∀ k v,lk l k=some v->a.tmps[k]? = some v
theorem Rd.ev {n:Nat} {ds:List Deferred} {l:Fr} {a:Act} (h:Rd n ds l a) (x:Operand) (hk:kn l x=true):a.eval x=evL l x:=by
 cases x with
 | tmp k =>
  cases hl:lk l k with
  | none=>simp [kn,hl] at hk
  | some v=>simp [Act.eval,evL,hl,h.get k v hl]
 | const v=>rfl
 | global g=>rfl
 | func f=>rfl
def pt (l:Fr):Option Nat->Value->Fr
 | some d,v=>(d,v) :: l
 | none,_=>l
theorem Rd.put {n:Nat} {ds:List Deferred} {l:Fr} {a:Act} (h:Rd n ds l a) (d:Option Nat) (v:Value) (hd:∀ k,d=some k->k < n):Rd n ds (pt l d v) (a.put d v):=by
 cases d with
 | none=>exact h
 | some d =>
  have hd:=hd d rfl
  refine ⟨by simpa [Act.put] using h.size,h.dfs,fun k u hu => ?_⟩
  simp only [pt,lk] at hu
  by_cases e:d=k
  ·subst e
   simp at hu
   subst hu
   simp [Act.put,h.size,hd]
  ·have e':Nat.beq d k=false:=by
    cases hb:Nat.beq d k with
    | false=>rfl
    | true=>exact absurd (Nat.eq_of_beq_eq_true hb) e
   rw [e'] at hu
   simp only [Act.put,Array.getElem?_setIfInBounds,if_neg e]
   exact h.get k u hu
def sub (l' l:Fr):Prop:=∀ k v,lk l' k=some v->lk l k=some v
theorem lk_mem {l:Fr} {k:Nat} {v:Value} (h:lk l k=some v):(k,v)∈l:=by
 induction l with
 | nil=>cases h
 | cons p r ih =>
  simp only [lk] at h
  cases hb:Nat.beq p.1 k with
  | true =>
   rw [hb] at h
   have:=Nat.eq_of_beq_eq_true hb
   simp at h
   subst h; subst this
   exact List.mem_cons_self
  | false=>rw [hb] at h; exact List.mem_cons_of_mem _ (ih h)
theorem sub_of {l' l:Fr} (h:l'.map (fun p=>lk l p.1)=l'.map (fun p=>some p.2)):sub l' l:=fun k v hk=>by
 have hm:=lk_mem hk
 have:=List.map_inj_left.1 h (k,v) hm
 exact this
theorem Rd.sub {n:Nat} {ds:List Deferred} {l l':Fr} {a:Act} (h:Rd n ds l a) (hs:sub l' l):Rd n ds l' a:=⟨h.size,h.dfs,fun k v hk=>h.get k v (hs k v hk)⟩
def opnds:Op->List Operand
 | .call c=>(match c.callee with | .value f=>[f] | .invoke r _=>[r] | .builtin _=>[]) ++ c.args.toList
 | .build _ ps=>ps.toList.map (·.2)
 | .buildSlice _ _ ps=>ps.toList.map (·.2)
 | o=>o.operands.toList
theorem mem_opnds {o : Op} {x : Operand} (h : x ∈ o.operands) : x ∈ opnds o := by
  cases o <;> first
    | (simpa [opnds] using h)
    | (simp only [Op.operands] at h; simpa [opnds] using h)
    | (rename_i c
       simp only [Op.operands, Call.operands] at h
       unfold opnds
       cases hc : c.callee <;> simp [hc] at h ⊢ <;> exact h)
def notSel:Op->Bool
 | .select _ _=>false
 | _=>true
def inB (n:Nat):Option Nat->Bool
 | none=>true
 | some d=>Nat.blt d n
def gd (ops : Array Oper) (l : Fr) (o : Oper) : Option Bool :=
  match o.guard with
  | none => some true
  | some (j, b) => match (ops[j]?).bind (·.dst) with
    | none => some false
    | some s => match lk l s with
      | none => none
      | some (.bool c) => some (c == b)
      | some _ => some false
def chk (n:Nat) (l:Fr) (o:Oper) (d:Option Nat):Bool:=(opnds o.op).all (kn l) && decide (o.dst=d) && inB n d && notSel o.op
theorem chk_d {n:Nat} {l:Fr} {o:Oper} {d:Option Nat} (h:chk n l o d=true):o.dst=d/\∀ k,d=some k->k < n:=by
 simp only [chk,Bool.and_eq_true,decide_eq_true_eq] at h
 refine ⟨h.1.1.2,fun k e => ?_⟩
 subst e
 have:=h.1.2
 simp only [inB,Nat.blt] at this
 exact Nat.le_of_ble_eq_true this
theorem chk_ex {n:Nat} {ds:List Deferred} {l:Fr} {o:Oper} {d:Option Nat} {a:Act} (h:chk n l o d=true) (r:Rd n ds l a):execOp a.eval o=execOp (evL l) o:=by
 simp only [chk,Bool.and_eq_true,List.all_eq_true] at h
 exact execOp_congr o (fun cs b e=>by have:=h.2; rw [e] at this; cases this) fun x hx=>r.ev x (h.1.1.1 x (mem_opnds hx))
theorem gd_want {n:Nat} {ds:List Deferred} {l:Fr} {ops:Array Oper} {o:Oper} {a:Act} {t:Bool} (r:Rd n ds l a) (h:gd ops l o=some t):Region.wanted o (yielded ops a.tmps)=t:=by
 unfold gd at h
 unfold Region.wanted
 cases hg:o.guard with
 | none=>rw [hg] at h; simpa using h
 | some p =>
  obtain ⟨j,b⟩:=p
  rw [hg] at h
  simp only at h ⊢
  unfold yielded
  cases hs:(ops[j]?).bind (·.dst) with
  | none=>rw [hs] at h; simp at h; subst h; simp
  | some s =>
   rw [hs] at h
   simp only at h
   cases hv:lk l s with
   | none=>rw [hv] at h; cases h
   | some v =>
    rw [hv] at h
    have hx:=r.get s v hv
    simp only [Option.bind_some,hx]
    cases v<;>simp_all
section
variable {P:Program} {n:Nat} {ds:List Deferred} {ops:Array Oper} {rest:List Oper} {o o1 o2:Oper} {l:Fr} {w w1:World} {Q Q':Exit->Act->World->Prop} {K:Act->World->Prop}
structure GL (P:Program) (n:Nat) (ds:List Deferred) (ops:Array Oper) (Q:Exit->Act->World->Prop) (rest:List Oper) (l:Fr) (w:World):Prop where
 out:∀ a,Rd n ds l a->wpList P ops Q rest a w
structure GC (P:Program) (n:Nat) (ds:List Deferred) (c:Code) (Q:Exit->Act->World->Prop) (l:Fr) (w:World):Prop where
 out:∀ a,Rd n ds l a->c.wp P Q a w
structure GE (n:Nat) (ds:List Deferred) (Q:Exit->Act->World->Prop) (e:Exit) (l:Fr) (w:World):Prop where
 out:∀ a,Rd n ds l a->Q e a w
theorem gc_fr {c:Code} (l':Fr) (k:GC P n ds c Q l' w) (h:l'.map (fun p=>lk l p.1)=l'.map (fun p=>some p.2):=by kernel_rfl):GC P n ds c Q l w:=⟨fun a r=>k.out a (r.sub (sub_of h))⟩
theorem gl_val (d:Option Nat) (v:Value) (hg:gd ops l o=some true) (hc:chk n l o d=true) (hrun:(execOp (evL l) o).run P w=.ok (.value v) w1) (h:GL P n ds ops Q rest (pt l d v) w1):GL P n ds ops Q (o :: rest) l w:=⟨fun a r =>
 BigFrame.wpList_want (gd_want r hg) fun K hK=>by
  unfold Oper.wp
  rw [chk_ex hc r,hrun]
  show K (a.put o.dst v) w1
  rw [(chk_d hc).1]
  exact hK _ _ (h.out _ (r.put d v (chk_d hc).2))⟩
theorem gl_void (hg:gd ops l o=some true) (hc:chk n l o none=true) (hrun:(execOp (evL l) o).run P w=.ok .skip w1) (h:GL P n ds ops Q rest l w1):GL P n ds ops Q (o :: rest) l w:=⟨fun a r =>
 BigFrame.wpList_want (gd_want r hg) fun K hK=>by
  unfold Oper.wp
  rw [chk_ex hc r,hrun]
  show K (a.put o.dst undef) w1
  rw [(chk_d hc).1]
  exact hK _ _ (h.out _ r)⟩
theorem gl_not (d:Option Nat) (hg:gd ops l o=some false) (hd:(decide (o.dst=d) && inB n d)=true) (h:GL P n ds ops Q rest (pt l d undef) w):GL P n ds ops Q (o :: rest) l w:=⟨fun a r=>by
 simp only [Bool.and_eq_true,decide_eq_true_eq] at hd
 refine wpList_skip (gd_want r hg) ?_
 rw [hd.1]
 refine h.out _ (r.put d undef fun k e => ?_)
 subst e
 have:=hd.2
 simp only [inB,Nat.blt] at this
 exact Nat.le_of_ble_eq_true this⟩
theorem gl_callx (d:Option Nat) (f:FuncId) (args:Array Value) (hg:gd ops l o=some true) (hc:chk n l o d=true) (hrun:(execOp (evL l) o).run P w=.ok (.enter f args) w) {Qc:Ending->World->Prop} (hcall:Calls P f args w Qc) (h:∀ e w',Qc e w'->∃ v,e=.returned v/\GL P n ds ops Q rest (pt l d v) w'):GL P n ds ops Q (o :: rest) l w:=⟨fun a r =>
 BigFrame.wpList_want (gd_want r hg) fun K hK=>by
  unfold Oper.wp
  rw [chk_ex hc r,hrun,Oper.upon_enter]
  refine hcall.mono ?_
  intro e w' hq
  obtain ⟨v,rfl,hv⟩:=h e w' hq
  show K (a.put o.dst v) w'
  rw [(chk_d hc).1]
  exact hK _ _ (hv.out _ (r.put d v (chk_d hc).2))⟩
theorem gl_nil (h:GE n ds Q .normal l w):GL P n ds ops Q [] l w:=⟨fun a r=>wpList_nil (h.out a r)⟩
theorem t (d:Nat) (v:Value) (h:GL P n ds ops Q rest ((d,v) :: l) w) (hg:gd ops l o=some true:=by kernel_rfl) (hc:chk n l o (some d)=true:=by kernel_rfl) (hrun:(execOp (evL l) o).run P w=.ok (.value v) w:=by kernel_rfl):GL P n ds ops Q (o :: rest) l w:=gl_val (some d) v hg hc hrun h
theorem tr (d:Nat) (v:Value) (hrun:(execOp (evL l) o).run P w=.ok (.value v) w) (h:GL P n ds ops Q rest ((d,v) :: l) w) (hg:gd ops l o=some true:=by kernel_rfl) (hc:chk n l o (some d)=true:=by kernel_rfl):GL P n ds ops Q (o :: rest) l w:=gl_val (some d) v hg hc hrun h
theorem tq (d:Nat) (v v':Value) (hv:v=v') (h:GL P n ds ops Q rest ((d,v') :: l) w) (hg:gd ops l o=some true:=by kernel_rfl) (hc:chk n l o (some d)=true:=by kernel_rfl) (hrun:(execOp (evL l) o).run P w=.ok (.value v) w:=by kernel_rfl):GL P n ds ops Q (o :: rest) l w:=by
 subst hv; exact gl_val (some d) v hg hc hrun h
theorem tw (d:Nat) (v:Value) (w1:World) (hrun:(execOp (evL l) o).run P w=.ok (.value v) w1) (h:GL P n ds ops Q rest ((d,v) :: l) w1) (hg:gd ops l o=some true:=by kernel_rfl) (hc:chk n l o (some d)=true:=by kernel_rfl):GL P n ds ops Q (o :: rest) l w:=gl_val (some d) v hg hc hrun h
theorem tv (w1:World) (hrun:(execOp (evL l) o).run P w=.ok .skip w1) (h:GL P n ds ops Q rest l w1) (hg:gd ops l o=some true:=by kernel_rfl) (hc:chk n l o none=true:=by kernel_rfl):GL P n ds ops Q (o :: rest) l w:=gl_void hg hc hrun h
theorem tn (d:Nat) (h:GL P n ds ops Q rest ((d,undef) :: l) w) (hg:gd ops l o=some false:=by kernel_rfl) (hd:(decide (o.dst=some d) && inB n (some d))=true:=by kernel_rfl):GL P n ds ops Q (o :: rest) l w:=gl_not (some d) hg hd h
theorem tc (d:Nat) (f:FuncId) (args:Array Value) {Qc:Ending->World->Prop} (hcall:Calls P f args w Qc) (h:∀ e w',Qc e w'->∃ v,e=.returned v/\GL P n ds ops Q rest ((d,v) :: l) w') (hg:gd ops l o=some true:=by kernel_rfl) (hc:chk n l o (some d)=true:=by kernel_rfl) (hrun:(execOp (evL l) o).run P w=.ok (.enter f args) w:=by kernel_rfl):GL P n ds ops Q (o :: rest) l w:=gl_callx (some d) f args hg hc hrun hcall h
theorem gc_seq {x y:Code} (h:GC P n ds x (Exit.then (y.wp P Q) Q) l w):GC P n ds (x.seq y) Q l w:=⟨fun a r=>wp_seq (h.out a r)⟩
theorem gc_reg {id:Nat} {c:List Oper} (h:GL P n ds c.toArray Q c l w):GC P n ds (Code.region id c.toArray false) Q l w:=⟨fun a r=>wp_region_lit (h.out a r)⟩
theorem gc_yes {c:Operand} {x y:Code} (h:GC P n ds x Q l w) (hk:kn l c=true:=by kernel_rfl) (hc:evL l c=.bool true:=by kernel_rfl):GC P n ds (Code.cond c x y) Q l w:=⟨fun a r=>wp_cond_true ((r.ev c hk).trans hc) (h.out a r)⟩
theorem gc_no {c:Operand} {x y:Code} (h:GC P n ds y Q l w) (hk:kn l c=true:=by kernel_rfl) (hc:evL l c=.bool false:=by kernel_rfl):GC P n ds (Code.cond c x y) Q l w:=⟨fun a r=>wp_cond_false ((r.ev c hk).trans hc) (h.out a r)⟩
theorem gc_skip (h:GE n ds Q .normal l w):GC P n ds Code.skip Q l w:=⟨fun a r=>wp_skip (h.out a r)⟩
theorem gc_ret (h:GE n ds Q .ret l w):GC P n ds Code.ret Q l w:=⟨fun a r=>wp_ret (h.out a r)⟩
theorem gc_exit {id:Nat} (h:GE n ds Q (.exit id) l w):GC P n ds (Code.exit id) Q l w:=⟨fun a r=>wp_exit (h.out a r)⟩
theorem gc_block {id:Nat} {c:Code} (h:GC P n ds c (Exit.inBlock id Q) l w):GC P n ds (Code.block id c) Q l w:=⟨fun a r=>wp_block (h.out a r)⟩
theorem ge_then {y:Code} (h:GC P n ds y Q l w):GE n ds (Exit.then (y.wp P Q) Q') .normal l w:=⟨fun a r=>h.out a r⟩
theorem ge_tr (h:GE n ds Q' .ret l w):GE n ds (Exit.then K Q') .ret l w:=⟨fun a r=>h.out a r⟩
theorem ge_tx {id:Nat} (h:GE n ds Q' (.exit id) l w):GE n ds (Exit.then K Q') (.exit id) l w:=⟨fun a r=>h.out a r⟩
theorem ge_bn {id:Nat} (h:GE n ds Q .normal l w):GE n ds (Exit.inBlock id Q) .normal l w:=⟨fun a r=>h.out a r⟩
theorem ge_br {id:Nat} (h:GE n ds Q .ret l w):GE n ds (Exit.inBlock id Q) .ret l w:=⟨fun a r=>h.out a r⟩
theorem ge_bx {id:Nat} (h:GE n ds Q .normal l w):GE n ds (Exit.inBlock id Q) (.exit id) l w:=⟨fun a r=>by
 show if id=id then Q .normal a w else Q (.exit id) a w
 rw [if_pos rfl]; exact h.out a r⟩
theorem gc_loop {σ : Type} {c : Code} (μ : σ → Nat) (fr : σ → Fr) (F : σ → World → Prop) (s : σ) (hF : F s w) (hl : (fr s).map (fun p => lk l p.1) = (fr s).map (fun p => some p.2))
    (round : ∀ s w, F s w → GC P n ds c (Exit.then (fun a' w' => ∃ s', μ s' < μ s ∧ Rd n ds (fr s') a' ∧ F s' w') Q) (fr s) w) : GC P n ds (Code.loop c) Q l w := ⟨fun a r => by
  refine wp_loop_ghost (fun m a w => ∃ s, μ s = m ∧ Rd n ds (fr s) a ∧ F s w) (μ s) ⟨s, rfl, r.sub (sub_of hl), hF⟩ ?_
  rintro m a w ⟨s, rfl, hr, hF⟩
  refine wp_mono ((round s w hF).out a hr) ?_
  intro e a' w' h
  cases e with
  | normal =>
    obtain ⟨s', h1, h2, h3⟩ := h
    exact ⟨μ s', h1, s', rfl, h2, h3⟩
  | _ => exact h⟩
theorem ge_round {σ:Type} {μ:σ->Nat} {fr:σ->Fr} {F:σ->World->Prop} {m:Nat} (s':σ) (hm:μ s' < m) (hF:F s' w) (hl:(fr s').map (fun p=>lk l p.1)=(fr s').map (fun p=>some p.2)):GE n ds (Exit.then (fun a' w'=>∃ s',μ s' < m/\Rd n ds (fr s') a'/\F s' w') Q) .normal l w:=⟨fun _ r=>⟨s',hm,r.sub (sub_of hl),hF⟩⟩
theorem gc_join {σ:Type} {x y:Code} (fr:σ->Fr) (F:σ->World->Prop) (h1:GC P n ds x (Exit.then (fun a' w'=>∃ s,Rd n ds (fr s) a'/\F s w') Q) l w) (h2:∀ s w',F s w'->GC P n ds y Q (fr s) w'):GC P n ds (x.seq y) Q l w:=⟨fun a r=>wp_seq (wp_mono (h1.out a r) fun e a' w' h=>by
 cases e with
 | normal=>obtain ⟨s,hr,hF⟩:=h; exact (h2 s w' hF).out a' hr
 | _=>exact h)⟩
theorem ge_join {σ:Type} {fr:σ->Fr} {F:σ->World->Prop} (s:σ) (hF:F s w) (hl:(fr s).map (fun p=>lk l p.1)=(fr s).map (fun p=>some p.2)):GE n ds (Exit.then (fun a' w'=>∃ s,Rd n ds (fr s) a'/\F s w') Q) .normal l w:=⟨fun _ r=>⟨s,r.sub (sub_of hl),hF⟩⟩
def en:Nat->List Value->Fr
 | _,[]=>[]
 | i,v :: r=>(i,v) :: en (i + 1) r
theorem lk_en:∀ (vs:List Value) (i k:Nat) (v:Value),lk (en i vs) k=some v->i<=k/\vs[k - i]? = some v
 | [],_,_,_,h=>by cases h
 | u :: r,i,k,v,h=>by
  simp only [en,lk] at h
  cases hb:Nat.beq i k with
  | true =>
   rw [hb] at h
   have:=Nat.eq_of_beq_eq_true hb
   subst this
   simp at h
   subst h
   exact ⟨Nat.le_refl _,by simp⟩
  | false =>
   rw [hb] at h
   obtain ⟨h1,h2⟩:=lk_en r (i + 1) k v h
   refine ⟨by omega,?_⟩
   have:k - i=(k - (i + 1)) + 1:=by omega
   rw [this,List.getElem?_cons_succ]
   exact h2
theorem gc_enter {f:FuncId} {fn:Func} {c:Code} {vs:List Value} {R:Ending->World->Prop} (hf:P.funcs[f]? = some fn) (hb:fn.body=some c) (h:GC P n [] c (bodyPost P fn R) (en 0 vs) w) (hn:fn.ntmps=n:=by kernel_rfl) (hs:Nat.ble vs.length n=true:=by kernel_rfl):Calls P f vs.toArray w R:=by
 have hs:=Nat.le_of_ble_eq_true hs
 refine calls_of_wp hf hb (h.out _ ⟨?_,rfl,fun k v hk => ?_⟩)
 ·simp
  omega
 ·obtain ⟨_,h2⟩:=lk_en vs 0 k v hk
  rw [Nat.sub_zero] at h2
  have hlt:=(List.getElem?_eq_some_iff.1 h2).1
  rw [Array.getElem?_append_left (by simpa using hlt)]
  simpa using h2
theorem ge_ret {fn:Func} {R:Ending->World->Prop} (v:Value) (hr:∀ a,Rd n [] l a->(results fn a.tmps).run P w=.ok v w) (hR:R (.returned v) w):GE n [] (bodyPost P fn R) .ret l w:=⟨fun a r=>bodyPost_ret (hr a r) r.dfs hR⟩
theorem ge_end {fn:Func} {R:Ending->World->Prop} (v:Value) (hr:∀ a,Rd n [] l a->(results fn a.tmps).run P w=.ok v w) (hR:R (.returned v) w):GE n [] (bodyPost P fn R) .normal l w:=⟨fun a r=>⟨r.dfs,v,hr a r,hR⟩⟩
theorem Rd.gD {a:Act} (r:Rd n ds l a) {k:Nat} {v:Value} (h:lk l k=some v):a.tmps.getD k undef=v:=by
 rw [Array.getD_eq_getD_getElem?,r.get k v h]; rfl
theorem rs1 {fn:Func} (k:Nat) {v:Value} (h:fn.results=#[.tmp k]) (hv:lk l k=some v) (a:Act) (r:Rd n [] l a):(results fn a.tmps).run P w=.ok v w:=by
 have:=r.gD hv
 simp at this
 simp [results,h,this]
theorem rs0 {fn:Func} (h:fn.results=#[]) (a:Act) (_:Rd n [] l a):(results fn a.tmps).run P w=.ok (.tuple #[]) w:=by
 simp [results,h]
theorem rsc {fn:Func} (j:Nat) {T:TypeId} {g:Nat} {u:Value} (h:fn.results=#[.cell j T]) (hu:lk l j=some (.pointer (some ⟨g,0,none⟩))) (hl:(loadVar T ⟨g,0,none⟩).run P w=.ok u w) (a:Act) (r:Rd n [] l a):(results fn a.tmps).run P w=.ok u w:=by
 have h1:=r.gD hu
 simp at h1
 simp [results,h,h1,asAddr,hl]
end
end Gl
end
section
namespace Gl
open Go.RowKit Go.Lib Pg
section
variable {P:Program} {ops:Array Oper} {Q:Exit->Act->World->Prop} {md:Region.Mode} {S:World->Prop} {Z:Nat->Bool}
def wpAnyZ (P:Program) (md:Region.Mode) (ops:Array Oper) (Q:Exit->Act->World->Prop) (S:World->Prop) (Z:Nat->Bool):Nat->Array Bool->Act->World->Prop
 | 0,listed,a,w=>Region.ready md ops listed=[]/\Q .normal a w
 | fuel + 1,listed,a,w =>
  (Region.ready md ops listed=[]->Q .normal a w) /\
  ∀ i∈Region.ready md ops listed,wpOp P ops Q i (fun a' w'=>(Z i=true\/S w'\/w'=w)/\wpAnyZ P md ops Q S Z fuel (listed.setIfInBounds i true) a' w') a w
theorem wpAnyZ_held (fuel:Nat):∀ (listed:Array Bool) (a:Act) (w:World),wpAnyZ P md ops Q S Z fuel listed a w->wpAnyH P md ops Q (fun _=>True) fuel listed a w:=by
 induction fuel with
 | zero=>exact fun _ _ _ h=>h
 | succ fuel ih=>exact fun _ _ _ h=>⟨h.1,fun i hi=>wpOp_mono (fun a' w' h'=>⟨trivial,ih _ a' w' h'.2⟩) (h.2 i hi)⟩
def lateWait (ops:Array Oper) (Z:Nat->Bool) (i:Nat):Bool:=(List.range ops.size).all fun z => !Z z || (decide (z≠i) && (ops.getD z default).after.any fun e=>Region.binds .any e && decide (e.on=i))
theorem late_keep {i:Nat} (hz:lateWait ops Z i=true) (j:Nat) (oj:Oper) (hoj:ops[j]? = some oj) (hnot:∀ e∈oj.after,Region.binds .any e=true->e.on≠i) (w w':World) (h:Z j=true\/S w'\/w'=w) (hS:S w):S w':=by
 have hjZ:¬ Z j=true:=fun e=>by
  have hlt:j < ops.size:=(Array.getElem?_eq_some_iff.1 hoj).1
  have h2:=List.all_eq_true.1 hz j (List.mem_range.2 hlt)
  rw [e] at h2
  simp only [Bool.not_true,Bool.false_or,Bool.and_eq_true,decide_eq_true_eq] at h2
  have eo:ops.getD j default=oj:=by
   rw [Array.getD_eq_getD_getElem?,hoj]; rfl
  have h3:=h2.2
  rw [eo,Array.any_eq_true] at h3
  obtain ⟨k,hk,h4⟩:=h3
  rw [Bool.and_eq_true,decide_eq_true_eq] at h4
  exact hnot _ (Array.getElem_mem hk) h4.1 h4.2
 rcases h.resolve_left hjZ with h | h
 ·exact h
 ·rw [h]; exact hS
theorem wpAnyZ_first {i:Nat} {oi:Oper} {v:Value} {S0:World->Prop} (hk:∀ (j:Nat) (oj:Oper),ops[j]? = some oj->(∀ e∈oj.after,Region.binds .any e=true->e.on≠i)->∀ w w':World,(Z j=true\/S w'\/w'=w)->S0 w->S0 w') (hi:ops[i]? = some oi) (hsel:∀ (j:Nat) (o:Oper) cs b,ops[j]? = some o->o.op≠.select cs b)
  (hQ:∀ c a w,Q (.panic c) (a.put oi.dst v) w->Q (.panic c) a w) :
  ∀ (fuel:Nat) (listed:Array Bool) (a:Act) (w:World),
   (∀ j oj,ops[j]? = some oj->j≠i->listed.getD j true=false->(∀ e∈oj.after,Region.binds .any e=true->e.on≠i)->oi.apart ops oj=true) ->
   i∈Region.ready .any ops listed->YieldsIf P ops S0 oi v a->S0 w ->
   wpAnyZ P .any ops Q S Z fuel (listed.setIfInBounds i true) (a.put oi.dst v) w->wpAnyZ P .any ops Q S Z (fuel + 1) listed a w:=by
 intro fuel
 induction fuel with
 | zero =>
  intro listed a w _ hr hy hS H
  refine ⟨fun h=>(by rw [h] at hr; cases hr),fun j hj => ?_⟩
  by_cases hji:j=i
  ·subst hji; exact hy.wpOp hi hS ⟨.inr (.inr rfl),H⟩
  ·have:=ready_mono hj hji
   rw [H.1] at this
   cases this
 | succ fuel ih =>
  intro listed a w hfree hr hy hS H
  refine ⟨fun h=>(by rw [h] at hr; cases hr),fun j hj => ?_⟩
  by_cases hji:j=i
  ·subst hji; exact hy.wpOp hi hS ⟨.inr (.inr rfl),H⟩
  ·have h1:=H.2 j (ready_mono hj hji)
   obtain ⟨hjun,oj,hoj,hall⟩:=mem_ready.1 hj
   have hnot:∀ e∈oj.after,Region.binds .any e=true->e.on≠i:=fun e he hb heq=>by
    have h1:=hall e he hb
    have h0:=(mem_ready.1 hr).1
    rw [heq] at h1
    rcases Nat.lt_or_ge i listed.size with h' | h'
    ·simp [h'] at h0 h1; rw [h0] at h1; cases h1
    ·simp [Array.getElem?_eq_none h'] at h1
   have h2:=wpOp_putIf hoj (hfree j oj hoj hji hjun hnot) (fun cs b=>hsel i oi cs b hi) (fun cs b=>hsel j oj cs b hoj) hQ hy h1
   have hfree':∀ k ok,ops[k]? = some ok->k≠i->(listed.setIfInBounds j true).getD k true=false ->
     (∀ e∈ok.after,Region.binds .any e=true->e.on≠i)->oi.apart ops ok=true:=fun k ok hk hki hun hno=>by
    refine hfree k ok hk hki ?_ hno
    by_cases hjk:j=k
    ·subst hjk; exact hjun
    ·rw [getD_set_ne true hjk] at hun; exact hun
   refine wpOp_mono (fun a' w' h3 => ?_) h2
   refine ⟨h3.2.1,ih (listed.setIfInBounds j true) a' w' hfree' (ready_mono hr (Ne.symm hji)) h3.1 (hk j oj hoj hnot w w' h3.2.1 hS) ?_⟩
   rw [Array.setIfInBounds_comm _ _ hji]
   exact h3.2.2
end
theorem at_getD {ops:Array Oper} {i:Nat} (h:i < ops.size):ops[i]? = some (ops.getD i default):=by
 simp [Array.getD,h]
def hasL:List Nat->Nat->Bool
 | [],_=>false
 | p :: r,k=>bif Nat.beq p k then true else hasL r k
def arr (n:Nat) (L:List Nat):Array Bool:=((List.range n).map (hasL L)).toArray
theorem beq_ne {a b:Nat} (h:a≠b):Nat.beq a b=false:=by
 cases hb:Nat.beq a b with
 | false=>rfl
 | true=>exact absurd (Nat.eq_of_beq_eq_true hb) h
theorem arr_get (n:Nat) (L:List Nat) (j:Nat) (d:Bool):(arr n L).getD j d=if j < n then hasL L j else d:=by
 by_cases h:j < n
 ·simp [arr,h]
 ·simp [arr,h]
theorem arr_nil (n:Nat):arr n []=Array.replicate n false:=by
 apply Array.ext
 ·simp [arr]
 ·intro i h1 h2
  simp [arr,hasL]
theorem arr_cons {n i:Nat} (L:List Nat) (_h:i < n):(arr n L).setIfInBounds i true=arr n (i :: L):=by
 apply Array.ext
 ·simp [arr]
 ·intro j h1 h2
  have h3:j < (arr n L).size:=by simpa using h1
  rw [Array.getElem_setIfInBounds h3]
  by_cases e:i=j
  ·subst e
   simp [arr,hasL]
  ·simp [arr,hasL,e,beq_ne e]
def rdyL (ops:Array Oper) (L:List Nat) (i:Nat):Bool:=match ops[i]? with
 | none=>false
 | some o => !hasL L i && o.after.toList.all fun e => !Region.binds .any e || (Nat.blt e.on ops.size && hasL L e.on)
theorem rdyL_iff {ops:Array Oper} {L:List Nat} {i:Nat}:rdyL ops L i=true<->i∈Region.ready .any ops (arr ops.size L):=by
 rw [mem_ready]
 unfold rdyL
 cases ho:ops[i]? with
 | none=>simp
 | some o =>
  have hlt:i < ops.size:=(Array.getElem?_eq_some_iff.1 ho).1
  simp only [Bool.and_eq_true,Bool.not_eq_true',List.all_eq_true,Bool.or_eq_true,Option.some.injEq,exists_eq_left',arr_get,if_pos hlt]
  constructor
  ·rintro ⟨h1,h2⟩
   refine ⟨h1,fun e he hb => ?_⟩
   rcases h2 e (by simpa using he) with h | h
   ·rw [hb] at h; cases h
   ·have:=Nat.le_of_ble_eq_true h.1
    rw [if_pos (by omega)]
    exact h.2
  ·rintro ⟨h1,h2⟩
   refine ⟨h1,fun e he => ?_⟩
   cases hb:Region.binds .any e with
   | false=>exact .inl rfl
   | true =>
    right
    have h3:=h2 e (by simpa using he) hb
    by_cases h4:e.on < ops.size
    ·rw [if_pos h4] at h3
     exact ⟨by simp only [Nat.blt]; exact Nat.ble_eq_true_of_le h4,h3⟩
    ·rw [if_neg h4] at h3; cases h3
def readyL (ops:Array Oper) (L:List Nat):List Nat:=(List.range ops.size).filter (rdyL ops L)
theorem readyL_eq (ops:Array Oper) (L:List Nat):Region.ready .any ops (arr ops.size L)=readyL ops L:=by
 have hm:∀ j,j∈Region.ready .any ops (arr ops.size L)<->rdyL ops L j=true:=fun j=>rdyL_iff.symm
 unfold Region.ready at hm ⊢
 unfold readyL
 refine List.filter_congr fun j hj => ?_
 have:=hm j
 rw [List.mem_filter] at this
 simp only [hj,true_and] at this
 exact Bool.eq_iff_iff.2 this
def edge (o:Oper) (i:Nat):Bool:=o.after.toList.any fun e=>Region.binds .any e && Nat.beq e.on i
def freeS (ops : Array Oper) (i : Nat) : Bool := match ops[i]? with
  | none => false
  | some oi => (List.range ops.size).all fun j => Nat.beq j i || match ops[j]? with
      | some oj => edge oj i || edge oi j || oi.apart ops oj
      | none => true
def okR (ops:Array Oper) (_Z:Nat->Bool):Bool:=Region.noSelect ops && (List.range ops.size).all (freeS ops)
theorem okR_free {ops:Array Oper} {Z:Nat->Bool} (h:okR ops Z=true) {i:Nat} {L:List Nat} {oi:Oper} (hi:ops[i]? = some oi) (hr:rdyL ops L i=true) (j:Nat) (oj:Oper) (hj:ops[j]? = some oj) (hne:j≠i) (hun:(arr ops.size L).getD j true=false) (hno:∀ e∈oj.after,Region.binds .any e=true->e.on≠i):oi.apart ops oj=true:=by
 simp only [okR,Bool.and_eq_true,List.all_eq_true,List.mem_range] at h
 have hlt:i < ops.size:=(Array.getElem?_eq_some_iff.1 hi).1
 have hjl:j < ops.size:=(Array.getElem?_eq_some_iff.1 hj).1
 have h1:=h.2 i hlt
 simp only [freeS,hi,List.all_eq_true,List.mem_range] at h1
 have h2:=h1 j hjl
 rw [beq_ne hne,hj] at h2
 simp only [Bool.false_or,Bool.or_eq_true] at h2
 rcases h2 with (h2 | h2) | h2
 ·simp only [edge,List.any_eq_true,Bool.and_eq_true] at h2
  obtain ⟨e,he,hb,ho⟩:=h2
  exact absurd (Nat.eq_of_beq_eq_true ho) (hno e (by simpa using he) hb)
 ·simp only [edge,List.any_eq_true,Bool.and_eq_true] at h2
  obtain ⟨e,he,hb,ho⟩:=h2
  have e1:=Nat.eq_of_beq_eq_true ho
  obtain ⟨-,o',ho',hall⟩:=mem_ready.1 (rdyL_iff.1 hr)
  rw [hi] at ho'
  cases ho'
  have h3:=hall e (by simpa using he) hb
  rw [e1,arr_get,if_pos hjl] at h3
  rw [arr_get,if_pos hjl] at hun
  rw [h3] at hun
  cases hun
 ·exact h2
theorem okR_sel {ops:Array Oper} {Z:Nat->Bool} (h:okR ops Z=true):Region.noSelect ops=true:=by
 simp only [okR,Bool.and_eq_true] at h
 exact h.1
def zchk (n:Nat) (l:Fr) (ops:Array Oper) (L:List Nat) (i:Nat) (d:Option Nat):Bool:=rdyL ops L i && Nat.blt i ops.size && chk n l (ops.getD i default) d
def znot (n:Nat) (ops:Array Oper) (L:List Nat) (i:Nat) (d:Option Nat):Bool:=rdyL ops L i && Nat.blt i ops.size && decide ((ops.getD i default).dst=d) && inB n d
theorem blt_lt {a b:Nat} (h:Nat.blt a b=true):a < b:=Nat.le_of_ble_eq_true h
section
variable {P:Program} {n:Nat} {ds:List Deferred} {ops:Array Oper} {Q:Exit->Act->World->Prop} {S:World->Prop} {Z:Nat->Bool} {fuel:Nat} {L:List Nat} {l:Fr} {w:World}
structure GZ (P:Program) (n:Nat) (ds:List Deferred) (ops:Array Oper) (Q:Exit->Act->World->Prop) (S:World->Prop) (Z:Nat->Bool) (fuel:Nat) (L:List Nat) (l:Fr) (w:World):Prop where
 out:okR ops Z=true->S w->∀ a,Rd n ds l a->wpAnyZ P .any ops Q S Z fuel (arr ops.size L) a w
structure GY (P:Program) (n:Nat) (ds:List Deferred) (ops:Array Oper) (Q:Exit->Act->World->Prop) (S:World->Prop) (Z:Nat->Bool) (fuel:Nat) (L:List Nat) (l:Fr) (w:World):Prop where
 out:okR ops Z=true->∀ a,Rd n ds l a->wpAnyZ P .any ops Q S Z fuel (arr ops.size L) a w
theorem gz_late (h:GY P n ds ops Q S Z fuel L l w):GZ P n ds ops Q S Z fuel L l w:=⟨fun ok _=>h.out ok⟩
theorem gc_draw {id:Nat} (S:World->Prop) (Z:Nat->Bool) (hS:S w.drew) (h:GZ P n ds ops Q S Z ops.size [] l w.drew) (hm:P.follows .mixedOrders=true:=by kernel_rfl) (ok:okR ops Z=true:=by kernel_rfl):GC P n ds (Code.region id ops true) Q l w:=⟨fun a r =>
 wp_region_held_drew (S:=fun _=>True) hm trivial fun _=>wpAnyZ_held _ _ _ _ (by have:=h.out ok hS a r; rw [arr_nil] at this; exact this)⟩
theorem gz_take (i:Nat) (d:Option Nat) (v:Value) (hy:∀ w',S w'->(execOp (evL l) (ops.getD i default)).run P w'=.ok (.value v) w') (hz:lateWait ops Z i=true) (hc:zchk n l ops L i d=true) (hg:gd ops l (ops.getD i default)=some true) (hQ:∀ c a w,Q (.panic c) (a.put d v) w->Q (.panic c) a w)
  (h:GZ P n ds ops Q S Z fuel (i :: L) (pt l d v) w):GZ P n ds ops Q S Z (fuel + 1) L l w:=⟨fun ok hS a r=>by
 simp only [zchk,Bool.and_eq_true] at hc
 obtain ⟨⟨h3,h4⟩,h5⟩:=hc
 have h4:=blt_lt h4
 obtain ⟨h6,h7⟩:=chk_d h5
 refine wpAnyZ_first (v:=v) (late_keep hz) (at_getD h4) (Region.noSelect_spec (okR_sel ok)) (by rw [h6]; exact hQ) fuel _ a w (okR_free ok (at_getD h4) h3) (rdyL_iff.1 h3) (.inl ⟨gd_want r hg,fun w' hS'=>by rw [chk_ex h5 r]; exact hy w' hS'⟩) hS ?_
 rw [h6,arr_cons L h4]
 exact h.out ok hS _ (r.put d v h7)⟩
theorem zp (i d:Nat) (v:Value) (h:GZ P n ds ops Q S Z fuel (i :: L) ((d,v) :: l) w) (hc:zchk n l ops L i (some d)=true:=by kernel_rfl) (hg:gd ops l (ops.getD i default)=some true:=by kernel_rfl) (hQ:∀ c a w,Q (.panic c) (a.put (some d) v) w->Q (.panic c) a w:=by exact fun _ _ _ h=>h) (hrun:∀ w',(execOp (evL l) (ops.getD i default)).run P w'=.ok (.value v) w':=by exact fun _=>by kernel_rfl):GZ P n ds ops Q S Z (fuel + 1) L l w:=⟨fun ok hS a r=>by
 simp only [zchk,Bool.and_eq_true] at hc
 obtain ⟨⟨h3,h4⟩,h5⟩:=hc
 have h4:=blt_lt h4
 obtain ⟨h6,h7⟩:=chk_d h5
 refine wpAnyZ_first (v:=v) (S0:=fun _=>True) (fun _ _ _ _ _ _ _ _=>trivial) (at_getD h4) (Region.noSelect_spec (okR_sel ok)) (by rw [h6]; exact hQ) fuel _ a w (okR_free ok (at_getD h4) h3) (rdyL_iff.1 h3) (.inl ⟨gd_want r hg,fun w' _=>by rw [chk_ex h5 r]; exact hrun w'⟩) trivial ?_
 rw [h6,arr_cons L h4]
 exact h.out ok hS _ (r.put (some d) v h7)⟩
theorem gz_skip (i:Nat) (d:Option Nat) (hz:lateWait ops Z i=true) (hc:znot n ops L i d=true) (hg:gd ops l (ops.getD i default)=some false) (hQ:∀ c a w,Q (.panic c) (a.put d undef) w->Q (.panic c) a w)
  (h:GZ P n ds ops Q S Z fuel (i :: L) (pt l d undef) w):GZ P n ds ops Q S Z (fuel + 1) L l w:=⟨fun ok hS a r=>by
 simp only [znot,Bool.and_eq_true,decide_eq_true_eq] at hc
 obtain ⟨⟨⟨h3,h4⟩,h6⟩,h7⟩:=hc
 have h4:=blt_lt h4
 refine wpAnyZ_first (v:=undef) (late_keep hz) (at_getD h4) (Region.noSelect_spec (okR_sel ok)) (by rw [h6]; exact hQ) fuel _ a w (okR_free ok (at_getD h4) h3) (rdyL_iff.1 h3) (.inr ⟨gd_want r hg,rfl⟩) hS ?_
 rw [h6,arr_cons L h4]
 refine h.out ok hS _ (r.put d undef fun k e => ?_)
 subst e
 simp only [inB,Nat.blt] at h7
 exact Nat.le_of_ble_eq_true h7⟩
theorem gz_done (h:GE n ds Q .normal l w) (hr:readyL ops L=[]:=by kernel_rfl):GZ P n ds ops Q S Z fuel L l w:=⟨fun _ _ a r=>by
 have hr:=(readyL_eq ops L).trans hr
 cases fuel with
 | zero=>exact ⟨hr,h.out a r⟩
 | succ _=>exact ⟨fun _=>h.out a r,by rw [hr]; simp⟩⟩
theorem gy_done (h:GE n ds Q .normal l w) (hr:readyL ops L=[]:=by kernel_rfl):GY P n ds ops Q S Z fuel L l w:=⟨fun _ a r=>by
 have hr:=(readyL_eq ops L).trans hr
 cases fuel with
 | zero=>exact ⟨hr,h.out a r⟩
 | succ _=>exact ⟨fun _=>h.out a r,by rw [hr]; simp⟩⟩
structure GA (P:Program) (n:Nat) (ds:List Deferred) (ops:Array Oper) (Q:Exit->Act->World->Prop) (S:World->Prop) (Z:Nat->Bool) (fuel:Nat) (L:List Nat) (l:Fr) (w:World) (rs:List Nat):Prop where
 out:okR ops Z=true->S w->∀ a,Rd n ds l a->∀ i∈rs,wpOp P ops Q i (fun a' w'=>(Z i=true\/S w'\/w'=w)/\wpAnyZ P .any ops Q S Z fuel ((arr ops.size L).setIfInBounds i true) a' w') a w
theorem gz_ready (rs:List Nat) (h:GA P n ds ops Q S Z fuel L l w rs) (hr:readyL ops L=rs:=by kernel_rfl) (hne:rs≠[]:=by decide):GZ P n ds ops Q S Z (fuel + 1) L l w:=⟨fun ok hS a r =>
 ⟨fun h0=>absurd (((readyL_eq ops L).trans hr).symm.trans h0) hne,fun i hi=>h.out ok hS a r i (by rw [<- hr,<- readyL_eq]; exact hi)⟩⟩
theorem ga_nil:GA P n ds ops Q S Z fuel L l w []:=⟨fun _ _ _ _ _ h=>by cases h⟩
def achk (n:Nat) (l:Fr) (ops:Array Oper) (i:Nat) (d:Option Nat):Bool:=Nat.blt i ops.size && chk n l (ops.getD i default) d
theorem ga_cons {rs:List Nat} (i:Nat) (h:okR ops Z=true->S w->∀ a,Rd n ds l a->wpOp P ops Q i (fun a' w'=>(Z i=true\/S w'\/w'=w)/\wpAnyZ P .any ops Q S Z fuel ((arr ops.size L).setIfInBounds i true) a' w') a w) (hs:GA P n ds ops Q S Z fuel L l w rs):GA P n ds ops Q S Z fuel L l w (i :: rs):=⟨fun ok hS a r j hj=>by
 rcases List.mem_cons.1 hj with rfl | hj
 ·exact h ok hS a r
 ·exact hs.out ok hS a r j hj⟩
theorem ga_call {rs:List Nat} (i:Nat) (d:Option Nat) (f:FuncId) (args:Array Value) {Qc:Ending->World->Prop} (hcall:Calls P f args w Qc) (hk:∀ e w',Qc e w'->∃ v,e=.returned v/\S w'/\GZ P n ds ops Q S Z fuel (i :: L) (pt l d v) w')
  (hs:GA P n ds ops Q S Z fuel L l w rs) (hc:achk n l ops i d=true:=by kernel_rfl) (hg:gd ops l (ops.getD i default)=some true:=by kernel_rfl) (hrun:(execOp (evL l) (ops.getD i default)).run P w=.ok (.enter f args) w:=by kernel_rfl):GA P n ds ops Q S Z fuel L l w (i :: rs):=by
 simp only [achk,Bool.and_eq_true] at hc
 obtain ⟨h4,h5⟩:=hc
 have h4:=blt_lt h4
 obtain ⟨h6,h7⟩:=chk_d h5
 refine ga_cons i (fun ok _ a r=>wpOp_step (at_getD h4) fun K hK => ?_) hs
 rw [if_pos (gd_want r hg)]
 unfold Oper.wp
 rw [chk_ex h5 r,hrun]
 refine hcall.mono fun e w' he => ?_
 obtain ⟨v,rfl,hS',hw⟩:=hk e w' he
 show K (a.put (ops.getD i default).dst v) w'
 rw [h6]
 refine hK _ _ ⟨.inr (.inl hS'),?_⟩
 rw [arr_cons L h4]
 exact hw.out ok hS' _ (r.put d v h7)
theorem ga_val {rs:List Nat} (i:Nat) (d:Option Nat) (v:Value) (w1:World) (hrun:(execOp (evL l) (ops.getD i default)).run P w=.ok (.value v) w1) (hS1:S w1) (h:GZ P n ds ops Q S Z fuel (i :: L) (pt l d v) w1)
  (hs:GA P n ds ops Q S Z fuel L l w rs) (hc:achk n l ops i d=true:=by kernel_rfl) (hg:gd ops l (ops.getD i default)=some true:=by kernel_rfl):GA P n ds ops Q S Z fuel L l w (i :: rs):=by
 simp only [achk,Bool.and_eq_true] at hc
 obtain ⟨h4,h5⟩:=hc
 have h4:=blt_lt h4
 obtain ⟨h6,h7⟩:=chk_d h5
 refine ga_cons i (fun ok _ a r=>wpOp_step (at_getD h4) fun K hK => ?_) hs
 rw [if_pos (gd_want r hg)]
 unfold Oper.wp
 rw [chk_ex h5 r,hrun]
 show K (a.put (ops.getD i default).dst v) w1
 rw [h6]
 refine hK _ _ ⟨.inr (.inl hS1),?_⟩
 rw [arr_cons L h4]
 exact h.out ok hS1 _ (r.put d v h7)
theorem ga_void {rs:List Nat} (i:Nat) (w1:World) (hrun:(execOp (evL l) (ops.getD i default)).run P w=.ok .skip w1) (hS1:S w1) (h:GZ P n ds ops Q S Z fuel (i :: L) l w1)
  (hs:GA P n ds ops Q S Z fuel L l w rs) (hc:achk n l ops i none=true:=by kernel_rfl) (hg:gd ops l (ops.getD i default)=some true:=by kernel_rfl):GA P n ds ops Q S Z fuel L l w (i :: rs):=by
 simp only [achk,Bool.and_eq_true] at hc
 obtain ⟨h4,h5⟩:=hc
 have h4:=blt_lt h4
 obtain ⟨h6,h7⟩:=chk_d h5
 refine ga_cons i (fun ok _ a r=>wpOp_step (at_getD h4) fun K hK => ?_) hs
 rw [if_pos (gd_want r hg)]
 unfold Oper.wp
 rw [chk_ex h5 r,hrun]
 show K (a.put (ops.getD i default).dst undef) w1
 rw [h6]
 refine hK _ _ ⟨.inr (.inl hS1),?_⟩
 rw [arr_cons L h4]
 exact h.out ok hS1 _ r
theorem yv (i:Nat) (w1:World) (hrun:(execOp (evL l) (ops.getD i default)).run P w=.ok .skip w1) (h:GY P n ds ops Q S Z fuel (i :: L) l w1) (hr:readyL ops L=[i]:=by kernel_rfl) (hc:achk n l ops i none=true:=by kernel_rfl) (hg:gd ops l (ops.getD i default)=some true:=by kernel_rfl) (hZ:Z i=true:=by rfl):GY P n ds ops Q S Z (fuel + 1) L l w:=⟨fun ok a r=>by
 simp only [achk,Bool.and_eq_true] at hc
 obtain ⟨h4,h5⟩:=hc
 have h4:=blt_lt h4
 obtain ⟨h6,h7⟩:=chk_d h5
 have hr:=(readyL_eq ops L).trans hr
 refine ⟨fun h0=>(by rw [hr] at h0; cases h0),fun j hj => ?_⟩
 obtain rfl:j=i:=by rw [hr] at hj; simpa using hj
 refine wpOp_step (at_getD h4) fun K hK => ?_
 rw [if_pos (gd_want r hg)]
 unfold Oper.wp
 rw [chk_ex h5 r,hrun]
 show K (a.put (ops.getD j default).dst undef) w1
 rw [h6]
 refine hK _ _ ⟨.inl hZ,?_⟩
 rw [arr_cons L h4]
 exact h.out ok _ r⟩
theorem yt (i d:Nat) (v:Value) (h:GY P n ds ops Q S Z fuel (i :: L) ((d,v) :: l) w) (hr:readyL ops L=[i]:=by kernel_rfl) (hc:achk n l ops i (some d)=true:=by kernel_rfl) (hg:gd ops l (ops.getD i default)=some true:=by kernel_rfl) (hZ:Z i=true:=by rfl) (hrun:(execOp (evL l) (ops.getD i default)).run P w=.ok (.value v) w:=by kernel_rfl):GY P n ds ops Q S Z (fuel + 1) L l w:=⟨fun ok a r=>by
 simp only [achk,Bool.and_eq_true] at hc
 obtain ⟨h4,h5⟩:=hc
 have h4:=blt_lt h4
 obtain ⟨h6,h7⟩:=chk_d h5
 have hr:=(readyL_eq ops L).trans hr
 refine ⟨fun h0=>(by rw [hr] at h0; cases h0),fun j hj => ?_⟩
 obtain rfl:j=i:=by rw [hr] at hj; simpa using hj
 refine wpOp_step (at_getD h4) fun K hK => ?_
 rw [if_pos (gd_want r hg)]
 unfold Oper.wp
 rw [chk_ex h5 r,hrun]
 show K (a.put (ops.getD j default).dst v) w
 rw [h6]
 refine hK _ _ ⟨.inl hZ,?_⟩
 rw [arr_cons L h4]
 exact h.out ok _ (r.put (some d) v h7)⟩
theorem z (i d:Nat) (v:Value) (h:GZ P n ds ops Q S Z fuel (i :: L) ((d,v) :: l) w) (hz:lateWait ops Z i=true:=by kernel_rfl) (hc:zchk n l ops L i (some d)=true:=by kernel_rfl) (hg:gd ops l (ops.getD i default)=some true:=by kernel_rfl) (hQ:∀ c a w,Q (.panic c) (a.put (some d) v) w->Q (.panic c) a w:=by exact fun _ _ _ h=>h) (hrun:∀ w',S w'->(execOp (evL l) (ops.getD i default)).run P w'=.ok (.value v) w':=by exact fun _ _=>by kernel_rfl):GZ P n ds ops Q S Z (fuel + 1) L l w:=gz_take i (some d) v hrun hz hc hg hQ h
theorem zr (i d:Nat) (v:Value) (hrun:∀ w',S w'->(execOp (evL l) (ops.getD i default)).run P w'=.ok (.value v) w') (h:GZ P n ds ops Q S Z fuel (i :: L) ((d,v) :: l) w) (hz:lateWait ops Z i=true:=by kernel_rfl) (hc:zchk n l ops L i (some d)=true:=by kernel_rfl) (hg:gd ops l (ops.getD i default)=some true:=by kernel_rfl) (hQ:∀ c a w,Q (.panic c) (a.put (some d) v) w->Q (.panic c) a w:=by exact fun _ _ _ h=>h):GZ P n ds ops Q S Z (fuel + 1) L l w:=gz_take i (some d) v hrun hz hc hg hQ h
theorem zq (i d:Nat) (v v':Value) (hv:v=v') (h:GZ P n ds ops Q S Z fuel (i :: L) ((d,v') :: l) w) (hz:lateWait ops Z i=true:=by kernel_rfl) (hc:zchk n l ops L i (some d)=true:=by kernel_rfl) (hg:gd ops l (ops.getD i default)=some true:=by kernel_rfl) (hQ:∀ c a w,Q (.panic c) (a.put (some d) v') w->Q (.panic c) a w:=by exact fun _ _ _ h=>h) (hrun:∀ w',S w'->(execOp (evL l) (ops.getD i default)).run P w'=.ok (.value v) w':=by exact fun _ _=>by kernel_rfl):GZ P n ds ops Q S Z (fuel + 1) L l w:=by
 subst hv; exact gz_take i (some d) v hrun hz hc hg hQ h
theorem zn (i d:Nat) (h:GZ P n ds ops Q S Z fuel (i :: L) ((d,undef) :: l) w) (hz:lateWait ops Z i=true:=by kernel_rfl) (hc:znot n ops L i (some d)=true:=by kernel_rfl) (hg:gd ops l (ops.getD i default)=some false:=by kernel_rfl) (hQ:∀ c a w,Q (.panic c) (a.put (some d) undef) w->Q (.panic c) a w:=by exact fun _ _ _ h=>h):GZ P n ds ops Q S Z (fuel + 1) L l w:=gz_skip i (some d) hz hc hg hQ h
theorem zc (i d:Nat) (f:FuncId) (args:Array Value) {Qc:Ending->World->Prop} (hcall:Calls P f args w Qc) (hk:∀ e w',Qc e w'->∃ v,e=.returned v/\S w'/\GZ P n ds ops Q S Z fuel (i :: L) ((d,v) :: l) w') (hr:readyL ops L=[i]:=by kernel_rfl) (hc:achk n l ops i (some d)=true:=by kernel_rfl) (hg:gd ops l (ops.getD i default)=some true:=by kernel_rfl) (hrun:(execOp (evL l) (ops.getD i default)).run P w=.ok (.enter f args) w:=by kernel_rfl):GZ P n ds ops Q S Z (fuel + 1) L l w:=gz_ready [i] (ga_call i (some d) f args hcall hk ga_nil hc hg hrun) hr (by simp)
theorem zw (i d:Nat) (v:Value) (w1:World) (hrun:(execOp (evL l) (ops.getD i default)).run P w=.ok (.value v) w1) (hS1:S w1) (h:GZ P n ds ops Q S Z fuel (i :: L) ((d,v) :: l) w1) (hr:readyL ops L=[i]:=by kernel_rfl) (hc:achk n l ops i (some d)=true:=by kernel_rfl) (hg:gd ops l (ops.getD i default)=some true:=by kernel_rfl):GZ P n ds ops Q S Z (fuel + 1) L l w:=gz_ready [i] (ga_val i (some d) v w1 hrun hS1 h ga_nil hc hg) hr (by simp)
theorem zv (i:Nat) (w1:World) (hrun:(execOp (evL l) (ops.getD i default)).run P w=.ok .skip w1) (hS1:S w1) (h:GZ P n ds ops Q S Z fuel (i :: L) l w1) (hr:readyL ops L=[i]:=by kernel_rfl) (hc:achk n l ops i none=true:=by kernel_rfl) (hg:gd ops l (ops.getD i default)=some true:=by kernel_rfl):GZ P n ds ops Q S Z (fuel + 1) L l w:=gz_ready [i] (ga_void i w1 hrun hS1 h ga_nil hc hg) hr (by simp)
end
end Gl
end
end Go.Proofs.YtlbndpkdkdgggaaGreatDoor
