import Derived.Test.YthfepflplbahkaaGreatDoorJac
import Derived.Deep.RegionWith
import Derived.Deep.WholeRow
import Derived.Deep.MidRow
import Derived.Deep.LoopGhost
import Derived.BigFrame
set_option maxRecDepth 100000
set_option maxHeartbeats 8000000
namespace Go.Proofs.YthfepflplbahkaaGreatDoor
section
namespace Gl
open Go.RowKit Go.Lib Pg
section
variable {n:Nat}{a:Act}{v:Value}{o:Oper}{x:Operand}{d:Option Nat}{ops:Array Oper}
abbrev Fr:=List (Nat × Value)
def lk:Fr->Nat->Option Value
 | [],_=>none
 | p :: r,k=>bif Nat.beq p.1 k then some p.2 else lk r k
def evL(l:Fr):Operand->Value
 | .tmp k=>(lk l k).getD undef
 | .const v=>v
 | .global g=>.pointer (some ⟨g,0,none⟩)
 | .func f=>.func (.func f) #[] #[]
def kn(l:Fr):Operand->Bool
 | .tmp k=>(lk l k).isSome
 | _=>true
structure Rd(n:Nat)(ds:List Deferred)(l:Fr)(a:Act):Prop where
 size:a.tmps.size=n
 dfs:a.defers=ds
 get:∀ k v,lk l k=some v->a.tmps[k]?=some v
theorem Rd.ev{ds:List Deferred}{l:Fr}(h:Rd n ds l a)(x:Operand)(b:kn l x=true):a.eval x=evL l x:=by
 cases x with
 | tmp k =>
  cases hl:lk l k with
  | none=>simp[kn,hl] at b
  | some v=>simp[Act.eval,evL,hl,h.get k v hl]
 | const v=>rfl
 | global g=>rfl
 | func f=>rfl
def pt(l:Fr):Option Nat->Value->Fr
 | some d,v=>(d,v) :: l
 | none,_=>l
theorem Rd.put{ds:List Deferred}{l:Fr}(h:Rd n ds l a)(d:Option Nat)(v:Value)(b:∀ k,d=some k->k < n):Rd n ds (pt l d v) (a.put d v):=by
 cases d with
 | none=>exact h
 | some d =>
  have b:=b d rfl;refine⟨by simpa[Act.put] using h.size,h.dfs,fun k u hu=>?_⟩;simp only[pt,lk] at hu;by_cases e:d=k
  ·subst e;simp at hu;subst hu;simp[Act.put,h.size,b]
  ·have c:Nat.beq d k=false:=by
    cases hb:Nat.beq d k with
    | false=>rfl
    | true=>exact absurd (Nat.eq_of_beq_eq_true hb) e
   rw[c] at hu;simp only[Act.put,Array.getElem?_setIfInBounds,if_neg e];exact h.get k u hu
def sub(l' l:Fr):Prop:=∀ k v,lk l' k=some v->lk l k=some v
theorem sU{l:Fr}{k:Nat}(h:lk l k=some v):(k,v)∈l:=by
 induction l with
 | nil=>cases h
 | cons p r ih =>
  simp only[lk] at h
  cases hb:Nat.beq p.1 k with
  | true =>
   rw[hb] at h;have:=Nat.eq_of_beq_eq_true hb;simp at h;subst h;subst this;exact List.mem_cons_self
  | false=>rw[hb] at h;exact List.mem_cons_of_mem _ (ih h)
theorem qe{l' l:Fr}(h:l'.map (fun p=>lk l p.1)=l'.map (fun p=>some p.2)):sub l' l:=fun k v hk=>by
 have hm:=sU hk;have:=List.map_inj_left.1 h (k,v) hm;exact this
theorem Rd.sub{ds:List Deferred}{l l':Fr}(h:Rd n ds l a)(hs:sub l' l):Rd n ds l' a:=⟨h.size,h.dfs,fun k v hk=>h.get k v (hs k v hk)⟩
def rD:Op->List Operand
 | .call c=>(match c.callee with | .value f=>[f] | .invoke r _=>[r] | .builtin _=>[]) ++ c.args.toList
 | .build _ ps=>ps.toList.map (·.2)
 | .buildSlice _ _ ps=>ps.toList.map (·.2)
 | o=>o.operands.toList
theorem vT{o:Op}(h:x ∈ o.operands):x ∈ rD o:=by
  cases o <;> first
    | (simpa[rD] using h)
    | (simp only[Op.operands] at h;simpa[rD] using h)
    | (rename_i c
       simp only[Op.operands,Call.operands] at h;unfold rD
       cases hc:c.callee <;> simp[hc] at h ⊢ <;> exact h)
def notSel:Op->Bool
 | .select _ _=>false
 | _=>true
def inB(n:Nat):Option Nat->Bool
 | none=>true
 | some d=>Nat.blt d n
def gd(ops:Array Oper)(l:Fr)(o:Oper):Option Bool :=
  match o.guard with
  | none=>some true
  | some (j, b) => match (ops[j]?).bind (·.dst) with
    | none=>some false
    | some s => match lk l s with
      | none=>none
      | some (.bool c)=>some (c == b)
      | some _=>some false
def chk(n:Nat)(l:Fr)(o:Oper)(d:Option Nat):Bool:=(rD o.op).all (kn l) && decide (o.dst=d) && inB n d && notSel o.op
theorem ia{l:Fr}(h:chk n l o d=true):o.dst=d/\∀ k,d=some k->k < n:=by
 simp only[chk,Bool.and_eq_true,decide_eq_true_eq] at h;refine⟨h.1.1.2,fun k e=>?_⟩;subst e;have:=h.1.2;simp only[inB,Nat.blt] at this;exact Nat.le_of_ble_eq_true this
theorem gu{ds:List Deferred}{l:Fr}(h:chk n l o d=true)(r:Rd n ds l a):execOp a.eval o=execOp (evL l) o:=by
 simp only[chk,Bool.and_eq_true,List.all_eq_true] at h;exact execOp_congr o (fun cs b e=>by have:=h.2;rw[e] at this;cases this) fun x hx=>r.ev x (h.1.1.1 x (vT hx))
theorem eG{ds:List Deferred}{l:Fr}{t:Bool}(r:Rd n ds l a)(h:gd ops l o=some t):Region.wanted o (yielded ops a.tmps)=t:=by
 unfold gd at h;unfold Region.wanted
 cases hg:o.guard with
 | none=>rw[hg] at h;simpa using h
 | some p =>
  obtain⟨j,b⟩:=p;rw[hg] at h;simp only at h ⊢;unfold yielded
  cases hs:(ops[j]?).bind (·.dst) with
  | none=>rw[hs] at h;simp at h;subst h;simp
  | some s =>
   rw[hs] at h;simp only at h
   cases hv:lk l s with
   | none=>rw[hv] at h;cases h
   | some v =>
    rw[hv] at h;have hx:=r.get s v hv;simp only[Option.bind_some,hx]
    cases v<;>simp_all
end
section
variable {P:Program} {n:Nat} {ds:List Deferred} {ops:Array Oper} {rest:List Oper} {o o1 o2:Oper} {l:Fr} {w w1:World} {Q Q':Exit->Act->World->Prop} {K:Act->World->Prop}
section
variable {c x y:Code}{Qc R:Ending->World->Prop}{id g:Nat}{f:FuncId}{fn:Func}{vs:List Value}{v u:Value}
structure GL(P:Program)(n:Nat)(ds:List Deferred)(ops:Array Oper)(Q:Exit->Act->World->Prop)(rest:List Oper)(l:Fr)(w:World):Prop where
 out:∀ a,Rd n ds l a->wpList P ops Q rest a w
structure GC(P:Program)(n:Nat)(ds:List Deferred)(c:Code)(Q:Exit->Act->World->Prop)(l:Fr)(w:World):Prop where
 out:∀ a,Rd n ds l a->c.wp P Q a w
structure GE(n:Nat)(ds:List Deferred)(Q:Exit->Act->World->Prop)(e:Exit)(l:Fr)(w:World):Prop where
 out:∀ a,Rd n ds l a->Q e a w
theorem aT(l':Fr)(h:l'.map (fun p=>lk l p.1)=l'.map (fun p=>some p.2))(k:GC P n ds c Q l' w):GC P n ds c Q l w:=⟨fun a r=>k.out a (r.sub (qe h))⟩
theorem j5(d:Option Nat)(v:Value)(e:gd ops l o=some true)(hc:chk n l o d=true)(b:(execOp (evL l) o).run P w=.ok (.value v) w1)(h:GL P n ds ops Q rest (pt l d v) w1):GL P n ds ops Q (o :: rest) l w:=⟨fun a r =>
 BigFrame.wpList_want (eG r e) fun K c=>by
  unfold Oper.wp;rw[gu hc r,b]
  show K (a.put o.dst v) w1
  rw[(ia hc).1]
  exact c _ _ (h.out _ (r.put d v (ia hc).2))⟩
theorem BC(d:gd ops l o=some true)(hc:chk n l o none=true)(b:(execOp (evL l) o).run P w=.ok .skip w1)(h:GL P n ds ops Q rest l w1):GL P n ds ops Q (o :: rest) l w:=⟨fun a r =>
 BigFrame.wpList_want (eG r d) fun K c=>by
  unfold Oper.wp;rw[gu hc r,b]
  show K (a.put o.dst undef) w1
  rw[(ia hc).1]
  exact c _ _ (h.out _ r)⟩
theorem gl_not(d:Option Nat)(c:gd ops l o=some false)(b:(decide (o.dst=d) && inB n d)=true)(h:GL P n ds ops Q rest (pt l d undef) w):GL P n ds ops Q (o :: rest) l w:=⟨fun a r=>by
 simp only[Bool.and_eq_true,decide_eq_true_eq] at b;refine wpList_skip (eG r c) ?_
 rw[b.1];refine h.out _ (r.put d undef fun k e=>?_);subst e;have:=b.2;simp only[inB,Nat.blt] at this
 exact Nat.le_of_ble_eq_true this⟩
theorem Bc(d:Option Nat)(f:FuncId)(args:Array Value)(i:gd ops l o=some true)(hc:chk n l o d=true)(c:(execOp (evL l) o).run P w=.ok (.enter f args) w)(b:Calls P f args w Qc)(h:∀ e w',Qc e w'->∃ v,e=.returned v/\GL P n ds ops Q rest (pt l d v) w'):GL P n ds ops Q (o :: rest) l w:=⟨fun a r =>
 BigFrame.wpList_want (eG r i) fun K j=>by
  unfold Oper.wp;rw[gu hc r,c,Oper.upon_enter];refine b.mono ?_
  intro e w' g;obtain⟨v,rfl,hv⟩:=h e w' g
  show K (a.put o.dst v) w'
  rw[(ia hc).1]
  exact j _ _ (hv.out _ (r.put d v (ia hc).2))⟩
theorem ay(h:GE n ds Q .normal l w):GL P n ds ops Q [] l w:=⟨fun a r=>wpList_nil (h.out a r)⟩
theorem t(d:Nat)(v:Value)(h:GL P n ds ops Q rest ((d,v) :: l) w)(b:gd ops l o=some true:=by kernel_rfl)(hc:chk n l o (some d)=true:=by kernel_rfl)(a:(execOp (evL l) o).run P w=.ok (.value v) w:=by kernel_rfl):GL P n ds ops Q (o :: rest) l w:=j5 (some d) v b hc a h
theorem tr(d:Nat)(v:Value)(a:(execOp (evL l) o).run P w=.ok (.value v) w)(h:GL P n ds ops Q rest ((d,v) :: l) w)(b:gd ops l o=some true:=by kernel_rfl)(hc:chk n l o (some d)=true:=by kernel_rfl):GL P n ds ops Q (o :: rest) l w:=j5 (some d) v b hc a h
theorem tq(d:Nat)(v b:Value)(hv:v=b)(h:GL P n ds ops Q rest ((d,b) :: l) w)(c:gd ops l o=some true:=by kernel_rfl)(hc:chk n l o (some d)=true:=by kernel_rfl)(a:(execOp (evL l) o).run P w=.ok (.value v) w:=by kernel_rfl):GL P n ds ops Q (o :: rest) l w:=by
 subst hv;exact j5 (some d) v c hc a h
theorem tn(d:Nat)(h:GL P n ds ops Q rest ((d,undef) :: l) w)(b:gd ops l o=some false:=by kernel_rfl)(a:(decide (o.dst=some d) && inB n (some d))=true:=by kernel_rfl):GL P n ds ops Q (o :: rest) l w:=gl_not (some d) b a h
theorem tc(d:Nat)(f:FuncId)(args:Array Value)(a:Calls P f args w Qc)(h:∀ e w',Qc e w'->∃ v,e=.returned v/\GL P n ds ops Q rest ((d,v) :: l) w')(c:gd ops l o=some true:=by kernel_rfl)(hc:chk n l o (some d)=true:=by kernel_rfl)(b:(execOp (evL l) o).run P w=.ok (.enter f args) w:=by kernel_rfl):GL P n ds ops Q (o :: rest) l w:=Bc (some d) f args c hc b a h
theorem aj(h:GC P n ds x (Exit.then (y.wp P Q) Q) l w):GC P n ds (x.seq y) Q l w:=⟨fun a r=>wp_seq (h.out a r)⟩
theorem aA{c:List Oper}(h:GL P n ds c.toArray Q c l w):GC P n ds (Code.region id c.toArray false) Q l w:=⟨fun a r=>wp_region_lit (h.out a r)⟩
theorem et{c:Operand}(h:GC P n ds x Q l w)(b:kn l c=true:=by kernel_rfl)(hc:evL l c=.bool true:=by kernel_rfl):GC P n ds (Code.cond c x y) Q l w:=⟨fun a r=>wp_cond_true ((r.ev c b).trans hc) (h.out a r)⟩
theorem dA{c:Operand}(h:GC P n ds y Q l w)(b:kn l c=true:=by kernel_rfl)(hc:evL l c=.bool false:=by kernel_rfl):GC P n ds (Code.cond c x y) Q l w:=⟨fun a r=>wp_cond_false ((r.ev c b).trans hc) (h.out a r)⟩
theorem bT(h:GE n ds Q .normal l w):GC P n ds Code.skip Q l w:=⟨fun a r=>wp_skip (h.out a r)⟩
theorem aO(h:GE n ds Q .ret l w):GC P n ds Code.ret Q l w:=⟨fun a r=>wp_ret (h.out a r)⟩
theorem lN(h:GE n ds Q (.exit id) l w):GC P n ds (Code.exit id) Q l w:=⟨fun a r=>wp_exit (h.out a r)⟩
theorem fM(h:GC P n ds c (Exit.inBlock id Q) l w):GC P n ds (Code.block id c) Q l w:=⟨fun a r=>wp_block (h.out a r)⟩
theorem ah(h:GC P n ds y Q l w):GE n ds (Exit.then (y.wp P Q) Q') .normal l w:=⟨fun a r=>h.out a r⟩
theorem jJ(h:GE n ds Q' .ret l w):GE n ds (Exit.then K Q') .ret l w:=⟨fun a r=>h.out a r⟩
theorem kR(h:GE n ds Q' (.exit id) l w):GE n ds (Exit.then K Q') (.exit id) l w:=⟨fun a r=>h.out a r⟩
theorem uE(h:GE n ds Q .normal l w):GE n ds (Exit.inBlock id Q) .normal l w:=⟨fun a r=>h.out a r⟩
theorem Ea(h:GE n ds Q .ret l w):GE n ds (Exit.inBlock id Q) .ret l w:=⟨fun a r=>h.out a r⟩
theorem uC(h:GE n ds Q .normal l w):GE n ds (Exit.inBlock id Q) (.exit id) l w:=⟨fun a r=>by
 show if id=id then Q .normal a w else Q (.exit id) a w
 rw[if_pos rfl];exact h.out a r⟩
theorem pY{σ : Type}(μ : σ → Nat)(b : σ → Fr)(F : σ → World → Prop)(s : σ)(hF : F s w)(d : (b s).map (fun p => lk l p.1) = (b s).map (fun p => some p.2))(round : ∀ s w, F s w → GC P n ds c (Exit.then (fun a' w' => ∃ s', μ s' < μ s ∧ Rd n ds (b s') a' ∧ F s' w') Q) (b s) w) : GC P n ds (Code.loop c) Q l w := ⟨fun a r => by
  refine wp_loop_ghost (fun m a w=>∃ s,μ s=m∧Rd n ds (b s) a∧F s w) (μ s) ⟨s,rfl,r.sub (qe d),hF⟩ ?_
  rintro m a w ⟨s,rfl,j,hF⟩;refine wp_mono ((round s w hF).out a j) ?_
  intro e a' w' h
  cases e with
  | normal =>
    obtain⟨s',f,g,i⟩:= h;exact⟨μ s',f,s',rfl,g,i⟩
  | _=>exact h⟩
theorem lT{σ:Type}{μ:σ->Nat}{b:σ->Fr}{F:σ->World->Prop}{m:Nat}(a:σ)(hm:μ a < m)(hF:F a w)(c:(b a).map (fun p=>lk l p.1)=(b a).map (fun p=>some p.2)):GE n ds (Exit.then (fun a' w'=>∃ a,μ a < m/\Rd n ds (b a) a'/\F a w') Q) .normal l w:=⟨fun _ r=>⟨a,hm,r.sub (qe c),hF⟩⟩
theorem jt{σ:Type}(b:σ->Fr)(F:σ->World->Prop)(d:GC P n ds x (Exit.then (fun a' w'=>∃ s,Rd n ds (b s) a'/\F s w') Q) l w)(c:∀ s w',F s w'->GC P n ds y Q (b s) w'):GC P n ds (x.seq y) Q l w:=⟨fun a r=>wp_seq (wp_mono (d.out a r) fun e a' w' h=>by
 cases e with
 | normal=>obtain⟨s,f,hF⟩:=h;exact(c s w' hF).out a' f
 | _=>exact h)⟩
theorem cM{σ:Type}{a:σ->Fr}{F:σ->World->Prop}(s:σ)(hF:F s w)(b:(a s).map (fun p=>lk l p.1)=(a s).map (fun p=>some p.2)):GE n ds (Exit.then (fun a' w'=>∃ s,Rd n ds (a s) a'/\F s w') Q) .normal l w:=⟨fun _ r=>⟨s,r.sub (qe b),hF⟩⟩
def en:Nat->List Value->Fr
 | _,[]=>[]
 | i,v :: r=>(i,v) :: en (i+1) r
theorem yJ:∀ (vs:List Value) (i k:Nat) (v:Value),lk (en i vs) k=some v->i<=k/\vs[k - i]?=some v
 | [],_,_,_,h=>by cases h
 | u :: r,i,k,v,h=>by
  simp only[en,lk] at h
  cases hb:Nat.beq i k with
  | true =>
   rw[hb] at h;have:=Nat.eq_of_beq_eq_true hb;subst this;simp at h;subst h;exact⟨Nat.le_refl _,by simp⟩
  | false =>
   rw[hb] at h;obtain⟨b,a⟩:=yJ r (i+1) k v h;refine⟨by omega,?_⟩;have:k - i=(k - (i+1))+1:=by omega
   rw[this,List.getElem?_cons_succ];exact a
theorem aM(hf:P.funcs[f]?=some fn)(hb:fn.body=some c)(hn:fn.ntmps=n)(hs:Nat.ble vs.length n=true)(h:GC P n [] c (bodyPost P fn R) (en 0 vs) w):Calls P f vs.toArray w R:=by
 have hs:=Nat.le_of_ble_eq_true hs;refine calls_of_wp hf hb (h.out _ ⟨?_,rfl,fun k v d=>?_⟩)
 ·simp;omega
 ·obtain⟨_,a⟩:=yJ vs 0 k v d;rw[Nat.sub_zero] at a;have b:=(List.getElem?_eq_some_iff.1 a).1;rw[Array.getElem?_append_left (by simpa using b)];simpa using a
theorem aQ(v:Value)(hr:∀ a,Rd n [] l a->(results fn a.tmps).run P w=.ok v w)(hR:R (.returned v) w):GE n [] (bodyPost P fn R) .ret l w:=⟨fun a r=>bodyPost_ret (hr a r) r.dfs hR⟩
theorem iT(v:Value)(hr:∀ a,Rd n [] l a->(results fn a.tmps).run P w=.ok v w)(hR:R (.returned v) w):GE n [] (bodyPost P fn R) .normal l w:=⟨fun a r=>⟨r.dfs,v,hr a r,hR⟩⟩
theorem Rd.gD{a:Act}(r:Rd n ds l a){k:Nat}(h:lk l k=some v):a.tmps.getD k undef=v:=by
 rw[Array.getD_eq_getD_getElem?,r.get k v h];rfl
theorem rs1(k:Nat)(h:fn.results=#[.tmp k])(hv:lk l k=some v)(a:Act)(r:Rd n [] l a):(results fn a.tmps).run P w=.ok v w:=by
 have:=r.gD hv;simp at this;simp[results,h,this]
theorem rs0(h:fn.results=#[])(a:Act)(_:Rd n [] l a):(results fn a.tmps).run P w=.ok (.tuple #[]) w:=by
 simp[results,h]
theorem rs2(j k:Nat)(h:fn.results=#[.tmp j,.tmp k])(hu:lk l j=some u)(hv:lk l k=some v)(a:Act)(r:Rd n [] l a):(results fn a.tmps).run P w=.ok (.tuple #[u,v]) w:=by
 have b:=r.gD hu;have c:=r.gD hv;simp at b c;simp[results,h,b,c]
theorem rsc(j:Nat){T:TypeId}(h:fn.results=#[.cell j T])(hu:lk l j=some (.pointer (some ⟨g,0,none⟩)))(c:(loadVar T ⟨g,0,none⟩).run P w=.ok u w)(a:Act)(r:Rd n [] l a):(results fn a.tmps).run P w=.ok u w:=by
 have b:=r.gD hu;simp at b;simp[results,h,b,asAddr,c]
theorem qD(j k:Nat){T:TypeId}(h:fn.results=#[.cell j T,.tmp k])(hu:lk l j=some (.pointer (some ⟨g,0,none⟩)))(hv:lk l k=some v)(d:(loadVar T ⟨g,0,none⟩).run P w=.ok u w)(a:Act)(r:Rd n [] l a):(results fn a.tmps).run P w=.ok (.tuple #[u,v]) w:=by
 have c:=r.gD hu;have b:=r.gD hv;simp at c b;simp[results,h,c,b,asAddr,d]
end
end
end Gl
end
section
namespace Gl
open Go.RowKit Go.Lib Pg
section
variable {P:Program} {ops:Array Oper} {Q:Exit->Act->World->Prop} {md:Region.Mode} {S:World->Prop} {Z:Nat->Bool}
def gQ (P:Program) (md:Region.Mode) (ops:Array Oper) (Q:Exit->Act->World->Prop) (S:World->Prop) (Z:Nat->Bool):Nat->Array Bool->Act->World->Prop
 | 0,listed,a,w=>Region.ready md ops listed=[]/\Q .normal a w
 | fuel + 1,listed,a,w =>
  (Region.ready md ops listed=[]->Q .normal a w) /\
  ∀ i∈Region.ready md ops listed,wpOp P ops Q i (fun a' w'=>(Z i=true\/S w')/\gQ P md ops Q S Z fuel (listed.setIfInBounds i true) a' w') a w
theorem ry (fuel:Nat):∀ (listed:Array Bool) (a:Act) (w:World),gQ P md ops Q S Z fuel listed a w->wpAnyH P md ops Q (fun _=>True) fuel listed a w:=by
 induction fuel with
 | zero=>exact fun _ _ _ h=>h
 | succ fuel ih=>exact fun _ _ _ h=>⟨h.1,fun i hi=>wpOp_mono (fun c d b=>⟨trivial,ih _ c d b.2⟩) (h.2 i hi)⟩
def nA (ops:Array Oper) (Z:Nat->Bool) (i:Nat):Bool:=(List.range ops.size).all fun z=>!Z z || (decide (z≠i) && (ops.getD z default).after.any fun e=>Region.binds .any e && decide (e.on=i))
theorem oZ {i:Nat} {q:Oper} {v:Value} (N:nA ops Z i=true) (hi:ops[i]?=some q) (p:∀ (j:Nat) (o:Oper) cs b,ops[j]?=some o->o.op≠.select cs b)
  (R:∀ c a w,Q (.panic c) (a.put q.dst v) w->Q (.panic c) a w) :
  ∀ (fuel:Nat) (listed:Array Bool) (a:Act) (w:World),
   (∀ j oj,ops[j]?=some oj->j≠i->listed.getD j true=false->(∀ e∈oj.after,Region.binds .any e=true->e.on≠i)->q.apart ops oj=true) ->
   i∈Region.ready .any ops listed->YieldsIf P ops S q v a->S w ->
   gQ P .any ops Q S Z fuel (listed.setIfInBounds i true) (a.put q.dst v) w->gQ P .any ops Q S Z (fuel+1) listed a w:=by
 intro fuel
 induction fuel with
 | zero =>
  intro listed a w _ r hy hS H;refine⟨fun h=>(by rw[h] at r;cases r),fun j B=>?_⟩;by_cases d:j=i
  ·subst d;exact hy.wpOp hi hS ⟨.inr hS,H⟩
  ·have:=ready_mono B d;rw[H.1] at this
   cases this
 | succ fuel ih =>
  intro listed a w f r hy hS H;refine⟨fun h=>(by rw[h] at r;cases r),fun j B=>?_⟩;by_cases d:j=i
  ·subst d;exact hy.wpOp hi hS ⟨.inr hS,H⟩
  ·have s:=H.2 j (ready_mono B d);obtain⟨m,oj,g,x⟩:=mem_ready.1 B
   have n:∀ e∈oj.after,Region.binds .any e=true->e.on≠i:=fun e he hb heq=>by
    have s:=x e he hb;have K:=(mem_ready.1 r).1;rw[heq] at s;rcases Nat.lt_or_ge i listed.size with E | E
    ·simp[E] at K s;rw[K] at s;cases s
    ·simp[Array.getElem?_eq_none E] at s
   have I:¬ Z j=true:=fun e=>by
    have J:j < ops.size:=(Array.getElem?_eq_some_iff.1 g).1;have u:=List.all_eq_true.1 N j (List.mem_range.2 J);rw[e] at u;simp only[Bool.not_true,Bool.false_or,Bool.and_eq_true,decide_eq_true_eq] at u
    have O:ops.getD j default=oj:=by
     rw[Array.getD_eq_getD_getElem?,g];rfl
    have t:=u.2;rw[O,Array.any_eq_true] at t;obtain⟨k,F,D⟩:=t;rw[Bool.and_eq_true,decide_eq_true_eq] at D;exact n _ (Array.getElem_mem F) D.1 D.2
   have u:=wpOp_putIf g (f j oj g d m n) (fun cs b=>p i q cs b hi) (fun cs b=>p j oj cs b g) R hy s
   have l:∀ k ok,ops[k]?=some ok->k≠i->(listed.setIfInBounds j true).getD k true=false ->
     (∀ e∈ok.after,Region.binds .any e=true->e.on≠i)->q.apart ops ok=true:=fun k ok F C A G=>by
    refine f k ok F C ?_ G;by_cases y:j=k
    ·subst y;exact m
    ·rw[getD_set_ne true y] at A;exact A
   refine wpOp_mono (fun M L t=>?_) u
   have z:=t.2.1.resolve_left I;refine⟨.inr z,ih (listed.setIfInBounds j true) M L l (ready_mono r (Ne.symm d)) t.1 z ?_⟩;rw[Array.setIfInBounds_comm _ _ d];exact t.2.2
end
section
variable {ops:Array Oper}{i a b:Nat}{L:List Nat}{Z:Nat->Bool}
theorem bP(h:i < ops.size):ops[i]?=some (ops.getD i default):=by
 simp[Array.getD,h]
def rp:List Nat->Nat->Bool
 | [],_=>false
 | p :: r,k=>bif Nat.beq p k then true else rp r k
def arr(n:Nat)(L:List Nat):Array Bool:=((List.range n).map (rp L)).toArray
theorem Ag(h:a≠b):Nat.beq a b=false:=by
 cases hb:Nat.beq a b with
 | false=>rfl
 | true=>exact absurd (Nat.eq_of_beq_eq_true hb) h
theorem qu(n:Nat)(L:List Nat)(j:Nat)(d:Bool):(arr n L).getD j d=if j < n then rp L j else d:=by
 by_cases h:j < n
 ·simp[arr,h]
 ·simp[arr,h]
theorem BQ(n:Nat):arr n []=Array.replicate n false:=by
 apply Array.ext
 ·simp[arr]
 ·intro i h1 h2;simp[arr,rp]
theorem gi{n:Nat}(L:List Nat)(_h:i < n):(arr n L).setIfInBounds i true=arr n (i :: L):=by
 apply Array.ext
 ·simp[arr]
 ·intro j b c
  have a:j < (arr n L).size:=by simpa using b
  rw[Array.getElem_setIfInBounds a];by_cases e:i=j
  ·subst e;simp[arr,rp]
  ·simp[arr,rp,e,Ag e]
def wZ(ops:Array Oper)(L:List Nat)(i:Nat):Bool:=match ops[i]? with
 | none=>false
 | some o=>!rp L i && o.after.toList.all fun e=>!Region.binds .any e || (Nat.blt e.on ops.size && rp L e.on)
theorem lW:wZ ops L i=true<->i∈Region.ready .any ops (arr ops.size L):=by
 rw[mem_ready];unfold wZ
 cases ho:ops[i]? with
 | none=>simp
 | some o =>
  have f:i < ops.size:=(Array.getElem?_eq_some_iff.1 ho).1;simp only[Bool.and_eq_true,Bool.not_eq_true',List.all_eq_true,Bool.or_eq_true,Option.some.injEq,exists_eq_left',qu,if_pos f];constructor
  ·rintro⟨b,d⟩;refine⟨b,fun e he hb => ?_⟩;rcases d e (by simpa using he) with h | h
   ·rw[hb] at h;cases h
   ·have:=Nat.le_of_ble_eq_true h.1;rw[if_pos (by omega)];exact h.2
  ·rintro⟨b,d⟩;refine⟨b,fun e he=>?_⟩
   cases hb:Region.binds .any e with
   | false=>exact .inl rfl
   | true =>
    right;have a:=d e (by simpa using he) hb;by_cases c:e.on < ops.size
    ·rw[if_pos c] at a;exact⟨by simp only[Nat.blt];exact Nat.ble_eq_true_of_le c,a⟩
    ·rw[if_neg c] at a;cases a
def eB(ops:Array Oper)(L:List Nat):List Nat:=(List.range ops.size).filter (wZ ops L)
theorem fm(ops:Array Oper)(L:List Nat):Region.ready .any ops (arr ops.size L)=eB ops L:=by
 have hm:∀ j,j∈Region.ready .any ops (arr ops.size L)<->wZ ops L j=true:=fun j=>lW.symm
 unfold Region.ready at hm ⊢;unfold eB;refine List.filter_congr fun j a=>?_
 have:=hm j;rw[List.mem_filter] at this;simp only[a,true_and] at this;exact Bool.eq_iff_iff.2 this
def Cb(o:Oper)(i:Nat):Bool:=o.after.toList.any fun e=>Region.binds .any e && Nat.beq e.on i
def Eg(ops : Array Oper)(i : Nat) : Bool := match ops[i]? with
  | none=>false
  | some oi => (List.range ops.size).all fun j => Nat.beq j i || match ops[j]? with
      | some oj=>Cb oj i || Cb oi j || oi.apart ops oj
      | none=>true
def okR(ops:Array Oper)(Z:Nat->Bool):Bool:=Region.noSelect ops && (List.range ops.size).all (Eg ops) && (List.range ops.size).all fun i=>Z i || nA ops Z i
theorem Ac(h:okR ops Z=true){q:Oper}(hi:ops[i]?=some q)(s:wZ ops L i=true)(j:Nat)(l:Oper)(o:ops[j]?=some l)(n:j≠i)(b:(arr ops.size L).getD j true=false)(k:∀ e∈l.after,Region.binds .any e=true->e.on≠i):q.apart ops l=true:=by
 simp only[okR,Bool.and_eq_true,List.all_eq_true,List.mem_range] at h
 have m:i < ops.size:=(Array.getElem?_eq_some_iff.1 hi).1
 have c:j < ops.size:=(Array.getElem?_eq_some_iff.1 o).1;have p:=h.1.2 i m;simp only[Eg,hi,List.all_eq_true,List.mem_range] at p;have a:=p j c;rw[Ag n,o] at a;simp only[Bool.false_or,Bool.or_eq_true] at a;rcases a with(a | a) | a
 ·simp only[Cb,List.any_eq_true,Bool.and_eq_true] at a;obtain⟨e,he,hb,g⟩:=a;exact absurd (Nat.eq_of_beq_eq_true g) (k e (by simpa using he) hb)
 ·simp only[Cb,List.any_eq_true,Bool.and_eq_true] at a;obtain⟨e,he,hb,g⟩:=a;have e1:=Nat.eq_of_beq_eq_true g;obtain⟨-,t,d,f⟩:=mem_ready.1 (lW.1 s);rw[hi] at d
  cases d;have r:=f e (by simpa using he) hb;rw[e1,qu,if_pos c] at r;rw[qu,if_pos c] at b;rw[r] at b
  cases b
 ·exact a
theorem z8(h:okR ops Z=true)(hi:i < ops.size)(hz:Z i=false):nA ops Z i=true:=by
 simp only[okR,Bool.and_eq_true,List.all_eq_true,List.mem_range] at h;have:=h.2 i hi;rw[hz] at this;simpa using this
theorem Ch(h:okR ops Z=true):Region.noSelect ops=true:=by
 simp only[okR,Bool.and_eq_true] at h;exact h.1.1
def sy(n:Nat)(l:Fr)(ops:Array Oper)(L:List Nat)(i:Nat)(d:Option Nat):Bool:=wZ ops L i && Nat.blt i ops.size && chk n l (ops.getD i default) d
theorem kJ(h:Nat.blt a b=true):a < b:=Nat.le_of_ble_eq_true h
end
section
variable {P:Program} {n:Nat} {ds:List Deferred} {ops:Array Oper} {Q:Exit->Act->World->Prop} {S:World->Prop} {Z:Nat->Bool} {fuel:Nat} {L:List Nat} {l:Fr} {w:World}
section
variable {rs:List Nat}{Qc:Ending->World->Prop}
structure GZ(P:Program)(n:Nat)(ds:List Deferred)(ops:Array Oper)(Q:Exit->Act->World->Prop)(S:World->Prop)(Z:Nat->Bool)(fuel:Nat)(L:List Nat)(l:Fr)(w:World):Prop where
 out:okR ops Z=true->S w->∀ a,Rd n ds l a->gQ P .any ops Q S Z fuel (arr ops.size L) a w
structure GY(P:Program)(n:Nat)(ds:List Deferred)(ops:Array Oper)(Q:Exit->Act->World->Prop)(S:World->Prop)(Z:Nat->Bool)(fuel:Nat)(L:List Nat)(l:Fr)(w:World):Prop where
 out:okR ops Z=true->∀ a,Rd n ds l a->gQ P .any ops Q S Z fuel (arr ops.size L) a w
theorem pF(h:GY P n ds ops Q S Z fuel L l w):GZ P n ds ops Q S Z fuel L l w:=⟨fun ok _=>h.out ok⟩
theorem bX{id:Nat}(S:World->Prop)(Z:Nat->Bool)(hS:S w.drew)(h:GZ P n ds ops Q S Z ops.size [] l w.drew)(hm:P.follows .mixedOrders=true:=by kernel_rfl)(ok:okR ops Z=true:=by kernel_rfl):GC P n ds (Code.region id ops true) Q l w:=⟨fun a r =>
 wp_region_held_drew (S:=fun _=>True) hm trivial fun _=>ry _ _ _ _ (by have:=h.out ok hS a r;rw[BQ] at this;exact this)⟩
theorem jS(i:Nat)(d:Option Nat)(v:Value)(hy:∀ w',S w'->(execOp (evL l) (ops.getD i default)).run P w'=.ok (.value v) w')(k:Z i=false)(hc:sy n l ops L i d=true)(m:gd ops l (ops.getD i default)=some true)(o:∀ c a w,Q (.panic c) (a.put d v) w->Q (.panic c) a w)(h:GZ P n ds ops Q S Z fuel (i :: L) (pt l d v) w):GZ P n ds ops Q S Z (fuel + 1) L l w:=⟨fun ok hS a r=>by
 simp only[sy,Bool.and_eq_true] at hc;obtain⟨⟨g,b⟩,j⟩:=hc;have b:=kJ b;obtain⟨f,h7⟩:=ia j;refine oZ (v:=v) (z8 ok b k) (bP b) (Region.noSelect_spec (Ch ok)) (by rw[f];exact o) fuel _ a w (Ac ok (bP b) g) (lW.1 g) (.inl ⟨eG r m,fun w' e=>by rw[gu j r];exact hy w' e⟩) hS ?_
 rw[f,gi L b]
 exact h.out ok hS _ (r.put d v h7)⟩
theorem bh(h:GE n ds Q .normal l w)(b:eB ops L=[]:=by kernel_rfl):GZ P n ds ops Q S Z fuel L l w:=⟨fun _ _ a r=>by
 have b:=(fm ops L).trans b
 cases fuel with
 | zero=>exact⟨b,h.out a r⟩
 | succ _=>exact⟨fun _=>h.out a r,by rw[b];simp⟩⟩
theorem pQ(h:GE n ds Q .normal l w)(b:eB ops L=[]:=by kernel_rfl):GY P n ds ops Q S Z fuel L l w:=⟨fun _ a r=>by
 have b:=(fm ops L).trans b
 cases fuel with
 | zero=>exact⟨b,h.out a r⟩
 | succ _=>exact⟨fun _=>h.out a r,by rw[b];simp⟩⟩
structure GA(P:Program)(n:Nat)(ds:List Deferred)(ops:Array Oper)(Q:Exit->Act->World->Prop)(S:World->Prop)(Z:Nat->Bool)(fuel:Nat)(L:List Nat)(l:Fr)(w:World)(rs:List Nat):Prop where
 out:okR ops Z=true->S w->∀ a,Rd n ds l a->∀ i∈rs,wpOp P ops Q i (fun a' w'=>(Z i=true\/S w')/\gQ P .any ops Q S Z fuel ((arr ops.size L).setIfInBounds i true) a' w') a w
theorem cn(rs:List Nat)(h:GA P n ds ops Q S Z fuel L l w rs)(c:eB ops L=rs:=by kernel_rfl)(b:rs≠[]:=by decide):GZ P n ds ops Q S Z (fuel + 1) L l w:=⟨fun ok hS a r =>
 ⟨fun d=>absurd (((fm ops L).trans c).symm.trans d) b,fun i hi=>h.out ok hS a r i (by rw[<- c,<- fm];exact hi)⟩⟩
theorem dJ:GA P n ds ops Q S Z fuel L l w []:=⟨fun _ _ _ _ _ h=>by cases h⟩
def ig(n:Nat)(l:Fr)(ops:Array Oper)(i:Nat)(d:Option Nat):Bool:=Nat.blt i ops.size && chk n l (ops.getD i default) d
theorem pP(i:Nat)(h:okR ops Z=true->S w->∀ a,Rd n ds l a->wpOp P ops Q i (fun a' w'=>(Z i=true\/S w')/\gQ P .any ops Q S Z fuel ((arr ops.size L).setIfInBounds i true) a' w') a w)(hs:GA P n ds ops Q S Z fuel L l w rs):GA P n ds ops Q S Z fuel L l w (i :: rs):=⟨fun ok hS a r j b=>by
 rcases List.mem_cons.1 b with rfl | b
 ·exact h ok hS a r
 ·exact hs.out ok hS a r j b⟩
theorem dz(i:Nat)(d:Option Nat)(f:FuncId)(args:Array Value)(b:Calls P f args w Qc)(o:∀ e w',Qc e w'->∃ v,e=.returned v/\S w'/\GZ P n ds ops Q S Z fuel (i :: L) (pt l d v) w')(hs:GA P n ds ops Q S Z fuel L l w rs)(hc:ig n l ops i d=true:=by kernel_rfl)(m:gd ops l (ops.getD i default)=some true:=by kernel_rfl)(g:(execOp (evL l) (ops.getD i default)).run P w=.ok (.enter f args) w:=by kernel_rfl):GA P n ds ops Q S Z fuel L l w (i :: rs):=by
 simp only[ig,Bool.and_eq_true] at hc;obtain⟨h,j⟩:=hc;have h:=kJ h;obtain⟨k,h7⟩:=ia j;refine pP i (fun ok _ a r=>wpOp_step (bP h) fun K p=>?_) hs;rw[if_pos (eG r m)];unfold Oper.wp;rw[gu j r,g];refine b.mono fun e w' he=>?_
 obtain⟨v,rfl,c,hw⟩:=o e w' he
 show K (a.put (ops.getD i default).dst v) w'
 rw[k];refine p _ _ ⟨.inr c,?_⟩;rw[gi L h];exact hw.out ok c _ (r.put d v h7)
theorem yi(i:Nat)(d:Option Nat)(v:Value)(w1:World)(b:(execOp (evL l) (ops.getD i default)).run P w=.ok (.value v) w1)(c:S w1)(h:GZ P n ds ops Q S Z fuel (i :: L) (pt l d v) w1)(hs:GA P n ds ops Q S Z fuel L l w rs)(hc:ig n l ops i d=true:=by kernel_rfl)(j:gd ops l (ops.getD i default)=some true:=by kernel_rfl):GA P n ds ops Q S Z fuel L l w (i :: rs):=by
 simp only[ig,Bool.and_eq_true] at hc;obtain⟨e,f⟩:=hc;have e:=kJ e;obtain⟨g,h7⟩:=ia f;refine pP i (fun ok _ a r=>wpOp_step (bP e) fun K k=>?_) hs;rw[if_pos (eG r j)];unfold Oper.wp;rw[gu f r,b]
 show K (a.put (ops.getD i default).dst v) w1
 rw[g];refine k _ _ ⟨.inr c,?_⟩;rw[gi L e];exact h.out ok c _ (r.put d v h7)
theorem Bg(i:Nat)(w1:World)(b:(execOp (evL l) (ops.getD i default)).run P w=.ok .skip w1)(c:S w1)(h:GZ P n ds ops Q S Z fuel (i :: L) l w1)(hs:GA P n ds ops Q S Z fuel L l w rs)(hc:ig n l ops i none=true:=by kernel_rfl)(g:gd ops l (ops.getD i default)=some true:=by kernel_rfl):GA P n ds ops Q S Z fuel L l w (i :: rs):=by
 simp only[ig,Bool.and_eq_true] at hc;obtain⟨d,e⟩:=hc;have d:=kJ d;obtain⟨f,h7⟩:=ia e;refine pP i (fun ok _ a r=>wpOp_step (bP d) fun K j=>?_) hs;rw[if_pos (eG r g)];unfold Oper.wp;rw[gu e r,b]
 show K (a.put (ops.getD i default).dst undef) w1
 rw[f];refine j _ _ ⟨.inr c,?_⟩;rw[gi L d];exact h.out ok c _ r
theorem yv(i:Nat)(w1:World)(b:(execOp (evL l) (ops.getD i default)).run P w=.ok .skip w1)(h:GY P n ds ops Q S Z fuel (i :: L) l w1)(c:eB ops L=[i]:=by kernel_rfl)(hc:ig n l ops i none=true:=by kernel_rfl)(m:gd ops l (ops.getD i default)=some true:=by kernel_rfl)(p:Z i=true:=by rfl):GY P n ds ops Q S Z (fuel + 1) L l w:=⟨fun ok a r=>by
 simp only[ig,Bool.and_eq_true] at hc;obtain⟨d,f⟩:=hc;have d:=kJ d;obtain⟨k,h7⟩:=ia f;have c:=(fm ops L).trans c;refine⟨fun g=>(by rw[c] at g;cases g),fun j e=>?_⟩;obtain rfl:j=i:=by rw[c] at e;simpa using e
 refine wpOp_step (bP d) fun K o=>?_
 rw[if_pos (eG r m)];unfold Oper.wp;rw[gu f r,b]
 show K (a.put (ops.getD j default).dst undef) w1
 rw[k];refine o _ _ ⟨.inl p,?_⟩;rw[gi L d]
 exact h.out ok _ r⟩
theorem yt(i d:Nat)(v:Value)(h:GY P n ds ops Q S Z fuel (i :: L) ((d,v) :: l) w)(c:eB ops L=[i]:=by kernel_rfl)(hc:ig n l ops i (some d)=true:=by kernel_rfl)(o:gd ops l (ops.getD i default)=some true:=by kernel_rfl)(q:Z i=true:=by rfl)(b:(execOp (evL l) (ops.getD i default)).run P w=.ok (.value v) w:=by kernel_rfl):GY P n ds ops Q S Z (fuel + 1) L l w:=⟨fun ok a r=>by
 simp only[ig,Bool.and_eq_true] at hc;obtain⟨e,g⟩:=hc;have e:=kJ e;obtain⟨m,h7⟩:=ia g;have c:=(fm ops L).trans c;refine⟨fun k=>(by rw[c] at k;cases k),fun j f=>?_⟩;obtain rfl:j=i:=by rw[c] at f;simpa using f
 refine wpOp_step (bP e) fun K p=>?_
 rw[if_pos (eG r o)];unfold Oper.wp;rw[gu g r,b]
 show K (a.put (ops.getD j default).dst v) w
 rw[m];refine p _ _ ⟨.inl q,?_⟩;rw[gi L e]
 exact h.out ok _ (r.put (some d) v h7)⟩
theorem z(i d:Nat)(v:Value)(h:GZ P n ds ops Q S Z fuel (i :: L) ((d,v) :: l) w)(e:Z i=false:=by rfl)(hc:sy n l ops L i (some d)=true:=by kernel_rfl)(g:gd ops l (ops.getD i default)=some true:=by kernel_rfl)(f:∀ c a w,Q (.panic c) (a.put (some d) v) w->Q (.panic c) a w:=by exact fun _ _ _ h=>h)(b:∀ w',S w'->(execOp (evL l) (ops.getD i default)).run P w'=.ok (.value v) w':=by exact fun _ _=>by kernel_rfl):GZ P n ds ops Q S Z (fuel+1) L l w:=jS i (some d) v b e hc g f h
theorem zr(i d:Nat)(v:Value)(b:∀ w',S w'->(execOp (evL l) (ops.getD i default)).run P w'=.ok (.value v) w')(h:GZ P n ds ops Q S Z fuel (i :: L) ((d,v) :: l) w)(e:Z i=false:=by rfl)(hc:sy n l ops L i (some d)=true:=by kernel_rfl)(g:gd ops l (ops.getD i default)=some true:=by kernel_rfl)(f:∀ c a w,Q (.panic c) (a.put (some d) v) w->Q (.panic c) a w:=by exact fun _ _ _ h=>h):GZ P n ds ops Q S Z (fuel+1) L l w:=jS i (some d) v b e hc g f h
theorem zq(i d:Nat)(v e:Value)(hv:v=e)(h:GZ P n ds ops Q S Z fuel (i :: L) ((d,e) :: l) w)(f:Z i=false:=by rfl)(hc:sy n l ops L i (some d)=true:=by kernel_rfl)(j:gd ops l (ops.getD i default)=some true:=by kernel_rfl)(g:∀ c a w,Q (.panic c) (a.put (some d) e) w->Q (.panic c) a w:=by exact fun _ _ _ h=>h)(b:∀ w',S w'->(execOp (evL l) (ops.getD i default)).run P w'=.ok (.value v) w':=by exact fun _ _=>by kernel_rfl):GZ P n ds ops Q S Z (fuel+1) L l w:=by
 subst hv;exact jS i (some d) v b f hc j g h
theorem zc(i d:Nat)(f:FuncId)(args:Array Value)(a:Calls P f args w Qc)(c:∀ e w',Qc e w'->∃ v,e=.returned v/\S w'/\GZ P n ds ops Q S Z fuel (i :: L) ((d,v) :: l) w')(g:eB ops L=[i]:=by kernel_rfl)(hc:ig n l ops i (some d)=true:=by kernel_rfl)(h:gd ops l (ops.getD i default)=some true:=by kernel_rfl)(b:(execOp (evL l) (ops.getD i default)).run P w=.ok (.enter f args) w:=by kernel_rfl):GZ P n ds ops Q S Z (fuel+1) L l w:=cn [i] (dz i (some d) f args a c dJ hc h b) g (by simp)
theorem zw(i d:Nat)(v:Value)(w1:World)(a:(execOp (evL l) (ops.getD i default)).run P w=.ok (.value v) w1)(b:S w1)(h:GZ P n ds ops Q S Z fuel (i :: L) ((d,v) :: l) w1)(c:eB ops L=[i]:=by kernel_rfl)(hc:ig n l ops i (some d)=true:=by kernel_rfl)(e:gd ops l (ops.getD i default)=some true:=by kernel_rfl):GZ P n ds ops Q S Z (fuel+1) L l w:=cn [i] (yi i (some d) v w1 a b h dJ hc e) c (by simp)
theorem zv(i:Nat)(w1:World)(a:(execOp (evL l) (ops.getD i default)).run P w=.ok .skip w1)(b:S w1)(h:GZ P n ds ops Q S Z fuel (i :: L) l w1)(c:eB ops L=[i]:=by kernel_rfl)(hc:ig n l ops i none=true:=by kernel_rfl)(d:gd ops l (ops.getD i default)=some true:=by kernel_rfl):GZ P n ds ops Q S Z (fuel+1) L l w:=cn [i] (Bg i w1 a b h dJ hc d) c (by simp)
end
end
end Gl
end
section
namespace Gl
open Go.RowKit Go.Lib Pg
section
variable {w:World}{g:Nat}{cs vs:List Value}{v x:Value}
abbrev pg(g:Nat):Value:=.pointer (some ⟨g,0,none⟩)
abbrev pq(g o:Nat):Value:=.pointer (some ⟨g,o,none⟩)
def yz(P:Program)(T:TypeId)(n:Nat):Bool:=(match P.underlying T with | some d=>d.isRow | none=>false) && ((P.info? T).map (·.size) == some n)
theorem l1{P:Program}{t T:TypeId}(X:Blk w g cs t)(o:Nat)(hv:cs[o]?=some v:=by rfl)(a:∀ w,(isAgg T).run P w=.ok false w:=by exact fun _=>by kernel_rfl):(loadVar T ⟨g,o,none⟩).run P w=.ok v w:=by
 have h:=X.cell hv;simp[loadVar,a,h]
theorem lr{P:Program}{t T:TypeId}(X:Blk w g cs t)(o:Nat)(c:(cs.drop o).take vs.length=vs:=by rfl)(hc:yz P T vs.length=true:=by kernel_rfl):(loadVar T ⟨g,o,none⟩).run P w=.ok (.agg vs.toArray) w:=by
 simp only[yz,Bool.and_eq_true,beq_iff_eq] at hc;obtain⟨a,b⟩:=hc
 cases hu:P.underlying T with
 | none=>rw[hu] at a;cases a
 | some d =>
  rw[hu] at a;refine run_loadVar_mid w g o T vs d (fun j v hv=>?_) hu a b;refine X.cell ?_
  rw[<- c] at hv;rw[List.getElem?_take] at hv;split at hv
  ·rw[List.getElem?_drop] at hv;exact hv
  ·cases hv
def spl(cs:List Value)(o:Nat)(vs:List Value):List Value:=cs.take o ++ vs ++ cs.drop (o+vs.length)
theorem iK(b:Nat):∀ (vs:List Value) (o:Nat) (w:World) (k:Nat),k≠b->(w.setCells b o vs).heap[k]?=w.heap[k]?
 | [],_,_,_,_=>rfl
 | v :: r,o,w,k,h=>by
  rw[World.setCells,iK b r (o+1) _ k h,Below.heap_setCell w ⟨b,o,none⟩ v k h]
theorem iM(b:Nat):∀ (vs:List Value) (o:Nat) (w:World),(w.setCells b o vs).heap.size=w.heap.size
 | [],_,_=>rfl
 | v :: r,o,w=>by rw[World.setCells,iM b r (o+1)];simp[World.setCell]
theorem eF(b:Nat):∀ (vs:List Value) (o:Nat) (w:World),(w.setCells b o vs).os=w.os/\(w.setCells b o vs).tape=w.tape/\(w.setCells b o vs).output=w.output
 | [],_,_=>⟨rfl,rfl,rfl⟩
 | v :: r,o,w=>by rw[World.setCells];exact eF b r (o+1) _
theorem fj{t:TypeId}:∀ (vs:List Value) (o:Nat) (cs:List Value) (w:World),Blk w g cs t->o+vs.length<=cs.length->Blk (w.setCells g o vs) g (spl cs o vs) t
 | [],o,cs,w,X,_=>by simpa[World.setCells,spl] using X
 | v :: r,o,cs,w,X,h=>by
  rw[World.setCells]
  have h':o+1+r.length<=(cs.set o v).length:=by simp at h ⊢;omega
  have:=fj r (o+1) (cs.set o v) _ (X.setCell (i:=o) v) h'
  have e:spl (cs.set o v) (o+1) r=spl cs o (v :: r):=by
   simp only[List.length_cons] at h;unfold spl;rw[List.drop_set_of_lt (by omega),List.take_set,List.take_add_one,List.set_append]
   have a:(cs.take o).length=o:=by rw[List.length_take];omega
   rw[a,if_neg (by omega),Nat.sub_self];obtain⟨y,hy⟩:∃ y,cs[o]?=some y:=⟨_,List.getElem?_eq_getElem (by omega)⟩
   rw[hy];simp;omega
  rw[e] at this;exact this
theorem py{P:Program}{o:Nat}{t T:TypeId}(X:Blk w g cs t)(hx:x.cells.toList=vs)(hi:((P.info? T).map (·.size) == some vs.length)=true)(b:vs.all (·.oneCell')=true)(hb:o+vs.length<=cs.length):(storeVar T ⟨g,o,none⟩ x).run P w=.ok () (w.setCells g o vs):=by
 have:=run_storeCells_cells (P:=P) g o vs 0 w (fun j c=>by
   have:=X.cell (i:=o+j) (List.getElem?_eq_getElem (by omega))
   simpa using (by rw[this];rfl:(w.cell? ⟨g,o+j,none⟩).isSome=true)) (fun j _=>by simpa using X.free (o+j))
  (fun v hv=>List.all_eq_true.1 b v hv)
 cases hq:P.info? T with
 | none=>rw[hq] at hi;cases hi
 | some i =>
  rw[hq] at hi
  have hs:i.size=vs.length:=by simpa using hi
  have a:x.cells.size=i.size:=by rw[hs,<- hx];simp
  simp only[Nat.add_zero] at this;simp[storeVar,sizeOf,typeInfo,hq,a,hx,this]
end
section
variable {P:Program} {n:Nat} {ds:List Deferred} {ops:Array Oper} {rest:List Oper} {o o1 o2:Oper} {l:Fr} {w w1:World} {Q Q':Exit->Act->World->Prop} {K:Act->World->Prop} {S:World->Prop} {Z:Nat->Bool} {fuel:Nat} {L:List Nat}
section
variable {ρ:Operand->Value}{g off:Nat}{cs vs:List Value}{x v:Value}{rs:List Nat}
theorem oW{t:TypeId}(X:Blk w g cs t)(a:∃ T p q,o.op=.store T p q/\ρ p=.pointer (some ⟨g,off,none⟩)/\ρ q=x/\((P.info? T).map (·.size) == some vs.length)=true)(hx:x.cells.toList=vs)(c:vs.all (·.oneCell')=true)(hb:Nat.ble (off+vs.length) cs.length=true):(execOp ρ o).run P w=.ok .skip (w.setCells g off vs):=by
 obtain⟨T,p,q,h,d,b,hi⟩:=a;simp only[execOp,h,d,b,Instr.storeAt,Instr.sureAddr,Sem.run_bind,Sem.run_pure,Result.andThen_ok,py X hx hi c (Nat.le_of_ble_eq_true hb)]
theorem gl(g off:Nat)(vs:List Value):Chg (·=g) w (w.setCells g off vs):=⟨(eF g vs off w).1,(eF g vs off w).2.1,(eF g vs off w).2.2,by rw[iM];exact Nat.le_refl _,fun b _ hb=>iK g vs off w b hb⟩
theorem vJ{t:TypeId}(X:Blk w g cs t)(hv:cs[off]?=some v)(a:∃ T p,o.op=.load T p/\ρ p=.pointer (some ⟨g,off,none⟩)/\∀ w,(isAgg T).run P w=.ok false w):(execOp ρ o).run P w=.ok (.value v) w:=by
 obtain⟨T,p,h,b,c⟩:=a;have:=l1 (P:=P) (T:=T) X off hv c;simp only[execOp,h,b];simp[Instr.loadAt,Instr.sureAddr,Result.andThen,this]
theorem vM{t:TypeId}(X:Blk w g cs t)(c:(cs.drop off).take vs.length=vs)(a:∃ T p,o.op=.load T p/\ρ p=.pointer (some ⟨g,off,none⟩)/\yz P T vs.length=true):(execOp ρ o).run P w=.ok (.value (.agg vs.toArray)) w:=by
 obtain⟨T,p,h,b,d⟩:=a;have:=lr (P:=P) (T:=T) X off c d;simp only[execOp,h,b];simp[Instr.loadAt,Instr.sureAddr,Result.andThen,this]
theorem tl(d:Nat)(v:Value){t:TypeId}(X:Blk w g cs t)(off:Nat)(h:GL P n ds ops Q rest ((d,v) :: l) w)(hv:cs[off]?=some v:=by rfl)(a:∃ T p,o.op=.load T p/\evL l p=.pointer (some ⟨g,off,none⟩)/\∀ w,(isAgg T).run P w=.ok false w:=by exact⟨_,_,rfl,by kernel_rfl,fun _=>by kernel_rfl⟩)(b:gd ops l o=some true:=by kernel_rfl)(hc:chk n l o (some d)=true:=by kernel_rfl):GL P n ds ops Q (o :: rest) l w:=j5 (some d) v b hc (vJ X hv a) h
theorem tlr(d:Nat)(vs:List Value){t:TypeId}(X:Blk w g cs t)(off:Nat)(h:GL P n ds ops Q rest ((d,.agg vs.toArray) :: l) w)(b:(cs.drop off).take vs.length=vs:=by rfl)(a:∃ T p,o.op=.load T p/\evL l p=.pointer (some ⟨g,off,none⟩)/\yz P T vs.length=true:=by exact⟨_,_,rfl,by kernel_rfl,by kernel_rfl⟩)(c:gd ops l o=some true:=by kernel_rfl)(hc:chk n l o (some d)=true:=by kernel_rfl):GL P n ds ops Q (o :: rest) l w:=j5 (some d) _ c hc (vM X b a) h
theorem zl(i d:Nat)(v:Value){t:TypeId}(X:∀ w',S w'->Blk w' g cs t)(off:Nat)(h:GZ P n ds ops Q S Z fuel (i :: L) ((d,v) :: l) w)(hv:cs[off]?=some v:=by rfl)(e:∃ T p,(ops.getD i default).op=.load T p/\evL l p=.pointer (some ⟨g,off,none⟩)/\∀ w,(isAgg T).run P w=.ok false w:=by exact⟨_,_,rfl,by kernel_rfl,fun _=>by kernel_rfl⟩)(f:Z i=false:=by rfl)(hc:sy n l ops L i (some d)=true:=by kernel_rfl)(k:gd ops l (ops.getD i default)=some true:=by kernel_rfl)(j:∀ c a w,Q (.panic c) (a.put (some d) v) w->Q (.panic c) a w:=by exact fun _ _ _ h=>h):GZ P n ds ops Q S Z (fuel+1) L l w:=jS i (some d) v (fun w' b=>vJ (X w' b) hv e) f hc k j h
theorem zlr(i d:Nat)(vs:List Value){t:TypeId}(X:∀ w',S w'->Blk w' g cs t)(off:Nat)(h:GZ P n ds ops Q S Z fuel (i :: L) ((d,.agg vs.toArray) :: l) w)(k:(cs.drop off).take vs.length=vs:=by rfl)(e:∃ T p,(ops.getD i default).op=.load T p/\evL l p=.pointer (some ⟨g,off,none⟩)/\yz P T vs.length=true:=by exact⟨_,_,rfl,by kernel_rfl,by kernel_rfl⟩)(f:Z i=false:=by rfl)(hc:sy n l ops L i (some d)=true:=by kernel_rfl)(m:gd ops l (ops.getD i default)=some true:=by kernel_rfl)(j:∀ c a w,Q (.panic c) (a.put (some d) (.agg vs.toArray)) w->Q (.panic c) a w:=by exact fun _ _ _ h=>h):GZ P n ds ops Q S Z (fuel+1) L l w:=jS i (some d) _ (fun w' b=>vM (X w' b) k e) f hc m j h
theorem ta(d:Nat)(vs:List Value)(T:TypeId)(mk:Nat->Value)(h:∀ w1 g,Blk w1 g vs T->w.heap.size<=g->Below w.heap.size w w1->GL P n ds ops Q rest ((d,mk g) :: l) w1)(b:gd ops l o=some true:=by kernel_rfl)(hc:chk n l o (some d)=true:=by kernel_rfl)(a:(execOp (evL l) o).run P w=.ok (.value (mk w.heap.size)) (w.alloc (.cells vs.toArray T)):=by kernel_rfl):GL P n ds ops Q (o :: rest) l w :=
 j5 (some d) _ b hc a (h _ _ (aC w vs T) (Nat.le_refl _) (ae w _))
theorem ts{t:TypeId}(X:Blk w g cs t)(off:Nat)(x:Value)(vs a:List Value)(h:∀ w1,Blk w1 g a t->Chg (·=g) w w1->GL P n ds ops Q rest l w1)(hx:x.cells.toList=vs:=by rfl)(c:vs.all (·.oneCell')=true:=by rfl)(hb:Nat.ble (off+vs.length) cs.length=true:=by rfl)(he:spl cs off vs=a:=by rfl)(b:∃ T p q,o.op=.store T p q/\evL l p=.pointer (some ⟨g,off,none⟩)/\evL l q=x/\((P.info? T).map (·.size) == some vs.length)=true:=by exact⟨_,_,_,rfl,by kernel_rfl,by kernel_rfl,by kernel_rfl⟩)(d:gd ops l o=some true:=by kernel_rfl)(hc:chk n l o none=true:=by kernel_rfl):GL P n ds ops Q (o :: rest) l w:=by
 refine BC d hc (oW X b hx c hb) (h _ ?_ (gl g off vs));rw[<- he];exact fj vs off cs w X (Nat.le_of_ble_eq_true hb)
theorem za(i d:Nat)(vs:List Value)(T:TypeId)(mk:Nat->Value)(h:∀ w1 g,Blk w1 g vs T->w.heap.size<=g->Below w.heap.size w w1->S w1/\GZ P n ds ops Q S Z fuel (i :: L) ((d,mk g) :: l) w1)(b:eB ops L=[i]:=by kernel_rfl)(c:gd ops l (ops.getD i default)=some true:=by kernel_rfl)(hc:ig n l ops i (some d)=true:=by kernel_rfl)(a:(execOp (evL l) (ops.getD i default)).run P w=.ok (.value (mk w.heap.size)) (w.alloc (.cells vs.toArray T)):=by kernel_rfl):GZ P n ds ops Q S Z (fuel+1) L l w:=by
 have H:=h _ _ (aC w vs T) (Nat.le_refl _) (ae w _);exact zw i d _ _ a H.1 H.2 b hc c
theorem zaa(i d:Nat)(vs:List Value)(T:TypeId)(mk:Nat->Value)(h:∀ w1 g,Blk w1 g vs T->w.heap.size<=g->Below w.heap.size w w1->S w1/\GZ P n ds ops Q S Z fuel (i :: L) ((d,mk g) :: l) w1)(hs:GA P n ds ops Q S Z fuel L l w rs)(b:gd ops l (ops.getD i default)=some true:=by kernel_rfl)(hc:ig n l ops i (some d)=true:=by kernel_rfl)(a:(execOp (evL l) (ops.getD i default)).run P w=.ok (.value (mk w.heap.size)) (w.alloc (.cells vs.toArray T)):=by kernel_rfl):GA P n ds ops Q S Z fuel L l w (i :: rs):=by
 have H:=h _ _ (aC w vs T) (Nat.le_refl _) (ae w _);exact yi i (some d) _ _ a H.1 H.2 hs hc b
theorem zs(i:Nat){t:TypeId}(X:Blk w g cs t)(off:Nat)(x:Value)(vs a:List Value)(h:∀ w1,Blk w1 g a t->Chg (·=g) w w1->S w1/\GZ P n ds ops Q S Z fuel (i :: L) l w1)(hx:x.cells.toList=vs:=by rfl)(c:vs.all (·.oneCell')=true:=by rfl)(hb:Nat.ble (off+vs.length) cs.length=true:=by rfl)(he:spl cs off vs=a:=by rfl)(b:∃ T p q,(ops.getD i default).op=.store T p q/\evL l p=.pointer (some ⟨g,off,none⟩)/\evL l q=x/\((P.info? T).map (·.size) == some vs.length)=true:=by exact⟨_,_,_,rfl,by kernel_rfl,by kernel_rfl,by kernel_rfl⟩)(e:eB ops L=[i]:=by kernel_rfl)(d:gd ops l (ops.getD i default)=some true:=by kernel_rfl)(hc:ig n l ops i none=true:=by kernel_rfl):GZ P n ds ops Q S Z (fuel+1) L l w:=by
 have Y:=fj vs off cs w X (Nat.le_of_ble_eq_true hb);rw[he] at Y;have H:=h _ Y (gl g off vs);exact zv i _ (oW X b hx c hb) H.1 H.2 e hc d
theorem ys(i:Nat){t:TypeId}(X:Blk w g cs t)(off:Nat)(x:Value)(vs a:List Value)(h:∀ w1,Blk w1 g a t->Chg (·=g) w w1->GY P n ds ops Q S Z fuel (i :: L) l w1)(hx:x.cells.toList=vs:=by rfl)(c:vs.all (·.oneCell')=true:=by rfl)(hb:Nat.ble (off+vs.length) cs.length=true:=by rfl)(he:spl cs off vs=a:=by rfl)(b:∃ T p q,(ops.getD i default).op=.store T p q/\evL l p=.pointer (some ⟨g,off,none⟩)/\evL l q=x/\((P.info? T).map (·.size) == some vs.length)=true:=by exact⟨_,_,_,rfl,by kernel_rfl,by kernel_rfl,by kernel_rfl⟩)(f:eB ops L=[i]:=by kernel_rfl)(d:gd ops l (ops.getD i default)=some true:=by kernel_rfl)(hc:ig n l ops i none=true:=by kernel_rfl)(e:Z i=true:=by rfl):GY P n ds ops Q S Z (fuel+1) L l w:=by
 have Y:=fj vs off cs w X (Nat.le_of_ble_eq_true hb);rw[he] at Y;exact yv i _ (oW X b hx c hb) (h _ Y (gl g off vs)) f hc d e
end
end
theorem wi {z:Int} (h:-9223372036854775808<=z/\z < 9223372036854775808):Value.int .i64 (IntKind.i64.wrap z)=.int .i64 z:=by rw[IntKind.wrap_i64];congr 1;omega
def slT (P:Program) (T:TypeId) (sz:Nat):Bool:=match P.underlying T with
 | some (.slice e)=>(P.info? e).map (·.size) == some sz
 | _=>false
theorem vh {P:Program} {ρ:Operand->Value} {o:Oper} {w:World} (g b off n c k:Nat) (q:k < n) (j:∃ T x y,o.op=.indexAddr T x y/\slT P T g=true/\ρ x=.slice (some ⟨b,off,none⟩) n c/\ρ y=.int .i64 (k:Int):=by exact⟨_,_,_,rfl,by kernel_rfl,by kernel_rfl,by kernel_rfl⟩):(execOp ρ o).run P w=.ok (.value (.pointer (some ⟨b,off+k * g,none⟩))) w:=by
 obtain⟨T,x,y,m,f,p,l⟩:=j
 have h7:(k:Int) < n:=by omega
 have h8:¬ ((k:Int) < 0):=by omega
 unfold slT at f
 cases hu:P.underlying T with
 | none=>rw[hu] at f;cases f
 | some d =>
  rw[hu] at f
  cases d with
  | slice e =>
   simp only[beq_iff_eq] at f
   cases hi:P.info? e with
   | none=>rw[hi] at f;cases f
   | some i =>
    rw[hi] at f;simp at f;simp only[execOp,m,p,l];go_simp;simp[sizeOf,typeInfo,hi,f]
  | _=>cases f
theorem a7 {w0 w w1:World} {g:Nat} (B:Below w0.heap.size w0 w) (C:Chg (·=g) w w1) (h:w0.heap.size<=g):Below w0.heap.size w0 w1:=B.trans (C.below (fun b e=>by have e':b=g:=e;omega) B.size)
end Gl
end
end Go.Proofs.YthfepflplbahkaaGreatDoor
