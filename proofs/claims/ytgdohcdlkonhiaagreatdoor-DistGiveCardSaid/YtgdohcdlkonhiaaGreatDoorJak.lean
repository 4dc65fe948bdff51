import Derived.Deep.WholeRow
import Derived.Deep.LoopGhost
import Derived.Test.YtgdohcdlkonhiaaGreatDoorJaj
import Derived.Lib.SlBytesConst
set_option maxRecDepth 100000
set_option maxHeartbeats 8000000
namespace Go.Proofs.YtgdohcdlkonhiaaGreatDoor
section
namespace Gl
open Go.RowKit Go.Lib Pg
section
variable {n:Nat}{a:Act}{v:Value}{o:Oper}{x:Operand}{d:Option Nat}{ops:Array Oper}
abbrev Fr:=List (Nat × Value)
def lk:Fr->Nat->Option Value
 | [],_=>none
 | p :: r,k=>bif Nat.beq p.1 k then some p.2 else lk r k
def evL(l:Fr):Operand->Value
 | .tmp k=>(lk l k).getD undef
 | .const v=>v
 | .global g=>.pointer (some ⟨g,0,none⟩)
 | .func f=>.func (.func f) #[] #[]
def kn(l:Fr):Operand->Bool
 | .tmp k=>(lk l k).isSome
 | _=>true
structure Rd(n:Nat)(ds:List Deferred)(l:Fr)(a:Act):Prop where
 size:a.tmps.size=n
 dfs:a.defers=ds
 get:∀ k v,lk l k=some v->a.tmps[k]?=some v
theorem Rd.ev{ds:List Deferred}{l:Fr}(h:Rd n ds l a)(x:Operand)(hk:kn l x=true):a.eval x=evL l x:=by
 cases x with
 | tmp k =>
  cases hl:lk l k with
  | none=>simp[kn,hl] at hk
  | some v=>simp[Act.eval,evL,hl,h.get k v hl]
 | const v=>rfl
 | global g=>rfl
 | func f=>rfl
def pt(l:Fr):Option Nat->Value->Fr
 | some d,v=>(d,v) :: l
 | none,_=>l
theorem Rd.put{ds:List Deferred}{l:Fr}(h:Rd n ds l a)(d:Option Nat)(v:Value)(b:∀ k,d=some k->k < n):Rd n ds (pt l d v) (a.put d v):=by
 cases d with
 | none=>exact h
 | some d =>
  have b:=b d rfl;refine⟨by simpa[Act.put] using h.size,h.dfs,fun k u hu=>?_⟩;simp only[pt,lk] at hu;by_cases e:d=k
  ·subst e;simp at hu;subst hu;simp[Act.put,h.size,b]
  ·have c:Nat.beq d k=false:=by
    cases hb:Nat.beq d k with
    | false=>rfl
    | true=>exact absurd (Nat.eq_of_beq_eq_true hb) e
   rw[c] at hu;simp only[Act.put,Array.getElem?_setIfInBounds,if_neg e];exact h.get k u hu
def sub(l' l:Fr):Prop:=∀ k v,lk l' k=some v->lk l k=some v
theorem lk_mem{l:Fr}{k:Nat}(h:lk l k=some v):(k,v)∈l:=by
 induction l with
 | nil=>cases h
 | cons p r ih =>
  simp only[lk] at h
  cases hb:Nat.beq p.1 k with
  | true =>
   rw[hb] at h;have:=Nat.eq_of_beq_eq_true hb;simp at h;subst h;subst this;exact List.mem_cons_self
  | false=>rw[hb] at h;exact List.mem_cons_of_mem _ (ih h)
theorem yk{l' l:Fr}(h:l'.map (fun p=>lk l p.1)=l'.map (fun p=>some p.2)):sub l' l:=fun k v hk=>by
 have hm:=lk_mem hk;have:=List.map_inj_left.1 h (k,v) hm;exact this
theorem Rd.sub{ds:List Deferred}{l l':Fr}(h:Rd n ds l a)(hs:sub l' l):Rd n ds l' a:=⟨h.size,h.dfs,fun k v hk=>h.get k v (hs k v hk)⟩
def sw:Op->List Operand
 | .call c=>(match c.callee with | .value f=>[f] | .invoke r _=>[r] | .builtin _=>[]) ++ c.args.toList
 | .build _ ps=>ps.toList.map (·.2)
 | .buildSlice _ _ ps=>ps.toList.map (·.2)
 | o=>o.operands.toList
theorem xk{o:Op}(h:x ∈ o.operands):x ∈ sw o:=by
  cases o <;> first
    | (simpa[sw] using h)
    | (simp only[Op.operands] at h;simpa[sw] using h)
    | (rename_i c
       simp only[Op.operands,Call.operands] at h;unfold sw
       cases hc:c.callee <;> simp[hc] at h ⊢ <;> exact h)
def notSel:Op->Bool
 | .select _ _=>false
 | _=>true
def inB(n:Nat):Option Nat->Bool
 | none=>true
 | some d=>Nat.blt d n
def gd(ops:Array Oper)(l:Fr)(o:Oper):Option Bool :=
  match o.guard with
  | none=>some true
  | some (j, b) => match (ops[j]?).bind (·.dst) with
    | none=>some false
    | some s => match lk l s with
      | none=>none
      | some (.bool c)=>some (c == b)
      | some _=>some false
def chk(n:Nat)(l:Fr)(o:Oper)(d:Option Nat):Bool:=(sw o.op).all (kn l) && decide (o.dst=d) && inB n d && notSel o.op
theorem ft{l:Fr}(h:chk n l o d=true):o.dst=d/\∀ k,d=some k->k < n:=by
 simp only[chk,Bool.and_eq_true,decide_eq_true_eq] at h;refine⟨h.1.1.2,fun k e=>?_⟩;subst e;have:=h.1.2;simp only[inB,Nat.blt] at this;exact Nat.le_of_ble_eq_true this
theorem fm{ds:List Deferred}{l:Fr}(h:chk n l o d=true)(r:Rd n ds l a):execOp a.eval o=execOp (evL l) o:=by
 simp only[chk,Bool.and_eq_true,List.all_eq_true] at h;exact execOp_congr o (fun cs b e=>by have:=h.2;rw[e] at this;cases this) fun x hx=>r.ev x (h.1.1.1 x (xk hx))
theorem dN{ds:List Deferred}{l:Fr}{t:Bool}(r:Rd n ds l a)(h:gd ops l o=some t):Region.wanted o (yielded ops a.tmps)=t:=by
 unfold gd at h;unfold Region.wanted
 cases hg:o.guard with
 | none=>rw[hg] at h;simpa using h
 | some p =>
  obtain⟨j,b⟩:=p;rw[hg] at h;simp only at h ⊢;unfold yielded
  cases hs:(ops[j]?).bind (·.dst) with
  | none=>rw[hs] at h;simp at h;subst h;simp
  | some s =>
   rw[hs] at h;simp only at h
   cases hv:lk l s with
   | none=>rw[hv] at h;cases h
   | some v =>
    rw[hv] at h;have hx:=r.get s v hv;simp only[Option.bind_some,hx]
    cases v<;>simp_all
end
section
variable {P:Program} {n:Nat} {ds:List Deferred} {ops:Array Oper} {rest:List Oper} {o o1 o2:Oper} {l:Fr} {w w1:World} {Q Q':Exit->Act->World->Prop} {K:Act->World->Prop}
section
variable {c x y:Code}{Qc R:Ending->World->Prop}{id g:Nat}{f:FuncId}{fn:Func}{vs:List Value}{v u:Value}
structure GL(P:Program)(n:Nat)(ds:List Deferred)(ops:Array Oper)(Q:Exit->Act->World->Prop)(rest:List Oper)(l:Fr)(w:World):Prop where
 out:∀ a,Rd n ds l a->wpList P ops Q rest a w
structure GC(P:Program)(n:Nat)(ds:List Deferred)(c:Code)(Q:Exit->Act->World->Prop)(l:Fr)(w:World):Prop where
 out:∀ a,Rd n ds l a->c.wp P Q a w
structure GE(n:Nat)(ds:List Deferred)(Q:Exit->Act->World->Prop)(e:Exit)(l:Fr)(w:World):Prop where
 out:∀ a,Rd n ds l a->Q e a w
theorem aD(l':Fr)(k:GC P n ds c Q l' w)(h:l'.map (fun p=>lk l p.1)=l'.map (fun p=>some p.2):=by kernel_rfl):GC P n ds c Q l w:=⟨fun a r=>k.out a (r.sub (yk h))⟩
theorem jt(d:Option Nat)(v:Value)(b:gd ops l o=some true)(hc:chk n l o d=true)(hrun:(execOp (evL l) o).run P w=.ok (.value v) w1)(h:GL P n ds ops Q rest (pt l d v) w1):GL P n ds ops Q (o :: rest) l w:=⟨fun a r =>
 BigFrame.wpList_want (dN r b) fun K c=>by
  unfold Oper.wp;rw[fm hc r,hrun]
  show K (a.put o.dst v) w1
  rw[(ft hc).1]
  exact c _ _ (h.out _ (r.put d v (ft hc).2))⟩
theorem Bv(b:gd ops l o=some true)(hc:chk n l o none=true)(hrun:(execOp (evL l) o).run P w=.ok .skip w1)(h:GL P n ds ops Q rest l w1):GL P n ds ops Q (o :: rest) l w:=⟨fun a r =>
 BigFrame.wpList_want (dN r b) fun K c=>by
  unfold Oper.wp;rw[fm hc r,hrun]
  show K (a.put o.dst undef) w1
  rw[(ft hc).1]
  exact c _ _ (h.out _ r)⟩
theorem gl_not(d:Option Nat)(c:gd ops l o=some false)(b:(decide (o.dst=d) && inB n d)=true)(h:GL P n ds ops Q rest (pt l d undef) w):GL P n ds ops Q (o :: rest) l w:=⟨fun a r=>by
 simp only[Bool.and_eq_true,decide_eq_true_eq] at b;refine wpList_skip (dN r c) ?_
 rw[b.1];refine h.out _ (r.put d undef fun k e=>?_);subst e;have:=b.2;simp only[inB,Nat.blt] at this
 exact Nat.le_of_ble_eq_true this⟩
theorem xZ(d:Option Nat)(f:FuncId)(args:Array Value)(c:gd ops l o=some true)(hc:chk n l o d=true)(hrun:(execOp (evL l) o).run P w=.ok (.enter f args) w)(b:Calls P f args w Qc)(h:∀ e w',Qc e w'->∃ v,e=.returned v/\GL P n ds ops Q rest (pt l d v) w'):GL P n ds ops Q (o :: rest) l w:=⟨fun a r =>
 BigFrame.wpList_want (dN r c) fun K g=>by
  unfold Oper.wp;rw[fm hc r,hrun,Oper.upon_enter];refine b.mono ?_
  intro e w' hq;obtain⟨v,rfl,hv⟩:=h e w' hq
  show K (a.put o.dst v) w'
  rw[(ft hc).1]
  exact g _ _ (hv.out _ (r.put d v (ft hc).2))⟩
theorem af(h:GE n ds Q .normal l w):GL P n ds ops Q [] l w:=⟨fun a r=>wpList_nil (h.out a r)⟩
theorem t(d:Nat)(v:Value)(h:GL P n ds ops Q rest ((d,v) :: l) w)(a:gd ops l o=some true:=by kernel_rfl)(hc:chk n l o (some d)=true:=by kernel_rfl)(hrun:(execOp (evL l) o).run P w=.ok (.value v) w:=by kernel_rfl):GL P n ds ops Q (o :: rest) l w:=jt (some d) v a hc hrun h
theorem tr(d:Nat)(v:Value)(hrun:(execOp (evL l) o).run P w=.ok (.value v) w)(h:GL P n ds ops Q rest ((d,v) :: l) w)(a:gd ops l o=some true:=by kernel_rfl)(hc:chk n l o (some d)=true:=by kernel_rfl):GL P n ds ops Q (o :: rest) l w:=jt (some d) v a hc hrun h
theorem tq(d:Nat)(v a:Value)(hv:v=a)(h:GL P n ds ops Q rest ((d,a) :: l) w)(b:gd ops l o=some true:=by kernel_rfl)(hc:chk n l o (some d)=true:=by kernel_rfl)(hrun:(execOp (evL l) o).run P w=.ok (.value v) w:=by kernel_rfl):GL P n ds ops Q (o :: rest) l w:=by
 subst hv;exact jt (some d) v b hc hrun h
theorem tn(d:Nat)(h:GL P n ds ops Q rest ((d,undef) :: l) w)(b:gd ops l o=some false:=by kernel_rfl)(a:(decide (o.dst=some d) && inB n (some d))=true:=by kernel_rfl):GL P n ds ops Q (o :: rest) l w:=gl_not (some d) b a h
theorem tc(d:Nat)(f:FuncId)(args:Array Value)(a:Calls P f args w Qc)(h:∀ e w',Qc e w'->∃ v,e=.returned v/\GL P n ds ops Q rest ((d,v) :: l) w')(b:gd ops l o=some true:=by kernel_rfl)(hc:chk n l o (some d)=true:=by kernel_rfl)(hrun:(execOp (evL l) o).run P w=.ok (.enter f args) w:=by kernel_rfl):GL P n ds ops Q (o :: rest) l w:=xZ (some d) f args b hc hrun a h
theorem ae(h:GC P n ds x (Exit.then (y.wp P Q) Q) l w):GC P n ds (x.seq y) Q l w:=⟨fun a r=>wp_seq (h.out a r)⟩
theorem ah{c:List Oper}(h:GL P n ds c.toArray Q c l w):GC P n ds (Code.region id c.toArray false) Q l w:=⟨fun a r=>wp_region_lit (h.out a r)⟩
theorem bJ{c:Operand}(h:GC P n ds x Q l w)(hk:kn l c=true:=by kernel_rfl)(hc:evL l c=.bool true:=by kernel_rfl):GC P n ds (Code.cond c x y) Q l w:=⟨fun a r=>wp_cond_true ((r.ev c hk).trans hc) (h.out a r)⟩
theorem aZ{c:Operand}(h:GC P n ds y Q l w)(hk:kn l c=true:=by kernel_rfl)(hc:evL l c=.bool false:=by kernel_rfl):GC P n ds (Code.cond c x y) Q l w:=⟨fun a r=>wp_cond_false ((r.ev c hk).trans hc) (h.out a r)⟩
theorem aM(h:GE n ds Q .normal l w):GC P n ds Code.skip Q l w:=⟨fun a r=>wp_skip (h.out a r)⟩
theorem ay(h:GE n ds Q .ret l w):GC P n ds Code.ret Q l w:=⟨fun a r=>wp_ret (h.out a r)⟩
theorem vC(h:GE n ds Q (.exit id) l w):GC P n ds (Code.exit id) Q l w:=⟨fun a r=>wp_exit (h.out a r)⟩
theorem dU(h:GC P n ds c (Exit.inBlock id Q) l w):GC P n ds (Code.block id c) Q l w:=⟨fun a r=>wp_block (h.out a r)⟩
theorem aa(h:GC P n ds y Q l w):GE n ds (Exit.then (y.wp P Q) Q') .normal l w:=⟨fun a r=>h.out a r⟩
theorem dD(h:GE n ds Q' .ret l w):GE n ds (Exit.then K Q') .ret l w:=⟨fun a r=>h.out a r⟩
theorem vP(h:GE n ds Q' (.exit id) l w):GE n ds (Exit.then K Q') (.exit id) l w:=⟨fun a r=>h.out a r⟩
theorem gW(h:GE n ds Q .normal l w):GE n ds (Exit.inBlock id Q) .normal l w:=⟨fun a r=>h.out a r⟩
theorem DX(h:GE n ds Q .normal l w):GE n ds (Exit.inBlock id Q) (.exit id) l w:=⟨fun a r=>by
 show if id=id then Q .normal a w else Q (.exit id) a w
 rw[if_pos rfl];exact h.out a r⟩
theorem ke{σ:Type}(b:σ->Fr)(F:σ->World->Prop)(h1:GC P n ds x (Exit.then (fun a' w'=>∃ s,Rd n ds (b s) a'/\F s w') Q) l w)(c:∀ s w',F s w'->GC P n ds y Q (b s) w'):GC P n ds (x.seq y) Q l w:=⟨fun a r=>wp_seq (wp_mono (h1.out a r) fun e a' w' h=>by
 cases e with
 | normal=>obtain⟨s,d,hF⟩:=h;exact(c s w' hF).out a' d
 | _=>exact h)⟩
theorem bI{σ:Type}{a:σ->Fr}{F:σ->World->Prop}(s:σ)(hF:F s w)(b:(a s).map (fun p=>lk l p.1)=(a s).map (fun p=>some p.2)):GE n ds (Exit.then (fun a' w'=>∃ s,Rd n ds (a s) a'/\F s w') Q) .normal l w:=⟨fun _ r=>⟨s,r.sub (yk b),hF⟩⟩
def en:Nat->List Value->Fr
 | _,[]=>[]
 | i,v :: r=>(i,v) :: en (i+1) r
theorem zm:∀ (vs:List Value) (i k:Nat) (v:Value),lk (en i vs) k=some v->i<=k/\vs[k - i]?=some v
 | [],_,_,_,h=>by cases h
 | u :: r,i,k,v,h=>by
  simp only[en,lk] at h
  cases hb:Nat.beq i k with
  | true =>
   rw[hb] at h;have:=Nat.eq_of_beq_eq_true hb;subst this;simp at h;subst h;exact⟨Nat.le_refl _,by simp⟩
  | false =>
   rw[hb] at h;obtain⟨b,a⟩:=zm r (i+1) k v h;refine⟨by omega,?_⟩;have:k - i=(k - (i+1))+1:=by omega
   rw[this,List.getElem?_cons_succ];exact a
theorem ax(hf:P.funcs[f]?=some fn)(hb:fn.body=some c)(h:GC P n [] c (bodyPost P fn R) (en 0 vs) w)(hn:fn.ntmps=n:=by kernel_rfl)(d:Nat.ble vs.length n=true:=by kernel_rfl):Calls P f vs.toArray w R:=by
 have d:=Nat.le_of_ble_eq_true d;refine calls_of_wp hf hb (h.out _ ⟨?_,rfl,fun k v hk=>?_⟩)
 ·simp;omega
 ·obtain⟨_,b⟩:=zm vs 0 k v hk;rw[Nat.sub_zero] at b;have a:=(List.getElem?_eq_some_iff.1 b).1;rw[Array.getElem?_append_left (by simpa using a)];simpa using b
theorem aA(v:Value)(hr:∀ a,Rd n [] l a->(results fn a.tmps).run P w=.ok v w)(hR:R (.returned v) w):GE n [] (bodyPost P fn R) .ret l w:=⟨fun a r=>bodyPost_ret (hr a r) r.dfs hR⟩
theorem bY(v:Value)(hr:∀ a,Rd n [] l a->(results fn a.tmps).run P w=.ok v w)(hR:R (.returned v) w):GE n [] (bodyPost P fn R) .normal l w:=⟨fun a r=>⟨r.dfs,v,hr a r,hR⟩⟩
theorem Rd.gD{a:Act}(r:Rd n ds l a){k:Nat}(h:lk l k=some v):a.tmps.getD k undef=v:=by
 rw[Array.getD_eq_getD_getElem?,r.get k v h];rfl
theorem rs1(k:Nat)(h:fn.results=#[.tmp k]:=by kernel_rfl)(hv:lk l k=some v:=by kernel_rfl)(a:Act)(r:Rd n [] l a):(results fn a.tmps).run P w=.ok v w:=by
 have:=r.gD hv;simp at this;simp[results,h,this]
theorem rs0(h:fn.results=#[]:=by kernel_rfl)(a:Act)(_:Rd n [] l a):(results fn a.tmps).run P w=.ok (.tuple #[]) w:=by
 simp[results,h]
theorem rs2(j k:Nat)(h:fn.results=#[.tmp j,.tmp k]:=by kernel_rfl)(hu:lk l j=some u:=by kernel_rfl)(hv:lk l k=some v:=by kernel_rfl)(a:Act)(r:Rd n [] l a):(results fn a.tmps).run P w=.ok (.tuple #[u,v]) w:=by
 have c:=r.gD hu;have b:=r.gD hv;simp at c b;simp[results,h,c,b]
theorem rsc(j:Nat){T:TypeId}(c:(loadVar T ⟨g,0,none⟩).run P w=.ok u w)(h:fn.results=#[.cell j T]:=by kernel_rfl)(hu:lk l j=some (.pointer (some ⟨g,0,none⟩)):=by kernel_rfl)(a:Act)(r:Rd n [] l a):(results fn a.tmps).run P w=.ok u w:=by
 have b:=r.gD hu;simp at b;simp[results,h,b,asAddr,c]
theorem dP(j k:Nat){T:TypeId}(d:(loadVar T ⟨g,0,none⟩).run P w=.ok u w)(h:fn.results=#[.cell j T,.tmp k]:=by kernel_rfl)(hu:lk l j=some (.pointer (some ⟨g,0,none⟩)):=by kernel_rfl)(hv:lk l k=some v:=by kernel_rfl)(a:Act)(r:Rd n [] l a):(results fn a.tmps).run P w=.ok (.tuple #[u,v]) w:=by
 have c:=r.gD hu;have b:=r.gD hv;simp at c b;simp[results,h,c,b,asAddr,d]
end
end
section
variable {P:Program} {ops:Array Oper} {Q:Exit->Act->World->Prop} {md:Region.Mode} {S:World->Prop} {Z:Nat->Bool}
section
variable {i:Nat}{v:Value}{S0:World->Prop}
def ia(P:Program)(md:Region.Mode)(ops:Array Oper)(Q:Exit->Act->World->Prop)(S:World->Prop)(Z:Nat->Bool):Nat->Array Bool->Act->World->Prop
 | 0,listed,a,w=>Region.ready md ops listed=[]/\Q .normal a w
 | fuel + 1,listed,a,w =>
  (Region.ready md ops listed=[]->Q .normal a w) /\
  ∀ i∈Region.ready md ops listed,wpOp P ops Q i (fun a' w'=>(Z i=true\/S w'\/w'=w)/\ia P md ops Q S Z fuel (listed.setIfInBounds i true) a' w') a w
theorem lL(fuel:Nat):∀ (listed:Array Bool) (a:Act) (w:World),ia P md ops Q S Z fuel listed a w->wpAnyH P md ops Q (fun _=>True) fuel listed a w:=by
 induction fuel with
 | zero=>exact fun _ _ _ h=>h
 | succ fuel ih=>exact fun _ _ _ h=>⟨h.1,fun i hi=>wpOp_mono (fun d b c=>⟨trivial,ih _ d b c.2⟩) (h.2 i hi)⟩
def fR(ops:Array Oper)(Z:Nat->Bool)(i:Nat):Bool:=(List.range ops.size).all fun z=>!Z z || (decide (z≠i) && (ops.getD z default).after.any fun e=>Region.binds .any e && decide (e.on=i))
theorem xE(n:fR ops Z i=true)(j:Nat)(l:Oper)(a:ops[j]?=some l)(b:∀ e∈l.after,Region.binds .any e=true->e.on≠i)(w w':World)(h:Z j=true\/S w'\/w'=w)(hS:S w):S w':=by
 have g:¬ Z j=true:=fun e=>by
  have c:j < ops.size:=(Array.getElem?_eq_some_iff.1 a).1;have d:=List.all_eq_true.1 n j (List.mem_range.2 c);rw[e] at d;simp only[Bool.not_true,Bool.false_or,Bool.and_eq_true,decide_eq_true_eq] at d
  have o:ops.getD j default=l:=by
   rw[Array.getD_eq_getD_getElem?,a];rfl
  have m:=d.2;rw[o,Array.any_eq_true] at m;obtain⟨k,hk,f⟩:=m;rw[Bool.and_eq_true,decide_eq_true_eq] at f;exact b _ (Array.getElem_mem hk) f.1 f.2
 rcases h.resolve_left g with h | h
 ·exact h
 ·rw[h];exact hS
theorem ku{q:Oper}(hk:∀ (j:Nat) (oj:Oper),ops[j]?=some oj->(∀ e∈oj.after,Region.binds .any e=true->e.on≠i)->∀ w w':World,(Z j=true\/S w'\/w'=w)->S0 w->S0 w')(hi:ops[i]?=some q)(p:∀ (j:Nat) (o:Oper) cs b,ops[j]?=some o->o.op≠.select cs b)(hQ:∀ c a w,Q (.panic c) (a.put q.dst v) w->Q (.panic c) a w) :
  ∀ (fuel:Nat) (listed:Array Bool) (a:Act) (w:World),
   (∀ j oj,ops[j]?=some oj->j≠i->listed.getD j true=false->(∀ e∈oj.after,Region.binds .any e=true->e.on≠i)->q.apart ops oj=true) ->
   i∈Region.ready .any ops listed->YieldsIf P ops S0 q v a->S0 w ->
   ia P .any ops Q S Z fuel (listed.setIfInBounds i true) (a.put q.dst v) w->ia P .any ops Q S Z (fuel+1) listed a w:=by
 intro fuel
 induction fuel with
 | zero =>
  intro listed a w _ s hy hS H;refine⟨fun h=>(by rw[h] at s;cases s),fun j z=>?_⟩;by_cases d:j=i
  ·subst d;exact hy.wpOp hi hS ⟨.inr (.inr rfl),H⟩
  ·have:=ready_mono z d;rw[H.1] at this
   cases this
 | succ fuel ih =>
  intro listed a w f s hy hS H;refine⟨fun h=>(by rw[h] at s;cases s),fun j z=>?_⟩;by_cases d:j=i
  ·subst d;exact hy.wpOp hi hS ⟨.inr (.inr rfl),H⟩
  ·have r:=H.2 j (ready_mono z d);obtain⟨m,oj,l,x⟩:=mem_ready.1 z
   have n:∀ e∈oj.after,Region.binds .any e=true->e.on≠i:=fun e he hb heq=>by
    have r:=x e he hb;have D:=(mem_ready.1 s).1;rw[heq] at r;rcases Nat.lt_or_ge i listed.size with A | A
    ·simp[A] at D r;rw[D] at r;cases r
    ·simp[Array.getElem?_eq_none A] at r
   have E:=wpOp_putIf l (f j oj l d m n) (fun cs b=>p i q cs b hi) (fun cs b=>p j oj cs b l) hQ hy r
   have g:∀ k ok,ops[k]?=some ok->k≠i->(listed.setIfInBounds j true).getD k true=false ->
     (∀ e∈ok.after,Region.binds .any e=true->e.on≠i)->q.apart ops ok=true:=fun k ok hk C u B=>by
    refine f k ok hk C ?_ B;by_cases t:j=k
    ·subst t;exact m
    ·rw[getD_set_ne true t] at u;exact u
   refine wpOp_mono (fun F w' y=>?_) E;refine⟨y.2.1,ih (listed.setIfInBounds j true) F w' g (ready_mono s (Ne.symm d)) y.1 (hk j oj l n w w' y.2.1 hS) ?_⟩;rw[Array.setIfInBounds_comm _ _ d];exact y.2.2
end
end
section
variable {ops:Array Oper}{i a b:Nat}{L:List Nat}{Z:Nat->Bool}
theorem bV(h:i < ops.size):ops[i]?=some (ops.getD i default):=by
 simp[Array.getD,h]
def si:List Nat->Nat->Bool
 | [],_=>false
 | p :: r,k=>bif Nat.beq p k then true else si r k
def arr(n:Nat)(L:List Nat):Array Bool:=((List.range n).map (si L)).toArray
theorem zN(h:a≠b):Nat.beq a b=false:=by
 cases hb:Nat.beq a b with
 | false=>rfl
 | true=>exact absurd (Nat.eq_of_beq_eq_true hb) h
theorem qm(n:Nat)(L:List Nat)(j:Nat)(d:Bool):(arr n L).getD j d=if j < n then si L j else d:=by
 by_cases h:j < n
 ·simp[arr,h]
 ·simp[arr,h]
theorem vm(n:Nat):arr n []=Array.replicate n false:=by
 apply Array.ext
 ·simp[arr]
 ·intro i h1 h2;simp[arr,si]
theorem fI{n:Nat}(L:List Nat)(_h:i < n):(arr n L).setIfInBounds i true=arr n (i :: L):=by
 apply Array.ext
 ·simp[arr]
 ·intro j b c
  have a:j < (arr n L).size:=by simpa using b
  rw[Array.getElem_setIfInBounds a];by_cases e:i=j
  ·subst e;simp[arr,si]
  ·simp[arr,si,e,zN e]
def xB(ops:Array Oper)(L:List Nat)(i:Nat):Bool:=match ops[i]? with
 | none=>false
 | some o=>!si L i && o.after.toList.all fun e=>!Region.binds .any e || (Nat.blt e.on ops.size && si L e.on)
theorem kh:xB ops L i=true<->i∈Region.ready .any ops (arr ops.size L):=by
 rw[mem_ready];unfold xB
 cases ho:ops[i]? with
 | none=>simp
 | some o =>
  have b:i < ops.size:=(Array.getElem?_eq_some_iff.1 ho).1;simp only[Bool.and_eq_true,Bool.not_eq_true',List.all_eq_true,Bool.or_eq_true,Option.some.injEq,exists_eq_left',qm,if_pos b];constructor
  ·rintro⟨f,c⟩;refine⟨f,fun e he hb => ?_⟩;rcases c e (by simpa using he) with h | h
   ·rw[hb] at h;cases h
   ·have:=Nat.le_of_ble_eq_true h.1;rw[if_pos (by omega)];exact h.2
  ·rintro⟨f,c⟩;refine⟨f,fun e he=>?_⟩
   cases hb:Region.binds .any e with
   | false=>exact .inl rfl
   | true =>
    right;have a:=c e (by simpa using he) hb;by_cases d:e.on < ops.size
    ·rw[if_pos d] at a;exact⟨by simp only[Nat.blt];exact Nat.ble_eq_true_of_le d,a⟩
    ·rw[if_neg d] at a;cases a
def eP(ops:Array Oper)(L:List Nat):List Nat:=(List.range ops.size).filter (xB ops L)
theorem fH(ops:Array Oper)(L:List Nat):Region.ready .any ops (arr ops.size L)=eP ops L:=by
 have hm:∀ j,j∈Region.ready .any ops (arr ops.size L)<->xB ops L j=true:=fun j=>kh.symm
 unfold Region.ready at hm ⊢;unfold eP;refine List.filter_congr fun j a=>?_
 have:=hm j;rw[List.mem_filter] at this;simp only[a,true_and] at this;exact Bool.eq_iff_iff.2 this
def CQ(o:Oper)(i:Nat):Bool:=o.after.toList.any fun e=>Region.binds .any e && Nat.beq e.on i
def Eh(ops : Array Oper)(i : Nat) : Bool := match ops[i]? with
  | none=>false
  | some oi => (List.range ops.size).all fun j => Nat.beq j i || match ops[j]? with
      | some oj=>CQ oj i || CQ oi j || oi.apart ops oj
      | none=>true
def okR(ops:Array Oper)(_Z:Nat->Bool):Bool:=Region.noSelect ops && (List.range ops.size).all (Eh ops)
theorem qW(h:okR ops Z=true){o:Oper}(hi:ops[i]?=some o)(hr:xB ops L i=true)(j:Nat)(n:Oper)(r:ops[j]?=some n)(l:j≠i)(c:(arr ops.size L).getD j true=false)(g:∀ e∈n.after,Region.binds .any e=true->e.on≠i):o.apart ops n=true:=by
 simp only[okR,Bool.and_eq_true,List.all_eq_true,List.mem_range] at h
 have k:i < ops.size:=(Array.getElem?_eq_some_iff.1 hi).1
 have b:j < ops.size:=(Array.getElem?_eq_some_iff.1 r).1;have p:=h.2 i k;simp only[Eh,hi,List.all_eq_true,List.mem_range] at p;have a:=p j b;rw[zN l,r] at a;simp only[Bool.false_or,Bool.or_eq_true] at a;rcases a with(a | a) | a
 ·simp only[CQ,List.any_eq_true,Bool.and_eq_true] at a;obtain⟨e,he,hb,m⟩:=a;exact absurd (Nat.eq_of_beq_eq_true m) (g e (by simpa using he) hb)
 ·simp only[CQ,List.any_eq_true,Bool.and_eq_true] at a;obtain⟨e,he,hb,m⟩:=a;have e1:=Nat.eq_of_beq_eq_true m;obtain⟨-,s,d,f⟩:=mem_ready.1 (kh.1 hr);rw[hi] at d
  cases d;have q:=f e (by simpa using he) hb;rw[e1,qm,if_pos b] at q;rw[qm,if_pos b] at c;rw[q] at c
  cases c
 ·exact a
theorem vq(h:okR ops Z=true):Region.noSelect ops=true:=by
 simp only[okR,Bool.and_eq_true] at h;exact h.1
def qx(n:Nat)(l:Fr)(ops:Array Oper)(L:List Nat)(i:Nat)(d:Option Nat):Bool:=xB ops L i && Nat.blt i ops.size && chk n l (ops.getD i default) d
theorem jB(h:Nat.blt a b=true):a < b:=Nat.le_of_ble_eq_true h
end
section
variable {P:Program} {n:Nat} {ds:List Deferred} {ops:Array Oper} {Q:Exit->Act->World->Prop} {S:World->Prop} {Z:Nat->Bool} {fuel:Nat} {L:List Nat} {l:Fr} {w:World}
section
variable {rs:List Nat}{Qc:Ending->World->Prop}
structure GZ(P:Program)(n:Nat)(ds:List Deferred)(ops:Array Oper)(Q:Exit->Act->World->Prop)(S:World->Prop)(Z:Nat->Bool)(fuel:Nat)(L:List Nat)(l:Fr)(w:World):Prop where
 out:okR ops Z=true->S w->∀ a,Rd n ds l a->ia P .any ops Q S Z fuel (arr ops.size L) a w
structure GY(P:Program)(n:Nat)(ds:List Deferred)(ops:Array Oper)(Q:Exit->Act->World->Prop)(S:World->Prop)(Z:Nat->Bool)(fuel:Nat)(L:List Nat)(l:Fr)(w:World):Prop where
 out:okR ops Z=true->∀ a,Rd n ds l a->ia P .any ops Q S Z fuel (arr ops.size L) a w
theorem ec(h:GY P n ds ops Q S Z fuel L l w):GZ P n ds ops Q S Z fuel L l w:=⟨fun ok _=>h.out ok⟩
theorem aO{id:Nat}(S:World->Prop)(Z:Nat->Bool)(hS:S w.drew)(h:GZ P n ds ops Q S Z ops.size [] l w.drew)(hm:P.follows .mixedOrders=true:=by kernel_rfl)(ok:okR ops Z=true:=by kernel_rfl):GC P n ds (Code.region id ops true) Q l w:=⟨fun a r =>
 wp_region_held_drew (S:=fun _=>True) hm trivial fun _=>lL _ _ _ _ (by have:=h.out ok hS a r;rw[vm] at this;exact this)⟩
theorem ki(i:Nat)(d:Option Nat)(v:Value)(hy:∀ w',S w'->(execOp (evL l) (ops.getD i default)).run P w'=.ok (.value v) w')(o:fR ops Z i=true)(hc:qx n l ops L i d=true)(k:gd ops l (ops.getD i default)=some true)(hQ:∀ c a w,Q (.panic c) (a.put d v) w->Q (.panic c) a w)(h:GZ P n ds ops Q S Z fuel (i :: L) (pt l d v) w):GZ P n ds ops Q S Z (fuel + 1) L l w:=⟨fun ok hS a r=>by
 simp only[qx,Bool.and_eq_true] at hc;obtain⟨⟨g,b⟩,f⟩:=hc;have b:=jB b;obtain⟨j,m⟩:=ft f;refine ku (v:=v) (xE o) (bV b) (Region.noSelect_spec (vq ok)) (by rw[j];exact hQ) fuel _ a w (qW ok (bV b) g) (kh.1 g) (.inl ⟨dN r k,fun w' e=>by rw[fm f r];exact hy w' e⟩) hS ?_
 rw[j,fI L b]
 exact h.out ok hS _ (r.put d v m)⟩
theorem zp(i d:Nat)(v:Value)(h:GZ P n ds ops Q S Z fuel (i :: L) ((d,v) :: l) w)(hc:qx n l ops L i (some d)=true:=by kernel_rfl)(j:gd ops l (ops.getD i default)=some true:=by kernel_rfl)(hQ:∀ c a w,Q (.panic c) (a.put (some d) v) w->Q (.panic c) a w:=by exact fun _ _ _ h=>h)(hrun:∀ w',(execOp (evL l) (ops.getD i default)).run P w'=.ok (.value v) w':=by exact fun _=>by kernel_rfl):GZ P n ds ops Q S Z (fuel + 1) L l w:=⟨fun ok hS a r=>by
 simp only[qx,Bool.and_eq_true] at hc;obtain⟨⟨f,b⟩,e⟩:=hc;have b:=jB b;obtain⟨g,k⟩:=ft e;refine ku (v:=v) (S0:=fun _=>True) (fun _ _ _ _ _ _ _ _=>trivial) (bV b) (Region.noSelect_spec (vq ok)) (by rw[g];exact hQ) fuel _ a w (qW ok (bV b) f) (kh.1 f) (.inl ⟨dN r j,fun w' _=>by rw[fm e r];exact hrun w'⟩) trivial ?_
 rw[g,fI L b]
 exact h.out ok hS _ (r.put (some d) v k)⟩
theorem aG(h:GE n ds Q .normal l w)(hr:eP ops L=[]:=by kernel_rfl):GZ P n ds ops Q S Z fuel L l w:=⟨fun _ _ a r=>by
 have hr:=(fH ops L).trans hr
 cases fuel with
 | zero=>exact⟨hr,h.out a r⟩
 | succ _=>exact⟨fun _=>h.out a r,by rw[hr];simp⟩⟩
theorem dY(h:GE n ds Q .normal l w)(hr:eP ops L=[]:=by kernel_rfl):GY P n ds ops Q S Z fuel L l w:=⟨fun _ a r=>by
 have hr:=(fH ops L).trans hr
 cases fuel with
 | zero=>exact⟨hr,h.out a r⟩
 | succ _=>exact⟨fun _=>h.out a r,by rw[hr];simp⟩⟩
structure GA(P:Program)(n:Nat)(ds:List Deferred)(ops:Array Oper)(Q:Exit->Act->World->Prop)(S:World->Prop)(Z:Nat->Bool)(fuel:Nat)(L:List Nat)(l:Fr)(w:World)(rs:List Nat):Prop where
 out:okR ops Z=true->S w->∀ a,Rd n ds l a->∀ i∈rs,wpOp P ops Q i (fun a' w'=>(Z i=true\/S w'\/w'=w)/\ia P .any ops Q S Z fuel ((arr ops.size L).setIfInBounds i true) a' w') a w
theorem bA(rs:List Nat)(h:GA P n ds ops Q S Z fuel L l w rs)(hr:eP ops L=rs:=by kernel_rfl)(b:rs≠[]:=by decide):GZ P n ds ops Q S Z (fuel + 1) L l w:=⟨fun ok hS a r =>
 ⟨fun c=>absurd (((fH ops L).trans hr).symm.trans c) b,fun i hi=>h.out ok hS a r i (by rw[<- hr,<- fH];exact hi)⟩⟩
theorem cJ:GA P n ds ops Q S Z fuel L l w []:=⟨fun _ _ _ _ _ h=>by cases h⟩
def ir(n:Nat)(l:Fr)(ops:Array Oper)(i:Nat)(d:Option Nat):Bool:=Nat.blt i ops.size && chk n l (ops.getD i default) d
theorem qp(i:Nat)(h:okR ops Z=true->S w->∀ a,Rd n ds l a->wpOp P ops Q i (fun a' w'=>(Z i=true\/S w'\/w'=w)/\ia P .any ops Q S Z fuel ((arr ops.size L).setIfInBounds i true) a' w') a w)(c:GA P n ds ops Q S Z fuel L l w rs):GA P n ds ops Q S Z fuel L l w (i :: rs):=⟨fun ok hS a r j b=>by
 rcases List.mem_cons.1 b with rfl | b
 ·exact h ok hS a r
 ·exact c.out ok hS a r j b⟩
theorem cj(i:Nat)(d:Option Nat)(f:FuncId)(args:Array Value)(b:Calls P f args w Qc)(hk:∀ e w',Qc e w'->∃ v,e=.returned v/\S w'/\GZ P n ds ops Q S Z fuel (i :: L) (pt l d v) w')(o:GA P n ds ops Q S Z fuel L l w rs)(hc:ir n l ops i d=true:=by kernel_rfl)(j:gd ops l (ops.getD i default)=some true:=by kernel_rfl)(hrun:(execOp (evL l) (ops.getD i default)).run P w=.ok (.enter f args) w:=by kernel_rfl):GA P n ds ops Q S Z fuel L l w (i :: rs):=by
 simp only[ir,Bool.and_eq_true] at hc;obtain⟨g,h⟩:=hc;have g:=jB g;obtain⟨p,k⟩:=ft h;refine qp i (fun ok _ a r=>wpOp_step (bV g) fun K m=>?_) o;rw[if_pos (dN r j)];unfold Oper.wp;rw[fm h r,hrun];refine b.mono fun e w' he=>?_
 obtain⟨v,rfl,c,hw⟩:=hk e w' he
 show K (a.put (ops.getD i default).dst v) w'
 rw[p];refine m _ _ ⟨.inr (.inl c),?_⟩;rw[fI L g];exact hw.out ok c _ (r.put d v k)
theorem Ax(i:Nat)(d:Option Nat)(v:Value)(w1:World)(hrun:(execOp (evL l) (ops.getD i default)).run P w=.ok (.value v) w1)(b:S w1)(h:GZ P n ds ops Q S Z fuel (i :: L) (pt l d v) w1)(k:GA P n ds ops Q S Z fuel L l w rs)(hc:ir n l ops i d=true:=by kernel_rfl)(f:gd ops l (ops.getD i default)=some true:=by kernel_rfl):GA P n ds ops Q S Z fuel L l w (i :: rs):=by
 simp only[ir,Bool.and_eq_true] at hc;obtain⟨c,e⟩:=hc;have c:=jB c;obtain⟨m,g⟩:=ft e;refine qp i (fun ok _ a r=>wpOp_step (bV c) fun K j=>?_) k;rw[if_pos (dN r f)];unfold Oper.wp;rw[fm e r,hrun]
 show K (a.put (ops.getD i default).dst v) w1
 rw[m];refine j _ _ ⟨.inr (.inl b),?_⟩;rw[fI L c];exact h.out ok b _ (r.put d v g)
theorem BU(i:Nat)(w1:World)(hrun:(execOp (evL l) (ops.getD i default)).run P w=.ok .skip w1)(b:S w1)(h:GZ P n ds ops Q S Z fuel (i :: L) l w1)(g:GA P n ds ops Q S Z fuel L l w rs)(hc:ir n l ops i none=true:=by kernel_rfl)(e:gd ops l (ops.getD i default)=some true:=by kernel_rfl):GA P n ds ops Q S Z fuel L l w (i :: rs):=by
 simp only[ir,Bool.and_eq_true] at hc;obtain⟨c,d⟩:=hc;have c:=jB c;obtain⟨j,k⟩:=ft d;refine qp i (fun ok _ a r=>wpOp_step (bV c) fun K f=>?_) g;rw[if_pos (dN r e)];unfold Oper.wp;rw[fm d r,hrun]
 show K (a.put (ops.getD i default).dst undef) w1
 rw[j];refine f _ _ ⟨.inr (.inl b),?_⟩;rw[fI L c];exact h.out ok b _ r
theorem yv(i:Nat)(w1:World)(hrun:(execOp (evL l) (ops.getD i default)).run P w=.ok .skip w1)(h:GY P n ds ops Q S Z fuel (i :: L) l w1)(hr:eP ops L=[i]:=by kernel_rfl)(hc:ir n l ops i none=true:=by kernel_rfl)(f:gd ops l (ops.getD i default)=some true:=by kernel_rfl)(k:Z i=true:=by rfl):GY P n ds ops Q S Z (fuel + 1) L l w:=⟨fun ok a r=>by
 simp only[ir,Bool.and_eq_true] at hc;obtain⟨b,d⟩:=hc;have b:=jB b;obtain⟨m,o⟩:=ft d;have hr:=(fH ops L).trans hr;refine⟨fun c=>(by rw[hr] at c;cases c),fun j e=>?_⟩;obtain rfl:j=i:=by rw[hr] at e;simpa using e
 refine wpOp_step (bV b) fun K g=>?_
 rw[if_pos (dN r f)];unfold Oper.wp;rw[fm d r,hrun]
 show K (a.put (ops.getD j default).dst undef) w1
 rw[m];refine g _ _ ⟨.inl k,?_⟩;rw[fI L b]
 exact h.out ok _ r⟩
theorem yt(i d:Nat)(v:Value)(h:GY P n ds ops Q S Z fuel (i :: L) ((d,v) :: l) w)(hr:eP ops L=[i]:=by kernel_rfl)(hc:ir n l ops i (some d)=true:=by kernel_rfl)(g:gd ops l (ops.getD i default)=some true:=by kernel_rfl)(o:Z i=true:=by rfl)(hrun:(execOp (evL l) (ops.getD i default)).run P w=.ok (.value v) w:=by kernel_rfl):GY P n ds ops Q S Z (fuel + 1) L l w:=⟨fun ok a r=>by
 simp only[ir,Bool.and_eq_true] at hc;obtain⟨b,e⟩:=hc;have b:=jB b;obtain⟨p,k⟩:=ft e;have hr:=(fH ops L).trans hr;refine⟨fun c=>(by rw[hr] at c;cases c),fun j f=>?_⟩;obtain rfl:j=i:=by rw[hr] at f;simpa using f
 refine wpOp_step (bV b) fun K m=>?_
 rw[if_pos (dN r g)];unfold Oper.wp;rw[fm e r,hrun]
 show K (a.put (ops.getD j default).dst v) w
 rw[p];refine m _ _ ⟨.inl o,?_⟩;rw[fI L b]
 exact h.out ok _ (r.put (some d) v k)⟩
theorem z(i d:Nat)(v:Value)(h:GZ P n ds ops Q S Z fuel (i :: L) ((d,v) :: l) w)(e:fR ops Z i=true:=by kernel_rfl)(hc:qx n l ops L i (some d)=true:=by kernel_rfl)(b:gd ops l (ops.getD i default)=some true:=by kernel_rfl)(hQ:∀ c a w,Q (.panic c) (a.put (some d) v) w->Q (.panic c) a w:=by exact fun _ _ _ h=>h)(hrun:∀ w',S w'->(execOp (evL l) (ops.getD i default)).run P w'=.ok (.value v) w':=by exact fun _ _=>by kernel_rfl):GZ P n ds ops Q S Z (fuel+1) L l w:=ki i (some d) v hrun e hc b hQ h
theorem zr(i d:Nat)(v:Value)(hrun:∀ w',S w'->(execOp (evL l) (ops.getD i default)).run P w'=.ok (.value v) w')(h:GZ P n ds ops Q S Z fuel (i :: L) ((d,v) :: l) w)(e:fR ops Z i=true:=by kernel_rfl)(hc:qx n l ops L i (some d)=true:=by kernel_rfl)(b:gd ops l (ops.getD i default)=some true:=by kernel_rfl)(hQ:∀ c a w,Q (.panic c) (a.put (some d) v) w->Q (.panic c) a w:=by exact fun _ _ _ h=>h):GZ P n ds ops Q S Z (fuel+1) L l w:=ki i (some d) v hrun e hc b hQ h
theorem zq(i d:Nat)(v b:Value)(hv:v=b)(h:GZ P n ds ops Q S Z fuel (i :: L) ((d,b) :: l) w)(f:fR ops Z i=true:=by kernel_rfl)(hc:qx n l ops L i (some d)=true:=by kernel_rfl)(e:gd ops l (ops.getD i default)=some true:=by kernel_rfl)(hQ:∀ c a w,Q (.panic c) (a.put (some d) b) w->Q (.panic c) a w:=by exact fun _ _ _ h=>h)(hrun:∀ w',S w'->(execOp (evL l) (ops.getD i default)).run P w'=.ok (.value v) w':=by exact fun _ _=>by kernel_rfl):GZ P n ds ops Q S Z (fuel+1) L l w:=by
 subst hv;exact ki i (some d) v hrun f hc e hQ h
theorem zc(i d:Nat)(f:FuncId)(args:Array Value)(a:Calls P f args w Qc)(hk:∀ e w',Qc e w'->∃ v,e=.returned v/\S w'/\GZ P n ds ops Q S Z fuel (i :: L) ((d,v) :: l) w')(hr:eP ops L=[i]:=by kernel_rfl)(hc:ir n l ops i (some d)=true:=by kernel_rfl)(b:gd ops l (ops.getD i default)=some true:=by kernel_rfl)(hrun:(execOp (evL l) (ops.getD i default)).run P w=.ok (.enter f args) w:=by kernel_rfl):GZ P n ds ops Q S Z (fuel+1) L l w:=bA [i] (cj i (some d) f args a hk cJ hc b hrun) hr (by simp)
theorem zw(i d:Nat)(v:Value)(w1:World)(hrun:(execOp (evL l) (ops.getD i default)).run P w=.ok (.value v) w1)(a:S w1)(h:GZ P n ds ops Q S Z fuel (i :: L) ((d,v) :: l) w1)(hr:eP ops L=[i]:=by kernel_rfl)(hc:ir n l ops i (some d)=true:=by kernel_rfl)(b:gd ops l (ops.getD i default)=some true:=by kernel_rfl):GZ P n ds ops Q S Z (fuel+1) L l w:=bA [i] (Ax i (some d) v w1 hrun a h cJ hc b) hr (by simp)
theorem zv(i:Nat)(w1:World)(hrun:(execOp (evL l) (ops.getD i default)).run P w=.ok .skip w1)(a:S w1)(h:GZ P n ds ops Q S Z fuel (i :: L) l w1)(hr:eP ops L=[i]:=by kernel_rfl)(hc:ir n l ops i none=true:=by kernel_rfl)(b:gd ops l (ops.getD i default)=some true:=by kernel_rfl):GZ P n ds ops Q S Z (fuel+1) L l w:=bA [i] (BU i w1 hrun a h cJ hc b) hr (by simp)
end
end
section
variable {w:World}{g:Nat}{cs vs:List Value}{v x:Value}
abbrev pg(g:Nat):Value:=.pointer (some ⟨g,0,none⟩)
abbrev iU(x:Int):Value:=.int .u64 x
abbrev iI(x:Int):Value:=.int .i64 x
abbrev bT:Value:=.bool true
abbrev bF:Value:=.bool false
abbrev pq(g o:Nat):Value:=.pointer (some ⟨g,o,none⟩)
abbrev sg(n g:Nat):Value:=.slice (some ⟨g,0,none⟩) n n
def wJ(P:Program)(T:TypeId)(n:Nat):Bool:=(match P.underlying T with | some d=>d.isRow | none=>false) && ((P.info? T).map (·.size) == some n)
theorem l1{P:Program}{t T:TypeId}(X:Blk w g cs t)(o:Nat)(hv:cs[o]?=some v:=by rfl)(a:∀ w,(isAgg T).run P w=.ok false w:=by exact fun _=>by kernel_rfl):(loadVar T ⟨g,o,none⟩).run P w=.ok v w:=by
 have h:=X.cell hv;simp[loadVar,a,h]
theorem lr{P:Program}{t T:TypeId}(X:Blk w g cs t)(o:Nat)(hr:(cs.drop o).take vs.length=vs:=by rfl)(hc:wJ P T vs.length=true:=by kernel_rfl):(loadVar T ⟨g,o,none⟩).run P w=.ok (.agg vs.toArray) w:=by
 simp only[wJ,Bool.and_eq_true,beq_iff_eq] at hc;obtain⟨a,b⟩:=hc
 cases hu:P.underlying T with
 | none=>rw[hu] at a;cases a
 | some d =>
  rw[hu] at a;refine run_loadVar_mid w g o T vs d (fun j v hv=>?_) hu a b;refine X.cell ?_
  rw[<- hr] at hv;rw[List.getElem?_take] at hv;split at hv
  ·rw[List.getElem?_drop] at hv;exact hv
  ·cases hv
def spl(cs:List Value)(o:Nat)(vs:List Value):List Value:=cs.take o ++ vs ++ cs.drop (o+vs.length)
theorem jg(b:Nat):∀ (vs:List Value) (o:Nat) (w:World) (k:Nat),k≠b->(w.setCells b o vs).heap[k]?=w.heap[k]?
 | [],_,_,_,_=>rfl
 | v :: r,o,w,k,h=>by
  rw[World.setCells,jg b r (o+1) _ k h,Below.heap_setCell w ⟨b,o,none⟩ v k h]
theorem jc(b:Nat):∀ (vs:List Value) (o:Nat) (w:World),(w.setCells b o vs).heap.size=w.heap.size
 | [],_,_=>rfl
 | v :: r,o,w=>by rw[World.setCells,jc b r (o+1)];simp[World.setCell]
theorem eW(b:Nat):∀ (vs:List Value) (o:Nat) (w:World),(w.setCells b o vs).os=w.os/\(w.setCells b o vs).tape=w.tape/\(w.setCells b o vs).output=w.output
 | [],_,_=>⟨rfl,rfl,rfl⟩
 | v :: r,o,w=>by rw[World.setCells];exact eW b r (o+1) _
theorem fA{t:TypeId}:∀ (vs:List Value) (o:Nat) (cs:List Value) (w:World),Blk w g cs t->o+vs.length<=cs.length->Blk (w.setCells g o vs) g (spl cs o vs) t
 | [],o,cs,w,X,_=>by simpa[World.setCells,spl] using X
 | v :: r,o,cs,w,X,h=>by
  rw[World.setCells]
  have h':o+1+r.length<=(cs.set o v).length:=by simp at h ⊢;omega
  have:=fA r (o+1) (cs.set o v) _ (X.setCell (i:=o) v) h'
  have e:spl (cs.set o v) (o+1) r=spl cs o (v :: r):=by
   simp only[List.length_cons] at h;unfold spl;rw[List.drop_set_of_lt (by omega),List.take_set,List.take_add_one,List.set_append]
   have a:(cs.take o).length=o:=by rw[List.length_take];omega
   rw[a,if_neg (by omega),Nat.sub_self];obtain⟨y,hy⟩:∃ y,cs[o]?=some y:=⟨_,List.getElem?_eq_getElem (by omega)⟩
   rw[hy];simp;omega
  rw[e] at this;exact this
theorem pk{P:Program}{o:Nat}{t T:TypeId}(X:Blk w g cs t)(hx:x.cells.toList=vs)(hi:((P.info? T).map (·.size) == some vs.length)=true)(h1:vs.all (·.oneCell')=true)(hb:o+vs.length<=cs.length):(storeVar T ⟨g,o,none⟩ x).run P w=.ok () (w.setCells g o vs):=by
 have:=run_storeCells_cells (P:=P) g o vs 0 w (fun j c=>by
   have:=X.cell (i:=o+j) (List.getElem?_eq_getElem (by omega))
   simpa using (by rw[this];rfl:(w.cell? ⟨g,o+j,none⟩).isSome=true)) (fun j _=>by simpa using X.free (o+j))
  (fun v hv=>List.all_eq_true.1 h1 v hv)
 cases hq:P.info? T with
 | none=>rw[hq] at hi;cases hi
 | some i =>
  rw[hq] at hi
  have b:i.size=vs.length:=by simpa using hi
  have a:x.cells.size=i.size:=by rw[b,<- hx];simp
  simp only[Nat.add_zero] at this;simp[storeVar,sizeOf,typeInfo,hq,a,hx,this]
end
section
variable {P:Program} {n:Nat} {ds:List Deferred} {ops:Array Oper} {rest:List Oper} {o o1 o2:Oper} {l:Fr} {w w1:World} {Q Q':Exit->Act->World->Prop} {K:Act->World->Prop} {S:World->Prop} {Z:Nat->Bool} {fuel:Nat} {L:List Nat}
section
variable {ρ:Operand->Value}{g off:Nat}{cs vs:List Value}{x v:Value}{rs:List Nat}
theorem o8{t:TypeId}(X:Blk w g cs t)(a:∃ T p q,o.op=.store T p q/\ρ p=.pointer (some ⟨g,off,none⟩)/\ρ q=x/\((P.info? T).map (·.size) == some vs.length)=true)(hx:x.cells.toList=vs)(h1:vs.all (·.oneCell')=true)(hb:Nat.ble (off+vs.length) cs.length=true):(execOp ρ o).run P w=.ok .skip (w.setCells g off vs):=by
 obtain⟨T,p,q,h,b,hq,hi⟩:=a;simp only[execOp,h,b,hq,Instr.storeAt,Instr.sureAddr,Sem.run_bind,Sem.run_pure,Result.andThen_ok,pk X hx hi h1 (Nat.le_of_ble_eq_true hb)]
theorem gG(g off:Nat)(vs:List Value):Chg (·=g) w (w.setCells g off vs):=⟨(eW g vs off w).1,(eW g vs off w).2.1,(eW g vs off w).2.2,by rw[jc];exact Nat.le_refl _,fun b _ hb=>jg g vs off w b hb⟩
theorem vR{t:TypeId}(X:Blk w g cs t)(hv:cs[off]?=some v)(ho:∃ T p,o.op=.load T p/\ρ p=.pointer (some ⟨g,off,none⟩)/\∀ w,(isAgg T).run P w=.ok false w):(execOp ρ o).run P w=.ok (.value v) w:=by
 obtain⟨T,p,h,a,b⟩:=ho;have:=l1 (P:=P) (T:=T) X off hv b;simp only[execOp,h,a];simp[Instr.loadAt,Instr.sureAddr,Result.andThen,this]
theorem pT{t:TypeId}(X:Blk w g cs t)(hr:(cs.drop off).take vs.length=vs)(ho:∃ T p,o.op=.load T p/\ρ p=.pointer (some ⟨g,off,none⟩)/\wJ P T vs.length=true):(execOp ρ o).run P w=.ok (.value (.agg vs.toArray)) w:=by
 obtain⟨T,p,h,a,b⟩:=ho;have:=lr (P:=P) (T:=T) X off hr b;simp only[execOp,h,a];simp[Instr.loadAt,Instr.sureAddr,Result.andThen,this]
theorem tl(d:Nat)(v:Value){t:TypeId}(X:Blk w g cs t)(off:Nat)(h:GL P n ds ops Q rest ((d,v) :: l) w)(hv:cs[off]?=some v:=by rfl)(ho:∃ T p,o.op=.load T p/\evL l p=.pointer (some ⟨g,off,none⟩)/\∀ w,(isAgg T).run P w=.ok false w:=by exact⟨_,_,rfl,by kernel_rfl,fun _=>by kernel_rfl⟩)(a:gd ops l o=some true:=by kernel_rfl)(hc:chk n l o (some d)=true:=by kernel_rfl):GL P n ds ops Q (o :: rest) l w:=jt (some d) v a hc (vR X hv ho) h
theorem tlr(d:Nat)(vs:List Value){t:TypeId}(X:Blk w g cs t)(off:Nat)(h:GL P n ds ops Q rest ((d,.agg vs.toArray) :: l) w)(hr:(cs.drop off).take vs.length=vs:=by rfl)(ho:∃ T p,o.op=.load T p/\evL l p=.pointer (some ⟨g,off,none⟩)/\wJ P T vs.length=true:=by exact⟨_,_,rfl,by kernel_rfl,by kernel_rfl⟩)(a:gd ops l o=some true:=by kernel_rfl)(hc:chk n l o (some d)=true:=by kernel_rfl):GL P n ds ops Q (o :: rest) l w:=jt (some d) _ a hc (pT X hr ho) h
theorem zl(i d:Nat)(v:Value){t:TypeId}(X:∀ w',S w'->Blk w' g cs t)(off:Nat)(h:GZ P n ds ops Q S Z fuel (i :: L) ((d,v) :: l) w)(hv:cs[off]?=some v:=by rfl)(ho:∃ T p,(ops.getD i default).op=.load T p/\evL l p=.pointer (some ⟨g,off,none⟩)/\∀ w,(isAgg T).run P w=.ok false w:=by exact⟨_,_,rfl,by kernel_rfl,fun _=>by kernel_rfl⟩)(f:fR ops Z i=true:=by kernel_rfl)(hc:qx n l ops L i (some d)=true:=by kernel_rfl)(e:gd ops l (ops.getD i default)=some true:=by kernel_rfl)(hQ:∀ c a w,Q (.panic c) (a.put (some d) v) w->Q (.panic c) a w:=by exact fun _ _ _ h=>h):GZ P n ds ops Q S Z (fuel+1) L l w:=ki i (some d) v (fun w' b=>vR (X w' b) hv ho) f hc e hQ h
theorem zlr(i d:Nat)(vs:List Value){t:TypeId}(X:∀ w',S w'->Blk w' g cs t)(off:Nat)(h:GZ P n ds ops Q S Z fuel (i :: L) ((d,.agg vs.toArray) :: l) w)(hr:(cs.drop off).take vs.length=vs:=by rfl)(ho:∃ T p,(ops.getD i default).op=.load T p/\evL l p=.pointer (some ⟨g,off,none⟩)/\wJ P T vs.length=true:=by exact⟨_,_,rfl,by kernel_rfl,by kernel_rfl⟩)(f:fR ops Z i=true:=by kernel_rfl)(hc:qx n l ops L i (some d)=true:=by kernel_rfl)(e:gd ops l (ops.getD i default)=some true:=by kernel_rfl)(hQ:∀ c a w,Q (.panic c) (a.put (some d) (.agg vs.toArray)) w->Q (.panic c) a w:=by exact fun _ _ _ h=>h):GZ P n ds ops Q S Z (fuel+1) L l w:=ki i (some d) _ (fun w' b=>pT (X w' b) hr ho) f hc e hQ h
theorem ta(d:Nat)(vs:List Value)(T:TypeId)(mk:Nat->Value)(h:∀ w1 g,Blk w1 g vs T->w.heap.size<=g->Below w.heap.size w w1->GL P n ds ops Q rest ((d,mk g) :: l) w1)(a:gd ops l o=some true:=by kernel_rfl)(hc:chk n l o (some d)=true:=by kernel_rfl)(hrun:(execOp (evL l) o).run P w=.ok (.value (mk w.heap.size)) (w.alloc (.cells vs.toArray T)):=by kernel_rfl):GL P n ds ops Q (o :: rest) l w :=
 jt (some d) _ a hc hrun (h _ _ (aJ w vs T) (Nat.le_refl _) (ai w _))
theorem ts{t:TypeId}(X:Blk w g cs t)(off:Nat)(x:Value)(vs cs':List Value)(h:∀ w1,Blk w1 g cs' t->Chg (·=g) w w1->GL P n ds ops Q rest l w1)(hx:x.cells.toList=vs:=by rfl)(h1:vs.all (·.oneCell')=true:=by rfl)(hb:Nat.ble (off+vs.length) cs.length=true:=by rfl)(he:spl cs off vs=cs':=by rfl)(a:∃ T p q,o.op=.store T p q/\evL l p=.pointer (some ⟨g,off,none⟩)/\evL l q=x/\((P.info? T).map (·.size) == some vs.length)=true:=by exact⟨_,_,_,rfl,by kernel_rfl,by kernel_rfl,by kernel_rfl⟩)(b:gd ops l o=some true:=by kernel_rfl)(hc:chk n l o none=true:=by kernel_rfl):GL P n ds ops Q (o :: rest) l w:=by
 refine Bv b hc (o8 X a hx h1 hb) (h _ ?_ (gG g off vs));rw[<- he];exact fA vs off cs w X (Nat.le_of_ble_eq_true hb)
theorem za(i d:Nat)(vs:List Value)(T:TypeId)(mk:Nat->Value)(h:∀ w1 g,Blk w1 g vs T->w.heap.size<=g->Below w.heap.size w w1->S w1/\GZ P n ds ops Q S Z fuel (i :: L) ((d,mk g) :: l) w1)(hr:eP ops L=[i]:=by kernel_rfl)(a:gd ops l (ops.getD i default)=some true:=by kernel_rfl)(hc:ir n l ops i (some d)=true:=by kernel_rfl)(hrun:(execOp (evL l) (ops.getD i default)).run P w=.ok (.value (mk w.heap.size)) (w.alloc (.cells vs.toArray T)):=by kernel_rfl):GZ P n ds ops Q S Z (fuel+1) L l w:=by
 have H:=h _ _ (aJ w vs T) (Nat.le_refl _) (ai w _);exact zw i d _ _ hrun H.1 H.2 hr hc a
theorem zaa(i d:Nat)(vs:List Value)(T:TypeId)(mk:Nat->Value)(h:∀ w1 g,Blk w1 g vs T->w.heap.size<=g->Below w.heap.size w w1->S w1/\GZ P n ds ops Q S Z fuel (i :: L) ((d,mk g) :: l) w1)(a:GA P n ds ops Q S Z fuel L l w rs)(b:gd ops l (ops.getD i default)=some true:=by kernel_rfl)(hc:ir n l ops i (some d)=true:=by kernel_rfl)(hrun:(execOp (evL l) (ops.getD i default)).run P w=.ok (.value (mk w.heap.size)) (w.alloc (.cells vs.toArray T)):=by kernel_rfl):GA P n ds ops Q S Z fuel L l w (i :: rs):=by
 have H:=h _ _ (aJ w vs T) (Nat.le_refl _) (ai w _);exact Ax i (some d) _ _ hrun H.1 H.2 a hc b
theorem zs(i:Nat){t:TypeId}(X:Blk w g cs t)(off:Nat)(x:Value)(vs cs':List Value)(h:∀ w1,Blk w1 g cs' t->Chg (·=g) w w1->S w1/\GZ P n ds ops Q S Z fuel (i :: L) l w1)(hx:x.cells.toList=vs:=by rfl)(h1:vs.all (·.oneCell')=true:=by rfl)(hb:Nat.ble (off+vs.length) cs.length=true:=by rfl)(he:spl cs off vs=cs':=by rfl)(a:∃ T p q,(ops.getD i default).op=.store T p q/\evL l p=.pointer (some ⟨g,off,none⟩)/\evL l q=x/\((P.info? T).map (·.size) == some vs.length)=true:=by exact⟨_,_,_,rfl,by kernel_rfl,by kernel_rfl,by kernel_rfl⟩)(hr:eP ops L=[i]:=by kernel_rfl)(b:gd ops l (ops.getD i default)=some true:=by kernel_rfl)(hc:ir n l ops i none=true:=by kernel_rfl):GZ P n ds ops Q S Z (fuel+1) L l w:=by
 have Y:=fA vs off cs w X (Nat.le_of_ble_eq_true hb);rw[he] at Y;have H:=h _ Y (gG g off vs);exact zv i _ (o8 X a hx h1 hb) H.1 H.2 hr hc b
theorem ys(i:Nat){t:TypeId}(X:Blk w g cs t)(off:Nat)(x:Value)(vs cs':List Value)(h:∀ w1,Blk w1 g cs' t->Chg (·=g) w w1->GY P n ds ops Q S Z fuel (i :: L) l w1)(hx:x.cells.toList=vs:=by rfl)(h1:vs.all (·.oneCell')=true:=by rfl)(hb:Nat.ble (off+vs.length) cs.length=true:=by rfl)(he:spl cs off vs=cs':=by rfl)(a:∃ T p q,(ops.getD i default).op=.store T p q/\evL l p=.pointer (some ⟨g,off,none⟩)/\evL l q=x/\((P.info? T).map (·.size) == some vs.length)=true:=by exact⟨_,_,_,rfl,by kernel_rfl,by kernel_rfl,by kernel_rfl⟩)(hr:eP ops L=[i]:=by kernel_rfl)(b:gd ops l (ops.getD i default)=some true:=by kernel_rfl)(hc:ir n l ops i none=true:=by kernel_rfl)(c:Z i=true:=by rfl):GY P n ds ops Q S Z (fuel+1) L l w:=by
 have Y:=fA vs off cs w X (Nat.le_of_ble_eq_true hb);rw[he] at Y;exact yv i _ (o8 X a hx h1 hb) (h _ Y (gG g off vs)) hr hc b c
end
end
theorem wi {z:Int} (h:-9223372036854775808<=z/\z < 9223372036854775808):Value.int .i64 (IntKind.i64.wrap z)=.int .i64 z:=by rw[IntKind.wrap_i64];congr 1;omega
theorem wu {z:Int} (h:0<=z/\z < 18446744073709551616):Value.int .u64 (IntKind.u64.wrap z)=.int .u64 z:=by rw[IntKind.wrap_u64];congr 1;omega
theorem aL {w0 w w1:World} {g:Nat} (B:Below w0.heap.size w0 w) (C:Chg (·=g) w w1) (h:w0.heap.size<=g):Below w0.heap.size w0 w1:=B.trans (C.below (fun b e=>by have e':b=g:=e;omega) B.size)
end Gl
end
section
namespace Rc
open Go.RowKit Go.Lib Pg Gl
attribute [local go_sem] Oper.semAt_some
section
variable {G:Nat->Prop}{c:Value}{kd:Nat->Nat}{ev:Operand->Value}{w:World}{f:FuncId}
def thr{σ:Type}(nx:Nat->Nat->σ->σ)(l:List (Nat × Nat))(s:σ):σ:=l.foldl (fun s p=>nx p.1 p.2 s) s
theorem HC.okt{σ:Type}{Inv:σ->World->Prop}{rb:Nat}{f1 f2 f3:FuncId}{nx:Nat->Nat->σ->σ}{ok:σ->Prop}(H:HC σ Inv G rb f1 f2 f3 c nx kd ok)(l:List (Nat × Nat)):∀ s,ok (thr nx l s)->ok s:=by
 induction l with
 | nil=>exact fun _ h=>h
 | cons o l ih=>exact fun s h=>H.oks _ _ _ (ih _ h)
abbrev hq(f1 f2 f3:FuncId)(c:Value):List Value:=[.func (.func f1) #[] #[c],.func (.func f2) #[] #[c],.func (.func f3) #[] #[c]]
theorem uO{o:Oper}{x y:Operand}{v:Value}{T:Array TypeId}(ho:o.op=.call { callee:=.value x,args:=#[y],argTypes:=T })(hx:ev x=.func (.func f) #[] #[c])(hy:ev y=v)(he:∀ args w,(callFunc f args).run Tryz.prog w=.ok (.enter f args) w):(execOp ev o).run Tryz.prog w=.ok (.enter f #[v,c]) w:=by
 have b:=he #[v,c] w;simp only[execOp,ho];go_simp
structure Oi{σ:Type}(Inv:σ->World->Prop)(G:Nat->Prop)(rb:Nat)(f1 f2 f3:FuncId)(c:Value)(nx:Nat->Nat->σ->σ)(kd:Nat->Nat)(ok:σ->Prop)(w0:World)(gb:Nat)(R:List (Nat × Nat))(s:σ)(w:World):Prop where
 H:HC σ Inv G rb f1 f2 f3 c nx kd ok
 I:Inv s w
 C:Chg G w0 w
 X:Blk w gb (hq f1 f2 f3 c) 180
 ng:¬ G gb
 hk:∀ p∈R,kd p.2=p.1
 hok:ok (thr nx R s)
end
section
variable {σ:Type} {Inv:σ->World->Prop} {G:Nat->Prop} {rb:Nat} {f1 f2 f3:FuncId} {c:Value} {nx:Nat->Nat->σ->σ} {kd:Nat->Nat} {ok:σ->Prop} {s:σ} {w0 w v:World} {gb:Nat} {R:List (Nat × Nat)}
section
variable {k n sb:Nat}
theorem Oi.start(H:HC σ Inv G rb f1 f2 f3 c nx kd ok)(a:Inv s w)(hk:∀ p∈R,kd p.2=p.1)(hok:ok (thr nx R s))(X:Blk v gb (hq f1 f2 f3 c) 180)(b:w.heap.size<=gb)(B:Below w.heap.size w v):Oi Inv G rb f1 f2 f3 c nx kd ok w gb R s v :=
 ⟨H,H.keep _ _ _ a B,Chg.of B,X,fun h=>by have:=H.old s w _ a h;omega,hk,hok⟩
theorem Oi.below(O:Oi Inv G rb f1 f2 f3 c nx kd ok w0 gb R s w)(B:Below w.heap.size w v):Oi Inv G rb f1 f2 f3 c nx kd ok w0 gb R s v :=
 ⟨O.H,O.H.keep _ _ _ O.I B,O.C.trans (Chg.of (F:=G) B) (fun _ _ h=>h),O.X.keep B,O.ng,O.hk,O.hok⟩
theorem Oi.drew(O:Oi Inv G rb f1 f2 f3 c nx kd ok w0 gb R s w):Oi Inv G rb f1 f2 f3 c nx kd ok w0 gb R s w.drew:=O.below (CW w)
theorem Oi.new(O:Oi Inv G rb f1 f2 f3 c nx kd ok w0 gb R s w){g:Nat}(a:w.heap.size<=g)(B:Below w.heap.size w v):Oi Inv G rb f1 f2 f3 c nx kd ok w0 gb R s v/\¬ G g :=
 ⟨O.below B,fun h=>by have:=O.H.old s w _ O.I h;omega⟩
theorem Bb(a:List Nat)(b:R.take a.length=a.map fun o=>(k,o)):thr nx R s=thr nx (R.drop a.length) (a.foldl (fun s o=>nx k o s) s):=by
 conv=>lhs;rw[<- List.take_append_drop a.length R,b]
 simp only[thr,List.foldl_append,List.foldl_map]
theorem Oi.next(O:Oi Inv G rb f1 f2 f3 c nx kd ok w0 gb R s w)(a:List Nat)(b:R.take a.length=a.map fun o=>(k,o)):(∀ o∈a,kd o=k)/\ok (a.foldl (fun s o=>nx k o s) s)/\(Inv (a.foldl (fun s o=>nx k o s) s) v->Chg G w v->Oi Inv G rb f1 f2 f3 c nx kd ok w0 gb (R.drop a.length) (a.foldl (fun s o=>nx k o s) s) v):=by
 have hok:=O.hok;rw[Bb a b] at hok;exact⟨fun o e=>O.hk (k,o) (List.mem_of_mem_take (b▸List.mem_map.2 ⟨o,e,rfl⟩)),O.H.okt _ _ hok,fun I C=>⟨O.H,I,O.C.trans C (fun _ _ h=>h),O.X.chg C O.ng,O.ng,fun p d=>O.hk p (List.mem_of_mem_drop d),hok⟩⟩
theorem Oi.tru(o:Nat)(O:Oi Inv G rb f1 f2 f3 c nx kd ok w0 gb R s w)(a:R.take 1=[(1,o)]:=by rfl):Calls Tryz.prog f2 #[pq rb o,c] w fun e w'=>e=.returned (.tuple #[])/\Oi Inv G rb f1 f2 f3 c nx kd ok w0 gb (R.drop 1) (nx 1 o s) w':=by
 have d:=(O.next (v:=w) [o] a).1;have b:=(O.next (v:=w) [o] a).2.1;refine(O.H.t s w o O.I b (d o (List.mem_singleton.2 rfl))).mono ?_
 rintro e w' ⟨rfl,I,C⟩;exact⟨rfl,(O.next [o] a).2.2 I C⟩
theorem Oi.numbers(a:List Nat)(O:Oi Inv G rb f1 f2 f3 c nx kd ok w0 gb R s w)(N:¬ G sb)(X:Blk w sb (a.map fun o=>.pointer (some ⟨rb,o,none⟩)) 170)(b:R.take a.length=a.map (fun o=>(0,o)):=by rfl)(hn:a.length=n:=by rfl)(d:n<=1000:=by decide):Calls Tryz.prog 111 #[.agg (hq f1 f2 f3 c).toArray,sg n sb] w fun e w'=>e=.returned (.tuple #[])/\Oi Inv G rb f1 f2 f3 c nx kd ok w0 gb (R.drop a.length) (a.foldl (fun s o=>nx 0 o s) s) w':=by
 refine(rS O.H O.I X N (O.next (v:=w) a b).1 (O.next (v:=w) a b).2.1 hn d).mono ?_
 rintro e w' ⟨rfl,I,C⟩;exact⟨rfl,(O.next a b).2.2 I C⟩
theorem Oi.gE(a:List Nat)(O:Oi Inv G rb f1 f2 f3 c nx kd ok w0 gb R s w)(N:¬ G sb)(X:Blk w sb (a.map fun o=>.pointer (some ⟨rb,o,none⟩)) 176)(b:R.take a.length=a.map (fun o=>(2,o)):=by rfl)(hn:a.length=n:=by rfl)(d:n<=1000:=by decide):Calls Tryz.prog 180 #[.agg (hq f1 f2 f3 c).toArray,sg n sb] w fun e w'=>e=.returned (.tuple #[])/\Oi Inv G rb f1 f2 f3 c nx kd ok w0 gb (R.drop a.length) (a.foldl (fun s o=>nx 2 o s) s) w':=by
 refine(ph O.H O.I X N (O.next (v:=w) a b).1 (O.next (v:=w) a b).2.1 hn d).mono ?_
 rintro e w' ⟨rfl,I,C⟩;exact⟨rfl,(O.next a b).2.2 I C⟩
theorem j4(H:HC σ Inv G rb f1 f2 f3 c nx kd ok)(g:Inv s w)(a:∀ p∈[(0,0),(0,1),(0,2),(0,3),(0,4),(0,5),(0,6),(0,7),(0,8),(0,9)],kd p.2=p.1)(hok:ok (thr nx [(0,0),(0,1),(0,2),(0,3),(0,4),(0,5),(0,6),(0,7),(0,8),(0,9)] s)):Calls Tryz.prog 52 #[.pointer (some ⟨rb,0,none⟩),.agg #[.func (.func f1) #[] #[c],.func (.func f2) #[] #[c],.func (.func f3) #[] #[c]]] w (rZ σ Inv G (thr nx [(0,0),(0,1),(0,2),(0,3),(0,4),(0,5),(0,6),(0,7),(0,8),(0,9)] s) w):=by
 refine ax (n:=37) Tryz.func52 rfl ?_
 refine ae (ah (ta 3 (hq f1 f2 f3 c) 180 (pg) ?_));intro v1 g2 b f B;have O:=Oi.start H g a hok b f B;clear b B H g a hok;refine af (aa ?_);replace O:=O.drew;refine aO (fun i=>Blk i g2 (hq f1 f2 f3 c) 180) (fun _=>false) O.X ?_
 refine zlr 0 4 (hq f1 f2 f3 c) (fun _ h=>h) 0 (z 1 5 (pg rb) (z 2 6 (pg rb) (z 3 7 (pg rb) (z 4 8 (pg rb) (z 5 9 (pg rb) (z 6 10 (pq rb 1) (z 7 11 (pg rb) (z 8 12 (pg rb) (z 9 13 (pq rb 2) (z 10 14 (pg rb) (z 11 15 (pg rb) (z 12 16 (pq rb 3) (z 13 17 (pg rb) (z 14 18 (pg rb) (z 15 19 (pq rb 4) (z 16 20 (pg rb) (z 17 21 (pg rb) (z 18 22 (pq rb 5) (z 19 23 (pg rb) (z 20 24 (pg rb) (z 21 25 (pq rb 6) (z 22 26 (pg rb) (z 23 27 (pg rb) (z 24 28 (pq rb 7) (z 25 29 (pg rb) (z 26 30 (pg rb) (z 27 31 (pq rb 8) (z 28 32 (pg rb) (z 29 33 (pg rb) (z 30 34 (pq rb 9) (za 31 35 [pg rb,pq rb 1,pq rb 2,pq rb 3,pq rb 4,pq rb 5,pq rb 6,pq rb 7,pq rb 8,pq rb 9] 170 (sg 10) ?_)))))))))))))))))))))))))))))));intro v3 g4 d e B;obtain⟨O,N⟩:=O.new e B;refine⟨O.X,?_⟩;refine zc 32 36 111 #[.agg (hq f1 f2 f3 c).toArray,sg 10 g4] (O.numbers [0,1,2,3,4,5,6,7,8,9] N d) ?_
 rintro _ v5 ⟨rfl,O⟩;clear d N;refine⟨_,rfl,O.X,?_⟩;refine aG (bY (.tuple #[]) (rs0) ?_);exact⟨rfl,O.I,O.C⟩
theorem nB(H:HC σ Inv G rb f1 f2 f3 c nx kd ok)(g:Inv s w)(a:∀ p∈[(2,0)],kd p.2=p.1)(hok:ok (thr nx [(2,0)] s)):Calls Tryz.prog 141 #[.pointer (some ⟨rb,0,none⟩),.agg #[.func (.func f1) #[] #[c],.func (.func f2) #[] #[c],.func (.func f3) #[] #[c]]] w (rZ σ Inv G (thr nx [(2,0)] s) w):=by
 refine ax (n:=8) Tryz.func141 rfl ?_
 refine ae (ah (ta 3 (hq f1 f2 f3 c) 180 (pg) ?_));intro v1 g2 b f B;have O:=Oi.start H g a hok b f B;clear b B H g a hok;refine af (aa (ah (tlr 4 (hq f1 f2 f3 c) O.X 0 (t 5 (pg rb) (ta 6 [pg rb] 176 (sg 1) ?_)))));intro v3 g4 d e B;obtain⟨O,N⟩:=O.new e B;refine tc 7 180 #[.agg (hq f1 f2 f3 c).toArray,sg 1 g4] (O.gE [0] N d) ?_
 rintro _ v5 ⟨rfl,O⟩;refine⟨_,rfl,?_⟩;clear d N;refine af (bY (.tuple #[]) (rs0) ?_);exact⟨rfl,O.I,O.C⟩
theorem ji(H:HC σ Inv G rb f1 f2 f3 c nx kd ok)(g:Inv s w)(a:∀ p∈[(0,0),(0,1)],kd p.2=p.1)(hok:ok (thr nx [(0,0),(0,1)] s)):Calls Tryz.prog 152 #[.pointer (some ⟨rb,0,none⟩),.agg #[.func (.func f1) #[] #[c],.func (.func f2) #[] #[c],.func (.func f3) #[] #[c]]] w (rZ σ Inv G (thr nx [(0,0),(0,1)] s) w):=by
 refine ax (n:=13) Tryz.func152 rfl ?_
 refine ae (ah (ta 3 (hq f1 f2 f3 c) 180 (pg) ?_));intro v1 g2 b f B;have O:=Oi.start H g a hok b f B;clear b B H g a hok;refine af (aa ?_);replace O:=O.drew;refine aO (fun i=>Blk i g2 (hq f1 f2 f3 c) 180) (fun _=>false) O.X ?_
 refine zlr 0 4 (hq f1 f2 f3 c) (fun _ h=>h) 0 (z 1 5 (pg rb) (z 2 6 (pg rb) (z 3 7 (pg rb) (z 4 8 (pg rb) (z 5 9 (pg rb) (z 6 10 (pq rb 1) (za 7 11 [pg rb,pq rb 1] 170 (sg 2) ?_)))))));intro v3 g4 d e B;obtain⟨O,N⟩:=O.new e B;refine⟨O.X,?_⟩;refine zc 8 12 111 #[.agg (hq f1 f2 f3 c).toArray,sg 2 g4] (O.numbers [0,1] N d) ?_
 rintro _ v5 ⟨rfl,O⟩;clear d N;refine⟨_,rfl,O.X,?_⟩;refine aG (bY (.tuple #[]) (rs0) ?_);exact⟨rfl,O.I,O.C⟩
theorem oN(H:HC σ Inv G rb f1 f2 f3 c nx kd ok)(t:Inv s w)(f:∀ p∈[(0,0),(0,1),(2,2),(1,3),(0,4),(1,5),(0,6),(2,7),(2,8),(2,9)],kd p.2=p.1)(hok:ok (thr nx [(0,0),(0,1),(2,2),(1,3),(0,4),(1,5),(0,6),(2,7),(2,8),(2,9)] s)):Calls Tryz.prog 120 #[.pointer (some ⟨rb,0,none⟩),.agg #[.func (.func f1) #[] #[c],.func (.func f2) #[] #[c],.func (.func f3) #[] #[c]]] w (rZ σ Inv G (thr nx [(0,0),(0,1),(2,2),(1,3),(0,4),(1,5),(0,6),(2,7),(2,8),(2,9)] s) w):=by
 refine ax (n:=55) Tryz.func120 rfl ?_
 refine ae (ah (ta 3 (hq f1 f2 f3 c) 180 (pg) ?_));intro v1 g2 m r B;have O:=Oi.start H t f hok m r B;clear m B H t f hok;refine af (aa (ae ?_));replace O:=O.drew;refine aO (fun a=>Blk a g2 (hq f1 f2 f3 c) 180) (fun _=>false) O.X ?_
 refine zlr 0 4 (hq f1 f2 f3 c) (fun _ h=>h) 0 (z 1 5 (pg rb) (z 2 6 (pg rb) (z 3 7 (pg rb) (z 4 8 (pg rb) (z 5 9 (pg rb) (z 6 10 (pq rb 1) (za 7 11 [pg rb,pq rb 1] 170 (sg 2) ?_)))))));intro v3 g4 k q B;obtain⟨O,N⟩:=O.new q B;refine⟨O.X,?_⟩;refine zc 8 12 111 #[.agg (hq f1 f2 f3 c).toArray,sg 2 g4] (O.numbers [0,1] N k) ?_
 rintro _ v5 ⟨rfl,O⟩;clear k N;refine⟨_,rfl,O.X,?_⟩;refine aG (aa (aD [(0,pg rb),(3,pg g2)] (ae ?_)));replace O:=O.drew;refine aO (fun a=>Blk a g2 (hq f1 f2 f3 c) 180) (fun _=>false) O.X ?_
 refine zlr 0 13 (hq f1 f2 f3 c) (fun _ h=>h) 0 (z 1 14 (pg rb) (z 2 15 (pg rb) (z 3 16 (pq rb 2) (za 4 17 [pq rb 2] 176 (sg 1) ?_))));intro v6 g7 l o B;obtain⟨O,N⟩:=O.new o B;refine⟨O.X,?_⟩;refine zc 5 18 180 #[.agg (hq f1 f2 f3 c).toArray,sg 1 g7] (O.gE [2] N l) ?_
 rintro _ D ⟨rfl,O⟩;clear l N;refine⟨_,rfl,O.X,?_⟩;refine aG (aa (ae ?_));replace O:=O.drew;refine aO (fun a=>Blk a g2 (hq f1 f2 f3 c) 180) (fun _=>false) O.X ?_
 refine z 0 19 (pq g2 1) (zl 1 20 (.func (.func f2) #[] #[c]) (fun _ h=>h) 1 (z 2 21 (pg rb) (z 3 22 (pg rb) (z 4 23 (pq rb 3) (zc 5 24 f2 #[pq rb 3,c] (O.tru 3) ?_ (hrun:=uO rfl (by kernel_rfl) (by kernel_rfl) O.H.e2))))));rintro _ v9 ⟨rfl,O⟩;refine⟨_,rfl,O.X,?_⟩;refine aG (aa (aD [(0,pg rb),(3,pg g2)] (ae ?_)));replace O:=O.drew;refine aO (fun a=>Blk a g2 (hq f1 f2 f3 c) 180) (fun _=>false) O.X ?_
 refine zlr 0 25 (hq f1 f2 f3 c) (fun _ h=>h) 0 (z 1 26 (pg rb) (z 2 27 (pg rb) (z 3 28 (pq rb 4) (za 4 29 [pq rb 4] 170 (sg 1) ?_))));intro v10 g11 d g B;obtain⟨O,N⟩:=O.new g B;refine⟨O.X,?_⟩;refine zc 5 30 111 #[.agg (hq f1 f2 f3 c).toArray,sg 1 g11] (O.numbers [4] N d) ?_
 rintro _ v12 ⟨rfl,O⟩;clear d N;refine⟨_,rfl,O.X,?_⟩;refine aG (aa (ae ?_));replace O:=O.drew;refine aO (fun a=>Blk a g2 (hq f1 f2 f3 c) 180) (fun _=>false) O.X ?_
 refine z 0 31 (pq g2 1) (zl 1 32 (.func (.func f2) #[] #[c]) (fun _ h=>h) 1 (z 2 33 (pg rb) (z 3 34 (pg rb) (z 4 35 (pq rb 5) (zc 5 36 f2 #[pq rb 5,c] (O.tru 5) ?_ (hrun:=uO rfl (by kernel_rfl) (by kernel_rfl) O.H.e2))))));rintro _ u ⟨rfl,O⟩;refine⟨_,rfl,O.X,?_⟩;refine aG (aa (aD [(0,pg rb),(3,pg g2)] (ae ?_)));replace O:=O.drew;refine aO (fun a=>Blk a g2 (hq f1 f2 f3 c) 180) (fun _=>false) O.X ?_
 refine zlr 0 37 (hq f1 f2 f3 c) (fun _ h=>h) 0 (z 1 38 (pg rb) (z 2 39 (pg rb) (z 3 40 (pq rb 6) (za 4 41 [pq rb 6] 170 (sg 1) ?_))));intro x g15 e j B;obtain⟨O,N⟩:=O.new j B;refine⟨O.X,?_⟩;refine zc 5 42 111 #[.agg (hq f1 f2 f3 c).toArray,sg 1 g15] (O.numbers [6] N e) ?_
 rintro _ v ⟨rfl,O⟩;clear e N;refine⟨_,rfl,O.X,?_⟩;refine aG (aa ?_);replace O:=O.drew;refine aO (fun a=>Blk a g2 (hq f1 f2 f3 c) 180) (fun _=>false) O.X ?_
 refine zlr 0 43 (hq f1 f2 f3 c) (fun _ h=>h) 0 (z 1 44 (pg rb) (z 2 45 (pg rb) (z 3 46 (pq rb 7) (z 4 47 (pg rb) (z 5 48 (pg rb) (z 6 49 (pq rb 8) (z 7 50 (pg rb) (z 8 51 (pg rb) (z 9 52 (pq rb 9) (za 10 53 [pq rb 7,pq rb 8,pq rb 9] 176 (sg 3) ?_))))))))));intro A g18 b i B;obtain⟨O,N⟩:=O.new i B;refine⟨O.X,?_⟩;refine zc 11 54 180 #[.agg (hq f1 f2 f3 c).toArray,sg 3 g18] (O.gE [7,8,9] N b) ?_
 rintro _ y ⟨rfl,O⟩;clear b N;refine⟨_,rfl,O.X,?_⟩;refine aG (bY (.tuple #[]) (rs0) ?_);exact⟨rfl,O.I,O.C⟩
theorem gB(H:HC σ Inv G rb f1 f2 f3 c nx kd ok)(m:Inv s w)(b:∀ p∈[(2,0),(0,1),(2,2)],kd p.2=p.1)(hok:ok (thr nx [(2,0),(0,1),(2,2)] s)):Calls Tryz.prog 122 #[.pointer (some ⟨rb,0,none⟩),.agg #[.func (.func f1) #[] #[c],.func (.func f2) #[] #[c],.func (.func f3) #[] #[c]]] w (rZ σ Inv G (thr nx [(2,0),(0,1),(2,2)] s) w):=by
 refine ax (n:=22) Tryz.func122 rfl ?_
 refine ae (ah (ta 3 (hq f1 f2 f3 c) 180 (pg) ?_));intro v1 g2 i l B;have O:=Oi.start H m b hok i l B;clear i B H m b hok;refine af (aa (ae ?_));replace O:=O.drew;refine aO (fun e=>Blk e g2 (hq f1 f2 f3 c) 180) (fun _=>false) O.X ?_
 refine zlr 0 4 (hq f1 f2 f3 c) (fun _ h=>h) 0 (z 1 5 (pg rb) (z 2 6 (pg rb) (z 3 7 (pg rb) (za 4 8 [pg rb] 176 (sg 1) ?_))));intro v3 g4 d k B;obtain⟨O,N⟩:=O.new k B;refine⟨O.X,?_⟩;refine zc 5 9 180 #[.agg (hq f1 f2 f3 c).toArray,sg 1 g4] (O.gE [0] N d) ?_
 rintro _ v5 ⟨rfl,O⟩;clear d N;refine⟨_,rfl,O.X,?_⟩;refine aG (aa (ae ?_));replace O:=O.drew;refine aO (fun e=>Blk e g2 (hq f1 f2 f3 c) 180) (fun _=>false) O.X ?_
 refine zlr 0 10 (hq f1 f2 f3 c) (fun _ h=>h) 0 (z 1 11 (pg rb) (z 2 12 (pg rb) (z 3 13 (pq rb 1) (za 4 14 [pq rb 1] 170 (sg 1) ?_))));intro v6 g7 g j B;obtain⟨O,N⟩:=O.new j B;refine⟨O.X,?_⟩;refine zc 5 15 111 #[.agg (hq f1 f2 f3 c).toArray,sg 1 g7] (O.numbers [1] N g) ?_
 rintro _ o ⟨rfl,O⟩;clear g N;refine⟨_,rfl,O.X,?_⟩;refine aG (aa (aD [(0,pg rb),(3,pg g2)] ?_));replace O:=O.drew;refine aO (fun e=>Blk e g2 (hq f1 f2 f3 c) 180) (fun _=>false) O.X ?_
 refine zlr 0 16 (hq f1 f2 f3 c) (fun _ h=>h) 0 (z 1 17 (pg rb) (z 2 18 (pg rb) (z 3 19 (pq rb 2) (za 4 20 [pq rb 2] 176 (sg 1) ?_))));intro v9 g10 a f B;obtain⟨O,N⟩:=O.new f B;refine⟨O.X,?_⟩;refine zc 5 21 180 #[.agg (hq f1 f2 f3 c).toArray,sg 1 g10] (O.gE [2] N a) ?_
 rintro _ v11 ⟨rfl,O⟩;clear a N;refine⟨_,rfl,O.X,?_⟩;refine aG (bY (.tuple #[]) (rs0) ?_);exact⟨rfl,O.I,O.C⟩
theorem je(H:HC σ Inv G rb f1 f2 f3 c nx kd ok)(k:Inv s w)(b:∀ p∈[(2,0),(0,1)],kd p.2=p.1)(hok:ok (thr nx [(2,0),(0,1)] s)):Calls Tryz.prog 240 #[.pointer (some ⟨rb,0,none⟩),.agg #[.func (.func f1) #[] #[c],.func (.func f2) #[] #[c],.func (.func f3) #[] #[c]]] w (rZ σ Inv G (thr nx [(2,0),(0,1)] s) w):=by
 refine ax (n:=16) Tryz.func240 rfl ?_
 refine ae (ah (ta 3 (hq f1 f2 f3 c) 180 (pg) ?_));intro v1 g2 d j B;have O:=Oi.start H k b hok d j B;clear d B H k b hok;refine af (aa (ae ?_));replace O:=O.drew;refine aO (fun f=>Blk f g2 (hq f1 f2 f3 c) 180) (fun _=>false) O.X ?_
 refine zlr 0 4 (hq f1 f2 f3 c) (fun _ h=>h) 0 (z 1 5 (pg rb) (z 2 6 (pg rb) (z 3 7 (pg rb) (za 4 8 [pg rb] 176 (sg 1) ?_))));intro v3 g4 e i B;obtain⟨O,N⟩:=O.new i B;refine⟨O.X,?_⟩;refine zc 5 9 180 #[.agg (hq f1 f2 f3 c).toArray,sg 1 g4] (O.gE [0] N e) ?_
 rintro _ v5 ⟨rfl,O⟩;clear e N;refine⟨_,rfl,O.X,?_⟩;refine aG (aa ?_);replace O:=O.drew;refine aO (fun f=>Blk f g2 (hq f1 f2 f3 c) 180) (fun _=>false) O.X ?_
 refine zlr 0 10 (hq f1 f2 f3 c) (fun _ h=>h) 0 (z 1 11 (pg rb) (z 2 12 (pg rb) (z 3 13 (pq rb 1) (za 4 14 [pq rb 1] 170 (sg 1) ?_))));intro v6 g7 a g B;obtain⟨O,N⟩:=O.new g B;refine⟨O.X,?_⟩;refine zc 5 15 111 #[.agg (hq f1 f2 f3 c).toArray,sg 1 g7] (O.numbers [1] N a) ?_
 rintro _ l ⟨rfl,O⟩;clear a N;refine⟨_,rfl,O.X,?_⟩;refine aG (bY (.tuple #[]) (rs0) ?_);exact⟨rfl,O.I,O.C⟩
end
end
end Rc
end
section
namespace Rc
open Go.RowKit Go.Lib Pg
attribute [local go_sem] Oper.semAt_some
def fit (V:Int):Int:=if (gC V).length < 256 then V else 0
theorem pH (V:Int):(gC (fit V)).length < 256:=by
 unfold fit;split
 ·assumption
 ·rw[natB_0];decide
def mJ:Nat->Int->List Int
 | 0,x=>be 8 x
 | 1,x=>be 1 x
 | _,x=>kG 1 (gC (fit x))
theorem But.chg {g:Nat} {w w':World} (h:But g w w'):Chg (·=g) w w':=⟨h.os,h.tape,h.output,h.size,fun b hb hne=>h.block b hb hne⟩
theorem r5 {w:World} {ao:Option Addr} {n c:Nat} {V:Int} (h:aI w ao n c V) (hn:n<=1000000) :
  Calls Tryz.prog 109 #[.agg #[.slice ao n c]] w fun e w'=>∃ a1 n1 c1,e=.returned (.agg #[.slice a1 n1 c1])/\aI w' a1 n1 c1 (fit V)/\n1<=1000000/\Below w.heap.size w w':=by
 have b1:=ai w (.cells #[.slice ao n c] 26);have z:=ai (w.alloc (.cells #[.slice ao n c] 26)) (.cells #[.slice none 0 0] 26);have q:=ai ((w.alloc (.cells #[.slice ao n c] 26)).alloc (.cells #[.slice none 0 0] 26)) (.cells Tryz.zeroCells168 168);have s1:=qN w (.cells #[.slice ao n c] 26);have s2:=qN (w.alloc (.cells #[.slice ao n c] 26)) (.cells #[.slice none 0 0] 26);have x1:=((aJ w [.slice ao n c] 26).keep z).keep q;have s:=(aJ (w.alloc (.cells #[.slice ao n c] 26)) [.slice none 0 0] 26).keep q;have X:=Ea ((w.alloc (.cells #[.slice ao n c] 26)).alloc (.cells #[.slice none 0 0] 26));rw[s2,s1] at X;rw[s1] at s;obtain⟨B,j⟩:∃ B,Hid ((((w.alloc (.cells #[.slice ao n c] 26)).alloc (.cells #[.slice none 0 0] 26)).alloc (.cells Tryz.zeroCells168 168))=B):=⟨_,rfl⟩
 have t:=aj (aj b1 z) q;rw[j.out] at t x1 s X;have f:=aQ t;have p:=aQ x1;have m:=aQ s;have D:=aQ X;have C:=aQ (h.keep t);have y:=aQ h;have o:=aQ (show ¬ (w.heap.size=w.heap.size+1+1) by omega);have l:=aQ (show ¬ (w.heap.size+1=w.heap.size+1+1) by omega);clear b1 z s1 s2 x1 s q X h t;by_cases hf:(gC V).length < 256
 ·have A:=aQ (show jb V 0=0 by unfold jb;rw[if_pos hf]);have v:=aQ (show fit V=V by unfold fit;rw[if_pos hf])
  have F:=aQ (show (jT V 0 []).length<=17592186044416 by
   unfold jT wrote;rw[if_pos hf,if_pos rfl];simp[kG,bC]
   omega)
  clear hf;go_enter Tryz.func109,Tryz.ntmps109;go_wp2_with fail;rw[j.out];refine(yE D.out C.out (by omega) (by simp;omega)).mono ?_
  rintro x E ⟨rfl,g,d⟩;rw[A.out] at g;go_wp2_with fail;refine(nI g F.out).mono ?_
  rintro x G ⟨rfl,-,b⟩;have k1:=p.out.chg (But.chg d) o.out;have k2:=m.out.chg (But.chg d) l.out;have d1:=(k1.keep b).cell (i:=0) rfl;have d2:=(k2.keep b).cell (i:=0) rfl;have f2:=(k2.keep b).free 0;have r:=aQ ((d.below f.out (by omega) (Nat.le_refl _)).trans (b.mono (by have:=f.out.size;have:=d.size;omega)));have u:=aQ (show Slot _ _ _ _ from⟨((k2.keep b).setCell (i:=0) (.slice ao n c)).blk⟩);clear k1 k2 g d b;go_wp2;refine bodyPost_ret (l9 rfl rfl u.out) rfl ?_
  refine⟨ao,n,c,rfl,?_,hn,?_⟩
  ·rw[v.out];exact y.out.keep (r.out.setCell (Nat.le_succ _) _)
  ·exact r.out.setCell (Nat.le_succ _) _
 ·have A:=aQ (show jb V 0=42 by unfold jb;rw[if_neg hf];rfl);have v:=aQ (show fit V=0 by unfold fit;rw[if_neg hf]);clear hf;go_enter Tryz.func109,Tryz.ntmps109;go_wp2_with fail;rw[j.out];refine(yE D.out C.out (by omega) (by simp;omega)).mono ?_
  rintro x E ⟨rfl,g,d⟩;rw[A.out] at g;go_wp2_with fail;refine(wrOutE g (by decide)).mono ?_
  rintro x G ⟨rfl,b⟩;have k1:=p.out.chg (But.chg d) o.out;have k2:=m.out.chg (But.chg d) l.out;have d1:=(k1.keep b).cell (i:=0) rfl;have d2:=(k2.keep b).cell (i:=0) rfl;have f2:=(k2.keep b).free 0;have r:=aQ ((d.below f.out (by omega) (Nat.le_refl _)).trans (b.mono (by have:=f.out.size;have:=d.size;omega)));have u:=aQ (show Slot _ _ _ _ from⟨((k2.keep b).setCell (i:=0) (.slice none 0 0)).blk⟩);clear k1 k2 g d b;go_wp2;refine bodyPost_ret (l9 rfl rfl u.out) rfl ?_
  refine⟨none,0,0,rfl,?_,by decide,?_⟩
  ·rw[v.out];exact(sB _).a
  ·exact r.out.setCell (Nat.le_succ _) _
end Rc
end
section
namespace Rc
open Go.RowKit Go.Lib Pg Gl
attribute [local go_sem] Oper.semAt_some
section
variable {cs:List Value}{v:Value}
theorem yR(k:Nat)(x:Int):(mJ k x).length<=300:=by
 unfold mJ;split
 ·rw[bC];decide
 ·rw[bC];decide
 ·have:=pH x;simp only[kG,List.length_append,bC];omega
def pnx(xs:Nat->Int)(k o:Nat)(L:List Int):List Int:=L ++ mJ k (xs o)
theorem ea(xs:Nat->Int)(l:List (Nat × Nat)):∀ L:List Int,(thr (pnx xs) l L).length<=L.length+300 * l.length:=by
 induction l with
 | nil=>intro L;simp[thr]
 | cons p l ih =>
  intro L;have h:=ih (pnx xs p.1 p.2 L);have a:=yR p.1 (xs p.2)
  have e:thr (pnx xs) (p :: l) L=thr (pnx xs) l (pnx xs p.1 p.2 L):=rfl;rw[e];simp only[pnx,List.length_append] at h;simp only[List.length_cons];simp only[pnx];omega
def okL(L:List Int):Prop:=L.length<=1000000000000
structure PI(w0:World)(bw rb:Nat)(cs:List Value)(T:TypeId)(L:List Int)(w:World):Prop where
 wr:WrA w bw 0 L
 bel:Below w0.heap.size w0 w
 blk:Blk w rb cs T
 hb:w0.heap.size<=bw
 ne:rb≠bw
def qV(w0:World)(kd:Nat->Nat)(cs:List Value)(xs:Nat->Int):Prop:=∀ o,(kd o=0->cs[o]?=some (.int .u64 (xs o)))/\(kd o=1->∃ b:Bool,cs[o]?=some (.bool b)/\xs o=if b then 1 else 0)/\(kd o=2->∃ ao n c,cs[o]?=some (.slice ao n c)/\aI w0 ao n c (xs o)/\n<=1000000)
theorem PI.step{w0 w w':World}{bw rb:Nat}{T:TypeId}{L L':List Int}(h:PI w0 bw rb cs T L w)(X:WrA w' bw 0 L')(B:But bw w w'):PI w0 bw rb cs T L' w' :=
 ⟨X,B.below h.bel h.hb (Nat.le_refl _),h.blk.chg (But.chg B) (fun e=>h.ne e),h.hb,h.ne⟩
def eM(o:Nat):Nat:=([0,0,0,0,0,0,0,0,0,0]:List Nat).getD o 9
def ix(o:Nat):Nat:=([0,0]:List Nat).getD o 9
def gV(o:Nat):Nat:=([2]:List Nat).getD o 9
def eh(o:Nat):Nat:=([0,0]:List Nat).getD o 9
def jj(o:Nat):Nat:=([0,0,2,1,0,1,0,2,2,2]:List Nat).getD o 9
def cX(o:Nat):Nat:=([2,0,2]:List Nat).getD o 9
def ep(o:Nat):Nat:=([2,0]:List Nat).getD o 9
structure Lk(f:FuncId)(g:Func):Prop where
 ex:∃ fn,Tryz.prog.funcs[f]?=some fn/\fn.body=g.body/\fn.ntmps=g.ntmps/\fn.results=g.results
 en:∀ args w,(callFunc f args).run Tryz.prog w=.ok (.enter f args) w
theorem drop_one{o:Nat}(h:cs[o]?=some v):(cs.drop o).take [v].length=[v]:=by
 rw[List.getElem?_eq_some_iff] at h;obtain⟨h1,rfl⟩:=h;rw[List.drop_eq_getElem_cons h1];rfl
end
section
variable {w w0:World} {f f1 f2 f3:FuncId} {bw rb o:Nat} {L:List Int} {cs:List Value} {T:TypeId}
section
variable {ao:Option Addr}{kd:Nat->Nat}{xs:Nat->Int}
theorem pn_any(K:Lk f Tryz.f103){x:Int}(R:Blk w rb cs T)(c:cs[o]? = some (.int .u64 x))(X:WrA w bw 0 L)(b:L.length<=1000000000000):Calls Tryz.prog f #[pq rb o,pg bw] w fun e w'=>e=.returned (.tuple #[])/\WrA w' bw 0 (L ++ mJ 0 x)/\But bw w w':=by
 obtain⟨⟨fn,hf,hb,hn,a⟩,-⟩:=K;refine ax (n:=7) (hn:=hn) hf (hb.trans rfl) ?_
 refine ah (t 3 (pq rb o) (t 4 (pq rb o) (tl 5 (iU x) R o ?_ (hv:=c))));refine tc 6 104 #[pg bw,iU x] (wrU64 X (by omega)) ?_
 rintro _ v ⟨rfl,X,B⟩;refine⟨_,rfl,?_⟩;refine af (bY (.tuple #[]) (rs0 (h:=a)) ?_);exact⟨rfl,X,B⟩
theorem pt_any(K:Lk f Tryz.f105){x:Bool}{y:Int}(hy:(if x then (1:Int) else 0)=y)(R:Blk w rb cs T)(c:cs[o]? = some (.bool x))(X:WrA w bw 0 L)(b:L.length<=1000000000000):Calls Tryz.prog f #[pq rb o,pg bw] w fun e w'=>e=.returned (.tuple #[])/\WrA w' bw 0 (L ++ mJ 1 y)/\But bw w w':=by
 subst hy;obtain⟨⟨fn,hf,hb,hn,a⟩,-⟩:=K;refine ax (n:=7) (hn:=hn) hf (hb.trans rfl) ?_
 refine ah (t 3 (pq rb o) (t 4 (pq rb o) (tl 5 (.bool x) R o ?_ (hv:=c))));refine tc 6 106 #[pg bw,.bool x] (wrBool X (by omega)) ?_
 rintro _ v ⟨rfl,X,B⟩;refine⟨_,rfl,?_⟩;refine af (bY (.tuple #[]) (rs0 (h:=a)) ?_);exact⟨rfl,X,B⟩
theorem pd_any(K:Lk f Tryz.f107){n c:Nat}{V:Int}(R:Blk w rb cs T)(cc:cs[o]? = some (.slice ao n c))(l:aI w ao n c V)(a:n<=1000000)(X:WrA w bw 0 L)(q:L.length<=1000000000000):Calls Tryz.prog f #[pq rb o,pg bw] w fun e w'=>e=.returned (.tuple #[])/\WrA w' bw 0 (L ++ mJ 2 V)/\But bw w w':=by
 obtain⟨⟨fn,hf,hb,hn,hr⟩,-⟩:=K;refine ax (n:=8) (hn:=hn) hf (hb.trans rfl) ?_
 refine ah (t 3 (pq rb o) (t 4 (pq rb o) (tlr 5 [.slice ao n c] R o ?_ (hr:=drop_one cc))));refine tc 6 109 #[.agg #[.slice ao n c]] (r5 l a) ?_
 rintro _ v ⟨a1,p,c1,rfl,j,i,d⟩;refine⟨_,rfl,?_⟩;refine tc 7 108 #[pg bw,.agg #[.slice a1 p c1]] (yE (X.keep d) j (by omega) (by omega)) ?_
 rintro _ v2 ⟨rfl,g,k⟩;refine⟨_,rfl,?_⟩
 have m:jb (fit V) 0=0:=by unfold jb;rw[if_pos (pH V)]
 have b:jT (fit V) 0 L=L ++ mJ 2 V:=by unfold jT wrote;rw[if_pos (pH V),if_pos rfl];rfl
 rw[m,b] at g;refine af (bY (.tuple #[]) (rs0 (h:=hr)) ?_);exact⟨rfl,g,(But.of d).trans k⟩
theorem kO(j:Lk f1 Tryz.f103)(i:Lk f2 Tryz.f105)(g:Lk f3 Tryz.f107)(F:qV w0 kd cs xs):HC (List Int) (PI w0 bw rb cs T) (·=bw) rb f1 f2 f3 (.pointer (some ⟨bw,0,none⟩)) (pnx xs) kd okL where
 oks:=fun k o L h=>by
  unfold okL pnx at *;rw[List.length_append] at h;omega
 keep:=fun L w f h B=>⟨h.wr.keep B,h.bel.trans (B.mono h.bel.size),h.blk.keep B,h.hb,h.ne⟩
 old:=fun L w b h e=>by have l:b=bw:=e;subst l;exact h.wr.lt
 e1:=j.en
 e2:=i.en
 e3:=g.en
 u:=fun L w o h hok hk=>by
  have a:L.length<=1000000000000:=by unfold okL pnx at hok;rw[List.length_append] at hok;omega
  refine(pn_any j h.blk ((F o).1 hk) h.wr a).mono ?_
  rintro e f ⟨rfl,X,B⟩;exact⟨rfl,h.step X B,But.chg B⟩
 t:=fun L w o h hok hk=>by
  have a:L.length<=1000000000000:=by unfold okL pnx at hok;rw[List.length_append] at hok;omega
  obtain⟨b,hb,hx⟩:=(F o).2.1 hk;refine(pt_any i hx.symm h.blk hb h.wr a).mono ?_
  rintro e f ⟨rfl,X,B⟩;exact⟨rfl,h.step X B,But.chg B⟩
 d:=fun L w o h hok hk=>by
  have a:L.length<=1000000000000:=by unfold okL pnx at hok;rw[List.length_append] at hok;omega
  obtain⟨p,n,c,hb,m,hn⟩:=(F o).2.2 hk;refine(pd_any g h.blk hb (m.keep h.bel) hn h.wr a).mono ?_
  rintro e f ⟨rfl,X,B⟩;exact⟨rfl,h.step X B,But.chg B⟩
end
end
section
variable {w:World}{x0 x1 x2 x3 x4 x5 x6 x7 x8 x9:Int}{a0 a2 a7 a8 a9:Option Addr}{n0 c0 n2 c2 n7 c7 n8 c8 n9 c9:Nat}{b3 b5:Bool}{ops:Array Oper}{rest:List Oper}
theorem wK : qV w eM [.int .u64 x0, .int .u64 x1, .int .u64 x2, .int .u64 x3, .int .u64 x4, .int .u64 x5, .int .u64 x6, .int .u64 x7, .int .u64 x8, .int .u64 x9] (fun o => ([x0, x1, x2, x3, x4, x5, x6, x7, x8, x9] : List Int).getD o 0) := fun o => match o with
    | 0=>⟨fun _=>rfl,fun h=>absurd h (by decide),fun h=>absurd h (by decide)⟩
    | 1=>⟨fun _=>rfl,fun h=>absurd h (by decide),fun h=>absurd h (by decide)⟩
    | 2=>⟨fun _=>rfl,fun h=>absurd h (by decide),fun h=>absurd h (by decide)⟩
    | 3=>⟨fun _=>rfl,fun h=>absurd h (by decide),fun h=>absurd h (by decide)⟩
    | 4=>⟨fun _=>rfl,fun h=>absurd h (by decide),fun h=>absurd h (by decide)⟩
    | 5=>⟨fun _=>rfl,fun h=>absurd h (by decide),fun h=>absurd h (by decide)⟩
    | 6=>⟨fun _=>rfl,fun h=>absurd h (by decide),fun h=>absurd h (by decide)⟩
    | 7=>⟨fun _=>rfl,fun h=>absurd h (by decide),fun h=>absurd h (by decide)⟩
    | 8=>⟨fun _=>rfl,fun h=>absurd h (by decide),fun h=>absurd h (by decide)⟩
    | 9=>⟨fun _=>rfl,fun h=>absurd h (by decide),fun h=>absurd h (by decide)⟩
    | k+10=>⟨fun h=>absurd h (by simp[eM]),fun h=>absurd h (by simp[eM]),fun h=>absurd h (by simp[eM])⟩
theorem fl_Chain : qV w ix [.int .u64 x0, .int .u64 x1] (fun o => ([x0, x1] : List Int).getD o 0) := fun o => match o with
    | 0=>⟨fun _=>rfl,fun h=>absurd h (by decide),fun h=>absurd h (by decide)⟩
    | 1=>⟨fun _=>rfl,fun h=>absurd h (by decide),fun h=>absurd h (by decide)⟩
    | k+2=>⟨fun h=>absurd h (by simp[ix]),fun h=>absurd h (by simp[ix]),fun h=>absurd h (by simp[ix])⟩
theorem CX(a : aI w a0 n0 c0 x0)(m0 : n0 ≤ 1000000) : qV w gV [.slice a0 n0 c0] (fun o => ([x0] : List Int).getD o 0) := fun o => match o with
    | 0=>⟨fun h=>absurd h (by decide),fun h=>absurd h (by decide),fun _=>⟨a0,n0,c0,rfl,a,m0⟩⟩
    | k+1=>⟨fun h=>absurd h (by simp[gV]),fun h=>absurd h (by simp[gV]),fun h=>absurd h (by simp[gV])⟩
theorem sV : qV w eh [.int .u64 x0, .int .u64 x1] (fun o => ([x0, x1] : List Int).getD o 0) := fun o => match o with
    | 0=>⟨fun _=>rfl,fun h=>absurd h (by decide),fun h=>absurd h (by decide)⟩
    | 1=>⟨fun _=>rfl,fun h=>absurd h (by decide),fun h=>absurd h (by decide)⟩
    | k+2=>⟨fun h=>absurd h (by simp[eh]),fun h=>absurd h (by simp[eh]),fun h=>absurd h (by simp[eh])⟩
theorem fl_Val(a : aI w a2 n2 c2 x2)(m2 : n2 ≤ 1000000)(b : aI w a7 n7 c7 x7)(m7 : n7 ≤ 1000000)(c : aI w a8 n8 c8 x8)(m8 : n8 ≤ 1000000)(h9 : aI w a9 n9 c9 x9)(m9 : n9 ≤ 1000000) : qV w jj [.int .u64 x0, .int .u64 x1, .slice a2 n2 c2, .bool b3, .int .u64 x4, .bool b5, .int .u64 x6, .slice a7 n7 c7, .slice a8 n8 c8, .slice a9 n9 c9] (fun o => ([x0, x1, x2, (if b3 then 1 else 0), x4, (if b5 then 1 else 0), x6, x7, x8, x9] : List Int).getD o 0) := fun o => match o with
    | 0=>⟨fun _=>rfl,fun h=>absurd h (by decide),fun h=>absurd h (by decide)⟩
    | 1=>⟨fun _=>rfl,fun h=>absurd h (by decide),fun h=>absurd h (by decide)⟩
    | 2=>⟨fun h=>absurd h (by decide),fun h=>absurd h (by decide),fun _=>⟨a2,n2,c2,rfl,a,m2⟩⟩
    | 3=>⟨fun h=>absurd h (by decide),fun _=>⟨b3,rfl,rfl⟩,fun h=>absurd h (by decide)⟩
    | 4=>⟨fun _=>rfl,fun h=>absurd h (by decide),fun h=>absurd h (by decide)⟩
    | 5=>⟨fun h=>absurd h (by decide),fun _=>⟨b5,rfl,rfl⟩,fun h=>absurd h (by decide)⟩
    | 6=>⟨fun _=>rfl,fun h=>absurd h (by decide),fun h=>absurd h (by decide)⟩
    | 7=>⟨fun h=>absurd h (by decide),fun h=>absurd h (by decide),fun _=>⟨a7,n7,c7,rfl,b,m7⟩⟩
    | 8=>⟨fun h=>absurd h (by decide),fun h=>absurd h (by decide),fun _=>⟨a8,n8,c8,rfl,c,m8⟩⟩
    | 9=>⟨fun h=>absurd h (by decide),fun h=>absurd h (by decide),fun _=>⟨a9,n9,c9,rfl,h9,m9⟩⟩
    | k+10=>⟨fun h=>absurd h (by simp[jj]),fun h=>absurd h (by simp[jj]),fun h=>absurd h (by simp[jj])⟩
theorem oa(b : aI w a0 n0 c0 x0)(m0 : n0 ≤ 1000000)(a : aI w a2 n2 c2 x2)(m2 : n2 ≤ 1000000) : qV w cX [.slice a0 n0 c0, .int .u64 x1, .slice a2 n2 c2] (fun o => ([x0, x1, x2] : List Int).getD o 0) := fun o => match o with
    | 0=>⟨fun h=>absurd h (by decide),fun h=>absurd h (by decide),fun _=>⟨a0,n0,c0,rfl,b,m0⟩⟩
    | 1=>⟨fun _=>rfl,fun h=>absurd h (by decide),fun h=>absurd h (by decide)⟩
    | 2=>⟨fun h=>absurd h (by decide),fun h=>absurd h (by decide),fun _=>⟨a2,n2,c2,rfl,a,m2⟩⟩
    | k+3=>⟨fun h=>absurd h (by simp[cX]),fun h=>absurd h (by simp[cX]),fun h=>absurd h (by simp[cX])⟩
theorem sM(a : aI w a0 n0 c0 x0)(m0 : n0 ≤ 1000000) : qV w ep [.slice a0 n0 c0, .int .u64 x1] (fun o => ([x0, x1] : List Int).getD o 0) := fun o => match o with
    | 0=>⟨fun h=>absurd h (by decide),fun h=>absurd h (by decide),fun _=>⟨a0,n0,c0,rfl,a,m0⟩⟩
    | 1=>⟨fun _=>rfl,fun h=>absurd h (by decide),fun h=>absurd h (by decide)⟩
    | k+2=>⟨fun h=>absurd h (by simp[ep]),fun h=>absurd h (by simp[ep]),fun h=>absurd h (by simp[ep])⟩
theorem o6{n:Nat}{ds:List Deferred}{o:Oper}{l:Fr}{Q:Exit->Act->World->Prop}(d:Nat)(h:∀ w1 g,WrA w1 g 0 []->w.heap.size<=g->Below w.heap.size w w1->GL Tryz.prog n ds ops Q rest ((d,pg g) :: l) w1)(a:gd ops l o=some true:=by kernel_rfl)(hc:chk n l o (some d)=true:=by kernel_rfl)(hrun:(execOp (evL l) o).run Tryz.prog w=.ok (.value (pg w.heap.size)) (w.alloc (.cells Tryz.zeroCells168 168)):=by kernel_rfl):GL Tryz.prog n ds ops Q (o :: rest) l w:=jt (some d) _ a hc hrun (h _ _ (Ea w) (Nat.le_refl _) (ai w _))
theorem tK :
  Calls Tryz.prog 51 #[.agg #[.int .u64 x0,.int .u64 x1,.int .u64 x2,.int .u64 x3,.int .u64 x4,.int .u64 x5,.int .u64 x6,.int .u64 x7,.int .u64 x8,.int .u64 x9],.func (.func 52) #[] #[]] w fun e w'=>∃ b n,e=.returned (.slice (some ⟨b,0,none⟩) n n)/\n=(thr (pnx (fun o=>([x0,x1,x2,x3,x4,x5,x6,x7,x8,x9]:List Int).getD o 0)) [(0,0),(0,1),(0,2),(0,3),(0,4),(0,5),(0,6),(0,7),(0,8),(0,9)] []).length/\Box w' b ((thr (pnx (fun o=>([x0,x1,x2,x3,x4,x5,x6,x7,x8,x9]:List Int).getD o 0)) [(0,0),(0,1),(0,2),(0,3),(0,4),(0,5),(0,6),(0,7),(0,8),(0,9)] []).map (Value.int .u8)) 5/\w.heap.size<=b/\Below w.heap.size w w':=by
 refine ax (n:=19) Tryz.func51 rfl ?_
 refine ae (ah (ta 2 [iU x0,iU x1,iU x2,iU x3,iU x4,iU x5,iU x6,iU x7,iU x8,iU x9] 50 (pg) ?_));intro v1 g1 c q1 a;refine t 4 (.slice none 0 0) (af (aa (ae (ah (o6 5 ?_)))));intro v2 g2 g h d;refine af (aa (ae (ah (t 8 (.func (.func 52) #[] #[]) (t 9 (.func (.func 103) #[] #[pg g2]) (t 10 (.func (.func 105) #[] #[pg g2]) (t 11 (.func (.func 107) #[] #[pg g2]) (t 12 (.agg (hq 103 105 107 (pg g2)).toArray) ?_))))))));have l1:=c.lt;have hlen:=ea (fun o=>([x0,x1,x2,x3,x4,x5,x6,x7,x8,x9]:List Int).getD o 0) [(0,0),(0,1),(0,2),(0,3),(0,4),(0,5),(0,6),(0,7),(0,8),(0,9)] [];refine tc 13 52 #[pg g1,.agg (hq 103 105 107 (pg g2)).toArray] (j4 (kO ⟨⟨_,Tryz.func103,rfl,rfl,rfl⟩,fun _ _=>by kernel_rfl⟩ ⟨⟨_,Tryz.func105,rfl,rfl,rfl⟩,fun _ _=>by kernel_rfl⟩ ⟨⟨_,Tryz.func107,rfl,rfl,rfl⟩,fun _ _=>by kernel_rfl⟩ (wK (x0:=x0) (x1:=x1) (x2:=x2) (x3:=x3) (x4:=x4) (x5:=x5) (x6:=x6) (x7:=x7) (x8:=x8) (x9:=x9) (w:=w))) (s:=[]) ⟨g,aj a d,c.keep d,Nat.le_trans a.size h,by omega⟩ (by decide) (Nat.le_trans hlen (by decide))) ?_
 rintro _ v3 ⟨rfl,I,C⟩;generalize thr (pnx (fun o=>([x0,x1,x2,x3,x4,x5,x6,x7,x8,x9]:List Int).getD o 0)) [(0,0),(0,1),(0,2),(0,3),(0,4),(0,5),(0,6),(0,7),(0,8),(0,9)] []=M at *;refine⟨_,rfl,?_⟩;refine af (aa (ae (ah (tc 15 110 #[pg g2] (nI I.wr (Nat.le_trans hlen (by decide))) ?_))));rintro _ v4 ⟨rfl,f,i⟩;refine⟨_,rfl,?_⟩;refine t 14 (.tuple #[sg M.length v3.heap.size,iI 0]) (t 16 (sg M.length v3.heap.size) (t 17 (iI 0) (t 6 (sg M.length v3.heap.size) (t 7 (iI 0) (af (aa (ae (ah (t 18 (sg M.length v3.heap.size) (t 4 (sg M.length v3.heap.size) (af (aa (ay (aA (sg M.length v3.heap.size) (rs1 4) ?_))))))))))))));exact⟨_,_,rfl,rfl,f,I.bel.size,aj I.bel i⟩
theorem Bf(i:aI w a0 n0 c0 x0)(m0:n0<=1000000) :
  Calls Tryz.prog 222 #[.agg #[.slice a0 n0 c0],.func (.func 141) #[] #[]] w fun e w'=>∃ b n,e=.returned (.slice (some ⟨b,0,none⟩) n n)/\n=(thr (pnx (fun o=>([x0]:List Int).getD o 0)) [(2,0)] []).length/\Box w' b ((thr (pnx (fun o=>([x0]:List Int).getD o 0)) [(2,0)] []).map (Value.int .u8)) 5/\w.heap.size<=b/\Below w.heap.size w w':=by
 refine ax (n:=19) Tryz.func222 rfl ?_
 refine ae (ah (ta 2 [.slice a0 n0 c0] 26 (pg) ?_));intro v1 g1 c q1 a;refine t 4 (.slice none 0 0) (af (aa (ae (ah (o6 5 ?_)))));intro v2 g2 g h d;refine af (aa (ae (ah (t 8 (.func (.func 141) #[] #[]) (t 9 (.func (.func 269) #[] #[pg g2]) (t 10 (.func (.func 270) #[] #[pg g2]) (t 11 (.func (.func 271) #[] #[pg g2]) (t 12 (.agg (hq 269 270 271 (pg g2)).toArray) ?_))))))));have l1:=c.lt;have hlen:=ea (fun o=>([x0]:List Int).getD o 0) [(2,0)] [];refine tc 13 141 #[pg g1,.agg (hq 269 270 271 (pg g2)).toArray] (nB (kO ⟨⟨_,Tryz.func269,rfl,rfl,rfl⟩,fun _ _=>by kernel_rfl⟩ ⟨⟨_,Tryz.func270,rfl,rfl,rfl⟩,fun _ _=>by kernel_rfl⟩ ⟨⟨_,Tryz.func271,rfl,rfl,rfl⟩,fun _ _=>by kernel_rfl⟩ (CX i m0 (w:=w))) (s:=[]) ⟨g,aj a d,c.keep d,Nat.le_trans a.size h,by omega⟩ (by decide) (Nat.le_trans hlen (by decide))) ?_
 rintro _ v3 ⟨rfl,I,C⟩;generalize thr (pnx (fun o=>([x0]:List Int).getD o 0)) [(2,0)] []=M at *;refine⟨_,rfl,?_⟩;refine af (aa (ae (ah (tc 15 110 #[pg g2] (nI I.wr (Nat.le_trans hlen (by decide))) ?_))));rintro _ v4 ⟨rfl,f,j⟩;refine⟨_,rfl,?_⟩;refine t 14 (.tuple #[sg M.length v3.heap.size,iI 0]) (t 16 (sg M.length v3.heap.size) (t 17 (iI 0) (t 6 (sg M.length v3.heap.size) (t 7 (iI 0) (af (aa (ae (ah (t 18 (sg M.length v3.heap.size) (t 4 (sg M.length v3.heap.size) (af (aa (ay (aA (sg M.length v3.heap.size) (rs1 4) ?_))))))))))))));exact⟨_,_,rfl,rfl,f,I.bel.size,aj I.bel j⟩
theorem sf :
  Calls Tryz.prog 171 #[.agg #[.int .u64 x0,.int .u64 x1],.func (.func 152) #[] #[]] w fun e w'=>∃ b n,e=.returned (.slice (some ⟨b,0,none⟩) n n)/\n=(thr (pnx (fun o=>([x0,x1]:List Int).getD o 0)) [(0,0),(0,1)] []).length/\Box w' b ((thr (pnx (fun o=>([x0,x1]:List Int).getD o 0)) [(0,0),(0,1)] []).map (Value.int .u8)) 5/\w.heap.size<=b/\Below w.heap.size w w':=by
 refine ax (n:=19) Tryz.func171 rfl ?_
 refine ae (ah (ta 2 [iU x0,iU x1] 73 (pg) ?_));intro v1 g1 c q1 a;refine t 4 (.slice none 0 0) (af (aa (ae (ah (o6 5 ?_)))));intro v2 g2 g h d;refine af (aa (ae (ah (t 8 (.func (.func 152) #[] #[]) (t 9 (.func (.func 236) #[] #[pg g2]) (t 10 (.func (.func 237) #[] #[pg g2]) (t 11 (.func (.func 238) #[] #[pg g2]) (t 12 (.agg (hq 236 237 238 (pg g2)).toArray) ?_))))))));have l1:=c.lt;have hlen:=ea (fun o=>([x0,x1]:List Int).getD o 0) [(0,0),(0,1)] [];refine tc 13 152 #[pg g1,.agg (hq 236 237 238 (pg g2)).toArray] (ji (kO ⟨⟨_,Tryz.func236,rfl,rfl,rfl⟩,fun _ _=>by kernel_rfl⟩ ⟨⟨_,Tryz.func237,rfl,rfl,rfl⟩,fun _ _=>by kernel_rfl⟩ ⟨⟨_,Tryz.func238,rfl,rfl,rfl⟩,fun _ _=>by kernel_rfl⟩ (sV (x0:=x0) (x1:=x1) (w:=w))) (s:=[]) ⟨g,aj a d,c.keep d,Nat.le_trans a.size h,by omega⟩ (by decide) (Nat.le_trans hlen (by decide))) ?_
 rintro _ v3 ⟨rfl,I,C⟩;generalize thr (pnx (fun o=>([x0,x1]:List Int).getD o 0)) [(0,0),(0,1)] []=M at *;refine⟨_,rfl,?_⟩;refine af (aa (ae (ah (tc 15 110 #[pg g2] (nI I.wr (Nat.le_trans hlen (by decide))) ?_))));rintro _ v4 ⟨rfl,f,i⟩;refine⟨_,rfl,?_⟩;refine t 14 (.tuple #[sg M.length v3.heap.size,iI 0]) (t 16 (sg M.length v3.heap.size) (t 17 (iI 0) (t 6 (sg M.length v3.heap.size) (t 7 (iI 0) (af (aa (ae (ah (t 18 (sg M.length v3.heap.size) (t 4 (sg M.length v3.heap.size) (af (aa (ay (aA (sg M.length v3.heap.size) (rs1 4) ?_))))))))))))));exact⟨_,_,rfl,rfl,f,I.bel.size,aj I.bel i⟩
theorem CA(f:aI w a2 n2 c2 x2)(m2:n2<=1000000)(k:aI w a7 n7 c7 x7)(m7:n7<=1000000)(g:aI w a8 n8 c8 x8)(m8:n8<=1000000)(h9:aI w a9 n9 c9 x9)(m9:n9<=1000000) :
  Calls Tryz.prog 119 #[.agg #[.int .u64 x0,.int .u64 x1,.slice a2 n2 c2,.bool b3,.int .u64 x4,.bool b5,.int .u64 x6,.slice a7 n7 c7,.slice a8 n8 c8,.slice a9 n9 c9],.func (.func 120) #[] #[]] w fun e w'=>∃ b n,e=.returned (.slice (some ⟨b,0,none⟩) n n)/\n=(thr (pnx (fun o=>([x0,x1,x2,(if b3 then 1 else 0),x4,(if b5 then 1 else 0),x6,x7,x8,x9]:List Int).getD o 0)) [(0,0),(0,1),(2,2),(1,3),(0,4),(1,5),(0,6),(2,7),(2,8),(2,9)] []).length/\Box w' b ((thr (pnx (fun o=>([x0,x1,x2,(if b3 then 1 else 0),x4,(if b5 then 1 else 0),x6,x7,x8,x9]:List Int).getD o 0)) [(0,0),(0,1),(2,2),(1,3),(0,4),(1,5),(0,6),(2,7),(2,8),(2,9)] []).map (Value.int .u8)) 5/\w.heap.size<=b/\Below w.heap.size w w':=by
 refine ax (n:=19) Tryz.func119 rfl ?_
 refine ae (ah (ta 2 [iU x0,iU x1,.slice a2 n2 c2,.bool b3,iU x4,.bool b5,iU x6,.slice a7 n7 c7,.slice a8 n8 c8,.slice a9 n9 c9] 28 (pg) ?_));intro v1 g1 c q1 a;refine t 4 (.slice none 0 0) (af (aa (ae (ah (o6 5 ?_)))));intro v2 g2 i j d;refine af (aa (ae (ah (t 8 (.func (.func 120) #[] #[]) (t 9 (.func (.func 177) #[] #[pg g2]) (t 10 (.func (.func 178) #[] #[pg g2]) (t 11 (.func (.func 179) #[] #[pg g2]) (t 12 (.agg (hq 177 178 179 (pg g2)).toArray) ?_))))))));have l1:=c.lt;have hlen:=ea (fun o=>([x0,x1,x2,(if b3 then 1 else 0),x4,(if b5 then 1 else 0),x6,x7,x8,x9]:List Int).getD o 0) [(0,0),(0,1),(2,2),(1,3),(0,4),(1,5),(0,6),(2,7),(2,8),(2,9)] [];refine tc 13 120 #[pg g1,.agg (hq 177 178 179 (pg g2)).toArray] (oN (kO ⟨⟨_,Tryz.func177,rfl,rfl,rfl⟩,fun _ _=>by kernel_rfl⟩ ⟨⟨_,Tryz.func178,rfl,rfl,rfl⟩,fun _ _=>by kernel_rfl⟩ ⟨⟨_,Tryz.func179,rfl,rfl,rfl⟩,fun _ _=>by kernel_rfl⟩ (fl_Val f m2 k m7 g m8 h9 m9 (x0:=x0) (x1:=x1) (b3:=b3) (x4:=x4) (b5:=b5) (x6:=x6) (w:=w))) (s:=[]) ⟨i,aj a d,c.keep d,Nat.le_trans a.size j,by omega⟩ (by decide) (Nat.le_trans hlen (by decide))) ?_
 rintro _ v3 ⟨rfl,I,C⟩;generalize thr (pnx (fun o=>([x0,x1,x2,(if b3 then 1 else 0),x4,(if b5 then 1 else 0),x6,x7,x8,x9]:List Int).getD o 0)) [(0,0),(0,1),(2,2),(1,3),(0,4),(1,5),(0,6),(2,7),(2,8),(2,9)] []=M at *;refine⟨_,rfl,?_⟩;refine af (aa (ae (ah (tc 15 110 #[pg g2] (nI I.wr (Nat.le_trans hlen (by decide))) ?_))));rintro _ v4 ⟨rfl,h,l⟩;refine⟨_,rfl,?_⟩;refine t 14 (.tuple #[sg M.length v3.heap.size,iI 0]) (t 16 (sg M.length v3.heap.size) (t 17 (iI 0) (t 6 (sg M.length v3.heap.size) (t 7 (iI 0) (af (aa (ae (ah (t 18 (sg M.length v3.heap.size) (t 4 (sg M.length v3.heap.size) (af (aa (ay (aA (sg M.length v3.heap.size) (rs1 4) ?_))))))))))))));exact⟨_,_,rfl,rfl,h,I.bel.size,aj I.bel l⟩
theorem my(j:aI w a0 n0 c0 x0)(m0:n0<=1000000)(f:aI w a2 n2 c2 x2)(m2:n2<=1000000) :
  Calls Tryz.prog 121 #[.agg #[.slice a0 n0 c0,.int .u64 x1,.slice a2 n2 c2],.func (.func 122) #[] #[]] w fun e w'=>∃ b n,e=.returned (.slice (some ⟨b,0,none⟩) n n)/\n=(thr (pnx (fun o=>([x0,x1,x2]:List Int).getD o 0)) [(2,0),(0,1),(2,2)] []).length/\Box w' b ((thr (pnx (fun o=>([x0,x1,x2]:List Int).getD o 0)) [(2,0),(0,1),(2,2)] []).map (Value.int .u8)) 5/\w.heap.size<=b/\Below w.heap.size w w':=by
 refine ax (n:=19) Tryz.func121 rfl ?_
 refine ae (ah (ta 2 [.slice a0 n0 c0,iU x1,.slice a2 n2 c2] 55 (pg) ?_));intro v1 g1 c q1 a;refine t 4 (.slice none 0 0) (af (aa (ae (ah (o6 5 ?_)))));intro v2 g2 h i d;refine af (aa (ae (ah (t 8 (.func (.func 122) #[] #[]) (t 9 (.func (.func 181) #[] #[pg g2]) (t 10 (.func (.func 182) #[] #[pg g2]) (t 11 (.func (.func 183) #[] #[pg g2]) (t 12 (.agg (hq 181 182 183 (pg g2)).toArray) ?_))))))));have l1:=c.lt;have hlen:=ea (fun o=>([x0,x1,x2]:List Int).getD o 0) [(2,0),(0,1),(2,2)] [];refine tc 13 122 #[pg g1,.agg (hq 181 182 183 (pg g2)).toArray] (gB (kO ⟨⟨_,Tryz.func181,rfl,rfl,rfl⟩,fun _ _=>by kernel_rfl⟩ ⟨⟨_,Tryz.func182,rfl,rfl,rfl⟩,fun _ _=>by kernel_rfl⟩ ⟨⟨_,Tryz.func183,rfl,rfl,rfl⟩,fun _ _=>by kernel_rfl⟩ (oa j m0 f m2 (x1:=x1) (w:=w))) (s:=[]) ⟨h,aj a d,c.keep d,Nat.le_trans a.size i,by omega⟩ (by decide) (Nat.le_trans hlen (by decide))) ?_
 rintro _ v3 ⟨rfl,I,C⟩;generalize thr (pnx (fun o=>([x0,x1,x2]:List Int).getD o 0)) [(2,0),(0,1),(2,2)] []=M at *;refine⟨_,rfl,?_⟩;refine af (aa (ae (ah (tc 15 110 #[pg g2] (nI I.wr (Nat.le_trans hlen (by decide))) ?_))));rintro _ v4 ⟨rfl,g,k⟩;refine⟨_,rfl,?_⟩;refine t 14 (.tuple #[sg M.length v3.heap.size,iI 0]) (t 16 (sg M.length v3.heap.size) (t 17 (iI 0) (t 6 (sg M.length v3.heap.size) (t 7 (iI 0) (af (aa (ae (ah (t 18 (sg M.length v3.heap.size) (t 4 (sg M.length v3.heap.size) (af (aa (ay (aA (sg M.length v3.heap.size) (rs1 4) ?_))))))))))))));exact⟨_,_,rfl,rfl,g,I.bel.size,aj I.bel k⟩
theorem so(i:aI w a0 n0 c0 x0)(m0:n0<=1000000) :
  Calls Tryz.prog 241 #[.agg #[.slice a0 n0 c0,.int .u64 x1],.func (.func 240) #[] #[]] w fun e w'=>∃ b n,e=.returned (.slice (some ⟨b,0,none⟩) n n)/\n=(thr (pnx (fun o=>([x0,x1]:List Int).getD o 0)) [(2,0),(0,1)] []).length/\Box w' b ((thr (pnx (fun o=>([x0,x1]:List Int).getD o 0)) [(2,0),(0,1)] []).map (Value.int .u8)) 5/\w.heap.size<=b/\Below w.heap.size w w':=by
 refine ax (n:=19) Tryz.func241 rfl ?_
 refine ae (ah (ta 2 [.slice a0 n0 c0,iU x1] 186 (pg) ?_));intro v1 g1 c q1 a;refine t 4 (.slice none 0 0) (af (aa (ae (ah (o6 5 ?_)))));intro v2 g2 g h d;refine af (aa (ae (ah (t 8 (.func (.func 240) #[] #[]) (t 9 (.func (.func 284) #[] #[pg g2]) (t 10 (.func (.func 285) #[] #[pg g2]) (t 11 (.func (.func 286) #[] #[pg g2]) (t 12 (.agg (hq 284 285 286 (pg g2)).toArray) ?_))))))));have l1:=c.lt;have hlen:=ea (fun o=>([x0,x1]:List Int).getD o 0) [(2,0),(0,1)] [];refine tc 13 240 #[pg g1,.agg (hq 284 285 286 (pg g2)).toArray] (je (kO ⟨⟨_,Tryz.func284,rfl,rfl,rfl⟩,fun _ _=>by kernel_rfl⟩ ⟨⟨_,Tryz.func285,rfl,rfl,rfl⟩,fun _ _=>by kernel_rfl⟩ ⟨⟨_,Tryz.func286,rfl,rfl,rfl⟩,fun _ _=>by kernel_rfl⟩ (sM i m0 (x1:=x1) (w:=w))) (s:=[]) ⟨g,aj a d,c.keep d,Nat.le_trans a.size h,by omega⟩ (by decide) (Nat.le_trans hlen (by decide))) ?_
 rintro _ v3 ⟨rfl,I,C⟩;generalize thr (pnx (fun o=>([x0,x1]:List Int).getD o 0)) [(2,0),(0,1)] []=M at *;refine⟨_,rfl,?_⟩;refine af (aa (ae (ah (tc 15 110 #[pg g2] (nI I.wr (Nat.le_trans hlen (by decide))) ?_))));rintro _ v4 ⟨rfl,f,j⟩;refine⟨_,rfl,?_⟩;refine t 14 (.tuple #[sg M.length v3.heap.size,iI 0]) (t 16 (sg M.length v3.heap.size) (t 17 (iI 0) (t 6 (sg M.length v3.heap.size) (t 7 (iI 0) (af (aa (ae (ah (t 18 (sg M.length v3.heap.size) (t 4 (sg M.length v3.heap.size) (af (aa (ay (aA (sg M.length v3.heap.size) (rs1 4) ?_))))))))))))));exact⟨_,_,rfl,rfl,f,I.bel.size,aj I.bel j⟩
end
end Rc
end
section
namespace Rc
open Go.RowKit Go.Lib Pg Lim
attribute [local go_sem] Oper.semAt_some
section
variable {w w':World}{B n c g b:Nat}{ao:Option Addr}{x err:Int}{v:Value}{r l:List Int}
structure da(w:World)(B:Nat)(ao:Option Addr)(n c:Nat)(x:Int):Prop where
 ex:∃ b o l,l.length=n/\n<=c/\IsN l x/\At w ao b o l/\B<=b
theorem sC(w:World)(B:Nat):da w B none 0 0 0:=⟨B,0,[],rfl,Nat.le_refl _,jL,⟨.inl rfl,fun i hi=>by simp at hi⟩,Nat.le_refl _⟩
theorem da.low{B':Nat}(h:da w B ao n c x)(hB:B'<=B):da w B' ao n c x:=by
 obtain⟨b,o,l,h1,h2,h3,h4,h5⟩:=h.ex;exact⟨b,o,l,h1,h2,h3,h4,Nat.le_trans hB h5⟩
theorem da.off(h:da w B ao n c x)(_hs:w.heap.size<=w'.heap.size)(hw:∀ b,B<=b->b < w.heap.size->w'.heap[b]?=w.heap[b]?):da w' B ao n c x:=by
 obtain⟨b,o,l,g,e,f,a,d⟩:=h.ex;refine⟨b,o,l,g,e,f,⟨a.loc,fun i hi=>?_⟩,d⟩;have hc:=a.cell i hi;rw[World.cell?_of_block (w:=w) (hw b d (aF hc))];exact hc
theorem newV_w(h:dL w w' v r)(d:IsN r x)(k:B<=w.heap.size):∃ a c,v=.slice a r.length c/\da w' B a r.length c x:=by
 obtain⟨i,b,o,c,e,j,f,g,l⟩:=h.is;exact⟨i,c,e,b,o,r,rfl,j,d,g,Nat.le_trans k f⟩
theorem uB(h:RdA w g b 0 l) :
  Calls Tryz.prog 291 #[.pointer (some ⟨g,0,none⟩)] w fun e w'=>∃ v,e=.returned (.tuple #[v,.int .i64 (rdE (cM l) 0)])/\∃ l1,RdA w' g b 0 l1/\But g w w'/\∀ x k,cM l=.inr (x,k)->l1=l.drop k/\∃ ao n c,v=.slice ao n c/\da w' w.heap.size ao n c x/\n<=255:=by
 have f:=rI (m:=1) h;by_cases j:1<=l.length
 ·have t:=D5 (m:=1) h j (by decide);have L:=AP h j;rw[show (256:Int) ^ 1=256 by decide] at L;rw[<- f] at t;have Q:=(show Hid _ from h.oct)
  by_cases D:1+bZ 1 l<=l.length
  ·by_cases u:0 < bZ 1 l/\nth (l.drop 1) 0=0
   ·have d:cM l=.inl 41:=by unfold cM; rw[if_pos j,if_pos D,if_pos u]
    have p:Hid (rdE (cM l) 0=41):=by show _=_;rw[d];rfl
    have q:=(show Hid _ from d)
    have A:=(show Hid _ from u)
    clear d h u f;generalize bZ 1 l=N at *;go_enter Tryz.func291,Tryz.ntmps291;go_wp2_with fail;refine t.mono ?_
    rintro e F ⟨rfl,y,s⟩;have t2:=AH (m:=N) y (by rw[List.length_drop];omega);clear t;go_wp2_with fail;refine t2.mono ?_
    rintro e B ⟨ao,rfl,hA,E,C⟩;obtain⟨o,k1,k2,k3,k4,z⟩:=hA.ex;have t3:=Cc ao N N b o _ B k1 A.out.1 z (by rw[di A.out.1];exact A.out.2);clear t2 k1 k2 k3 k4 z hA;go_wp2_with fail;refine t3.mono ?_
    rintro e K ⟨rfl,rfl⟩;clear t3;go_wp2;go_ret2;exact⟨_,by rw[p.out];rfl,_,E,s.trans C,fun x k e=>by rw[q.out] at e;cases e⟩
   ·have d:cM l=.inr (bL ((l.drop 1).take (bZ 1 l)),1 + bZ 1 l):=by unfold cM; rw[if_pos j,if_pos D,if_neg u]
    have p:Hid (rdE (cM l) 0=0):=by show _=_;rw[d];rfl
    have q:=(show Hid _ from d)
    have A:=(show Hid _ from u)
    clear d h u f;generalize bZ 1 l=N at *;go_enter Tryz.func291,Tryz.ntmps291;go_wp2_with fail;refine t.mono ?_
    rintro e F ⟨rfl,y,s⟩;have t2:=AH (m:=N) y (by rw[List.length_drop];omega);clear t;go_wp2_with fail;refine t2.mono ?_
    rintro e B ⟨ao,rfl,hA,E,C⟩;obtain⟨o,k1,k2,k3,k4,z⟩:=hA.ex;have t3:=AZ ao N N b o _ B k1 (by omega) k4 z (fun i H=>A.out ⟨i,by rw[di i] at H;exact H⟩);clear t2 k1 k2 k3 k4 z hA;go_wp2_with fail;refine t3.mono ?_
    rintro e K ⟨v,r,rfl,k1,k2,k3,k4⟩;obtain⟨O,P,rfl,I⟩:=newV_w k1 k2 (show w.heap.size<=B.heap.size from(s.trans C).size);have G:=(show Hid _ from I)
    have J:=(show Hid _ from k4)
    clear t3 k1 k2 k4 I;go_wp2;go_ret2
    exact⟨_,by rw[p.out]; rfl,_,E.keep J.out,(s.trans C).trans (But.of J.out),fun x k e=>by
     rw[q.out] at e
     cases e
     exact⟨by rw[List.drop_drop],_,_,_,rfl,G.out,by omega⟩⟩
  ·have d:cM l=.inl 40:=by unfold cM; rw[if_pos j,if_neg D]
   have p:Hid (rdE (cM l) 0=40):=by show _=_;rw[d];rfl
   have q:=(show Hid _ from d)
   clear d h f;generalize bZ 1 l=N at *;go_enter Tryz.func291,Tryz.ntmps291;go_wp2_with fail;refine t.mono ?_
   rintro e F ⟨rfl,y,s⟩;have t2:=DT (m:=N) y (by rw[List.length_drop];omega);clear t D;go_wp2_with fail;refine t2.mono ?_
   rintro e B ⟨rfl,rfl⟩;clear t2;go_wp2;go_ret2;exact⟨_,by rw[p.out];rfl,_,y,s,fun x k e=>by rw[q.out] at e;cases e⟩
 ·have t:=yM (m:=1) h (by omega)
  have d:cM l=.inl 40:=by unfold cM;rw[if_neg j]
  have p:Hid (rdE (cM l) 0=40):=by show _=_;rw[d];rfl
  have q:=(show Hid _ from d)
  have M:=(show Hid _ from h)
  clear d h j f;go_enter Tryz.func291,Tryz.ntmps291;go_wp2_with fail;refine t.mono ?_
  rintro e F ⟨rfl,rfl⟩;clear t;go_wp2;go_ret2;exact⟨_,by rw[p.out];rfl,_,M.out,But.refl _ _,fun x k e=>by rw[q.out] at e;cases e⟩
theorem rdNatW(h:RdA w g b err l) :
  Calls Tryz.prog 246 #[.pointer (some ⟨g,0,none⟩)] w fun e w'=>∃ ao n c,e=.returned (.slice ao n c)/\da w' w.heap.size ao n c (rdV 0 (cM l) err)/\n<=255/\RdA w' g b (rdE (cM l) err) (rdL (cM l) err l)/\But g w w':=by
 have t:=enNa (z:=(0:Int)) (p:=cM l) (V:=fun x v w'=>∃ ao n c,v=.slice ao n c/\da w' w.heap.size ao n c x/\n<=255) h (fun _=>Dz) (fun w'=>⟨none,0,0,rfl,sC w' w.heap.size,by decide⟩) (fun e=>by subst e;exact uB h);clear h;generalize rdV 0 (cM l) err=V at *;generalize rdE (cM l) err=E at *;generalize rdL (cM l) err l=R at *;go_enter Tryz.func246,Tryz.ntmps246;go_wp2_with fail;refine t.mono ?_
 rintro e d ⟨v,rfl,⟨ao,n,c,rfl,k3,k4⟩,k1,k2⟩;clear t;go_wp2;go_ret;exact⟨ao,n,c,rfl,k3,k4,k1,k2⟩
theorem rdDecW(h:RdA w g b err l) :
  Calls Tryz.prog 190 #[.pointer (some ⟨g,0,none⟩)] w fun e w'=>∃ ao n c,e=.returned (.agg #[.slice ao n c])/\da w' w.heap.size ao n c (rdV 0 (cM l) err)/\n<=255/\RdA w' g b (rdE (cM l) err) (rdL (cM l) err l)/\But g w w':=by
 have f:=(show Hid _ from ai w (.cells #[.slice none 0 0] 26))
 have m:=eX w (.slice none 0 0) 26
 have o:w.heap.size≠g:=by have:=h.lt;omega
 have i:=(show Hid _ from o)
 have t:=rdNatW (h.keep f.out);clear h o;generalize rdV 0 (cM l) err=V at *;generalize rdE (cM l) err=E at *;generalize rdL (cM l) err l=R at *;go_enter Tryz.func190,Tryz.ntmps190;go_wp2_with fail;refine t.mono ?_
 rintro e j ⟨ao,n,c,rfl,k3,k4,k1,k2⟩;have d:=m.but k2 i.out;have c1:=d.cell;have f1:=d.free;have q:=d.put (.slice ao n c);have r:=(show Hid (da (j.setCell ⟨w.heap.size,0,none⟩ (.slice ao n c)) w.heap.size ao n c V) from(k3.off (w':=j.setCell ⟨w.heap.size,0,none⟩ (.slice ao n c)) (by rw[size_set];exact Nat.le_refl _) (fun b hb _=>Below.heap_setCell _ _ _ b (by have:=qN w (.cells #[.slice none 0 0] 26);show b≠w.heap.size;omega))).low f.out.size)
 have p:=(show Hid _ from k1.put (u:=.slice ao n c) d i.out (fun x e=>by cases e))
 have s:=(show Hid _ from((But.of (g:=g) f.out).trans k2).put (Nat.le_refl _) (.slice ao n c))
 clear t m d k1 k2 k3 f i;go_wp2;refine bodyPost_ret (l9 rfl rfl q) rfl ?_
 exact⟨ao,n,c,rfl,r.out,k4,p.out,s.out⟩
end
end Rc
end
section
namespace Rc
open Go.RowKit Go.Lib Pg Gl
attribute [local go_sem] Oper.semAt_some
section
variable {w w':World}{B o k:Nat}{kd:Nat->Nat}{cs:List Value}{xs:Nat->Int}{v:Value}{l1:List Int}
abbrev RSt:=Int × List Int × (Nat->Int)
def fo(l:List Int):Int ⊕ Int × Nat:=match bP l with
 | .inl e=>.inl e
 | .inr p=>.inr ((if p.1 then 1 else 0),p.2)
def p1:Nat->List Int->Int ⊕ Int × Nat
 | 0,l=>ez 8 l
 | 1,l=>fo l
 | _,l=>cM l
theorem sk(l:List Int)(err:Int):rdE (fo l) err=rdE (bP l) err:=by
 unfold rdE fo
 cases bP l<;>rfl
theorem rD(l m:List Int)(err:Int):rdL (fo l) err m=rdL (bP l) err m:=by
 unfold rdL fo
 cases bP l<;>rfl
theorem rz(l:List Int)(err:Int):rdV 0 (fo l) err=if rdV false (bP l) err then 1 else 0:=by
 unfold rdV fo;by_cases h:err=0
 ·rw[if_pos h,if_pos h]
  cases bP l<;>rfl
 ·rw[if_neg h,if_neg h];rfl
def rnx(k o:Nat)(s:RSt):RSt:=(rdE (p1 k s.2.1) s.1,rdL (p1 k s.2.1) s.1 s.2.1,fun i=>if i=o then rdV 0 (p1 k s.2.1) s.1 else s.2.2 i)
def kX(w:World)(B:Nat)(kd:Nat->Nat)(cs:List Value)(xs:Nat->Int):Prop:=∀ o,(kd o=0->cs[o]?=some (.int .u64 (xs o)))/\(kd o=1->∃ b:Bool,cs[o]?=some (.bool b)/\xs o=if b then 1 else 0)/\(kd o=2->∃ ao n c,cs[o]?=some (.slice ao n c)/\da w B ao n c (xs o)/\n<=255)
theorem kX.off(h:kX w B kd cs xs)(g:w.heap.size<=w'.heap.size)(hw:∀ b,B<=b->b < w.heap.size->w'.heap[b]? = w.heap[b]?):kX w' B kd cs xs:=fun o=>⟨(h o).1,(h o).2.1,fun hk=>by
 obtain⟨a,n,c,e,d,f⟩:=(h o).2.2 hk
 exact⟨a,n,c,e,d.off g hw,f⟩⟩
structure RI(w0:World)(B g b vb rb:Nat)(kd:Nat->Nat)(len:Nat)(T vt:TypeId)(s:RSt)(w:World):Prop where
 rd:RdA w g b s.1 s.2.1
 var:Blk w vb [.pointer (some ⟨g,0,none⟩)] vt
 rc:∃ cs,cs.length=len/\Blk w rb cs T/\kX w B kd cs s.2.2
 bel:Below w0.heap.size w0 w
 s1:rb≠g
 s2:vb≠g
 s3:vb≠rb
 s4:b≠rb
 g1:g < B
 r1:rb < B
 g0:w0.heap.size<=g
 r0:w0.heap.size<=rb
theorem De(h:o < cs.length):spl cs o [v]=cs.set o v:=by
 simp only[spl];rw[List.set_eq_take_append_cons_drop,if_pos h,List.append_assoc];rfl
theorem RI.step{w0 w1:World}{g b vb rb len:Nat}{T vt:TypeId}{s:RSt}{e1:Int}{x:Int}(h:RI w0 B g b vb rb kd len T vt s w)(r:cs.length=len)(hF:kX w B kd cs s.2.2)(ho:kd o=k)(A:o < len)(X:RdA w1 g b e1 l1)(m:But g w w1)(Y:Blk w' rb (spl cs o [v]) T)(C:Chg (·=rb) w1 w')(hv:(k=0/\v=.int .u64 x)\/(k=1/\∃ t:Bool,v=.bool t/\x=if t then 1 else 0)\/(k=2/\∃ ao n c,v=.slice ao n c/\da w1 B ao n c x/\n<=255)) :
  RI w0 B g b vb rb kd len T vt (e1,l1,fun i=>if i=o then x else s.2.2 i) w'/\Chg (fun y=>y=g\/y=rb) w w':=by
 have hS:But rb w1 w':=⟨C.os,C.tape,C.output,C.size,fun b hb p=>C.same b hb p⟩
 have u:=h.s1;have D:=h.g1;have z:=h.r1
 have l:Chg (·=g) w w1:=But.chg m;rw[De (by omega)] at Y
 have b1:Below w0.heap.size w0 w1:=m.below h.bel h.g0 (Nat.le_refl _)
 have j:∀ y,B<=y->y < w.heap.size->w1.heap[y]?=w.heap[y]?:=fun y hy f=>m.block y f (by omega)
 have d:∀ y,B<=y->y < w1.heap.size->w'.heap[y]?=w1.heap[y]?:=fun y hy f=>hS.block y f (by omega)
 refine⟨⟨X.offW (fun e=>u e.symm) h.s4 hS,(h.var.chg l h.s2).chg C h.s3,⟨cs.set o v,by rw[List.length_set];exact r,Y,?_⟩,hS.below b1 h.r0 (Nat.le_refl _),h.s1,h.s2,h.s3,h.s4,h.g1,h.r1,h.g0,h.r0⟩,(l.mono (fun _ _ e=>.inl e)).trans C (fun _ _ e=>.inr e)⟩;have q:=hF.off m.size j;intro i;by_cases hi:i=o
 ·subst hi
  have a:(cs.set i v)[i]?=some v:=by rw[List.getElem?_set_self (by omega)]
  rw[a];simp only[if_true];refine⟨fun hk=>?_,fun hk=>?_,fun hk=>?_⟩
  ·rcases hv with⟨_,e⟩ | ⟨e,_⟩ | ⟨e,_⟩
   ·rw[e]
   ·omega
   ·omega
  ·rcases hv with⟨e,_⟩ | ⟨_,t,e,e2⟩ | ⟨e,_⟩
   ·omega
   ·exact⟨t,by rw[e],e2⟩
   ·omega
  ·rcases hv with⟨e,_⟩ | ⟨e,_⟩ | ⟨_,ao,n,c,e,e2,e3⟩
   ·omega
   ·omega
   ·exact⟨ao,n,c,by rw[e],e2.off hS.size d,e3⟩
 ·have a:(cs.set o v)[i]? = cs[i]? := by rw[List.getElem?_set_ne (fun e=>hi e.symm)]
  simp only[if_neg hi];rw[a];exact(q.off hS.size d) i
theorem qd(ks:List Nat)(h:ks.getD o 9=k)(hk:k≠9):o < ks.length:=by
 by_cases ho:o < ks.length
 ·exact ho
 ·exfalso;rw[List.getD_eq_getElem?_getD,List.getElem?_eq_none (by omega)] at h;exact hk h.symm
end
section
variable {w:World} {f f1 f2 f3:FuncId} {g b vb rb o:Nat} {err:Int} {l:List Int} {cs:List Value} {T vt:TypeId}
section
variable {w0:World}
theorem rn_any(K:Lk f Tryz.f185)(X:RdA w g b err l)(V:Blk w vb [.pointer (some ⟨g,0,none⟩)] vt)(R:Blk w rb cs T)(a:rb≠g)(ho:o < cs.length):Calls Tryz.prog f #[pq rb o,pg vb] w fun e w'=>e=.returned (.tuple #[])/\∃ w1,Blk w' rb (spl cs o [.int .u64 (rdV 0 (p1 0 l) err)]) T/\Chg (· = rb) w1 w'/\RdA w1 g b (rdE (p1 0 l) err) (rdL (p1 0 l) err l)/\But g w w1:=by
 obtain⟨⟨fn,hf,hb,hn,c⟩,-⟩:=K;refine ax (n:=7) (hn:=hn) hf (hb.trans rfl) ?_
 refine ah (t 3 (pq rb o) (tl 4 (pg g) V 0 (tc 5 186 #[pg g] (rdU64 X) ?_)));rintro _ w1 ⟨rfl,X,B⟩;refine⟨_,rfl,?_⟩;refine t 6 (pq rb o) (ts (R.chg (But.chg B) a) o (iU (rdV 0 (p1 0 l) err)) [iU (rdV 0 (p1 0 l) err)] _ ?_ (hb:=Nat.ble_eq_true_of_le ho));intro d Y C;refine af (bY (.tuple #[]) (rs0 (h:=c)) ?_);exact⟨rfl,w1,Y,C,X,B⟩
theorem rt_any(K:Lk f Tryz.f187)(X:RdA w g b err l)(V:Blk w vb [.pointer (some ⟨g,0,none⟩)] vt)(R:Blk w rb cs T)(a:rb≠g)(ho:o < cs.length):Calls Tryz.prog f #[pq rb o,pg vb] w fun e w'=>e=.returned (.tuple #[])/\∃ w1,Blk w' rb (spl cs o [.bool (rdV false (bP l) err)]) T/\Chg (· = rb) w1 w'/\RdA w1 g b (rdE (p1 1 l) err) (rdL (p1 1 l) err l)/\But g w w1:=by
 obtain⟨⟨fn,hf,hb,hn,c⟩,-⟩:=K;refine ax (n:=7) (hn:=hn) hf (hb.trans rfl) ?_
 refine ah (t 3 (pq rb o) (tl 4 (pg g) V 0 (tc 5 188 #[pg g] (rdBool X) ?_)));rintro _ w1 ⟨rfl,X,B⟩;refine⟨_,rfl,?_⟩;refine t 6 (pq rb o) (ts (R.chg (But.chg B) a) o (.bool (rdV false (bP l) err)) [.bool (rdV false (bP l) err)] _ ?_ (hb:=Nat.ble_eq_true_of_le ho));intro d Y C;refine af (bY (.tuple #[]) (rs0 (h:=c)) ?_);exact⟨rfl,w1,Y,C,by show RdA w1 g b (rdE (fo l) err) (rdL (fo l) err l);rw[sk,rD];exact X,B⟩
theorem rd_any(K:Lk f Tryz.f189)(X:RdA w g b err l)(V:Blk w vb [.pointer (some ⟨g,0,none⟩)] vt)(R:Blk w rb cs T)(a:rb≠g)(ho:o < cs.length):Calls Tryz.prog f #[pq rb o,pg vb] w fun e w'=>e=.returned (.tuple #[])/\∃ w1 ao n c,Blk w' rb (spl cs o [.slice ao n c]) T/\Chg (· = rb) w1 w'/\da w1 w.heap.size ao n c (rdV 0 (p1 2 l) err)/\n<=255/\RdA w1 g b (rdE (p1 2 l) err) (rdL (p1 2 l) err l)/\But g w w1:=by
 obtain⟨⟨fn,hf,hb,hn,j⟩,-⟩:=K;refine ax (n:=7) (hn:=hn) hf (hb.trans rfl) ?_
 refine ah (t 3 (pq rb o) (tl 4 (pg g) V 0 (tc 5 190 #[pg g] (rdDecW X) ?_)));rintro _ w1 ⟨a1,i,d1,rfl,N,d,X,B⟩;refine⟨_,rfl,?_⟩;refine t 6 (pq rb o) (ts (R.chg (But.chg B) a) o (.agg #[.slice a1 i d1]) [.slice a1 i d1] _ ?_ (hb:=Nat.ble_eq_true_of_le ho));intro k Y C;refine af (bY (.tuple #[]) (rs0 (h:=j)) ?_);exact⟨rfl,w1,a1,i,d1,Y,C,N,d,X,B⟩
theorem iR{B:Nat}(ks:List Nat)(v:Lk f1 Tryz.f185)(r:Lk f2 Tryz.f187)(q:Lk f3 Tryz.f189):HC RSt (fun s w=>RI w0 B g b vb rb (fun o=>ks.getD o 9) ks.length T vt s w/\B<=w.heap.size) (fun y=>y=g\/y=rb) rb f1 f2 f3 (.pointer (some ⟨vb,0,none⟩)) rnx (fun o=>ks.getD o 9) (fun _=>True) where
 oks:=fun _ _ _ _=>trivial
 keep:=fun s w n h i=>by
  obtain⟨h,c⟩:=h;obtain⟨cs,j,f,k⟩:=h.rc;exact⟨⟨h.rd.keep i,h.var.keep i,⟨cs,j,f.keep i,k.off i.size (fun y _ hy=>i.block y hy)⟩,h.bel.trans (i.mono h.bel.size),h.s1,h.s2,h.s3,h.s4,h.g1,h.r1,h.g0,h.r0⟩,Nat.le_trans c i.size⟩
 old:=fun s w y h e=>by
  have:=h.1.g1;have:=h.1.r1;have:=h.2;rcases e with e | e<;>omega
 e1:=v.en
 e2:=r.en
 e3:=q.en
 u:=fun s w o h _ hk=>by
  obtain⟨h,c⟩:=h;obtain⟨cs,j,f,k⟩:=h.rc;have m:=qd ks hk (by decide);refine(rn_any v h.rd h.var f h.s1 (by omega)).mono ?_
  rintro e n ⟨rfl,p,Y,C,X,l⟩;obtain⟨r1,a⟩:=h.step j k hk m X l Y C (.inl ⟨rfl,rfl⟩);exact⟨rfl,⟨r1,Nat.le_trans c a.size⟩,a⟩
 t:=fun s w o h _ hk=>by
  obtain⟨h,c⟩:=h;obtain⟨cs,j,f,k⟩:=h.rc;have m:=qd ks hk (by decide);refine(rt_any r h.rd h.var f h.s1 (by omega)).mono ?_
  rintro e n ⟨rfl,p,Y,C,X,l⟩;obtain⟨r1,a⟩:=h.step j k hk m X l Y C (x:=rdV 0 (p1 1 s.2.1) s.1) (.inr (.inl ⟨rfl,_,rfl,rz _ _⟩));exact⟨rfl,⟨r1,Nat.le_trans c a.size⟩,a⟩
 d:=fun s w o h _ hk=>by
  obtain⟨h,c⟩:=h;obtain⟨cs,j,f,k⟩:=h.rc;have m:=qd ks hk (by decide);refine(rd_any q h.rd h.var f h.s1 (by omega)).mono ?_
  rintro e n ⟨rfl,p,a1,A,c1,Y,C,z,hn,X,l⟩;obtain⟨r1,a⟩:=h.step j k hk m X l Y C (x:=rdV 0 (p1 2 s.2.1) s.1) (.inr (.inr ⟨rfl,_,_,_,rfl,z.low c,hn⟩));exact⟨rfl,⟨r1,Nat.le_trans c a.size⟩,a⟩
end
end
section
variable {w:World}{B:Nat}{kd:Nat->Nat}{cs:List Value}{xs:Nat->Int}{ks:List Nat}{l:List Int}
theorem Dv{α:Type}(p:Int ⊕ α × Nat)(err:Int)(l:List Int):(rdL p err l).length<=l.length:=by
 unfold rdL;split
 ·cases p
  ·exact Nat.le_refl _
  ·simp
 ·exact Nat.le_refl _
theorem CR(ks:List (Nat × Nat)):∀ s:RSt,(thr rnx ks s).2.1.length<=s.2.1.length:=by
 induction ks with
 | nil=>intro s;exact Nat.le_refl _
 | cons p ks ih =>
  intro s
  have e:thr rnx (p :: ks) s=thr rnx ks (rnx p.1 p.2 s):=rfl;rw[e];exact Nat.le_trans (ih _) (Dv _ _ _)
structure gJ(w:World)(kd:Nat->Nat)(len:Nat)(mk:List Value->Value)(s:RSt)(e:Ending)(w':World):Prop where
 ex:∃ cs xs r,e=.returned (.tuple #[mk cs,.int .i64 r])/\cs.length=len/\kX w' w.heap.size kd cs xs/\(dA s.1 s.2.1=0->r=0/\xs=s.2.2)/\(dA s.1 s.2.1≠0->r=80/\xs=fun _=>0)
 bel:Below w.heap.size w w'
theorem kX.low{B':Nat}(h:kX w B kd cs xs)(hB:B'<=B):kX w B' kd cs xs:=fun o=>⟨(h o).1,(h o).2.1,fun hk=>by
 obtain⟨ao,n,c,h1,h2,h3⟩:=(h o).2.2 hk
 exact⟨ao,n,c,h1,h2.low hB,h3⟩⟩
def mkA(cs:List Value):Value:=.agg cs.toArray
def zk:Nat->Value
 | 0=>.int .u64 0
 | 1=>.bool false
 | _=>.slice none 0 0
abbrev zs(ks:List Nat):List Value:=ks.map zk
theorem sW(ks:List Nat)(w:World)(B:Nat):kX w B (fun o=>ks.getD o 9) (zs ks) (fun _=>0):=by
 intro o
 have h:∀ k,k≠9->ks.getD o 9=k->(zs ks)[o]?=some (zk k):=by
  intro k hk h;have a:=qd ks h hk;rw[List.getD_eq_getElem?_getD,List.getElem?_eq_getElem a] at h;rw[List.getElem?_map,List.getElem?_eq_getElem a];exact congrArg (fun x=>some (zk x)) h
 exact⟨fun k=>h 0 (by decide) k,fun k=>⟨false,h 1 (by decide) k,rfl⟩,fun k=>⟨none,0,0,h 2 (by decide) k,sC _ _,by decide⟩⟩
theorem eb(F:kX w B (fun o=>ks.getD o 9) cs xs)(hc:cs.length=ks.length)(hk:∀ k∈ks,k < 3):cs.all (·.oneCell')=true:=by
 rw[List.all_eq_true];intro v hv;obtain⟨o,l,rfl⟩:=List.mem_iff_getElem.1 hv;have i:=hk (ks[o]'(by omega)) (List.getElem_mem _)
 have d:ks.getD o 9=ks[o]'(by omega):=by rw[List.getD_eq_getElem?_getD,List.getElem?_eq_getElem (by omega)];rfl
 have j:=List.getElem?_eq_getElem l;obtain⟨g,h,f⟩:=F o;rw[j] at g h f;rcases(show ks[o]'(by omega)=0\/ks[o]'(by omega)=1\/ks[o]'(by omega)=2 by omega) with e | e | e
 ·rw[Option.some.inj (g (d.trans e))];rfl
 ·obtain⟨b,hb,-⟩:=h (d.trans e);rw[Option.some.inj hb];rfl
 ·obtain⟨a,n,c,hb,-⟩:=f (d.trans e);rw[Option.some.inj hb];rfl
theorem kE(ks:List (Nat × Nat)){n:Nat}(hn:n<=1000000000)(a:l.length=n):(thr rnx ks (0,l,fun _=>(0:Int))).2.1.length<=9223372036854775807:=by
 have h:(thr rnx ks (0,l,fun _=>(0:Int))).2.1.length<=l.length:=CR ks (0,l,fun _=>(0:Int));omega
end
section
variable {w v1 v2 v3 v4 v5 v6 v7 v8 v9:World} {g g1 g2 g3 g5 b' B:Nat} {T vt:TypeId} {l:List Int} {ks:List Nat} {cs:List Value} {st:RSt}
section
variable {xs:Nat->Int}
theorem kK(m:Blk v1 g1 (zs ks) T)(h1:w.heap.size<=g1)(j:Below w.heap.size w v1)(n:Blk v2 g2 (zs ks) T)(r:v1.heap.size<=g2)(f:Below v1.heap.size v1 v2)(h:Blk v3 g3 (zs ks) T)(u:v2.heap.size<=g3)(c:Below v2.heap.size v2 v3)(i:RdA v4 g b' 0 l)(s:v3.heap.size<=g)(hb:v3.heap.size<=b')(p:b' < v4.heap.size)(k:Below v3.heap.size v3 v4)(t:v4.heap.size<=g5)(e:Below v4.heap.size v4 v5)(Y:Blk v6 g5 [.pointer (some ⟨g,0,none⟩)] vt)(C:Chg (·=g5) v5 v6) :
  (RI w v6.heap.size g b' g5 g2 (fun o=>ks.getD o 9) ks.length T vt (0,l,fun _=>(0:Int)) v6/\v6.heap.size<=v6.heap.size)/\Blk v6 g1 (zs ks) T/\Blk v6 g3 (zs ks) T/\g1≠g/\g1≠g2/\g3≠g/\g3≠g2/\w.heap.size<=g1/\g1 < v6.heap.size:=by
 have a1:=m.lt;have a2:=n.lt;have a3:=h.lt;have a4:=i.lt;have s1:=j.size;have s2:=f.size;have s3:=c.size;have s4:=k.size;have v:=e.size;have q:=C.size;have a:=aj k e
 have hS:But g5 v5 v6:=⟨C.os,C.tape,C.output,C.size,fun b hb d=>C.same b hb d⟩
 refine⟨⟨⟨(i.keep e).offW (by omega) (by omega) hS,Y,⟨_,by simp,((n.keep c).keep a).chg C (show g2≠g5 by omega),sW ks _ _⟩,aL (aj (aj (aj j f) c) a) C (by omega),by omega,by omega,by omega,by omega,by omega,by omega,by omega,by omega⟩,Nat.le_refl _⟩,(((m.keep f).keep c).keep a).chg C (show g1≠g5 by omega),(h.keep a).chg C (show g3≠g5 by omega),by omega,by omega,by omega,by omega,by omega,by omega⟩
theorem kF(f:Blk v6 g1 (zs ks) T)(i:Blk v6 g3 (zs ks) T)(c:g1≠g)(n2:g1≠g2)(b:g3≠g)(e:g3≠g2)(C:Chg (fun y=>y=g\/y=g2) v6 v7)(R:Blk v7 g2 cs T)(d:g2≠g)(a:But g v7 v8):Blk v8 g1 (zs ks) T/\Blk v8 g2 cs T/\Blk v8 g3 (zs ks) T :=
 ⟨(f.chg C (fun h=>h.elim c n2)).chg (But.chg a) c,R.chg (But.chg a) d,(i.chg C (fun h=>h.elim b e)).chg (But.chg a) b⟩
theorem fl(I:RI w B g b' g5 g2 (fun o=>ks.getD o 9) ks.length T vt st v7)(b:But g v7 v8)(C:Chg (·=g1) v8 v9)(h1:w.heap.size<=g1)(c:g1 < B)(F:kX v7 B (fun o=>ks.getD o 9) cs xs):kX v9 w.heap.size (fun o=>ks.getD o 9) cs xs/\Below w.heap.size w v9:=by
 have:=I.g1;refine⟨((F.off b.size (fun y hy a=>b.block y a (by omega))).off C.size (fun y hy a=>C.same y a (fun e=>by have d:y=g1:=e;omega))).low (by omega),aL (b.below I.bel I.g0 (Nat.le_refl _)) C h1⟩
end
end
section
variable {cs:List Value}{w:World}{bb n c:Nat}{ao:Option Addr}{l:List Int}
theorem ls1(h:cs.length=1):∃ y0,cs=[y0]:=match cs,h with
 | [y0],_=>⟨y0,rfl⟩
theorem ls2(h:cs.length=2):∃ y0 y1,cs=[y0,y1]:=match cs,h with
 | [y0,y1],_=>⟨y0,y1,rfl⟩
theorem ls3(h:cs.length=3):∃ y0 y1 y2,cs=[y0,y1,y2]:=match cs,h with
 | [y0,y1,y2],_=>⟨y0,y1,y2,rfl⟩
theorem Cb(h:cs.length=10):∃ y0 y1 y2 y3 y4 y5 y6 y7 y8 y9,cs=[y0,y1,y2,y3,y4,y5,y6,y7,y8,y9]:=match cs,h with
 | [y0,y1,y2,y3,y4,y5,y6,y7,y8,y9],_=>⟨y0,y1,y2,y3,y4,y5,y6,y7,y8,y9,rfl⟩
theorem rK(A:ByA w bb ao n c l)(hn:n<=1000000000)(V:l.length=n) :
  Calls Tryz.prog 123 #[.slice ao n c,.func (.func 52) #[] #[]] w (gJ w eM 10 mkA (thr rnx [(0,0),(0,1),(0,2),(0,3),(0,4),(0,5),(0,6),(0,7),(0,8),(0,9)] (0,l,fun _=>(0:Int)))):=by
 refine ax (n:=22) Tryz.func123 rfl ?_
 refine ae (ah (ta 4 (zs [0,0,0,0,0,0,0,0,0,0]) 50 (pg) ?_));intro v1 g1 J h1 x;refine t 5 (iI 0) (af (aa (ae (ah (ta 6 (zs [0,0,0,0,0,0,0,0,0,0]) 50 (pg) ?_)))));intro v2 g2 K Q D;refine ta 7 (zs [0,0,0,0,0,0,0,0,0,0]) 50 (pg) ?_
 intro v3 g3 X H z;refine af (aa (ae (ah (t 9 (.slice ao n c) (tc 10 184 #[.slice ao n c] (kH (A.keep (aj (aj x D) z)) (by omega)) ?_)))));rintro _ v4 ⟨g,b',rfl,⟨L,v,u⟩,G,O⟩;refine⟨_,rfl,?_⟩;refine ta 8 [.pointer none] 270 (pg) ?_
 intro v5 g5 Z M B5;refine ts Z 0 (pg g) [pg g] [pg g] ?_
 intro v6 Y C;obtain⟨I,q,r,N,P,S,W,y,E⟩:=kK J h1 x K Q D X H z G L v u O M B5 Y C;refine af (aa (ae (ah (t 11 (.func (.func 52) #[] #[]) (t 12 (.func (.func 185) #[] #[pg g5]) (t 13 (.func (.func 187) #[] #[pg g5]) (t 14 (.func (.func 189) #[] #[pg g5]) (t 15 (.agg (hq 185 187 189 (pg g5)).toArray) (tc 16 52 #[pg g2,.agg (hq 185 187 189 (pg g5)).toArray] (j4 (iR [0,0,0,0,0,0,0,0,0,0] ⟨⟨_,Tryz.func185,rfl,rfl,rfl⟩,fun _ _=>by kernel_rfl⟩ ⟨⟨_,Tryz.func187,rfl,rfl,rfl⟩,fun _ _=>by kernel_rfl⟩ ⟨⟨_,Tryz.func189,rfl,rfl,rfl⟩,fun _ _=>by kernel_rfl⟩) I (by decide) trivial) ?_)))))))));rintro _ v7 ⟨rfl,⟨I,-⟩,C⟩;refine⟨_,rfl,?_⟩;obtain⟨cs,hc,R,F⟩:=I.rc;obtain⟨i,d,o,a,m,j,k,e,b,f,rfl⟩:=Cb hc;refine af (aa (ae (ae (ah (tl 17 (pg g) I.var 0 (tc 18 191 #[pg g] (oU I.rd (kE _ hn V)) ?_))))));rintro _ v8 ⟨rfl,-,s⟩;refine⟨_,rfl,?_⟩;obtain⟨q,U,r⟩:=kF q r N P S W C R I.s1 s;generalize thr rnx [(0,0),(0,1),(0,2),(0,3),(0,4),(0,5),(0,6),(0,7),(0,8),(0,9)] (0,l,fun _=>(0:Int))=st at *;by_cases p:dA st.1 st.2.1=0
 ·refine tq 19 (.bool (dA st.1 st.2.1 != 0)) (bF) (congrArg Value.bool (bne_eq_false_iff_eq.2 p)) (af (aa (aZ (aM (aa (ae (ah (tlr 21 [i,d,o,a,m,j,k,e,b,f] U 0 (ts q 0 (.agg ([i,d,o,a,m,j,k,e,b,f]).toArray) [i,d,o,a,m,j,k,e,b,f] [i,d,o,a,m,j,k,e,b,f] ?_ (h1:=eb F hc (by decide)))))))))));intro v9 Y C;refine t 5 (iI 0) (af (aa (ay (aA (.tuple #[.agg ([i,d,o,a,m,j,k,e,b,f]).toArray,iI 0]) (dP (T:=50) 4 5 (lr Y 0)) ?_))));obtain⟨F,B⟩:=fl I s C y E F;exact⟨⟨_,_,0,rfl,rfl,F,fun _=>⟨rfl,rfl⟩,fun h=>absurd p h⟩,B⟩
 ·refine tq 19 (.bool (dA st.1 st.2.1 != 0)) (bT) (congrArg Value.bool (bne_iff_ne.2 p)) (af (aa (bJ (ae (ah (tlr 20 (zs [0,0,0,0,0,0,0,0,0,0]) r 0 (ts q 0 (.agg ((zs [0,0,0,0,0,0,0,0,0,0])).toArray) (zs [0,0,0,0,0,0,0,0,0,0]) (zs [0,0,0,0,0,0,0,0,0,0]) ?_)))))));intro v9 Y C;refine t 5 (iI 80) (af (aa (ay (dD (aA (.tuple #[.agg ((zs [0,0,0,0,0,0,0,0,0,0])).toArray,iI 80]) (dP (T:=50) 4 5 (lr Y 0)) ?_)))));obtain⟨F,B⟩:=fl I s C y E (sW [0,0,0,0,0,0,0,0,0,0] _ _);exact⟨⟨_,_,80,rfl,rfl,F,fun h=>absurd h p,fun _=>⟨rfl,rfl⟩⟩,B⟩
theorem wZ(A:ByA w bb ao n c l)(hn:n<=1000000000)(v:l.length=n) :
  Calls Tryz.prog 140 #[.slice ao n c,.func (.func 141) #[] #[]] w (gJ w gV 1 mkA (thr rnx [(2,0)] (0,l,fun _=>(0:Int)))):=by
 refine ax (n:=22) Tryz.func140 rfl ?_
 refine ae (ah (ta 4 (zs [2]) 26 (pg) ?_));intro v1 g1 z h1 m;refine t 5 (iI 0) (af (aa (ae (ah (ta 6 (zs [2]) 26 (pg) ?_)))));intro v2 g2 D r o;refine ta 7 (zs [2]) 26 (pg) ?_
 intro v3 g3 J y k;refine af (aa (ae (ah (t 9 (.slice ao n c) (tc 10 184 #[.slice ao n c] (kH (A.keep (aj (aj m o) k)) (by omega)) ?_)))));rintro _ v4 ⟨g,S,rfl,⟨E,j,i⟩,x,N⟩;refine⟨_,rfl,?_⟩;refine ta 8 [.pointer none] 270 (pg) ?_
 intro v5 g5 K H L;refine ts K 0 (pg g) [pg g] [pg g] ?_
 intro v6 Y C;obtain⟨I,b,e,M,O,s,G,p,q⟩:=kK z h1 m D r o J y k x E j i N H L Y C;refine af (aa (ae (ah (t 11 (.func (.func 141) #[] #[]) (t 12 (.func (.func 205) #[] #[pg g5]) (t 13 (.func (.func 206) #[] #[pg g5]) (t 14 (.func (.func 207) #[] #[pg g5]) (t 15 (.agg (hq 205 206 207 (pg g5)).toArray) (tc 16 141 #[pg g2,.agg (hq 205 206 207 (pg g5)).toArray] (nB (iR [2] ⟨⟨_,Tryz.func205,rfl,rfl,rfl⟩,fun _ _=>by kernel_rfl⟩ ⟨⟨_,Tryz.func206,rfl,rfl,rfl⟩,fun _ _=>by kernel_rfl⟩ ⟨⟨_,Tryz.func207,rfl,rfl,rfl⟩,fun _ _=>by kernel_rfl⟩) I (by decide) trivial) ?_)))))))));rintro _ P ⟨rfl,⟨I,-⟩,C⟩;refine⟨_,rfl,?_⟩;obtain⟨cs,hc,R,F⟩:=I.rc;obtain⟨a,rfl⟩:=ls1 hc;refine af (aa (ae (ae (ah (tl 17 (pg g) I.var 0 (tc 18 191 #[pg g] (oU I.rd (kE _ hn v)) ?_))))));rintro _ Q ⟨rfl,-,f⟩;refine⟨_,rfl,?_⟩;obtain⟨b,u,e⟩:=kF b e M O s G C R I.s1 f;generalize thr rnx [(2,0)] (0,l,fun _=>(0:Int))=st at *;by_cases d:dA st.1 st.2.1=0
 ·refine tq 19 (.bool (dA st.1 st.2.1 != 0)) (bF) (congrArg Value.bool (bne_eq_false_iff_eq.2 d)) (af (aa (aZ (aM (aa (ae (ah (tlr 21 [a] u 0 (ts b 0 (.agg ([a]).toArray) [a] [a] ?_ (h1:=eb F hc (by decide)))))))))));intro v9 Y C;refine t 5 (iI 0) (af (aa (ay (aA (.tuple #[.agg ([a]).toArray,iI 0]) (dP (T:=26) 4 5 (lr Y 0)) ?_))));obtain⟨F,B⟩:=fl I f C p q F;exact⟨⟨_,_,0,rfl,rfl,F,fun _=>⟨rfl,rfl⟩,fun h=>absurd d h⟩,B⟩
 ·refine tq 19 (.bool (dA st.1 st.2.1 != 0)) (bT) (congrArg Value.bool (bne_iff_ne.2 d)) (af (aa (bJ (ae (ah (tlr 20 (zs [2]) e 0 (ts b 0 (.agg ((zs [2])).toArray) (zs [2]) (zs [2]) ?_)))))));intro v9 Y C;refine t 5 (iI 80) (af (aa (ay (dD (aA (.tuple #[.agg ((zs [2])).toArray,iI 80]) (dP (T:=26) 4 5 (lr Y 0)) ?_)))));obtain⟨F,B⟩:=fl I f C p q (sW [2] _ _);exact⟨⟨_,_,80,rfl,rfl,F,fun h=>absurd h d,fun _=>⟨rfl,rfl⟩⟩,B⟩
theorem pC(A:ByA w bb ao n c l)(hn:n<=1000000000)(L:l.length=n) :
  Calls Tryz.prog 151 #[.slice ao n c,.func (.func 152) #[] #[]] w (gJ w eh 2 mkA (thr rnx [(0,0),(0,1)] (0,l,fun _=>(0:Int)))):=by
 refine ax (n:=22) Tryz.func151 rfl ?_
 refine ae (ah (ta 4 (zs [0,0]) 73 (pg) ?_));intro v1 g1 v h1 m;refine t 5 (iI 0) (af (aa (ae (ah (ta 6 (zs [0,0]) 73 (pg) ?_)))));intro v2 g2 x H q;refine ta 7 (zs [0,0]) 73 (pg) ?_
 intro v3 g3 N u p;refine af (aa (ae (ah (t 9 (.slice ao n c) (tc 10 184 #[.slice ao n c] (kH (A.keep (aj (aj m q) p)) (by omega)) ?_)))));rintro _ v4 ⟨g,U,rfl,⟨y,k,j⟩,s,E⟩;refine⟨_,rfl,?_⟩;refine ta 8 [.pointer none] 270 (pg) ?_
 intro v5 g5 O z P;refine ts O 0 (pg g) [pg g] [pg g] ?_
 intro v6 Y C;obtain⟨I,e,f,D,G,J,M,o,r⟩:=kK v h1 m x H q N u p s y k j E z P Y C;refine af (aa (ae (ah (t 11 (.func (.func 152) #[] #[]) (t 12 (.func (.func 219) #[] #[pg g5]) (t 13 (.func (.func 220) #[] #[pg g5]) (t 14 (.func (.func 221) #[] #[pg g5]) (t 15 (.agg (hq 219 220 221 (pg g5)).toArray) (tc 16 152 #[pg g2,.agg (hq 219 220 221 (pg g5)).toArray] (ji (iR [0,0] ⟨⟨_,Tryz.func219,rfl,rfl,rfl⟩,fun _ _=>by kernel_rfl⟩ ⟨⟨_,Tryz.func220,rfl,rfl,rfl⟩,fun _ _=>by kernel_rfl⟩ ⟨⟨_,Tryz.func221,rfl,rfl,rfl⟩,fun _ _=>by kernel_rfl⟩) I (by decide) trivial) ?_)))))))));rintro _ Q ⟨rfl,⟨I,-⟩,C⟩;refine⟨_,rfl,?_⟩;obtain⟨cs,hc,R,F⟩:=I.rc;obtain⟨b,a,rfl⟩:=ls2 hc;refine af (aa (ae (ae (ah (tl 17 (pg g) I.var 0 (tc 18 191 #[pg g] (oU I.rd (kE _ hn L)) ?_))))));rintro _ S ⟨rfl,-,i⟩;refine⟨_,rfl,?_⟩;obtain⟨e,K,f⟩:=kF e f D G J M C R I.s1 i;generalize thr rnx [(0,0),(0,1)] (0,l,fun _=>(0:Int))=st at *;by_cases d:dA st.1 st.2.1=0
 ·refine tq 19 (.bool (dA st.1 st.2.1 != 0)) (bF) (congrArg Value.bool (bne_eq_false_iff_eq.2 d)) (af (aa (aZ (aM (aa (ae (ah (tlr 21 [b,a] K 0 (ts e 0 (.agg ([b,a]).toArray) [b,a] [b,a] ?_ (h1:=eb F hc (by decide)))))))))));intro v9 Y C;refine t 5 (iI 0) (af (aa (ay (aA (.tuple #[.agg ([b,a]).toArray,iI 0]) (dP (T:=73) 4 5 (lr Y 0)) ?_))));obtain⟨F,B⟩:=fl I i C o r F;exact⟨⟨_,_,0,rfl,rfl,F,fun _=>⟨rfl,rfl⟩,fun h=>absurd d h⟩,B⟩
 ·refine tq 19 (.bool (dA st.1 st.2.1 != 0)) (bT) (congrArg Value.bool (bne_iff_ne.2 d)) (af (aa (bJ (ae (ah (tlr 20 (zs [0,0]) f 0 (ts e 0 (.agg ((zs [0,0])).toArray) (zs [0,0]) (zs [0,0]) ?_)))))));intro v9 Y C;refine t 5 (iI 80) (af (aa (ay (dD (aA (.tuple #[.agg ((zs [0,0])).toArray,iI 80]) (dP (T:=73) 4 5 (lr Y 0)) ?_)))));obtain⟨F,B⟩:=fl I i C o r (sW [0,0] _ _);exact⟨⟨_,_,80,rfl,rfl,F,fun h=>absurd h d,fun _=>⟨rfl,rfl⟩⟩,B⟩
theorem yj(A:ByA w bb ao n c l)(hn:n<=1000000000)(V:l.length=n) :
  Calls Tryz.prog 142 #[.slice ao n c,.func (.func 120) #[] #[]] w (gJ w jj 10 mkA (thr rnx [(0,0),(0,1),(2,2),(1,3),(0,4),(1,5),(0,6),(2,7),(2,8),(2,9)] (0,l,fun _=>(0:Int)))):=by
 refine ax (n:=22) Tryz.func142 rfl ?_
 refine ae (ah (ta 4 (zs [0,0,2,1,0,1,0,2,2,2]) 28 (pg) ?_));intro v1 g1 J h1 x;refine t 5 (iI 0) (af (aa (ae (ah (ta 6 (zs [0,0,2,1,0,1,0,2,2,2]) 28 (pg) ?_)))));intro v2 g2 K Q D;refine ta 7 (zs [0,0,2,1,0,1,0,2,2,2]) 28 (pg) ?_
 intro v3 g3 X H z;refine af (aa (ae (ah (t 9 (.slice ao n c) (tc 10 184 #[.slice ao n c] (kH (A.keep (aj (aj x D) z)) (by omega)) ?_)))));rintro _ v4 ⟨g,b',rfl,⟨L,v,u⟩,G,O⟩;refine⟨_,rfl,?_⟩;refine ta 8 [.pointer none] 270 (pg) ?_
 intro v5 g5 Z M B5;refine ts Z 0 (pg g) [pg g] [pg g] ?_
 intro v6 Y C;obtain⟨I,q,r,N,P,S,W,y,E⟩:=kK J h1 x K Q D X H z G L v u O M B5 Y C;refine af (aa (ae (ah (t 11 (.func (.func 120) #[] #[]) (t 12 (.func (.func 208) #[] #[pg g5]) (t 13 (.func (.func 209) #[] #[pg g5]) (t 14 (.func (.func 210) #[] #[pg g5]) (t 15 (.agg (hq 208 209 210 (pg g5)).toArray) (tc 16 120 #[pg g2,.agg (hq 208 209 210 (pg g5)).toArray] (oN (iR [0,0,2,1,0,1,0,2,2,2] ⟨⟨_,Tryz.func208,rfl,rfl,rfl⟩,fun _ _=>by kernel_rfl⟩ ⟨⟨_,Tryz.func209,rfl,rfl,rfl⟩,fun _ _=>by kernel_rfl⟩ ⟨⟨_,Tryz.func210,rfl,rfl,rfl⟩,fun _ _=>by kernel_rfl⟩) I (by decide) trivial) ?_)))))))));rintro _ v7 ⟨rfl,⟨I,-⟩,C⟩;refine⟨_,rfl,?_⟩;obtain⟨cs,hc,R,F⟩:=I.rc;obtain⟨i,d,o,a,m,j,k,e,b,f,rfl⟩:=Cb hc;refine af (aa (ae (ae (ah (tl 17 (pg g) I.var 0 (tc 18 191 #[pg g] (oU I.rd (kE _ hn V)) ?_))))));rintro _ v8 ⟨rfl,-,s⟩;refine⟨_,rfl,?_⟩;obtain⟨q,U,r⟩:=kF q r N P S W C R I.s1 s;generalize thr rnx [(0,0),(0,1),(2,2),(1,3),(0,4),(1,5),(0,6),(2,7),(2,8),(2,9)] (0,l,fun _=>(0:Int))=st at *;by_cases p:dA st.1 st.2.1=0
 ·refine tq 19 (.bool (dA st.1 st.2.1 != 0)) (bF) (congrArg Value.bool (bne_eq_false_iff_eq.2 p)) (af (aa (aZ (aM (aa (ae (ah (tlr 21 [i,d,o,a,m,j,k,e,b,f] U 0 (ts q 0 (.agg ([i,d,o,a,m,j,k,e,b,f]).toArray) [i,d,o,a,m,j,k,e,b,f] [i,d,o,a,m,j,k,e,b,f] ?_ (h1:=eb F hc (by decide)))))))))));intro v9 Y C;refine t 5 (iI 0) (af (aa (ay (aA (.tuple #[.agg ([i,d,o,a,m,j,k,e,b,f]).toArray,iI 0]) (dP (T:=28) 4 5 (lr Y 0)) ?_))));obtain⟨F,B⟩:=fl I s C y E F;exact⟨⟨_,_,0,rfl,rfl,F,fun _=>⟨rfl,rfl⟩,fun h=>absurd p h⟩,B⟩
 ·refine tq 19 (.bool (dA st.1 st.2.1 != 0)) (bT) (congrArg Value.bool (bne_iff_ne.2 p)) (af (aa (bJ (ae (ah (tlr 20 (zs [0,0,2,1,0,1,0,2,2,2]) r 0 (ts q 0 (.agg ((zs [0,0,2,1,0,1,0,2,2,2])).toArray) (zs [0,0,2,1,0,1,0,2,2,2]) (zs [0,0,2,1,0,1,0,2,2,2]) ?_)))))));intro v9 Y C;refine t 5 (iI 80) (af (aa (ay (dD (aA (.tuple #[.agg ((zs [0,0,2,1,0,1,0,2,2,2])).toArray,iI 80]) (dP (T:=28) 4 5 (lr Y 0)) ?_)))));obtain⟨F,B⟩:=fl I s C y E (sW [0,0,2,1,0,1,0,2,2,2] _ _);exact⟨⟨_,_,80,rfl,rfl,F,fun h=>absurd h p,fun _=>⟨rfl,rfl⟩⟩,B⟩
theorem lO(A:ByA w bb ao n c l)(hn:n<=1000000000)(M:l.length=n) :
  Calls Tryz.prog 211 #[.slice ao n c,.func (.func 122) #[] #[]] w (gJ w cX 3 mkA (thr rnx [(2,0),(0,1),(2,2)] (0,l,fun _=>(0:Int)))):=by
 refine ax (n:=22) Tryz.func211 rfl ?_
 refine ae (ah (ta 4 (zs [2,0,2]) 55 (pg) ?_));intro v1 g1 x h1 o;refine t 5 (iI 0) (af (aa (ae (ah (ta 6 (zs [2,0,2]) 55 (pg) ?_)))));intro v2 g2 y J r;refine ta 7 (zs [2,0,2]) 55 (pg) ?_
 intro v3 g3 O v q;refine af (aa (ae (ah (t 9 (.slice ao n c) (tc 10 184 #[.slice ao n c] (kH (A.keep (aj (aj o r) q)) (by omega)) ?_)))));rintro _ v4 ⟨g,V,rfl,⟨z,m,k⟩,u,G⟩;refine⟨_,rfl,?_⟩;refine ta 8 [.pointer none] 270 (pg) ?_
 intro v5 g5 P D Q;refine ts P 0 (pg g) [pg g] [pg g] ?_
 intro v6 Y C;obtain⟨I,f,i,E,H,K,N,p,s⟩:=kK x h1 o y J r O v q u z m k G D Q Y C;refine af (aa (ae (ah (t 11 (.func (.func 122) #[] #[]) (t 12 (.func (.func 261) #[] #[pg g5]) (t 13 (.func (.func 262) #[] #[pg g5]) (t 14 (.func (.func 263) #[] #[pg g5]) (t 15 (.agg (hq 261 262 263 (pg g5)).toArray) (tc 16 122 #[pg g2,.agg (hq 261 262 263 (pg g5)).toArray] (gB (iR [2,0,2] ⟨⟨_,Tryz.func261,rfl,rfl,rfl⟩,fun _ _=>by kernel_rfl⟩ ⟨⟨_,Tryz.func262,rfl,rfl,rfl⟩,fun _ _=>by kernel_rfl⟩ ⟨⟨_,Tryz.func263,rfl,rfl,rfl⟩,fun _ _=>by kernel_rfl⟩) I (by decide) trivial) ?_)))))))));rintro _ S ⟨rfl,⟨I,-⟩,C⟩;refine⟨_,rfl,?_⟩;obtain⟨cs,hc,R,F⟩:=I.rc;obtain⟨b,a,d,rfl⟩:=ls3 hc;refine af (aa (ae (ae (ah (tl 17 (pg g) I.var 0 (tc 18 191 #[pg g] (oU I.rd (kE _ hn M)) ?_))))));rintro _ U ⟨rfl,-,j⟩;refine⟨_,rfl,?_⟩;obtain⟨f,L,i⟩:=kF f i E H K N C R I.s1 j;generalize thr rnx [(2,0),(0,1),(2,2)] (0,l,fun _=>(0:Int))=st at *;by_cases e:dA st.1 st.2.1=0
 ·refine tq 19 (.bool (dA st.1 st.2.1 != 0)) (bF) (congrArg Value.bool (bne_eq_false_iff_eq.2 e)) (af (aa (aZ (aM (aa (ae (ah (tlr 21 [b,a,d] L 0 (ts f 0 (.agg ([b,a,d]).toArray) [b,a,d] [b,a,d] ?_ (h1:=eb F hc (by decide)))))))))));intro v9 Y C;refine t 5 (iI 0) (af (aa (ay (aA (.tuple #[.agg ([b,a,d]).toArray,iI 0]) (dP (T:=55) 4 5 (lr Y 0)) ?_))));obtain⟨F,B⟩:=fl I j C p s F;exact⟨⟨_,_,0,rfl,rfl,F,fun _=>⟨rfl,rfl⟩,fun h=>absurd e h⟩,B⟩
 ·refine tq 19 (.bool (dA st.1 st.2.1 != 0)) (bT) (congrArg Value.bool (bne_iff_ne.2 e)) (af (aa (bJ (ae (ah (tlr 20 (zs [2,0,2]) i 0 (ts f 0 (.agg ((zs [2,0,2])).toArray) (zs [2,0,2]) (zs [2,0,2]) ?_)))))));intro v9 Y C;refine t 5 (iI 80) (af (aa (ay (dD (aA (.tuple #[.agg ((zs [2,0,2])).toArray,iI 80]) (dP (T:=55) 4 5 (lr Y 0)) ?_)))));obtain⟨F,B⟩:=fl I j C p s (sW [2,0,2] _ _);exact⟨⟨_,_,80,rfl,rfl,F,fun h=>absurd h e,fun _=>⟨rfl,rfl⟩⟩,B⟩
theorem qh(A:ByA w bb ao n c l)(hn:n<=1000000000)(L:l.length=n) :
  Calls Tryz.prog 239 #[.slice ao n c,.func (.func 240) #[] #[]] w (gJ w ep 2 mkA (thr rnx [(2,0),(0,1)] (0,l,fun _=>(0:Int)))):=by
 refine ax (n:=22) Tryz.func239 rfl ?_
 refine ae (ah (ta 4 (zs [2,0]) 186 (pg) ?_));intro v1 g1 v h1 m;refine t 5 (iI 0) (af (aa (ae (ah (ta 6 (zs [2,0]) 186 (pg) ?_)))));intro v2 g2 x H q;refine ta 7 (zs [2,0]) 186 (pg) ?_
 intro v3 g3 N u p;refine af (aa (ae (ah (t 9 (.slice ao n c) (tc 10 184 #[.slice ao n c] (kH (A.keep (aj (aj m q) p)) (by omega)) ?_)))));rintro _ v4 ⟨g,U,rfl,⟨y,k,j⟩,s,E⟩;refine⟨_,rfl,?_⟩;refine ta 8 [.pointer none] 270 (pg) ?_
 intro v5 g5 O z P;refine ts O 0 (pg g) [pg g] [pg g] ?_
 intro v6 Y C;obtain⟨I,e,f,D,G,J,M,o,r⟩:=kK v h1 m x H q N u p s y k j E z P Y C;refine af (aa (ae (ah (t 11 (.func (.func 240) #[] #[]) (t 12 (.func (.func 281) #[] #[pg g5]) (t 13 (.func (.func 282) #[] #[pg g5]) (t 14 (.func (.func 283) #[] #[pg g5]) (t 15 (.agg (hq 281 282 283 (pg g5)).toArray) (tc 16 240 #[pg g2,.agg (hq 281 282 283 (pg g5)).toArray] (je (iR [2,0] ⟨⟨_,Tryz.func281,rfl,rfl,rfl⟩,fun _ _=>by kernel_rfl⟩ ⟨⟨_,Tryz.func282,rfl,rfl,rfl⟩,fun _ _=>by kernel_rfl⟩ ⟨⟨_,Tryz.func283,rfl,rfl,rfl⟩,fun _ _=>by kernel_rfl⟩) I (by decide) trivial) ?_)))))))));rintro _ Q ⟨rfl,⟨I,-⟩,C⟩;refine⟨_,rfl,?_⟩;obtain⟨cs,hc,R,F⟩:=I.rc;obtain⟨b,a,rfl⟩:=ls2 hc;refine af (aa (ae (ae (ah (tl 17 (pg g) I.var 0 (tc 18 191 #[pg g] (oU I.rd (kE _ hn L)) ?_))))));rintro _ S ⟨rfl,-,i⟩;refine⟨_,rfl,?_⟩;obtain⟨e,K,f⟩:=kF e f D G J M C R I.s1 i;generalize thr rnx [(2,0),(0,1)] (0,l,fun _=>(0:Int))=st at *;by_cases d:dA st.1 st.2.1=0
 ·refine tq 19 (.bool (dA st.1 st.2.1 != 0)) (bF) (congrArg Value.bool (bne_eq_false_iff_eq.2 d)) (af (aa (aZ (aM (aa (ae (ah (tlr 21 [b,a] K 0 (ts e 0 (.agg ([b,a]).toArray) [b,a] [b,a] ?_ (h1:=eb F hc (by decide)))))))))));intro v9 Y C;refine t 5 (iI 0) (af (aa (ay (aA (.tuple #[.agg ([b,a]).toArray,iI 0]) (dP (T:=186) 4 5 (lr Y 0)) ?_))));obtain⟨F,B⟩:=fl I i C o r F;exact⟨⟨_,_,0,rfl,rfl,F,fun _=>⟨rfl,rfl⟩,fun h=>absurd d h⟩,B⟩
 ·refine tq 19 (.bool (dA st.1 st.2.1 != 0)) (bT) (congrArg Value.bool (bne_iff_ne.2 d)) (af (aa (bJ (ae (ah (tlr 20 (zs [2,0]) f 0 (ts e 0 (.agg ((zs [2,0])).toArray) (zs [2,0]) (zs [2,0]) ?_)))))));intro v9 Y C;refine t 5 (iI 80) (af (aa (ay (dD (aA (.tuple #[.agg ((zs [2,0])).toArray,iI 80]) (dP (T:=186) 4 5 (lr Y 0)) ?_)))));obtain⟨F,B⟩:=fl I i C o r (sW [2,0] _ _);exact⟨⟨_,_,80,rfl,rfl,F,fun h=>absurd h d,fun _=>⟨rfl,rfl⟩⟩,B⟩
end
section
variable {w:World}{x0 x1 x2 x4 x6 x7 x8 x9:Int}{bb n c n0 c0 n2 c2:Nat}{ao a0 a2 a7 a8 a9:Option Addr}{l:List Int}
theorem oA{x3:Int}{x5:Int} :
  Calls Tryz.prog 16 #[.agg #[.int .u64 x0,.int .u64 x1,.int .u64 x2,.int .u64 x3,.int .u64 x4,.int .u64 x5,.int .u64 x6,.int .u64 x7,.int .u64 x8,.int .u64 x9]] w fun e w'=>∃ b n,e=.returned (.slice (some ⟨b,0,none⟩) n n)/\n=(thr (pnx (fun o=>([x0,x1,x2,x3,x4,x5,x6,x7,x8,x9]:List Int).getD o 0)) [(0,0),(0,1),(0,2),(0,3),(0,4),(0,5),(0,6),(0,7),(0,8),(0,9)] []).length/\Box w' b ((thr (pnx (fun o=>([x0,x1,x2,x3,x4,x5,x6,x7,x8,x9]:List Int).getD o 0)) [(0,0),(0,1),(0,2),(0,3),(0,4),(0,5),(0,6),(0,7),(0,8),(0,9)] []).map (Value.int .u8)) 5/\w.heap.size<=b/\Below w.heap.size w w':=by
 refine ax (n:=5) Tryz.func16 rfl ?_
 refine ae (ah (ta 1 [iU x0,iU x1,iU x2,iU x3,iU x4,iU x5,iU x6,iU x7,iU x8,iU x9] 50 (pg) ?_));intro v1 g1 c q1 a;refine t 2 (.slice none 0 0) (af (aa (ae (ah (tlr 3 [iU x0,iU x1,iU x2,iU x3,iU x4,iU x5,iU x6,iU x7,iU x8,iU x9] c 0 (tc 4 51 #[.agg #[iU x0,iU x1,iU x2,iU x3,iU x4,iU x5,iU x6,iU x7,iU x8,iU x9],.func (.func 52) #[] #[]] (tK) ?_))))));rintro _ v2 ⟨b,n,rfl,hn,X,hb,d⟩;refine⟨_,rfl,?_⟩;refine t 2 (.slice (some ⟨b,0,none⟩) n n) (af (aa (ay (aA (.slice (some ⟨b,0,none⟩) n n) (rs1 2) ?_))));exact⟨b,n,rfl,hn,X,Nat.le_trans a.size hb,aj a d⟩
theorem uA(A:ByA w bb ao n c l)(hn:n<=1000000000)(v:l.length=n) :
  Calls Tryz.prog 67 #[.slice ao n c] w (gJ w eM 10 mkA (thr rnx [(0,0),(0,1),(0,2),(0,3),(0,4),(0,5),(0,6),(0,7),(0,8),(0,9)] (0,l,fun _=>(0:Int)))):=by
 refine ax (n:=8) Tryz.func67 rfl ?_
 refine ae (ah (ta 2 (zs [0,0,0,0,0,0,0,0,0,0]) 50 (pg) ?_));intro v1 g1 q q1 o;refine t 3 (iI 0) (af (aa (ae (ah (t 4 (.slice ao n c) (tc 5 123 #[.slice ao n c,.func (.func 52) #[] #[]] (rK (A.keep o) hn v) ?_))))));rintro _ v2 ⟨⟨cs,xs,r,rfl,hc,F,x,u⟩,s⟩;refine⟨_,rfl,?_⟩;obtain⟨g,h,m,b,k,i,j,a,d,f,rfl⟩:=Cb hc;have l1:=q.lt;refine t 6 (.agg ([g,h,m,b,k,i,j,a,d,f]).toArray) (t 7 (iI r) (ts (q.keep s) 0 (.agg ([g,h,m,b,k,i,j,a,d,f]).toArray) [g,h,m,b,k,i,j,a,d,f] [g,h,m,b,k,i,j,a,d,f] ?_ (h1:=eb (ks:=[0,0,0,0,0,0,0,0,0,0]) F hc (by decide))));intro v3 Y C;refine t 3 (iI r) (af (aa (ay (aA (.tuple #[.agg ([g,h,m,b,k,i,j,a,d,f]).toArray,iI r]) (dP (T:=50) 2 3 (lr Y 0)) ?_))));exact⟨⟨_,xs,r,rfl,rfl,(F.off C.size (fun y hy p=>C.same y p (fun e=>by have z:y=g1:=e;omega))).low o.size,x,u⟩,aL (aj o s) C q1⟩
theorem sq(c:aI w a0 n0 c0 x0)(m0:n0<=1000000) :
  Calls Tryz.prog 153 #[.agg #[.slice a0 n0 c0]] w fun e w'=>∃ b n,e=.returned (.slice (some ⟨b,0,none⟩) n n)/\n=(thr (pnx (fun o=>([x0]:List Int).getD o 0)) [(2,0)] []).length/\Box w' b ((thr (pnx (fun o=>([x0]:List Int).getD o 0)) [(2,0)] []).map (Value.int .u8)) 5/\w.heap.size<=b/\Below w.heap.size w w':=by
 refine ax (n:=5) Tryz.func153 rfl ?_
 refine ae (ah (ta 1 [.slice a0 n0 c0] 26 (pg) ?_));intro v1 g1 d q1 a;refine t 2 (.slice none 0 0) (af (aa (ae (ah (tlr 3 [.slice a0 n0 c0] d 0 (tc 4 222 #[.agg #[.slice a0 n0 c0],.func (.func 141) #[] #[]] (Bf (c.keep a) m0) ?_))))));rintro _ v2 ⟨b,n,rfl,hn,X,hb,f⟩;refine⟨_,rfl,?_⟩;refine t 2 (.slice (some ⟨b,0,none⟩) n n) (af (aa (ay (aA (.slice (some ⟨b,0,none⟩) n n) (rs1 2) ?_))));exact⟨b,n,rfl,hn,X,Nat.le_trans a.size hb,aj a f⟩
theorem zU(A:ByA w bb ao n c l)(hn:n<=1000000000)(i:l.length=n) :
  Calls Tryz.prog 76 #[.slice ao n c] w (gJ w gV 1 mkA (thr rnx [(2,0)] (0,l,fun _=>(0:Int)))):=by
 refine ax (n:=8) Tryz.func76 rfl ?_
 refine ae (ah (ta 2 (zs [2]) 26 (pg) ?_));intro v1 g1 f q1 b;refine t 3 (iI 0) (af (aa (ae (ah (t 4 (.slice ao n c) (tc 5 140 #[.slice ao n c,.func (.func 141) #[] #[]] (wZ (A.keep b) hn i) ?_))))));rintro _ v2 ⟨⟨cs,xs,r,rfl,hc,F,j,h⟩,g⟩;refine⟨_,rfl,?_⟩;obtain⟨a,rfl⟩:=ls1 hc;have l1:=f.lt;refine t 6 (.agg ([a]).toArray) (t 7 (iI r) (ts (f.keep g) 0 (.agg ([a]).toArray) [a] [a] ?_ (h1:=eb (ks:=[2]) F hc (by decide))));intro v3 Y C;refine t 3 (iI r) (af (aa (ay (aA (.tuple #[.agg ([a]).toArray,iI r]) (dP (T:=26) 2 3 (lr Y 0)) ?_))));exact⟨⟨_,xs,r,rfl,rfl,(F.off C.size (fun y hy d=>C.same y d (fun e=>by have k:y=g1:=e;omega))).low b.size,j,h⟩,aL (aj b g) C q1⟩
theorem mi :
  Calls Tryz.prog 113 #[.agg #[.int .u64 x0,.int .u64 x1]] w fun e w'=>∃ b n,e=.returned (.slice (some ⟨b,0,none⟩) n n)/\n=(thr (pnx (fun o=>([x0,x1]:List Int).getD o 0)) [(0,0),(0,1)] []).length/\Box w' b ((thr (pnx (fun o=>([x0,x1]:List Int).getD o 0)) [(0,0),(0,1)] []).map (Value.int .u8)) 5/\w.heap.size<=b/\Below w.heap.size w w':=by
 refine ax (n:=5) Tryz.func113 rfl ?_
 refine ae (ah (ta 1 [iU x0,iU x1] 73 (pg) ?_));intro v1 g1 c q1 a;refine t 2 (.slice none 0 0) (af (aa (ae (ah (tlr 3 [iU x0,iU x1] c 0 (tc 4 171 #[.agg #[iU x0,iU x1],.func (.func 152) #[] #[]] (sf) ?_))))));rintro _ v2 ⟨b,n,rfl,hn,X,hb,d⟩;refine⟨_,rfl,?_⟩;refine t 2 (.slice (some ⟨b,0,none⟩) n n) (af (aa (ay (aA (.slice (some ⟨b,0,none⟩) n n) (rs1 2) ?_))));exact⟨b,n,rfl,hn,X,Nat.le_trans a.size hb,aj a d⟩
theorem qY(A:ByA w bb ao n c l)(hn:n<=1000000000)(j:l.length=n) :
  Calls Tryz.prog 84 #[.slice ao n c] w (gJ w eh 2 mkA (thr rnx [(0,0),(0,1)] (0,l,fun _=>(0:Int)))):=by
 refine ax (n:=8) Tryz.func84 rfl ?_
 refine ae (ah (ta 2 (zs [0,0]) 73 (pg) ?_));intro v1 g1 g q1 d;refine t 3 (iI 0) (af (aa (ae (ah (t 4 (.slice ao n c) (tc 5 151 #[.slice ao n c,.func (.func 152) #[] #[]] (pC (A.keep d) hn j) ?_))))));rintro _ v2 ⟨⟨cs,xs,r,rfl,hc,F,k,i⟩,h⟩;refine⟨_,rfl,?_⟩;obtain⟨a,b,rfl⟩:=ls2 hc;have l1:=g.lt;refine t 6 (.agg ([a,b]).toArray) (t 7 (iI r) (ts (g.keep h) 0 (.agg ([a,b]).toArray) [a,b] [a,b] ?_ (h1:=eb (ks:=[0,0]) F hc (by decide))));intro v3 Y C;refine t 3 (iI r) (af (aa (ay (aA (.tuple #[.agg ([a,b]).toArray,iI r]) (dP (T:=73) 2 3 (lr Y 0)) ?_))));exact⟨⟨_,xs,r,rfl,rfl,(F.off C.size (fun y hy f=>C.same y f (fun e=>by have m:y=g1:=e;omega))).low d.size,k,i⟩,aL (aj d h) C q1⟩
theorem sJ{b3:Bool}{b5:Bool}{n7 c7:Nat}{n8 c8:Nat}{n9 c9:Nat}(c:aI w a2 n2 c2 x2)(m2:n2<=1000000)(h:aI w a7 n7 c7 x7)(m7:n7<=1000000)(d:aI w a8 n8 c8 x8)(m8:n8<=1000000)(h9:aI w a9 n9 c9 x9)(m9:n9<=1000000) :
  Calls Tryz.prog 62 #[.agg #[.int .u64 x0,.int .u64 x1,.slice a2 n2 c2,.bool b3,.int .u64 x4,.bool b5,.int .u64 x6,.slice a7 n7 c7,.slice a8 n8 c8,.slice a9 n9 c9]] w fun e w'=>∃ b n,e=.returned (.slice (some ⟨b,0,none⟩) n n)/\n=(thr (pnx (fun o=>([x0,x1,x2,(if b3 then 1 else 0),x4,(if b5 then 1 else 0),x6,x7,x8,x9]:List Int).getD o 0)) [(0,0),(0,1),(2,2),(1,3),(0,4),(1,5),(0,6),(2,7),(2,8),(2,9)] []).length/\Box w' b ((thr (pnx (fun o=>([x0,x1,x2,(if b3 then 1 else 0),x4,(if b5 then 1 else 0),x6,x7,x8,x9]:List Int).getD o 0)) [(0,0),(0,1),(2,2),(1,3),(0,4),(1,5),(0,6),(2,7),(2,8),(2,9)] []).map (Value.int .u8)) 5/\w.heap.size<=b/\Below w.heap.size w w':=by
 refine ax (n:=5) Tryz.func62 rfl ?_
 refine ae (ah (ta 1 [iU x0,iU x1,.slice a2 n2 c2,.bool b3,iU x4,.bool b5,iU x6,.slice a7 n7 c7,.slice a8 n8 c8,.slice a9 n9 c9] 28 (pg) ?_));intro v1 g1 f q1 a;refine t 2 (.slice none 0 0) (af (aa (ae (ah (tlr 3 [iU x0,iU x1,.slice a2 n2 c2,.bool b3,iU x4,.bool b5,iU x6,.slice a7 n7 c7,.slice a8 n8 c8,.slice a9 n9 c9] f 0 (tc 4 119 #[.agg #[iU x0,iU x1,.slice a2 n2 c2,.bool b3,iU x4,.bool b5,iU x6,.slice a7 n7 c7,.slice a8 n8 c8,.slice a9 n9 c9],.func (.func 120) #[] #[]] (CA (c.keep a) m2 (h.keep a) m7 (d.keep a) m8 (h9.keep a) m9) ?_))))));rintro _ v2 ⟨b,n,rfl,hn,X,hb,g⟩;refine⟨_,rfl,?_⟩;refine t 2 (.slice (some ⟨b,0,none⟩) n n) (af (aa (ay (aA (.slice (some ⟨b,0,none⟩) n n) (rs1 2) ?_))));exact⟨b,n,rfl,hn,X,Nat.le_trans a.size hb,aj a g⟩
theorem DH(A:ByA w bb ao n c l)(hn:n<=1000000000)(v:l.length=n) :
  Calls Tryz.prog 78 #[.slice ao n c] w (gJ w jj 10 mkA (thr rnx [(0,0),(0,1),(2,2),(1,3),(0,4),(1,5),(0,6),(2,7),(2,8),(2,9)] (0,l,fun _=>(0:Int)))):=by
 refine ax (n:=8) Tryz.func78 rfl ?_
 refine ae (ah (ta 2 (zs [0,0,2,1,0,1,0,2,2,2]) 28 (pg) ?_));intro v1 g1 q q1 o;refine t 3 (iI 0) (af (aa (ae (ah (t 4 (.slice ao n c) (tc 5 142 #[.slice ao n c,.func (.func 120) #[] #[]] (yj (A.keep o) hn v) ?_))))));rintro _ v2 ⟨⟨cs,xs,r,rfl,hc,F,x,u⟩,s⟩;refine⟨_,rfl,?_⟩;obtain⟨g,h,m,b,k,i,j,a,d,f,rfl⟩:=Cb hc;have l1:=q.lt;refine t 6 (.agg ([g,h,m,b,k,i,j,a,d,f]).toArray) (t 7 (iI r) (ts (q.keep s) 0 (.agg ([g,h,m,b,k,i,j,a,d,f]).toArray) [g,h,m,b,k,i,j,a,d,f] [g,h,m,b,k,i,j,a,d,f] ?_ (h1:=eb (ks:=[0,0,2,1,0,1,0,2,2,2]) F hc (by decide))));intro v3 Y C;refine t 3 (iI r) (af (aa (ay (aA (.tuple #[.agg ([g,h,m,b,k,i,j,a,d,f]).toArray,iI r]) (dP (T:=28) 2 3 (lr Y 0)) ?_))));exact⟨⟨_,xs,r,rfl,rfl,(F.off C.size (fun y hy p=>C.same y p (fun e=>by have z:y=g1:=e;omega))).low o.size,x,u⟩,aL (aj o s) C q1⟩
theorem j5(d:aI w a0 n0 c0 x0)(m0:n0<=1000000)(c:aI w a2 n2 c2 x2)(m2:n2<=1000000) :
  Calls Tryz.prog 63 #[.agg #[.slice a0 n0 c0,.int .u64 x1,.slice a2 n2 c2]] w fun e w'=>∃ b n,e=.returned (.slice (some ⟨b,0,none⟩) n n)/\n=(thr (pnx (fun o=>([x0,x1,x2]:List Int).getD o 0)) [(2,0),(0,1),(2,2)] []).length/\Box w' b ((thr (pnx (fun o=>([x0,x1,x2]:List Int).getD o 0)) [(2,0),(0,1),(2,2)] []).map (Value.int .u8)) 5/\w.heap.size<=b/\Below w.heap.size w w':=by
 refine ax (n:=5) Tryz.func63 rfl ?_
 refine ae (ah (ta 1 [.slice a0 n0 c0,iU x1,.slice a2 n2 c2] 55 (pg) ?_));intro v1 g1 f q1 a;refine t 2 (.slice none 0 0) (af (aa (ae (ah (tlr 3 [.slice a0 n0 c0,iU x1,.slice a2 n2 c2] f 0 (tc 4 121 #[.agg #[.slice a0 n0 c0,iU x1,.slice a2 n2 c2],.func (.func 122) #[] #[]] (my (d.keep a) m0 (c.keep a) m2) ?_))))));rintro _ v2 ⟨b,n,rfl,hn,X,hb,g⟩;refine⟨_,rfl,?_⟩;refine t 2 (.slice (some ⟨b,0,none⟩) n n) (af (aa (ay (aA (.slice (some ⟨b,0,none⟩) n n) (rs1 2) ?_))));exact⟨b,n,rfl,hn,X,Nat.le_trans a.size hb,aj a g⟩
theorem mI(A:ByA w bb ao n c l)(hn:n<=1000000000)(k:l.length=n) :
  Calls Tryz.prog 144 #[.slice ao n c] w (gJ w cX 3 mkA (thr rnx [(2,0),(0,1),(2,2)] (0,l,fun _=>(0:Int)))):=by
 refine ax (n:=8) Tryz.func144 rfl ?_
 refine ae (ah (ta 2 (zs [2,0,2]) 55 (pg) ?_));intro v1 g1 h q1 f;refine t 3 (iI 0) (af (aa (ae (ah (t 4 (.slice ao n c) (tc 5 211 #[.slice ao n c,.func (.func 122) #[] #[]] (lO (A.keep f) hn k) ?_))))));rintro _ v2 ⟨⟨cs,xs,r,rfl,hc,F,m,j⟩,i⟩;refine⟨_,rfl,?_⟩;obtain⟨a,b,d,rfl⟩:=ls3 hc;have l1:=h.lt;refine t 6 (.agg ([a,b,d]).toArray) (t 7 (iI r) (ts (h.keep i) 0 (.agg ([a,b,d]).toArray) [a,b,d] [a,b,d] ?_ (h1:=eb (ks:=[2,0,2]) F hc (by decide))));intro v3 Y C;refine t 3 (iI r) (af (aa (ay (aA (.tuple #[.agg ([a,b,d]).toArray,iI r]) (dP (T:=55) 2 3 (lr Y 0)) ?_))));exact⟨⟨_,xs,r,rfl,rfl,(F.off C.size (fun y hy g=>C.same y g (fun e=>by have o:y=g1:=e;omega))).low f.size,m,j⟩,aL (aj f i) C q1⟩
theorem nK(c:aI w a0 n0 c0 x0)(m0:n0<=1000000) :
  Calls Tryz.prog 174 #[.agg #[.slice a0 n0 c0,.int .u64 x1]] w fun e w'=>∃ b n,e=.returned (.slice (some ⟨b,0,none⟩) n n)/\n=(thr (pnx (fun o=>([x0,x1]:List Int).getD o 0)) [(2,0),(0,1)] []).length/\Box w' b ((thr (pnx (fun o=>([x0,x1]:List Int).getD o 0)) [(2,0),(0,1)] []).map (Value.int .u8)) 5/\w.heap.size<=b/\Below w.heap.size w w':=by
 refine ax (n:=5) Tryz.func174 rfl ?_
 refine ae (ah (ta 1 [.slice a0 n0 c0,iU x1] 186 (pg) ?_));intro v1 g1 d q1 a;refine t 2 (.slice none 0 0) (af (aa (ae (ah (tlr 3 [.slice a0 n0 c0,iU x1] d 0 (tc 4 241 #[.agg #[.slice a0 n0 c0,iU x1],.func (.func 240) #[] #[]] (so (c.keep a) m0) ?_))))));rintro _ v2 ⟨b,n,rfl,hn,X,hb,f⟩;refine⟨_,rfl,?_⟩;refine t 2 (.slice (some ⟨b,0,none⟩) n n) (af (aa (ay (aA (.slice (some ⟨b,0,none⟩) n n) (rs1 2) ?_))));exact⟨b,n,rfl,hn,X,Nat.le_trans a.size hb,aj a f⟩
theorem rL(A:ByA w bb ao n c l)(hn:n<=1000000000)(j:l.length=n) :
  Calls Tryz.prog 173 #[.slice ao n c] w (gJ w ep 2 mkA (thr rnx [(2,0),(0,1)] (0,l,fun _=>(0:Int)))):=by
 refine ax (n:=8) Tryz.func173 rfl ?_
 refine ae (ah (ta 2 (zs [2,0]) 186 (pg) ?_));intro v1 g1 g q1 d;refine t 3 (iI 0) (af (aa (ae (ah (t 4 (.slice ao n c) (tc 5 239 #[.slice ao n c,.func (.func 240) #[] #[]] (qh (A.keep d) hn j) ?_))))));rintro _ v2 ⟨⟨cs,xs,r,rfl,hc,F,k,i⟩,h⟩;refine⟨_,rfl,?_⟩;obtain⟨a,b,rfl⟩:=ls2 hc;have l1:=g.lt;refine t 6 (.agg ([a,b]).toArray) (t 7 (iI r) (ts (g.keep h) 0 (.agg ([a,b]).toArray) [a,b] [a,b] ?_ (h1:=eb (ks:=[2,0]) F hc (by decide))));intro v3 Y C;refine t 3 (iI r) (af (aa (ay (aA (.tuple #[.agg ([a,b]).toArray,iI r]) (dP (T:=186) 2 3 (lr Y 0)) ?_))));exact⟨⟨_,xs,r,rfl,rfl,(F.off C.size (fun y hy f=>C.same y f (fun e=>by have m:y=g1:=e;omega))).low d.size,k,i⟩,aL (aj d h) C q1⟩
end
end Rc
end
section
open Go.RowKit Lim
structure Stp where
 what:Int
 num:Int
 na:Option Addr
 nn:Nat
 nc:Nat
 V:Int
 ba:Option Addr
 bn:Nat
 bc:Nat
 bb:Nat
 bl:List Int
 most:Int
section
variable {l L:List Int}{m:Nat}
theorem DP(h:aY l):be l.length (bL l)=l:=by
 refine mD (kM _ _) h (bC _ _) ?_
 have hb:=bH h;rw[xR _ hb.1,Int.emod_eq_of_lt hb.1 hb.2]
theorem iE(h:aY l)(hm:m<=l.length):be m (bL (l.take m))=l.take m:=by
 have:=DP (l:=l.take m) (fun x hx=>h x (List.mem_of_mem_take hx));rwa [List.length_take,Nat.min_eq_left hm] at this
def One(err':Int)(L L':List Int)(laid:List Int->Prop):Prop:=(err'≠0/\L'=L)\/(err'=0/\∃ k,k<=L.length/\laid (L.take k)/\L'=L.drop k)
theorem Cn(h:aY L)(m:Nat):One (rdE (ez m L) 0) L (rdL (ez m L) 0 L) (fun t=>be m (rdV 0 (ez m L) 0)=t):=by
 by_cases hm:m<=L.length
 ·have e:ez m L=.inr (bL (L.take m),m):=by unfold ez; rw[if_pos hm]
  rw[e];exact .inr ⟨rfl,m,hm,iE h hm,rfl⟩
 ·have e:ez m L=.inl 40:=by unfold ez; rw[if_neg hm]
  rw[e];exact .inl ⟨by decide,rfl⟩
theorem Ba(h:aY L):One (rdE (bP L) 0) L (rdL (bP L) 0 L) (fun t=>be 1 (if rdV false (bP L) 0 then 1 else 0)=t):=by
 by_cases hm:1<=L.length
 ·by_cases hx:1 < bL (L.take 1)
  ·have e:bP L=.inl 41:=by unfold bP; rw[if_pos hm,if_pos hx]
   rw[e];exact .inl ⟨by decide,rfl⟩
  ·have e:bP L=.inr (bL (L.take 1) == 1,1):=by unfold bP; rw[if_pos hm,if_neg hx]
   rw[e];refine .inr ⟨rfl,1,hm,?_,rfl⟩;have a:=iE h hm;have c:=(bH (l:=L.take 1) (fun x hx=>h x (List.mem_of_mem_take hx))).1
   show be 1 (if (bL (L.take 1) == 1)=true then 1 else 0)=L.take 1
   generalize L.take 1=M at *;by_cases b:bL M=1
   ·rw[b] at a ⊢;exact a
   ·rw[show bL M=0 by omega] at a ⊢;exact a
 ·have e:bP L=.inl 40:=by unfold bP; rw[if_neg hm]
  rw[e];exact .inl ⟨by decide,rfl⟩
theorem rH(h:aY L):((bZ m L:Nat):Int)=bL (L.take m):=by
 unfold bZ;rw[Int.toNat_of_nonneg (bH (fun x hx=>h x (List.mem_of_mem_take hx))).1]
theorem Cq(h:aY L)(hm:m<=L.length)(hc:m+bZ m L<=L.length):kG m ((L.drop m).take (bZ m L))=L.take (m+bZ m L):=by
 unfold kG
 have e:(((L.drop m).take (bZ m L)).length:Int)=bL (L.take m):=by
  rw[List.length_take,List.length_drop,Nat.min_eq_left (by omega)];exact rH h
 rw[e,iE h hm,List.take_add]
theorem Dc(h:aY L):One (rdE (cM L) 0) L (rdL (cM L) 0 L) (fun t=>jb (rdV 0 (cM L) 0) 0=0/\∀ K,jT (rdV 0 (cM L) 0) 0 K=K ++ t):=by
 by_cases hm:1<=L.length
 ·by_cases hc:1+bZ 1 L<=L.length
  ·by_cases f:0 < bZ 1 L/\nth (L.drop 1) 0=0
   ·have e:cM L=.inl 41:=by unfold cM; rw[if_pos hm,if_pos hc,if_pos f]
    rw[e];exact .inl ⟨by decide,rfl⟩
   ·have e:cM L=.inr (bL ((L.drop 1).take (bZ 1 L)),1 + bZ 1 L):=by unfold cM; rw[if_pos hm,if_pos hc,if_neg f]
    have g:=Cq h hm hc
    have i:((bZ 1 L:Nat):Int) < 256:=by
     have:=(bH (l:=L.take 1) (fun x hx=>h x (List.mem_of_mem_take hx))).2;rw[List.length_take,Nat.min_eq_left hm] at this;rw[rH h];simpa using this
    have a:aY ((L.drop 1).take (bZ 1 L)):=fun x hx=>h x (List.mem_of_mem_drop (List.mem_of_mem_take hx))
    have hlen:((L.drop 1).take (bZ 1 L)).length=bZ 1 L:=by rw[List.length_take,List.length_drop];omega
    have j:gC (bL ((L.drop 1).take (bZ 1 L)))=(L.drop 1).take (bZ 1 L):=lN (bH a).1 ⟨a,fun d=>by
     have b:0 < bZ 1 L:=by
      rcases Nat.eq_zero_or_pos (bZ 1 L) with c | c
      ·exact absurd (by rw[c];simp) d
      ·exact c
     rw[di b]
     exact fun c=>f ⟨b,c⟩,rfl⟩
    rw[e];refine .inr ⟨rfl,_,hc,?_,rfl⟩
    show jb (bL ((L.drop 1).take (bZ 1 L))) 0=0/\∀ K,jT (bL ((L.drop 1).take (bZ 1 L))) 0 K=K ++ L.take (1+bZ 1 L)
    unfold jb jT;rw[j,if_pos (by omega)];refine⟨rfl,fun K=>?_⟩;rw[if_pos (by omega),g];rfl
  ·have e:cM L=.inl 40:=by unfold cM; rw[if_pos hm,if_neg hc]
   rw[e];exact .inl ⟨by decide,rfl⟩
 ·have e:cM L=.inl 40:=by unfold cM; rw[if_neg hm]
  rw[e];exact .inl ⟨by decide,rfl⟩
end
end
section
namespace Rc
open Go.RowKit Go.Lib Pg Lim
section
variable {l:List Int}
theorem one1(h:aY l)(k:Nat)(he:rdE (p1 k l) 0=0):mJ k (rdV 0 (p1 k l) 0) ++ rdL (p1 k l) 0 l=l/\∃ m,rdL (p1 k l) 0 l=l.drop m:=by
 match k with
 | 0 =>
  rcases Cn h 8 with⟨h1,_⟩ | ⟨_,m,h2,h3,h4⟩
  ·exact absurd he h1
  ·show be 8 (rdV 0 (ez 8 l) 0) ++ rdL (ez 8 l) 0 l=l/\∃ m,rdL (ez 8 l) 0 l=l.drop m
   rw[h3,h4];exact⟨List.take_append_drop m l,m,rfl⟩
 | 1 =>
  have a:rdE (bP l) 0=0:=by rw[<- sk];exact he
  rcases Ba h with⟨h1,_⟩ | ⟨_,m,h2,h3,h4⟩
  ·exact absurd a h1
  ·show be 1 (rdV 0 (fo l) 0) ++ rdL (fo l) 0 l=l/\∃ m,rdL (fo l) 0 l=l.drop m
   rw[rz,rD,h3,h4];exact⟨List.take_append_drop m l,m,rfl⟩
 | k + 2 =>
  rcases Dc h with⟨h1,_⟩ | ⟨_,m,h2,⟨h3,h5⟩,h4⟩
  ·exact absurd he h1
  ·show kG 1 (gC (fit (rdV 0 (cM l) 0))) ++ rdL (cM l) 0 l=l/\∃ m,rdL (cM l) 0 l=l.drop m
   have hf:(gC (rdV 0 (cM l) 0)).length < 256:=by
    unfold jb at h3;split at h3
    ·assumption
    ·exact absurd h3 (by decide)
   have e:=h5 [];unfold jT wrote at e;rw[if_pos hf,if_pos rfl] at e;unfold fit;rw[if_pos hf];simp only[List.nil_append] at e;rw[e,h4];exact⟨List.take_append_drop m l,m,rfl⟩
theorem gq{σ:Type}(nx:Nat->Nat->σ->σ)(p:Nat × Nat)(ks:List (Nat × Nat))(s:σ):thr nx (p :: ks) s=thr nx ks (nx p.1 p.2 s):=rfl
theorem Dk(ks:List (Nat × Nat)):∀ s:RSt,s.1≠0->(thr rnx ks s).1=s.1:=by
 induction ks with
 | nil=>intro s _;rfl
 | cons p ks ih =>
  intro s a
  have e:(rnx p.1 p.2 s).1=s.1:=pN a;rw[gq,ih _ (by rw[e];exact a),e]
theorem wH(ks:List (Nat × Nat))(o:Nat):∀ s:RSt,o ∉ ks.map Prod.snd->(thr rnx ks s).2.2 o=s.2.2 o:=by
 induction ks with
 | nil=>intro s _;rfl
 | cons p ks ih =>
  intro s a;rw[List.map_cons,List.mem_cons,not_or] at a;rw[gq,ih _ a.2]
  show (if o=p.2 then _ else _)=_
  rw[if_neg a.1]
theorem sl(h:aY l)(m:Nat):aY (l.drop m):=fun x hx=>h x (List.mem_of_mem_drop hx)
theorem DB(ks:List (Nat × Nat)):∀ (l:List Int) (xs:Nat->Int),aY l->(ks.map Prod.snd).Nodup->(thr rnx ks (0,l,xs)).1=0->∀ L,thr (pnx (thr rnx ks (0,l,xs)).2.2) ks L ++ (thr rnx ks (0,l,xs)).2.1=L ++ l:=by
 induction ks with
 | nil=>intro l xs _ _ _ L;rfl
 | cons p ks ih =>
  intro l xs d a he L;rw[List.map_cons,List.nodup_cons] at a;rw[gq] at he
  have e1:rdE (p1 p.1 l) 0=0:=by
   by_cases c:rdE (p1 p.1 l) 0=0
   ·exact c
   ·exact absurd ((Dk ks (rnx p.1 p.2 (0,l,xs)) c).symm.trans he) c
  obtain⟨g,m,f⟩:=one1 d p.1 e1
  have es:rnx p.1 p.2 (0,l,xs)=(0,rdL (p1 p.1 l) 0 l,fun i=>if i=p.2 then rdV 0 (p1 p.1 l) 0 else xs i):=by
   show (rdE (p1 p.1 l) 0,_,_)=_
   rw[e1]
  have e:thr rnx (p :: ks) (0,l,xs)=thr rnx ks (0,rdL (p1 p.1 l) 0 l,fun i=>if i=p.2 then rdV 0 (p1 p.1 l) 0 else xs i):=by rw[gq,es]
  rw[es] at he;rw[e]
  have b:=ih _ _ (by rw[f];exact sl d m) a.2 he;rw[gq,b]
  have ev:(thr rnx ks (0,rdL (p1 p.1 l) 0 l,fun i=>if i=p.2 then rdV 0 (p1 p.1 l) 0 else xs i)).2.2 p.2=rdV 0 (p1 p.1 l) 0:=by
   rw[wH ks p.2 _ a.1]
   show (if p.2=p.2 then _ else _)=_
   rw[if_pos rfl]
  show (L ++ mJ p.1 _) ++ _=L ++ l
  rw[ev,List.append_assoc,g]
end
end Rc
end
section
namespace Rc
open Go.RowKit Go.Lib Pg
attribute [local go_sem] Oper.semAt_some
theorem zK (k:Nat) (x:Int):aY (mJ k x):=by
 unfold mJ;split
 ·exact kM _ _
 ·exact kM _ _
 ·intro y hy;rcases List.mem_append.1 hy with h | h
  ·exact kM _ _ y h
  ·exact yO _ y h
theorem iY (xs:Nat->Int) (ks:List (Nat × Nat)):∀ L,aY L->aY (thr (pnx xs) ks L):=by
 induction ks with
 | nil=>exact fun _ h=>h
 | cons p ks ih =>
  intro L h;rw[gq];refine ih _ ?_
  intro y hy;rcases List.mem_append.1 hy with a | a
  ·exact h y a
  ·exact zK _ _ y a
end Rc
end
section
open Go.RowKit Lim
def stB (s:Stp):Option (List Int) :=
 if s.what=0 then some (be 1 (s.num % 256))
 else if s.what=1 then some (be 4 (s.num % 4294967296))
 else if s.what=2 then some (be 8 s.num)
 else if s.what=3 then some (be 1 (if s.num % 2 == 1 then 1 else 0))
 else if s.what=4\/s.what=5 then (if (gC s.V).length < 256 then some (kG 1 (gC s.V)) else none)
 else if s.what=6 then some (kG 4 s.bl)
 else some []
def stO (s:Stp) (o:Option (List Int)):Option (List Int):=o.bind fun L=>(stB s).map (L ++ ·)
def laid (ss:List Stp):Option (List Int):=ss.foldl (fun o s=>stO s o) (some [])
end
section
namespace Rc
open Go.RowKit Go.Lib Pg Lim
theorem wQ {err:Int} {l:List Int} (h:dA err l=0):err=0/\l=[]:=by
 unfold dA at h;split at h
 ·rename_i he;split at h
  ·rename_i a;exact⟨he,List.eq_nil_of_length_eq_zero a⟩
  ·exact absurd h (by decide)
 ·exact absurd h (by assumption)
theorem ones (ks:List (Nat × Nat)) (l:List Int) (ho:aY l) (a:(ks.map Prod.snd).Nodup) (h:dA (thr rnx ks (0,l,fun _=>0)).1 (thr rnx ks (0,l,fun _=>0)).2.1=0):thr (pnx (thr rnx ks (0,l,fun _=>0)).2.2) ks []=l:=by
 obtain⟨c,b⟩:=wQ h;have:=DB ks l (fun _=>0) ho a c [];rw[b,List.append_nil,List.nil_append] at this;exact this
end Rc
end
end Go.Proofs.YtgdohcdlkonhiaaGreatDoor
