import Derived.Deep.WholeRow
import Derived.Deep.LoopGhost
import Derived.Test.YtpoifdokmjhclaaGreatJgj
import Derived.Lib.SlBytesConst
set_option maxRecDepth 100000
set_option maxHeartbeats 8000000
namespace Go.Proofs.YtpoifdokmjhclaaGreat
section
namespace Gl
open Go.RowKit Go.Lib Pg
section
variable {n:Nat}{a:Act}{v:Value}{o:Oper}{x:Operand}{d:Option Nat}{ops:Array Oper}
abbrev Fr:=List (Nat × Value)
def lk:Fr->Nat->Option Value
 | [],_=>none
 | p :: r,k=>bif Nat.beq p.1 k then some p.2 else lk r k
def evL(l:Fr):Operand->Value
 | .tmp k=>(lk l k).getD undef
 | .const v=>v
 | .global g=>.pointer (some ⟨g,0,none⟩)
 | .func f=>.func (.func f) #[] #[]
def kn(l:Fr):Operand->Bool
 | .tmp k=>(lk l k).isSome
 | _=>true
structure Rd(n:Nat)(ds:List Deferred)(l:Fr)(a:Act):Prop where
 size:a.tmps.size=n
 dfs:a.defers=ds
 get:∀ k v,lk l k=some v->a.tmps[k]?=some v
theorem Rd.ev{ds:List Deferred}{l:Fr}(h:Rd n ds l a)(x:Operand)(hk:kn l x=true):a.eval x=evL l x:=by
 cases x with
 | tmp k =>
  cases hl:lk l k with
  | none=>simp[kn,hl] at hk
  | some v=>simp[Act.eval,evL,hl,h.get k v hl]
 | const v=>rfl
 | global g=>rfl
 | func f=>rfl
def pt(l:Fr):Option Nat->Value->Fr
 | some d,v=>(d,v) :: l
 | none,_=>l
theorem Rd.put{ds:List Deferred}{l:Fr}(h:Rd n ds l a)(d:Option Nat)(v:Value)(b:∀ k,d=some k->k < n):Rd n ds (pt l d v) (a.put d v):=by
 cases d with
 | none=>exact h
 | some d =>
  have b:=b d rfl;refine⟨by simpa[Act.put] using h.size,h.dfs,fun k u hu=>?_⟩;simp only[pt,lk] at hu;by_cases e:d=k
  ·subst e;simp at hu;subst hu;simp[Act.put,h.size,b]
  ·have c:Nat.beq d k=false:=by
    cases hb:Nat.beq d k with
    | false=>rfl
    | true=>exact absurd (Nat.eq_of_beq_eq_true hb) e
   rw[c] at hu;simp only[Act.put,Array.getElem?_setIfInBounds,if_neg e];exact h.get k u hu
def sub(l' l:Fr):Prop:=∀ k v,lk l' k=some v->lk l k=some v
theorem lk_mem{l:Fr}{k:Nat}(h:lk l k=some v):(k,v)∈l:=by
 induction l with
 | nil=>cases h
 | cons p r ih =>
  simp only[lk] at h
  cases hb:Nat.beq p.1 k with
  | true =>
   rw[hb] at h;have:=Nat.eq_of_beq_eq_true hb;simp at h;subst h;subst this;exact List.mem_cons_self
  | false=>rw[hb] at h;exact List.mem_cons_of_mem _ (ih h)
theorem mj{l' l:Fr}(h:l'.map (fun p=>lk l p.1)=l'.map (fun p=>some p.2)):sub l' l:=fun k v hk=>by
 have hm:=lk_mem hk;have:=List.map_inj_left.1 h (k,v) hm;exact this
theorem Rd.sub{ds:List Deferred}{l l':Fr}(h:Rd n ds l a)(hs:sub l' l):Rd n ds l' a:=⟨h.size,h.dfs,fun k v hk=>h.get k v (hs k v hk)⟩
def sv:Op->List Operand
 | .call c=>(match c.callee with | .value f=>[f] | .invoke r _=>[r] | .builtin _=>[]) ++ c.args.toList
 | .build _ ps=>ps.toList.map (·.2)
 | .buildSlice _ _ ps=>ps.toList.map (·.2)
 | o=>o.operands.toList
theorem xL{o:Op}(h:x ∈ o.operands):x ∈ sv o:=by
  cases o <;> first
    | (simpa[sv] using h)
    | (simp only[Op.operands] at h;simpa[sv] using h)
    | (rename_i c
       simp only[Op.operands,Call.operands] at h;unfold sv
       cases hc:c.callee <;> simp[hc] at h ⊢ <;> exact h)
def notSel:Op->Bool
 | .select _ _=>false
 | _=>true
def inB(n:Nat):Option Nat->Bool
 | none=>true
 | some d=>Nat.blt d n
def gd(ops:Array Oper)(l:Fr)(o:Oper):Option Bool :=
  match o.guard with
  | none=>some true
  | some (j, b) => match (ops[j]?).bind (·.dst) with
    | none=>some false
    | some s => match lk l s with
      | none=>none
      | some (.bool c)=>some (c == b)
      | some _=>some false
def chk(n:Nat)(l:Fr)(o:Oper)(d:Option Nat):Bool:=(sv o.op).all (kn l) && decide (o.dst=d) && inB n d && notSel o.op
theorem fX{l:Fr}(h:chk n l o d=true):o.dst=d/\∀ k,d=some k->k < n:=by
 simp only[chk,Bool.and_eq_true,decide_eq_true_eq] at h;refine⟨h.1.1.2,fun k e=>?_⟩;subst e;have:=h.1.2;simp only[inB,Nat.blt] at this;exact Nat.le_of_ble_eq_true this
theorem fq{ds:List Deferred}{l:Fr}(h:chk n l o d=true)(r:Rd n ds l a):execOp a.eval o=execOp (evL l) o:=by
 simp only[chk,Bool.and_eq_true,List.all_eq_true] at h;exact execOp_congr o (fun cs b e=>by have:=h.2;rw[e] at this;cases this) fun x hx=>r.ev x (h.1.1.1 x (xL hx))
theorem dN{ds:List Deferred}{l:Fr}{t:Bool}(r:Rd n ds l a)(h:gd ops l o=some t):Region.wanted o (yielded ops a.tmps)=t:=by
 unfold gd at h;unfold Region.wanted
 cases hg:o.guard with
 | none=>rw[hg] at h;simpa using h
 | some p =>
  obtain⟨j,b⟩:=p;rw[hg] at h;simp only at h ⊢;unfold yielded
  cases hs:(ops[j]?).bind (·.dst) with
  | none=>rw[hs] at h;simp at h;subst h;simp
  | some s =>
   rw[hs] at h;simp only at h
   cases hv:lk l s with
   | none=>rw[hv] at h;cases h
   | some v =>
    rw[hv] at h;have hx:=r.get s v hv;simp only[Option.bind_some,hx]
    cases v<;>simp_all
end
section
variable {P:Program} {n:Nat} {ds:List Deferred} {ops:Array Oper} {rest:List Oper} {o o1 o2:Oper} {l:Fr} {w w1:World} {Q Q':Exit->Act->World->Prop} {K:Act->World->Prop}
section
variable {c q:List Oper}{Qc R:Ending->World->Prop}{x y:Code}{id g:Nat}{f:FuncId}{fn:Func}{vs:List Value}{v u:Value}
structure GL(P:Program)(n:Nat)(ds:List Deferred)(ops:Array Oper)(Q:Exit->Act->World->Prop)(rest:List Oper)(l:Fr)(w:World):Prop where
 out:∀ a,Rd n ds l a->wpList P ops Q rest a w
structure GC(P:Program)(n:Nat)(ds:List Deferred)(c:Code)(Q:Exit->Act->World->Prop)(l:Fr)(w:World):Prop where
 out:∀ a,Rd n ds l a->c.wp P Q a w
structure GE(n:Nat)(ds:List Deferred)(Q:Exit->Act->World->Prop)(e:Exit)(l:Fr)(w:World):Prop where
 out:∀ a,Rd n ds l a->Q e a w
theorem ay{c:Code}(l':Fr)(k:GC P n ds c Q l' w)(h:l'.map (fun p=>lk l p.1)=l'.map (fun p=>some p.2):=by kernel_rfl):GC P n ds c Q l w:=⟨fun a r=>k.out a (r.sub (mj h))⟩
theorem fw(d:Option Nat)(v:Value)(b:gd ops l o=some true)(hc:chk n l o d=true)(hrun:(execOp (evL l) o).run P w=.ok (.value v) w1)(h:GL P n ds ops Q rest (pt l d v) w1):GL P n ds ops Q (o :: rest) l w:=⟨fun a r =>
 BigFrame.wpList_want (dN r b) fun K c=>by
  unfold Oper.wp;rw[fq hc r,hrun]
  show K (a.put o.dst v) w1
  rw[(fX hc).1]
  exact c _ _ (h.out _ (r.put d v (fX hc).2))⟩
theorem uX(b:gd ops l o=some true)(hc:chk n l o none=true)(hrun:(execOp (evL l) o).run P w=.ok .skip w1)(h:GL P n ds ops Q rest l w1):GL P n ds ops Q (o :: rest) l w:=⟨fun a r =>
 BigFrame.wpList_want (dN r b) fun K c=>by
  unfold Oper.wp;rw[fq hc r,hrun]
  show K (a.put o.dst undef) w1
  rw[(fX hc).1]
  exact c _ _ (h.out _ r)⟩
theorem gl_not(d:Option Nat)(c:gd ops l o=some false)(b:(decide (o.dst=d) && inB n d)=true)(h:GL P n ds ops Q rest (pt l d undef) w):GL P n ds ops Q (o :: rest) l w:=⟨fun a r=>by
 simp only[Bool.and_eq_true,decide_eq_true_eq] at b;refine wpList_skip (dN r c) ?_
 rw[b.1];refine h.out _ (r.put d undef fun k e=>?_);subst e;have:=b.2;simp only[inB,Nat.blt] at this
 exact Nat.le_of_ble_eq_true this⟩
theorem yP(d:Option Nat)(f:FuncId)(args:Array Value)(c:gd ops l o=some true)(hc:chk n l o d=true)(hrun:(execOp (evL l) o).run P w=.ok (.enter f args) w)(b:Calls P f args w Qc)(h:∀ e w',Qc e w'->∃ v,e=.returned v/\GL P n ds ops Q rest (pt l d v) w'):GL P n ds ops Q (o :: rest) l w:=⟨fun a r =>
 BigFrame.wpList_want (dN r c) fun K g=>by
  unfold Oper.wp;rw[fq hc r,hrun,Oper.upon_enter];refine b.mono ?_
  intro e w' hq;obtain⟨v,rfl,hv⟩:=h e w' hq
  show K (a.put o.dst v) w'
  rw[(fX hc).1]
  exact g _ _ (hv.out _ (r.put d v (fX hc).2))⟩
theorem aO(h:GE n ds Q .normal l w):GL P n ds ops Q [] l w:=⟨fun a r=>wpList_nil (h.out a r)⟩
theorem t(d:Nat)(v:Value)(h:GL P n ds ops Q rest ((d,v) :: l) w)(a:gd ops l o=some true:=by kernel_rfl)(hc:chk n l o (some d)=true:=by kernel_rfl)(hrun:(execOp (evL l) o).run P w=.ok (.value v) w:=by kernel_rfl):GL P n ds ops Q (o :: rest) l w:=fw (some d) v a hc hrun h
theorem tr(d:Nat)(v:Value)(hrun:(execOp (evL l) o).run P w=.ok (.value v) w)(h:GL P n ds ops Q rest ((d,v) :: l) w)(a:gd ops l o=some true:=by kernel_rfl)(hc:chk n l o (some d)=true:=by kernel_rfl):GL P n ds ops Q (o :: rest) l w:=fw (some d) v a hc hrun h
theorem tq(d:Nat)(v a:Value)(hv:v=a)(h:GL P n ds ops Q rest ((d,a) :: l) w)(b:gd ops l o=some true:=by kernel_rfl)(hc:chk n l o (some d)=true:=by kernel_rfl)(hrun:(execOp (evL l) o).run P w=.ok (.value v) w:=by kernel_rfl):GL P n ds ops Q (o :: rest) l w:=by
 subst hv;exact fw (some d) v b hc hrun h
theorem tw(d:Nat)(v:Value)(w1:World)(hrun:(execOp (evL l) o).run P w=.ok (.value v) w1)(h:GL P n ds ops Q rest ((d,v) :: l) w1)(a:gd ops l o=some true:=by kernel_rfl)(hc:chk n l o (some d)=true:=by kernel_rfl):GL P n ds ops Q (o :: rest) l w:=fw (some d) v a hc hrun h
theorem tv(w1:World)(hrun:(execOp (evL l) o).run P w=.ok .skip w1)(h:GL P n ds ops Q rest l w1)(a:gd ops l o=some true:=by kernel_rfl)(hc:chk n l o none=true:=by kernel_rfl):GL P n ds ops Q (o :: rest) l w:=uX a hc hrun h
theorem tn(d:Nat)(h:GL P n ds ops Q rest ((d,undef) :: l) w)(b:gd ops l o=some false:=by kernel_rfl)(a:(decide (o.dst=some d) && inB n (some d))=true:=by kernel_rfl):GL P n ds ops Q (o :: rest) l w:=gl_not (some d) b a h
theorem tc(d:Nat)(f:FuncId)(args:Array Value)(a:Calls P f args w Qc)(h:∀ e w',Qc e w'->∃ v,e=.returned v/\GL P n ds ops Q rest ((d,v) :: l) w')(b:gd ops l o=some true:=by kernel_rfl)(hc:chk n l o (some d)=true:=by kernel_rfl)(hrun:(execOp (evL l) o).run P w=.ok (.enter f args) w:=by kernel_rfl):GL P n ds ops Q (o :: rest) l w:=yP (some d) f args b hc hrun a h
theorem ag(h:GC P n ds x (Exit.then (y.wp P Q) Q) l w):GC P n ds (x.seq y) Q l w:=⟨fun a r=>wp_seq (h.out a r)⟩
theorem aN(h:GL P n ds c.toArray Q c l w):GC P n ds (Code.region id c.toArray false) Q l w:=⟨fun a r=>wp_region_lit (h.out a r)⟩
theorem aJ{c:Operand}(h:GC P n ds x Q l w)(hk:kn l c=true:=by kernel_rfl)(hc:evL l c=.bool true:=by kernel_rfl):GC P n ds (Code.cond c x y) Q l w:=⟨fun a r=>wp_cond_true ((r.ev c hk).trans hc) (h.out a r)⟩
theorem aY{c:Operand}(h:GC P n ds y Q l w)(hk:kn l c=true:=by kernel_rfl)(hc:evL l c=.bool false:=by kernel_rfl):GC P n ds (Code.cond c x y) Q l w:=⟨fun a r=>wp_cond_false ((r.ev c hk).trans hc) (h.out a r)⟩
theorem aU(h:GE n ds Q .normal l w):GC P n ds Code.skip Q l w:=⟨fun a r=>wp_skip (h.out a r)⟩
theorem bh(h:GE n ds Q .ret l w):GC P n ds Code.ret Q l w:=⟨fun a r=>wp_ret (h.out a r)⟩
theorem bR(h:GE n ds Q (.exit id) l w):GC P n ds (Code.exit id) Q l w:=⟨fun a r=>wp_exit (h.out a r)⟩
theorem aB{c:Code}(h:GC P n ds c (Exit.inBlock id Q) l w):GC P n ds (Code.block id c) Q l w:=⟨fun a r=>wp_block (h.out a r)⟩
theorem ai(h:GC P n ds y Q l w):GE n ds (Exit.then (y.wp P Q) Q') .normal l w:=⟨fun a r=>h.out a r⟩
theorem bN(h:GE n ds Q' .ret l w):GE n ds (Exit.then K Q') .ret l w:=⟨fun a r=>h.out a r⟩
theorem bC(h:GE n ds Q' (.exit id) l w):GE n ds (Exit.then K Q') (.exit id) l w:=⟨fun a r=>h.out a r⟩
theorem dc(h:GE n ds Q .normal l w):GE n ds (Exit.inBlock id Q) .normal l w:=⟨fun a r=>h.out a r⟩
theorem hH(h:GE n ds Q .ret l w):GE n ds (Exit.inBlock id Q) .ret l w:=⟨fun a r=>h.out a r⟩
theorem dm(h:GE n ds Q .normal l w):GE n ds (Exit.inBlock id Q) (.exit id) l w:=⟨fun a r=>by
 show if id=id then Q .normal a w else Q (.exit id) a w
 rw[if_pos rfl];exact h.out a r⟩
theorem bH{σ : Type}{c:Code}(μ : σ → Nat)(b : σ → Fr)(F : σ → World → Prop)(s : σ)(hF : F s w)(g : (b s).map (fun p => lk l p.1) = (b s).map (fun p => some p.2))(round : ∀ s w, F s w → GC P n ds c (Exit.then (fun a' w' => ∃ s', μ s' < μ s ∧ Rd n ds (b s') a' ∧ F s' w') Q) (b s) w) : GC P n ds (Code.loop c) Q l w := ⟨fun a r => by
  refine wp_loop_ghost (fun m a w=>∃ s,μ s=m∧Rd n ds (b s) a∧F s w) (μ s) ⟨s,rfl,r.sub (mj g),hF⟩ ?_
  rintro m a w ⟨s,rfl,i,hF⟩;refine wp_mono ((round s w hF).out a i) ?_
  intro e a' w' h
  cases e with
  | normal =>
    obtain⟨s',f,d,j⟩:= h;exact⟨μ s',f,s',rfl,d,j⟩
  | _=>exact h⟩
theorem bQ{σ:Type}{μ:σ->Nat}{a:σ->Fr}{F:σ->World->Prop}{m:Nat}(s':σ)(hm:μ s' < m)(hF:F s' w)(b:(a s').map (fun p=>lk l p.1)=(a s').map (fun p=>some p.2)):GE n ds (Exit.then (fun a' w'=>∃ s',μ s' < m/\Rd n ds (a s') a'/\F s' w') Q) .normal l w:=⟨fun _ r=>⟨s',hm,r.sub (mj b),hF⟩⟩
theorem vX{σ:Type}(b:σ->Fr)(F:σ->World->Prop)(h1:GC P n ds x (Exit.then (fun a' w'=>∃ s,Rd n ds (b s) a'/\F s w') Q) l w)(c:∀ s w',F s w'->GC P n ds y Q (b s) w'):GC P n ds (x.seq y) Q l w:=⟨fun a r=>wp_seq (wp_mono (h1.out a r) fun e a' w' h=>by
 cases e with
 | normal=>obtain⟨s,d,hF⟩:=h;exact(c s w' hF).out a' d
 | _=>exact h)⟩
theorem nx(h:GL P n ds c.toArray (Exit.then (y.wp P Q) Q) c l w):GL P n ds ops (Exit.then (((Code.region id c.toArray false).seq y).wp P Q) Q') [] l w:=aO (ai (ag (aN h)))
theorem nt(h:GC P n ds y Q l w):GL P n ds ops (Exit.then (y.wp P Q) Q') [] l w:=aO (ai h)
theorem nr(h:GE n ds Q .ret l w):GL P n ds ops (Exit.then (Code.ret.wp P Q) Q') [] l w:=aO (ai (bh h))
theorem sr(h:GL P n ds c.toArray (Exit.then (y.wp P Q) Q) c l w):GC P n ds ((Code.region id c.toArray false).seq y) Q l w:=ag (aN h)
theorem nk{c:Operand}(h:GC P n ds y Q l w)(hk:kn l c=true:=by kernel_rfl)(hc:evL l c=.bool false:=by kernel_rfl):GC P n ds (Code.cond c x Code.skip) (Exit.then (y.wp P Q) Q') l w:=aY (aU (ai h)) hk hc
def rk(P:Program)(n:Nat)(ops:Array Oper):Nat→List Oper→Fr→World→Option (Fr × World)
  | 0,_,l,w=>some (l,w)
  | _+1,[],_,_=>none
  | k + 1, o :: r, l, w => match o.dst, (execOp (evL l) o).run P w with
    | some d, .ok (.value v) w1 => match gd ops l o == some true && chk n l o (some d) with
      | true=>rk P n ops k r ((d,v) :: l) w1
      | false=>none
    | _,_=>none
theorem vY:∀ (k:Nat) (q:List Oper) (l:Fr) (w:World) (l2:Fr) (w2:World),rk P n ops k q l w=some (l2,w2)->GL P n ds ops Q (q.drop k) l2 w2->GL P n ds ops Q q l w
 | 0,_,_,_,_,_,e,h=>by
  simp only[rk,Option.some.injEq,Prod.mk.injEq] at e;rw[e.1,e.2];exact h
 | _+1,[],_,_,_,_,e,_=>by simp[rk] at e
 | k + 1,o :: r,l,w,l2,w2,e,h=>by
  unfold rk at e;split at e
  ·rename_i d v w1 hd hr;split at e
   ·rename_i hc;simp only[Bool.and_eq_true,beq_iff_eq] at hc;exact fw (some d) v hc.1 hc.2 hr (vY k r _ _ _ _ e h)
   ·cases e
  ·cases e
theorem tz(k:Nat)(h:GL P n ds ops Q (q.drop k) (((rk P n ops k q l w).map Prod.fst).getD []) w)(a:(rk P n ops k q l w).map Prod.snd=some w:=by kernel_rfl):GL P n ds ops Q q l w:=by
 cases e:rk P n ops k q l w with
 | none=>rw[e] at a;cases a
 | some p =>
  rw[e] at a h;simp only[Option.map_some,Option.some.injEq,Option.getD_some] at a h;exact vY k q l w p.1 p.2 e (by rw[a];exact h)
theorem ir{σ:Type}{a:σ->Fr}{F:σ->World->Prop}(s:σ)(hF:F s w)(b:(a s).map (fun p=>lk l p.1)=(a s).map (fun p=>some p.2)):GE n ds (Exit.then (fun a' w'=>∃ s,Rd n ds (a s) a'/\F s w') Q) .normal l w:=⟨fun _ r=>⟨s,r.sub (mj b),hF⟩⟩
def en:Nat->List Value->Fr
 | _,[]=>[]
 | i,v :: r=>(i,v) :: en (i+1) r
theorem Av:∀ (vs:List Value) (i k:Nat) (v:Value),lk (en i vs) k=some v->i<=k/\vs[k - i]?=some v
 | [],_,_,_,h=>by cases h
 | u :: r,i,k,v,h=>by
  simp only[en,lk] at h
  cases hb:Nat.beq i k with
  | true =>
   rw[hb] at h;have:=Nat.eq_of_beq_eq_true hb;subst this;simp at h;subst h;exact⟨Nat.le_refl _,by simp⟩
  | false =>
   rw[hb] at h;obtain⟨b,a⟩:=Av r (i+1) k v h;refine⟨by omega,?_⟩;have:k - i=(k - (i+1))+1:=by omega
   rw[this,List.getElem?_cons_succ];exact a
theorem af{c:Code}(hf:P.funcs[f]?=some fn)(hb:fn.body=some c)(h:GC P n [] c (bodyPost P fn R) (en 0 vs) w)(hn:fn.ntmps=n:=by kernel_rfl)(d:Nat.ble vs.length n=true:=by kernel_rfl):Calls P f vs.toArray w R:=by
 have d:=Nat.le_of_ble_eq_true d;refine calls_of_wp hf hb (h.out _ ⟨?_,rfl,fun k v hk=>?_⟩)
 ·simp;omega
 ·obtain⟨_,b⟩:=Av vs 0 k v hk;rw[Nat.sub_zero] at b;have a:=(List.getElem?_eq_some_iff.1 b).1;rw[Array.getElem?_append_left (by simpa using a)];simpa using b
theorem ah(v:Value)(hr:∀ a,Rd n [] l a->(results fn a.tmps).run P w=.ok v w)(hR:R (.returned v) w):GE n [] (bodyPost P fn R) .ret l w:=⟨fun a r=>bodyPost_ret (hr a r) r.dfs hR⟩
theorem aV(v:Value)(hr:∀ a,Rd n [] l a->(results fn a.tmps).run P w=.ok v w)(hR:R (.returned v) w):GE n [] (bodyPost P fn R) .normal l w:=⟨fun a r=>⟨r.dfs,v,hr a r,hR⟩⟩
theorem Rd.gD{a:Act}(r:Rd n ds l a){k:Nat}(h:lk l k=some v):a.tmps.getD k undef=v:=by
 rw[Array.getD_eq_getD_getElem?,r.get k v h];rfl
theorem rs1(k:Nat)(h:fn.results=#[.tmp k]:=by kernel_rfl)(hv:lk l k=some v:=by kernel_rfl)(a:Act)(r:Rd n [] l a):(results fn a.tmps).run P w=.ok v w:=by
 have:=r.gD hv;simp at this;simp[results,h,this]
theorem rs0(h:fn.results=#[]:=by kernel_rfl)(a:Act)(_:Rd n [] l a):(results fn a.tmps).run P w=.ok (.tuple #[]) w:=by
 simp[results,h]
theorem rs2(j k:Nat)(h:fn.results=#[.tmp j,.tmp k]:=by kernel_rfl)(hu:lk l j=some u:=by kernel_rfl)(hv:lk l k=some v:=by kernel_rfl)(a:Act)(r:Rd n [] l a):(results fn a.tmps).run P w=.ok (.tuple #[u,v]) w:=by
 have c:=r.gD hu;have b:=r.gD hv;simp at c b;simp[results,h,c,b]
theorem rsc(j:Nat){T:TypeId}(c:(loadVar T ⟨g,0,none⟩).run P w=.ok u w)(h:fn.results=#[.cell j T]:=by kernel_rfl)(hu:lk l j=some (.pointer (some ⟨g,0,none⟩)):=by kernel_rfl)(a:Act)(r:Rd n [] l a):(results fn a.tmps).run P w=.ok u w:=by
 have b:=r.gD hu;simp at b;simp[results,h,b,asAddr,c]
theorem dX(j k:Nat){T:TypeId}(d:(loadVar T ⟨g,0,none⟩).run P w=.ok u w)(h:fn.results=#[.cell j T,.tmp k]:=by kernel_rfl)(hu:lk l j=some (.pointer (some ⟨g,0,none⟩)):=by kernel_rfl)(hv:lk l k=some v:=by kernel_rfl)(a:Act)(r:Rd n [] l a):(results fn a.tmps).run P w=.ok (.tuple #[u,v]) w:=by
 have c:=r.gD hu;have b:=r.gD hv;simp at c b;simp[results,h,c,b,asAddr,d]
end
end
section
variable {P:Program} {ops:Array Oper} {Q:Exit->Act->World->Prop} {md:Region.Mode} {S:World->Prop} {Z:Nat->Bool}
section
variable {i:Nat}{v:Value}{S0:World->Prop}
def gV(P:Program)(md:Region.Mode)(ops:Array Oper)(Q:Exit->Act->World->Prop)(S:World->Prop)(Z:Nat->Bool):Nat->Array Bool->Act->World->Prop
 | 0,listed,a,w=>Region.ready md ops listed=[]/\Q .normal a w
 | fuel + 1,listed,a,w =>
  (Region.ready md ops listed=[]->Q .normal a w) /\
  ∀ i∈Region.ready md ops listed,wpOp P ops Q i (fun a' w'=>(Z i=true\/S w'\/w'=w)/\gV P md ops Q S Z fuel (listed.setIfInBounds i true) a' w') a w
theorem r7(fuel:Nat):∀ (listed:Array Bool) (a:Act) (w:World),gV P md ops Q S Z fuel listed a w->wpAnyH P md ops Q (fun _=>True) fuel listed a w:=by
 induction fuel with
 | zero=>exact fun _ _ _ h=>h
 | succ fuel ih=>exact fun _ _ _ h=>⟨h.1,fun i hi=>wpOp_mono (fun d b c=>⟨trivial,ih _ d b c.2⟩) (h.2 i hi)⟩
def fZ(ops:Array Oper)(Z:Nat->Bool)(i:Nat):Bool:=(List.range ops.size).all fun z=>!Z z || (decide (z≠i) && (ops.getD z default).after.any fun e=>Region.binds .any e && decide (e.on=i))
theorem yk(n:fZ ops Z i=true)(j:Nat)(l:Oper)(a:ops[j]?=some l)(b:∀ e∈l.after,Region.binds .any e=true->e.on≠i)(w w':World)(h:Z j=true\/S w'\/w'=w)(hS:S w):S w':=by
 have g:¬ Z j=true:=fun e=>by
  have c:j < ops.size:=(Array.getElem?_eq_some_iff.1 a).1;have d:=List.all_eq_true.1 n j (List.mem_range.2 c);rw[e] at d;simp only[Bool.not_true,Bool.false_or,Bool.and_eq_true,decide_eq_true_eq] at d
  have o:ops.getD j default=l:=by
   rw[Array.getD_eq_getD_getElem?,a];rfl
  have m:=d.2;rw[o,Array.any_eq_true] at m;obtain⟨k,hk,f⟩:=m;rw[Bool.and_eq_true,decide_eq_true_eq] at f;exact b _ (Array.getElem_mem hk) f.1 f.2
 rcases h.resolve_left g with h | h
 ·exact h
 ·rw[h];exact hS
theorem kh{q:Oper}(hk:∀ (j:Nat) (oj:Oper),ops[j]?=some oj->(∀ e∈oj.after,Region.binds .any e=true->e.on≠i)->∀ w w':World,(Z j=true\/S w'\/w'=w)->S0 w->S0 w')(hi:ops[i]?=some q)(p:∀ (j:Nat) (o:Oper) cs b,ops[j]?=some o->o.op≠.select cs b)(hQ:∀ c a w,Q (.panic c) (a.put q.dst v) w->Q (.panic c) a w) :
  ∀ (fuel:Nat) (listed:Array Bool) (a:Act) (w:World),
   (∀ j oj,ops[j]?=some oj->j≠i->listed.getD j true=false->(∀ e∈oj.after,Region.binds .any e=true->e.on≠i)->q.apart ops oj=true) ->
   i∈Region.ready .any ops listed->YieldsIf P ops S0 q v a->S0 w ->
   gV P .any ops Q S Z fuel (listed.setIfInBounds i true) (a.put q.dst v) w->gV P .any ops Q S Z (fuel+1) listed a w:=by
 intro fuel
 induction fuel with
 | zero =>
  intro listed a w _ s hy hS H;refine⟨fun h=>(by rw[h] at s;cases s),fun j z=>?_⟩;by_cases d:j=i
  ·subst d;exact hy.wpOp hi hS ⟨.inr (.inr rfl),H⟩
  ·have:=ready_mono z d;rw[H.1] at this
   cases this
 | succ fuel ih =>
  intro listed a w f s hy hS H;refine⟨fun h=>(by rw[h] at s;cases s),fun j z=>?_⟩;by_cases d:j=i
  ·subst d;exact hy.wpOp hi hS ⟨.inr (.inr rfl),H⟩
  ·have r:=H.2 j (ready_mono z d);obtain⟨m,oj,l,x⟩:=mem_ready.1 z
   have n:∀ e∈oj.after,Region.binds .any e=true->e.on≠i:=fun e he hb heq=>by
    have r:=x e he hb;have D:=(mem_ready.1 s).1;rw[heq] at r;rcases Nat.lt_or_ge i listed.size with A | A
    ·simp[A] at D r;rw[D] at r;cases r
    ·simp[Array.getElem?_eq_none A] at r
   have E:=wpOp_putIf l (f j oj l d m n) (fun cs b=>p i q cs b hi) (fun cs b=>p j oj cs b l) hQ hy r
   have g:∀ k ok,ops[k]?=some ok->k≠i->(listed.setIfInBounds j true).getD k true=false ->
     (∀ e∈ok.after,Region.binds .any e=true->e.on≠i)->q.apart ops ok=true:=fun k ok hk C u B=>by
    refine f k ok hk C ?_ B;by_cases t:j=k
    ·subst t;exact m
    ·rw[getD_set_ne true t] at u;exact u
   refine wpOp_mono (fun F w' y=>?_) E;refine⟨y.2.1,ih (listed.setIfInBounds j true) F w' g (ready_mono s (Ne.symm d)) y.1 (hk j oj l n w w' y.2.1 hS) ?_⟩;rw[Array.setIfInBounds_comm _ _ d];exact y.2.2
end
end
section
variable {ops:Array Oper}{i a b:Nat}{L:List Nat}{Z:Nat->Bool}
theorem bW(h:i < ops.size):ops[i]?=some (ops.getD i default):=by
 simp[Array.getD,h]
def nU:List Nat->Nat->Bool
 | [],_=>false
 | p :: r,k=>bif Nat.beq p k then true else nU r k
def arr(n:Nat)(L:List Nat):Array Bool:=((List.range n).map (nU L)).toArray
theorem AU(h:a≠b):Nat.beq a b=false:=by
 cases hb:Nat.beq a b with
 | false=>rfl
 | true=>exact absurd (Nat.eq_of_beq_eq_true hb) h
theorem qh(n:Nat)(L:List Nat)(j:Nat)(d:Bool):(arr n L).getD j d=if j < n then nU L j else d:=by
 by_cases h:j < n
 ·simp[arr,h]
 ·simp[arr,h]
theorem Dr(n:Nat):arr n []=Array.replicate n false:=by
 apply Array.ext
 ·simp[arr]
 ·intro i h1 h2;simp[arr,nU]
theorem fo{n:Nat}(L:List Nat)(_h:i < n):(arr n L).setIfInBounds i true=arr n (i :: L):=by
 apply Array.ext
 ·simp[arr]
 ·intro j b c
  have a:j < (arr n L).size:=by simpa using b
  rw[Array.getElem_setIfInBounds a];by_cases e:i=j
  ·subst e;simp[arr,nU]
  ·simp[arr,nU,e,AU e]
def yi(ops:Array Oper)(L:List Nat)(i:Nat):Bool:=match ops[i]? with
 | none=>false
 | some o=>!nU L i && o.after.toList.all fun e=>!Region.binds .any e || (Nat.blt e.on ops.size && nU L e.on)
theorem j8:yi ops L i=true<->i∈Region.ready .any ops (arr ops.size L):=by
 rw[mem_ready];unfold yi
 cases ho:ops[i]? with
 | none=>simp
 | some o =>
  have b:i < ops.size:=(Array.getElem?_eq_some_iff.1 ho).1;simp only[Bool.and_eq_true,Bool.not_eq_true',List.all_eq_true,Bool.or_eq_true,Option.some.injEq,exists_eq_left',qh,if_pos b];constructor
  ·rintro⟨f,c⟩;refine⟨f,fun e he hb => ?_⟩;rcases c e (by simpa using he) with h | h
   ·rw[hb] at h;cases h
   ·have:=Nat.le_of_ble_eq_true h.1;rw[if_pos (by omega)];exact h.2
  ·rintro⟨f,c⟩;refine⟨f,fun e he=>?_⟩
   cases hb:Region.binds .any e with
   | false=>exact .inl rfl
   | true =>
    right;have a:=c e (by simpa using he) hb;by_cases d:e.on < ops.size
    ·rw[if_pos d] at a;exact⟨by simp only[Nat.blt];exact Nat.ble_eq_true_of_le d,a⟩
    ·rw[if_neg d] at a;cases a
def dY(ops:Array Oper)(L:List Nat):List Nat:=(List.range ops.size).filter (yi ops L)
theorem fm(ops:Array Oper)(L:List Nat):Region.ready .any ops (arr ops.size L)=dY ops L:=by
 have hm:∀ j,j∈Region.ready .any ops (arr ops.size L)<->yi ops L j=true:=fun j=>j8.symm
 unfold Region.ready at hm ⊢;unfold dY;refine List.filter_congr fun j a=>?_
 have:=hm j;rw[List.mem_filter] at this;simp only[a,true_and] at this;exact Bool.eq_iff_iff.2 this
def DZ(o:Oper)(i:Nat):Bool:=o.after.toList.any fun e=>Region.binds .any e && Nat.beq e.on i
def FE(ops : Array Oper)(i : Nat) : Bool := match ops[i]? with
  | none=>false
  | some oi => (List.range ops.size).all fun j => Nat.beq j i || match ops[j]? with
      | some oj=>DZ oj i || DZ oi j || oi.apart ops oj
      | none=>true
def okR(ops:Array Oper)(_Z:Nat->Bool):Bool:=Region.noSelect ops && (List.range ops.size).all (FE ops)
theorem qR(h:okR ops Z=true){o:Oper}(hi:ops[i]?=some o)(hr:yi ops L i=true)(j:Nat)(n:Oper)(r:ops[j]?=some n)(l:j≠i)(c:(arr ops.size L).getD j true=false)(g:∀ e∈n.after,Region.binds .any e=true->e.on≠i):o.apart ops n=true:=by
 simp only[okR,Bool.and_eq_true,List.all_eq_true,List.mem_range] at h
 have k:i < ops.size:=(Array.getElem?_eq_some_iff.1 hi).1
 have b:j < ops.size:=(Array.getElem?_eq_some_iff.1 r).1;have p:=h.2 i k;simp only[FE,hi,List.all_eq_true,List.mem_range] at p;have a:=p j b;rw[AU l,r] at a;simp only[Bool.false_or,Bool.or_eq_true] at a;rcases a with(a | a) | a
 ·simp only[DZ,List.any_eq_true,Bool.and_eq_true] at a;obtain⟨e,he,hb,m⟩:=a;exact absurd (Nat.eq_of_beq_eq_true m) (g e (by simpa using he) hb)
 ·simp only[DZ,List.any_eq_true,Bool.and_eq_true] at a;obtain⟨e,he,hb,m⟩:=a;have e1:=Nat.eq_of_beq_eq_true m;obtain⟨-,s,d,f⟩:=mem_ready.1 (j8.1 hr);rw[hi] at d
  cases d;have q:=f e (by simpa using he) hb;rw[e1,qh,if_pos b] at q;rw[qh,if_pos b] at c;rw[q] at c
  cases c
 ·exact a
theorem vw(h:okR ops Z=true):Region.noSelect ops=true:=by
 simp only[okR,Bool.and_eq_true] at h;exact h.1
def r9(n:Nat)(l:Fr)(ops:Array Oper)(L:List Nat)(i:Nat)(d:Option Nat):Bool:=yi ops L i && Nat.blt i ops.size && chk n l (ops.getD i default) d
theorem jo(h:Nat.blt a b=true):a < b:=Nat.le_of_ble_eq_true h
end
section
variable {P:Program} {n:Nat} {ds:List Deferred} {ops:Array Oper} {Q:Exit->Act->World->Prop} {S:World->Prop} {Z:Nat->Bool} {fuel:Nat} {L:List Nat} {l:Fr} {w:World}
section
variable {id g:Nat}{cs cv:List Value}{rs:List Nat}{Qc:Ending->World->Prop}
structure GZ(P:Program)(n:Nat)(ds:List Deferred)(ops:Array Oper)(Q:Exit->Act->World->Prop)(S:World->Prop)(Z:Nat->Bool)(fuel:Nat)(L:List Nat)(l:Fr)(w:World):Prop where
 out:okR ops Z=true->S w->∀ a,Rd n ds l a->gV P .any ops Q S Z fuel (arr ops.size L) a w
structure GY(P:Program)(n:Nat)(ds:List Deferred)(ops:Array Oper)(Q:Exit->Act->World->Prop)(S:World->Prop)(Z:Nat->Bool)(fuel:Nat)(L:List Nat)(l:Fr)(w:World):Prop where
 out:okR ops Z=true->∀ a,Rd n ds l a->gV P .any ops Q S Z fuel (arr ops.size L) a w
theorem iA(h:GY P n ds ops Q S Z fuel L l w):GZ P n ds ops Q S Z fuel L l w:=⟨fun ok _=>h.out ok⟩
theorem dS(S:World->Prop)(Z:Nat->Bool)(hS:S w.drew)(h:GZ P n ds ops Q S Z ops.size [] l w.drew)(hm:P.follows .mixedOrders=true:=by kernel_rfl)(ok:okR ops Z=true:=by kernel_rfl):GC P n ds (Code.region id ops true) Q l w:=⟨fun a r =>
 wp_region_held_drew (S:=fun _=>True) hm trivial fun _=>r7 _ _ _ _ (by have:=h.out ok hS a r;rw[Dr] at this;exact this)⟩
theorem gd1{t:TypeId}(X:Blk w.drew g cs t)(h:GZ P n ds ops Q (fun w'=>Blk w' g cs t) (fun _=>false) ops.size [] l w.drew)(hm:P.follows .mixedOrders=true:=by kernel_rfl)(ok:okR ops (fun _=>false)=true:=by kernel_rfl):GC P n ds (Code.region id ops true) Q l w:=dS _ _ X h hm ok
theorem gd2{k:Nat}{t u:TypeId}(X:Blk w.drew g cs t)(Y:Blk w.drew k cv u)(h:GZ P n ds ops Q (fun w'=>Blk w' g cs t/\Blk w' k cv u) (fun _=>false) ops.size [] l w.drew)(hm:P.follows .mixedOrders=true:=by kernel_rfl)(ok:okR ops (fun _=>false)=true:=by kernel_rfl):GC P n ds (Code.region id ops true) Q l w:=dS _ _ ⟨X,Y⟩ h hm ok
theorem lV(i:Nat)(d:Option Nat)(v:Value)(hy:∀ w',S w'->(execOp (evL l) (ops.getD i default)).run P w'=.ok (.value v) w')(o:fZ ops Z i=true)(hc:r9 n l ops L i d=true)(k:gd ops l (ops.getD i default)=some true)(hQ:∀ c a w,Q (.panic c) (a.put d v) w->Q (.panic c) a w)(h:GZ P n ds ops Q S Z fuel (i :: L) (pt l d v) w):GZ P n ds ops Q S Z (fuel + 1) L l w:=⟨fun ok hS a r=>by
 simp only[r9,Bool.and_eq_true] at hc;obtain⟨⟨g,b⟩,f⟩:=hc;have b:=jo b;obtain⟨j,m⟩:=fX f;refine kh (v:=v) (yk o) (bW b) (Region.noSelect_spec (vw ok)) (by rw[j];exact hQ) fuel _ a w (qR ok (bW b) g) (j8.1 g) (.inl ⟨dN r k,fun w' e=>by rw[fq f r];exact hy w' e⟩) hS ?_
 rw[j,fo L b]
 exact h.out ok hS _ (r.put d v m)⟩
theorem zp(i d:Nat)(v:Value)(h:GZ P n ds ops Q S Z fuel (i :: L) ((d,v) :: l) w)(hc:r9 n l ops L i (some d)=true:=by kernel_rfl)(j:gd ops l (ops.getD i default)=some true:=by kernel_rfl)(hQ:∀ c a w,Q (.panic c) (a.put (some d) v) w->Q (.panic c) a w:=by exact fun _ _ _ h=>h)(hrun:∀ w',(execOp (evL l) (ops.getD i default)).run P w'=.ok (.value v) w':=by intro _; kernel_rfl):GZ P n ds ops Q S Z (fuel + 1) L l w:=⟨fun ok hS a r=>by
 simp only[r9,Bool.and_eq_true] at hc;obtain⟨⟨f,b⟩,e⟩:=hc;have b:=jo b;obtain⟨g,k⟩:=fX e;refine kh (v:=v) (S0:=fun _=>True) (fun _ _ _ _ _ _ _ _=>trivial) (bW b) (Region.noSelect_spec (vw ok)) (by rw[g];exact hQ) fuel _ a w (qR ok (bW b) f) (j8.1 f) (.inl ⟨dN r j,fun w' _=>by rw[fq e r];exact hrun w'⟩) trivial ?_
 rw[g,fo L b]
 exact h.out ok hS _ (r.put (some d) v k)⟩
theorem aP(h:GE n ds Q .normal l w)(hr:dY ops L=[]:=by kernel_rfl):GZ P n ds ops Q S Z fuel L l w:=⟨fun _ _ a r=>by
 have hr:=(fm ops L).trans hr
 cases fuel with
 | zero=>exact⟨hr,h.out a r⟩
 | succ _=>exact⟨fun _=>h.out a r,by rw[hr];simp⟩⟩
theorem iv(h:GE n ds Q .normal l w)(hr:dY ops L=[]:=by kernel_rfl):GY P n ds ops Q S Z fuel L l w:=⟨fun _ a r=>by
 have hr:=(fm ops L).trans hr
 cases fuel with
 | zero=>exact⟨hr,h.out a r⟩
 | succ _=>exact⟨fun _=>h.out a r,by rw[hr];simp⟩⟩
structure GA(P:Program)(n:Nat)(ds:List Deferred)(ops:Array Oper)(Q:Exit->Act->World->Prop)(S:World->Prop)(Z:Nat->Bool)(fuel:Nat)(L:List Nat)(l:Fr)(w:World)(rs:List Nat):Prop where
 out:okR ops Z=true->S w->∀ a,Rd n ds l a->∀ i∈rs,wpOp P ops Q i (fun a' w'=>(Z i=true\/S w'\/w'=w)/\gV P .any ops Q S Z fuel ((arr ops.size L).setIfInBounds i true) a' w') a w
theorem eM(rs:List Nat)(h:GA P n ds ops Q S Z fuel L l w rs)(hr:dY ops L=rs:=by kernel_rfl)(b:rs≠[]:=by decide):GZ P n ds ops Q S Z (fuel + 1) L l w:=⟨fun ok hS a r =>
 ⟨fun c=>absurd (((fm ops L).trans hr).symm.trans c) b,fun i hi=>h.out ok hS a r i (by rw[<- hr,<- fm];exact hi)⟩⟩
theorem gY:GA P n ds ops Q S Z fuel L l w []:=⟨fun _ _ _ _ _ h=>by cases h⟩
def gR(n:Nat)(l:Fr)(ops:Array Oper)(i:Nat)(d:Option Nat):Bool:=Nat.blt i ops.size && chk n l (ops.getD i default) d
theorem qj(i:Nat)(h:okR ops Z=true->S w->∀ a,Rd n ds l a->wpOp P ops Q i (fun a' w'=>(Z i=true\/S w'\/w'=w)/\gV P .any ops Q S Z fuel ((arr ops.size L).setIfInBounds i true) a' w') a w)(c:GA P n ds ops Q S Z fuel L l w rs):GA P n ds ops Q S Z fuel L l w (i :: rs):=⟨fun ok hS a r j b=>by
 rcases List.mem_cons.1 b with rfl | b
 ·exact h ok hS a r
 ·exact c.out ok hS a r j b⟩
theorem jP(i:Nat)(d:Option Nat)(f:FuncId)(args:Array Value)(b:Calls P f args w Qc)(hk:∀ e w',Qc e w'->∃ v,e=.returned v/\S w'/\GZ P n ds ops Q S Z fuel (i :: L) (pt l d v) w')(o:GA P n ds ops Q S Z fuel L l w rs)(hc:gR n l ops i d=true:=by kernel_rfl)(j:gd ops l (ops.getD i default)=some true:=by kernel_rfl)(hrun:(execOp (evL l) (ops.getD i default)).run P w=.ok (.enter f args) w:=by kernel_rfl):GA P n ds ops Q S Z fuel L l w (i :: rs):=by
 simp only[gR,Bool.and_eq_true] at hc;obtain⟨g,h⟩:=hc;have g:=jo g;obtain⟨p,k⟩:=fX h;refine qj i (fun ok _ a r=>wpOp_step (bW g) fun K m=>?_) o;rw[if_pos (dN r j)];unfold Oper.wp;rw[fq h r,hrun];refine b.mono fun e w' he=>?_
 obtain⟨v,rfl,c,hw⟩:=hk e w' he
 show K (a.put (ops.getD i default).dst v) w'
 rw[p];refine m _ _ ⟨.inr (.inl c),?_⟩;rw[fo L g];exact hw.out ok c _ (r.put d v k)
theorem ux(i:Nat)(d:Option Nat)(v:Value)(w1:World)(hrun:(execOp (evL l) (ops.getD i default)).run P w=.ok (.value v) w1)(b:S w1)(h:GZ P n ds ops Q S Z fuel (i :: L) (pt l d v) w1)(k:GA P n ds ops Q S Z fuel L l w rs)(hc:gR n l ops i d=true:=by kernel_rfl)(f:gd ops l (ops.getD i default)=some true:=by kernel_rfl):GA P n ds ops Q S Z fuel L l w (i :: rs):=by
 simp only[gR,Bool.and_eq_true] at hc;obtain⟨c,e⟩:=hc;have c:=jo c;obtain⟨m,g⟩:=fX e;refine qj i (fun ok _ a r=>wpOp_step (bW c) fun K j=>?_) k;rw[if_pos (dN r f)];unfold Oper.wp;rw[fq e r,hrun]
 show K (a.put (ops.getD i default).dst v) w1
 rw[m];refine j _ _ ⟨.inr (.inl b),?_⟩;rw[fo L c];exact h.out ok b _ (r.put d v g)
theorem CZ(i:Nat)(w1:World)(hrun:(execOp (evL l) (ops.getD i default)).run P w=.ok .skip w1)(b:S w1)(h:GZ P n ds ops Q S Z fuel (i :: L) l w1)(g:GA P n ds ops Q S Z fuel L l w rs)(hc:gR n l ops i none=true:=by kernel_rfl)(e:gd ops l (ops.getD i default)=some true:=by kernel_rfl):GA P n ds ops Q S Z fuel L l w (i :: rs):=by
 simp only[gR,Bool.and_eq_true] at hc;obtain⟨c,d⟩:=hc;have c:=jo c;obtain⟨j,k⟩:=fX d;refine qj i (fun ok _ a r=>wpOp_step (bW c) fun K f=>?_) g;rw[if_pos (dN r e)];unfold Oper.wp;rw[fq d r,hrun]
 show K (a.put (ops.getD i default).dst undef) w1
 rw[j];refine f _ _ ⟨.inr (.inl b),?_⟩;rw[fo L c];exact h.out ok b _ r
theorem yv(i:Nat)(w1:World)(hrun:(execOp (evL l) (ops.getD i default)).run P w=.ok .skip w1)(h:GY P n ds ops Q S Z fuel (i :: L) l w1)(hr:dY ops L=[i]:=by kernel_rfl)(hc:gR n l ops i none=true:=by kernel_rfl)(f:gd ops l (ops.getD i default)=some true:=by kernel_rfl)(k:Z i=true:=by rfl):GY P n ds ops Q S Z (fuel + 1) L l w:=⟨fun ok a r=>by
 simp only[gR,Bool.and_eq_true] at hc;obtain⟨b,d⟩:=hc;have b:=jo b;obtain⟨m,o⟩:=fX d;have hr:=(fm ops L).trans hr;refine⟨fun c=>(by rw[hr] at c;cases c),fun j e=>?_⟩;obtain rfl:j=i:=by rw[hr] at e;simpa using e
 refine wpOp_step (bW b) fun K g=>?_
 rw[if_pos (dN r f)];unfold Oper.wp;rw[fq d r,hrun]
 show K (a.put (ops.getD j default).dst undef) w1
 rw[m];refine g _ _ ⟨.inl k,?_⟩;rw[fo L b]
 exact h.out ok _ r⟩
theorem yt(i d:Nat)(v:Value)(h:GY P n ds ops Q S Z fuel (i :: L) ((d,v) :: l) w)(hr:dY ops L=[i]:=by kernel_rfl)(hc:gR n l ops i (some d)=true:=by kernel_rfl)(g:gd ops l (ops.getD i default)=some true:=by kernel_rfl)(o:Z i=true:=by rfl)(hrun:(execOp (evL l) (ops.getD i default)).run P w=.ok (.value v) w:=by kernel_rfl):GY P n ds ops Q S Z (fuel + 1) L l w:=⟨fun ok a r=>by
 simp only[gR,Bool.and_eq_true] at hc;obtain⟨b,e⟩:=hc;have b:=jo b;obtain⟨p,k⟩:=fX e;have hr:=(fm ops L).trans hr;refine⟨fun c=>(by rw[hr] at c;cases c),fun j f=>?_⟩;obtain rfl:j=i:=by rw[hr] at f;simpa using f
 refine wpOp_step (bW b) fun K m=>?_
 rw[if_pos (dN r g)];unfold Oper.wp;rw[fq e r,hrun]
 show K (a.put (ops.getD j default).dst v) w
 rw[p];refine m _ _ ⟨.inl o,?_⟩;rw[fo L b]
 exact h.out ok _ (r.put (some d) v k)⟩
theorem z(i d:Nat)(v:Value)(h:GZ P n ds ops Q S Z fuel (i :: L) ((d,v) :: l) w)(e:fZ ops Z i=true:=by kernel_rfl)(hc:r9 n l ops L i (some d)=true:=by kernel_rfl)(b:gd ops l (ops.getD i default)=some true:=by kernel_rfl)(hQ:∀ c a w,Q (.panic c) (a.put (some d) v) w->Q (.panic c) a w:=by exact fun _ _ _ h=>h)(hrun:∀ w',S w'->(execOp (evL l) (ops.getD i default)).run P w'=.ok (.value v) w':=by intro _ _;kernel_rfl):GZ P n ds ops Q S Z (fuel+1) L l w:=lV i (some d) v hrun e hc b hQ h
theorem zr(i d:Nat)(v:Value)(hrun:∀ w',S w'->(execOp (evL l) (ops.getD i default)).run P w'=.ok (.value v) w')(h:GZ P n ds ops Q S Z fuel (i :: L) ((d,v) :: l) w)(e:fZ ops Z i=true:=by kernel_rfl)(hc:r9 n l ops L i (some d)=true:=by kernel_rfl)(b:gd ops l (ops.getD i default)=some true:=by kernel_rfl)(hQ:∀ c a w,Q (.panic c) (a.put (some d) v) w->Q (.panic c) a w:=by exact fun _ _ _ h=>h):GZ P n ds ops Q S Z (fuel+1) L l w:=lV i (some d) v hrun e hc b hQ h
theorem zc(i d:Nat)(f:FuncId)(args:Array Value)(a:Calls P f args w Qc)(hk:∀ e w',Qc e w'->∃ v,e=.returned v/\S w'/\GZ P n ds ops Q S Z fuel (i :: L) ((d,v) :: l) w')(hr:dY ops L=[i]:=by kernel_rfl)(hc:gR n l ops i (some d)=true:=by kernel_rfl)(b:gd ops l (ops.getD i default)=some true:=by kernel_rfl)(hrun:(execOp (evL l) (ops.getD i default)).run P w=.ok (.enter f args) w:=by kernel_rfl):GZ P n ds ops Q S Z (fuel+1) L l w:=eM [i] (jP i (some d) f args a hk gY hc b hrun) hr (by simp)
theorem zw(i d:Nat)(v:Value)(w1:World)(hrun:(execOp (evL l) (ops.getD i default)).run P w=.ok (.value v) w1)(a:S w1)(h:GZ P n ds ops Q S Z fuel (i :: L) ((d,v) :: l) w1)(hr:dY ops L=[i]:=by kernel_rfl)(hc:gR n l ops i (some d)=true:=by kernel_rfl)(b:gd ops l (ops.getD i default)=some true:=by kernel_rfl):GZ P n ds ops Q S Z (fuel+1) L l w:=eM [i] (ux i (some d) v w1 hrun a h gY hc b) hr (by simp)
theorem zv(i:Nat)(w1:World)(hrun:(execOp (evL l) (ops.getD i default)).run P w=.ok .skip w1)(a:S w1)(h:GZ P n ds ops Q S Z fuel (i :: L) l w1)(hr:dY ops L=[i]:=by kernel_rfl)(hc:gR n l ops i none=true:=by kernel_rfl)(b:gd ops l (ops.getD i default)=some true:=by kernel_rfl):GZ P n ds ops Q S Z (fuel+1) L l w:=eM [i] (CZ i w1 hrun a h gY hc b) hr (by simp)
end
end
section
variable {w:World}{g:Nat}{cs vs:List Value}{v x:Value}
abbrev pg(g:Nat):Value:=.pointer (some ⟨g,0,none⟩)
abbrev iU(x:Int):Value:=.int .u64 x
abbrev iI(x:Int):Value:=.int .i64 x
abbrev bT:Value:=.bool true
abbrev bF:Value:=.bool false
abbrev zS:Value:=.slice none 0 0
abbrev cB(f:FuncId)(a:Array Value)(w:World)(v:Value):Prop:=Calls Tryz.prog f a w fun e w'=>e=.returned v/\Below w.heap.size w w'
abbrev pq(g o:Nat):Value:=.pointer (some ⟨g,o,none⟩)
abbrev sg(n g:Nat):Value:=.slice (some ⟨g,0,none⟩) n n
def zJ(P:Program)(T:TypeId)(n:Nat):Bool:=(match P.underlying T with | some d=>d.isRow | none=>false) && ((P.info? T).map (·.size) == some n)
theorem l1{P:Program}{t T:TypeId}(X:Blk w g cs t)(o:Nat)(hv:cs[o]?=some v:=by rfl)(a:∀ w,(isAgg T).run P w=.ok false w:=by intro _;kernel_rfl):(loadVar T ⟨g,o,none⟩).run P w=.ok v w:=by
 have h:=X.cell hv;simp[loadVar,a,h]
theorem lr{P:Program}{t T:TypeId}(X:Blk w g cs t)(o:Nat)(hr:(cs.drop o).take vs.length=vs:=by rfl)(hc:zJ P T vs.length=true:=by kernel_rfl):(loadVar T ⟨g,o,none⟩).run P w=.ok (.agg vs.toArray) w:=by
 simp only[zJ,Bool.and_eq_true,beq_iff_eq] at hc;obtain⟨a,b⟩:=hc
 cases hu:P.underlying T with
 | none=>rw[hu] at a;cases a
 | some d =>
  rw[hu] at a;refine run_loadVar_mid w g o T vs d (fun j v hv=>?_) hu a b;refine X.cell ?_
  rw[<- hr] at hv;rw[List.getElem?_take] at hv;split at hv
  ·rw[List.getElem?_drop] at hv;exact hv
  ·cases hv
def spl(cs:List Value)(o:Nat)(vs:List Value):List Value:=cs.take o ++ vs ++ cs.drop (o+vs.length)
theorem iO(b:Nat):∀ (vs:List Value) (o:Nat) (w:World) (k:Nat),k≠b->(w.setCells b o vs).heap[k]?=w.heap[k]?
 | [],_,_,_,_=>rfl
 | v :: r,o,w,k,h=>by
  rw[World.setCells,iO b r (o+1) _ k h,Below.heap_setCell w ⟨b,o,none⟩ v k h]
theorem iJ(b:Nat):∀ (vs:List Value) (o:Nat) (w:World),(w.setCells b o vs).heap.size=w.heap.size
 | [],_,_=>rfl
 | v :: r,o,w=>by rw[World.setCells,iJ b r (o+1)];simp[World.setCell]
theorem eC(b:Nat):∀ (vs:List Value) (o:Nat) (w:World),(w.setCells b o vs).os=w.os/\(w.setCells b o vs).tape=w.tape/\(w.setCells b o vs).output=w.output
 | [],_,_=>⟨rfl,rfl,rfl⟩
 | v :: r,o,w=>by rw[World.setCells];exact eC b r (o+1) _
theorem fb{t:TypeId}:∀ (vs:List Value) (o:Nat) (cs:List Value) (w:World),Blk w g cs t->o+vs.length<=cs.length->Blk (w.setCells g o vs) g (spl cs o vs) t
 | [],o,cs,w,X,_=>by simpa[World.setCells,spl] using X
 | v :: r,o,cs,w,X,h=>by
  rw[World.setCells]
  have h':o+1+r.length<=(cs.set o v).length:=by simp at h ⊢;omega
  have:=fb r (o+1) (cs.set o v) _ (X.setCell (i:=o) v) h'
  have e:spl (cs.set o v) (o+1) r=spl cs o (v :: r):=by
   simp only[List.length_cons] at h;unfold spl;rw[List.drop_set_of_lt (by omega),List.take_set,List.take_add_one,List.set_append]
   have a:(cs.take o).length=o:=by rw[List.length_take];omega
   rw[a,if_neg (by omega),Nat.sub_self];obtain⟨y,hy⟩:∃ y,cs[o]?=some y:=⟨_,List.getElem?_eq_getElem (by omega)⟩
   rw[hy];simp;omega
  rw[e] at this;exact this
theorem oZ{P:Program}{o:Nat}{t T:TypeId}(X:Blk w g cs t)(hx:x.cells.toList=vs)(hi:((P.info? T).map (·.size) == some vs.length)=true)(h1:vs.all (·.oneCell')=true)(hb:o+vs.length<=cs.length):(storeVar T ⟨g,o,none⟩ x).run P w=.ok () (w.setCells g o vs):=by
 have:=run_storeCells_cells (P:=P) g o vs 0 w (fun j c=>by
   have:=X.cell (i:=o+j) (List.getElem?_eq_getElem (by omega))
   simpa using (by rw[this];rfl:(w.cell? ⟨g,o+j,none⟩).isSome=true)) (fun j _=>by simpa using X.free (o+j))
  (fun v hv=>List.all_eq_true.1 h1 v hv)
 cases hq:P.info? T with
 | none=>rw[hq] at hi;cases hi
 | some i =>
  rw[hq] at hi
  have b:i.size=vs.length:=by simpa using hi
  have a:x.cells.size=i.size:=by rw[b,<- hx];simp
  simp only[Nat.add_zero] at this;simp[storeVar,sizeOf,typeInfo,hq,a,hx,this]
end
section
variable {P:Program} {n:Nat} {ds:List Deferred} {ops:Array Oper} {rest:List Oper} {o o1 o2:Oper} {l:Fr} {w w1:World} {Q Q':Exit->Act->World->Prop} {K:Act->World->Prop} {S:World->Prop} {Z:Nat->Bool} {fuel:Nat} {L:List Nat}
section
variable {ρ:Operand->Value}{g off:Nat}{cs vs:List Value}{x v:Value}{rs:List Nat}
theorem oU{t:TypeId}(X:Blk w g cs t)(a:∃ T p q,o.op=.store T p q/\ρ p=.pointer (some ⟨g,off,none⟩)/\ρ q=x/\((P.info? T).map (·.size) == some vs.length)=true)(hx:x.cells.toList=vs)(h1:vs.all (·.oneCell')=true)(hb:Nat.ble (off+vs.length) cs.length=true):(execOp ρ o).run P w=.ok .skip (w.setCells g off vs):=by
 obtain⟨T,p,q,h,b,hq,hi⟩:=a;simp only[execOp,h,b,hq,Instr.storeAt,Instr.sureAddr,Sem.run_bind,Sem.run_pure,Result.andThen_ok,oZ X hx hi h1 (Nat.le_of_ble_eq_true hb)]
theorem gu(g off:Nat)(vs:List Value):Chg (·=g) w (w.setCells g off vs):=⟨(eC g vs off w).1,(eC g vs off w).2.1,(eC g vs off w).2.2,by rw[iJ];exact Nat.le_refl _,fun b _ hb=>iO g vs off w b hb⟩
theorem wg{t:TypeId}(X:Blk w g cs t)(hv:cs[off]?=some v)(ho:∃ T p,o.op=.load T p/\ρ p=.pointer (some ⟨g,off,none⟩)/\∀ w,(isAgg T).run P w=.ok false w):(execOp ρ o).run P w=.ok (.value v) w:=by
 obtain⟨T,p,h,a,b⟩:=ho;have:=l1 (P:=P) (T:=T) X off hv b;simp only[execOp,h,a];simp[Instr.loadAt,Instr.sureAddr,Result.andThen,this]
theorem lM{t:TypeId}(X:Blk w g cs t)(hr:(cs.drop off).take vs.length=vs)(ho:∃ T p,o.op=.load T p/\ρ p=.pointer (some ⟨g,off,none⟩)/\zJ P T vs.length=true):(execOp ρ o).run P w=.ok (.value (.agg vs.toArray)) w:=by
 obtain⟨T,p,h,a,b⟩:=ho;have:=lr (P:=P) (T:=T) X off hr b;simp only[execOp,h,a];simp[Instr.loadAt,Instr.sureAddr,Result.andThen,this]
theorem tl(d:Nat)(v:Value){t:TypeId}(X:Blk w g cs t)(off:Nat)(h:GL P n ds ops Q rest ((d,v) :: l) w)(hv:cs[off]?=some v:=by rfl)(ho:∃ T p,o.op=.load T p/\evL l p=.pointer (some ⟨g,off,none⟩)/\∀ w,(isAgg T).run P w=.ok false w:=by exact⟨_,_,rfl,by kernel_rfl,fun _=>by kernel_rfl⟩)(a:gd ops l o=some true:=by kernel_rfl)(hc:chk n l o (some d)=true:=by kernel_rfl):GL P n ds ops Q (o :: rest) l w:=fw (some d) v a hc (wg X hv ho) h
theorem tlr(d:Nat)(vs:List Value){t:TypeId}(X:Blk w g cs t)(off:Nat)(h:GL P n ds ops Q rest ((d,.agg vs.toArray) :: l) w)(hr:(cs.drop off).take vs.length=vs:=by rfl)(ho:∃ T p,o.op=.load T p/\evL l p=.pointer (some ⟨g,off,none⟩)/\zJ P T vs.length=true:=by exact⟨_,_,rfl,by kernel_rfl,by kernel_rfl⟩)(a:gd ops l o=some true:=by kernel_rfl)(hc:chk n l o (some d)=true:=by kernel_rfl):GL P n ds ops Q (o :: rest) l w:=fw (some d) _ a hc (lM X hr ho) h
theorem zl(i d:Nat)(v:Value){t:TypeId}(X:∀ w',S w'->Blk w' g cs t)(off:Nat)(h:GZ P n ds ops Q S Z fuel (i :: L) ((d,v) :: l) w)(hv:cs[off]?=some v:=by rfl)(ho:∃ T p,(ops.getD i default).op=.load T p/\evL l p=.pointer (some ⟨g,off,none⟩)/\∀ w,(isAgg T).run P w=.ok false w:=by exact⟨_,_,rfl,by kernel_rfl,fun _=>by kernel_rfl⟩)(f:fZ ops Z i=true:=by kernel_rfl)(hc:r9 n l ops L i (some d)=true:=by kernel_rfl)(e:gd ops l (ops.getD i default)=some true:=by kernel_rfl)(hQ:∀ c a w,Q (.panic c) (a.put (some d) v) w->Q (.panic c) a w:=by exact fun _ _ _ h=>h):GZ P n ds ops Q S Z (fuel+1) L l w:=lV i (some d) v (fun w' b=>wg (X w' b) hv ho) f hc e hQ h
theorem zlr(i d:Nat)(vs:List Value){t:TypeId}(X:∀ w',S w'->Blk w' g cs t)(off:Nat)(h:GZ P n ds ops Q S Z fuel (i :: L) ((d,.agg vs.toArray) :: l) w)(hr:(cs.drop off).take vs.length=vs:=by rfl)(ho:∃ T p,(ops.getD i default).op=.load T p/\evL l p=.pointer (some ⟨g,off,none⟩)/\zJ P T vs.length=true:=by exact⟨_,_,rfl,by kernel_rfl,by kernel_rfl⟩)(f:fZ ops Z i=true:=by kernel_rfl)(hc:r9 n l ops L i (some d)=true:=by kernel_rfl)(e:gd ops l (ops.getD i default)=some true:=by kernel_rfl)(hQ:∀ c a w,Q (.panic c) (a.put (some d) (.agg vs.toArray)) w->Q (.panic c) a w:=by exact fun _ _ _ h=>h):GZ P n ds ops Q S Z (fuel+1) L l w:=lV i (some d) _ (fun w' b=>lM (X w' b) hr ho) f hc e hQ h
theorem ta(d:Nat)(vs:List Value)(T:TypeId)(mk:Nat->Value)(h:∀ w1 g,Blk w1 g vs T->w.heap.size<=g->Below w.heap.size w w1->GL P n ds ops Q rest ((d,mk g) :: l) w1)(a:gd ops l o=some true:=by kernel_rfl)(hc:chk n l o (some d)=true:=by kernel_rfl)(hrun:(execOp (evL l) o).run P w=.ok (.value (mk w.heap.size)) (w.alloc (.cells vs.toArray T)):=by kernel_rfl):GL P n ds ops Q (o :: rest) l w :=
 fw (some d) _ a hc hrun (h _ _ (aj w vs T) (Nat.le_refl _) (aa w _))
theorem ts{t:TypeId}(X:Blk w g cs t)(off:Nat)(x:Value)(vs a:List Value)(h:∀ w1,Blk w1 g a t->Chg (·=g) w w1->GL P n ds ops Q rest l w1)(hx:x.cells.toList=vs:=by rfl)(h1:vs.all (·.oneCell')=true:=by rfl)(hb:Nat.ble (off+vs.length) cs.length=true:=by rfl)(he:spl cs off vs=a:=by rfl)(b:∃ T p q,o.op=.store T p q/\evL l p=.pointer (some ⟨g,off,none⟩)/\evL l q=x/\((P.info? T).map (·.size) == some vs.length)=true:=by exact⟨_,_,_,rfl,by kernel_rfl,by kernel_rfl,by kernel_rfl⟩)(c:gd ops l o=some true:=by kernel_rfl)(hc:chk n l o none=true:=by kernel_rfl):GL P n ds ops Q (o :: rest) l w:=by
 refine uX c hc (oU X b hx h1 hb) (h _ ?_ (gu g off vs));rw[<- he];exact fb vs off cs w X (Nat.le_of_ble_eq_true hb)
theorem spw(h:vs.length=cs.length):Nat.ble (0+vs.length) cs.length=true/\spl cs 0 vs=vs:=by
 refine⟨by simp[h],?_⟩;simp[spl,h]
theorem tsw{t:TypeId}(X:Blk w g cs t)(vs:List Value)(h:∀ w1,Blk w1 g vs t->Chg (·=g) w w1->GL P n ds ops Q rest l w1)(h1:vs.all (·.oneCell')=true:=by rfl)(hb:vs.length=cs.length:=by rfl)(a:∃ T p q,o.op=.store T p q/\evL l p=.pointer (some ⟨g,0,none⟩)/\evL l q=.agg vs.toArray/\((P.info? T).map (·.size) == some vs.length)=true:=by exact⟨_,_,_,rfl,by kernel_rfl,by kernel_rfl,by kernel_rfl⟩)(b:gd ops l o=some true:=by kernel_rfl)(hc:chk n l o none=true:=by kernel_rfl):GL P n ds ops Q (o :: rest) l w:=ts X 0 (.agg vs.toArray) vs vs h rfl h1 (spw hb).1 (spw hb).2 a b hc
theorem ts1{t:TypeId}(X:Blk w g cs t)(x:Value)(h:∀ w1,Blk w1 g [x] t->Chg (·=g) w w1->GL P n ds ops Q rest l w1)(hx:x.cells.toList=[x]:=by rfl)(h1:x.oneCell'=true:=by rfl)(hb:cs.length=1:=by rfl)(a:∃ T p q,o.op=.store T p q/\evL l p=.pointer (some ⟨g,0,none⟩)/\evL l q=x/\((P.info? T).map (·.size) == some 1)=true:=by exact⟨_,_,_,rfl,by kernel_rfl,by kernel_rfl,by kernel_rfl⟩)(b:gd ops l o=some true:=by kernel_rfl)(hc:chk n l o none=true:=by kernel_rfl):GL P n ds ops Q (o :: rest) l w:=ts X 0 x [x] [x] h hx (by simpa using h1) (spw (vs:=[x]) (by simpa using hb.symm)).1 (spw (vs:=[x]) (by simpa using hb.symm)).2 a b hc
theorem za(i d:Nat)(vs:List Value)(T:TypeId)(mk:Nat->Value)(h:∀ w1 g,Blk w1 g vs T->w.heap.size<=g->Below w.heap.size w w1->S w1/\GZ P n ds ops Q S Z fuel (i :: L) ((d,mk g) :: l) w1)(hr:dY ops L=[i]:=by kernel_rfl)(a:gd ops l (ops.getD i default)=some true:=by kernel_rfl)(hc:gR n l ops i (some d)=true:=by kernel_rfl)(hrun:(execOp (evL l) (ops.getD i default)).run P w=.ok (.value (mk w.heap.size)) (w.alloc (.cells vs.toArray T)):=by kernel_rfl):GZ P n ds ops Q S Z (fuel+1) L l w:=by
 have H:=h _ _ (aj w vs T) (Nat.le_refl _) (aa w _);exact zw i d _ _ hrun H.1 H.2 hr hc a
theorem zaa(i d:Nat)(vs:List Value)(T:TypeId)(mk:Nat->Value)(h:∀ w1 g,Blk w1 g vs T->w.heap.size<=g->Below w.heap.size w w1->S w1/\GZ P n ds ops Q S Z fuel (i :: L) ((d,mk g) :: l) w1)(a:GA P n ds ops Q S Z fuel L l w rs)(b:gd ops l (ops.getD i default)=some true:=by kernel_rfl)(hc:gR n l ops i (some d)=true:=by kernel_rfl)(hrun:(execOp (evL l) (ops.getD i default)).run P w=.ok (.value (mk w.heap.size)) (w.alloc (.cells vs.toArray T)):=by kernel_rfl):GA P n ds ops Q S Z fuel L l w (i :: rs):=by
 have H:=h _ _ (aj w vs T) (Nat.le_refl _) (aa w _);exact ux i (some d) _ _ hrun H.1 H.2 a hc b
theorem zs(i:Nat){t:TypeId}(X:Blk w g cs t)(off:Nat)(x:Value)(vs a:List Value)(h:∀ w1,Blk w1 g a t->Chg (·=g) w w1->S w1/\GZ P n ds ops Q S Z fuel (i :: L) l w1)(hx:x.cells.toList=vs:=by rfl)(h1:vs.all (·.oneCell')=true:=by rfl)(hb:Nat.ble (off+vs.length) cs.length=true:=by rfl)(he:spl cs off vs=a:=by rfl)(b:∃ T p q,(ops.getD i default).op=.store T p q/\evL l p=.pointer (some ⟨g,off,none⟩)/\evL l q=x/\((P.info? T).map (·.size) == some vs.length)=true:=by exact⟨_,_,_,rfl,by kernel_rfl,by kernel_rfl,by kernel_rfl⟩)(hr:dY ops L=[i]:=by kernel_rfl)(c:gd ops l (ops.getD i default)=some true:=by kernel_rfl)(hc:gR n l ops i none=true:=by kernel_rfl):GZ P n ds ops Q S Z (fuel+1) L l w:=by
 have Y:=fb vs off cs w X (Nat.le_of_ble_eq_true hb);rw[he] at Y;have H:=h _ Y (gu g off vs);exact zv i _ (oU X b hx h1 hb) H.1 H.2 hr hc c
theorem zsw(i:Nat){t:TypeId}(X:Blk w g cs t)(vs:List Value)(h:∀ w1,Blk w1 g vs t->Chg (·=g) w w1->S w1/\GZ P n ds ops Q S Z fuel (i :: L) l w1)(h1:vs.all (·.oneCell')=true:=by rfl)(hb:vs.length=cs.length:=by rfl)(a:∃ T p q,(ops.getD i default).op=.store T p q/\evL l p=.pointer (some ⟨g,0,none⟩)/\evL l q=.agg vs.toArray/\((P.info? T).map (·.size) == some vs.length)=true:=by exact⟨_,_,_,rfl,by kernel_rfl,by kernel_rfl,by kernel_rfl⟩)(hr:dY ops L=[i]:=by kernel_rfl)(b:gd ops l (ops.getD i default)=some true:=by kernel_rfl)(hc:gR n l ops i none=true:=by kernel_rfl):GZ P n ds ops Q S Z (fuel+1) L l w:=zs i X 0 (.agg vs.toArray) vs vs h rfl h1 (spw hb).1 (spw hb).2 a hr b hc
theorem ys(i:Nat){t:TypeId}(X:Blk w g cs t)(off:Nat)(x:Value)(vs a:List Value)(h:∀ w1,Blk w1 g a t->Chg (·=g) w w1->GY P n ds ops Q S Z fuel (i :: L) l w1)(hx:x.cells.toList=vs:=by rfl)(h1:vs.all (·.oneCell')=true:=by rfl)(hb:Nat.ble (off+vs.length) cs.length=true:=by rfl)(he:spl cs off vs=a:=by rfl)(b:∃ T p q,(ops.getD i default).op=.store T p q/\evL l p=.pointer (some ⟨g,off,none⟩)/\evL l q=x/\((P.info? T).map (·.size) == some vs.length)=true:=by exact⟨_,_,_,rfl,by kernel_rfl,by kernel_rfl,by kernel_rfl⟩)(hr:dY ops L=[i]:=by kernel_rfl)(c:gd ops l (ops.getD i default)=some true:=by kernel_rfl)(hc:gR n l ops i none=true:=by kernel_rfl)(d:Z i=true:=by rfl):GY P n ds ops Q S Z (fuel+1) L l w:=by
 have Y:=fb vs off cs w X (Nat.le_of_ble_eq_true hb);rw[he] at Y;exact yv i _ (oU X b hx h1 hb) (h _ Y (gu g off vs)) hr hc c d
end
end
section
variable {z:Int}{ρ:Operand->Value}{o:Oper}{w:World}
theorem wi(h:-9223372036854775808<=z/\z < 9223372036854775808):Value.int .i64 (IntKind.i64.wrap z)=.int .i64 z:=by rw[IntKind.wrap_i64];congr 1;omega
theorem wu(h:0<=z/\z < 18446744073709551616):Value.int .u64 (IntKind.u64.wrap z)=.int .u64 z:=by rw[IntKind.wrap_u64];congr 1;omega
theorem wG{P:Program}{v v':Value}(e:v=v')(h:(execOp ρ o).run P w=.ok (.value v) w):(execOp ρ o).run P w=.ok (.value v') w:=e▸h
def slT(P:Program)(T:TypeId)(sz:Nat):Bool:=match P.underlying T with
 | some (.slice e)=>(P.info? e).map (·.size) == some sz
 | _=>false
theorem qD{P:Program}(g b off n c k:Nat)(hk:k < n)(ho:∃ T x y,o.op=.indexAddr T x y/\slT P T g=true/\ρ x=.slice (some ⟨b,off,none⟩) n c/\ρ y=.int .i64 (k:Int):=by exact⟨_,_,_,rfl,by kernel_rfl,by kernel_rfl,by kernel_rfl⟩):(execOp ρ o).run P w=.ok (.value (.pointer (some ⟨b,off+k * g,none⟩))) w:=by
 obtain⟨T,x,y,j,f,l,m⟩:=ho
 have p:(k:Int) < n:=by omega
 have q:¬ ((k:Int) < 0):=by omega
 unfold slT at f
 cases hu:P.underlying T with
 | none=>rw[hu] at f;cases f
 | some d =>
  rw[hu] at f
  cases d with
  | slice e =>
   simp only[beq_iff_eq] at f
   cases hi:P.info? e with
   | none=>rw[hi] at f;cases f
   | some i =>
    rw[hi] at f;simp at f;simp only[execOp,j,l,m];go_simp;simp[sizeOf,typeInfo,hi,f]
  | _=>cases f
theorem aM{w0 w1:World}{g:Nat}(B:Below w0.heap.size w0 w)(C:Chg (·=g) w w1)(h:w0.heap.size<=g):Below w0.heap.size w0 w1:=B.trans (C.below (fun b e=>by have e':b=g:=e;omega) B.size)
end
end Gl
end
section
namespace Rc
open Go.RowKit Go.Lib Pg Gl
attribute [local go_sem] Oper.semAt_some
section
variable {G:Nat->Prop}{c:Value}{kd:Nat->Nat}{ev:Operand->Value}{w:World}{f:FuncId}
def thr{σ:Type}(nx:Nat->Nat->σ->σ)(l:List (Nat × Nat))(s:σ):σ:=l.foldl (fun s p=>nx p.1 p.2 s) s
theorem HC.okt{σ:Type}{Inv:σ->World->Prop}{rb:Nat}{f1 f2 f3:FuncId}{nx:Nat->Nat->σ->σ}{ok:σ->Prop}(H:HC σ Inv G rb f1 f2 f3 c nx kd ok)(l:List (Nat × Nat)):∀ s,ok (thr nx l s)->ok s:=by
 induction l with
 | nil=>exact fun _ h=>h
 | cons o l ih=>exact fun s h=>H.oks _ _ _ (ih _ h)
abbrev hq(f1 f2 f3:FuncId)(c:Value):List Value:=[.func (.func f1) #[] #[c],.func (.func f2) #[] #[c],.func (.func f3) #[] #[c]]
theorem uT{o:Oper}{x y:Operand}{v:Value}{T:Array TypeId}(ho:o.op=.call { callee:=.value x,args:=#[y],argTypes:=T })(hx:ev x=.func (.func f) #[] #[c])(hy:ev y=v)(he:∀ args w,(callFunc f args).run Tryz.prog w=.ok (.enter f args) w):(execOp ev o).run Tryz.prog w=.ok (.enter f #[v,c]) w:=by
 have b:=he #[v,c] w;simp only[execOp,ho];go_simp
structure Oi{σ:Type}(Inv:σ->World->Prop)(G:Nat->Prop)(rb:Nat)(f1 f2 f3:FuncId)(c:Value)(nx:Nat->Nat->σ->σ)(kd:Nat->Nat)(ok:σ->Prop)(w0:World)(gb:Nat)(R:List (Nat × Nat))(s:σ)(w:World):Prop where
 H:HC σ Inv G rb f1 f2 f3 c nx kd ok
 I:Inv s w
 C:Chg G w0 w
 X:Blk w gb (hq f1 f2 f3 c) 216
 ng:¬ G gb
 hk:∀ p∈R,kd p.2=p.1
 hok:ok (thr nx R s)
end
section
variable {σ:Type} {Inv:σ->World->Prop} {G:Nat->Prop} {rb:Nat} {f1 f2 f3:FuncId} {c:Value} {nx:Nat->Nat->σ->σ} {kd:Nat->Nat} {ok:σ->Prop} {s:σ} {w0 w v:World} {gb:Nat} {R:List (Nat × Nat)}
section
variable {k n sb:Nat}
theorem Oi.start(H:HC σ Inv G rb f1 f2 f3 c nx kd ok)(a:Inv s w)(hk:∀ p∈R,kd p.2=p.1)(hok:ok (thr nx R s))(X:Blk v gb (hq f1 f2 f3 c) 216)(b:w.heap.size<=gb)(B:Below w.heap.size w v):Oi Inv G rb f1 f2 f3 c nx kd ok w gb R s v :=
 ⟨H,H.keep _ _ _ a B,Chg.of B,X,fun h=>by have:=H.old s w _ a h;omega,hk,hok⟩
theorem Oi.below(O:Oi Inv G rb f1 f2 f3 c nx kd ok w0 gb R s w)(B:Below w.heap.size w v):Oi Inv G rb f1 f2 f3 c nx kd ok w0 gb R s v :=
 ⟨O.H,O.H.keep _ _ _ O.I B,O.C.trans (Chg.of (F:=G) B) (fun _ _ h=>h),O.X.keep B,O.ng,O.hk,O.hok⟩
theorem Oi.drew(O:Oi Inv G rb f1 f2 f3 c nx kd ok w0 gb R s w):Oi Inv G rb f1 f2 f3 c nx kd ok w0 gb R s w.drew:=O.below (Eb w)
theorem Oi.new(O:Oi Inv G rb f1 f2 f3 c nx kd ok w0 gb R s w){g:Nat}(a:w.heap.size<=g)(B:Below w.heap.size w v):Oi Inv G rb f1 f2 f3 c nx kd ok w0 gb R s v/\¬ G g :=
 ⟨O.below B,fun h=>by have:=O.H.old s w _ O.I h;omega⟩
theorem Cq(a:List Nat)(b:R.take a.length=a.map fun o=>(k,o)):thr nx R s=thr nx (R.drop a.length) (a.foldl (fun s o=>nx k o s) s):=by
 conv=>lhs;rw[<- List.take_append_drop a.length R,b]
 simp only[thr,List.foldl_append,List.foldl_map]
theorem Oi.next(O:Oi Inv G rb f1 f2 f3 c nx kd ok w0 gb R s w)(a:List Nat)(b:R.take a.length=a.map fun o=>(k,o)):(∀ o∈a,kd o=k)/\ok (a.foldl (fun s o=>nx k o s) s)/\(Inv (a.foldl (fun s o=>nx k o s) s) v->Chg G w v->Oi Inv G rb f1 f2 f3 c nx kd ok w0 gb (R.drop a.length) (a.foldl (fun s o=>nx k o s) s) v):=by
 have hok:=O.hok;rw[Cq a b] at hok;exact⟨fun o e=>O.hk (k,o) (List.mem_of_mem_take (b▸List.mem_map.2 ⟨o,e,rfl⟩)),O.H.okt _ _ hok,fun I C=>⟨O.H,I,O.C.trans C (fun _ _ h=>h),O.X.chg C O.ng,O.ng,fun p d=>O.hk p (List.mem_of_mem_drop d),hok⟩⟩
theorem Oi.tru(o:Nat)(O:Oi Inv G rb f1 f2 f3 c nx kd ok w0 gb R s w)(a:R.take 1=[(1,o)]:=by rfl):Calls Tryz.prog f2 #[pq rb o,c] w fun e w'=>e=.returned (.tuple #[])/\Oi Inv G rb f1 f2 f3 c nx kd ok w0 gb (R.drop 1) (nx 1 o s) w':=by
 have d:=(O.next (v:=w) [o] a).1;have b:=(O.next (v:=w) [o] a).2.1;refine(O.H.t s w o O.I b (d o (List.mem_singleton.2 rfl))).mono ?_
 rintro e w' ⟨rfl,I,C⟩;exact⟨rfl,(O.next [o] a).2.2 I C⟩
theorem Oi.numbers(a:List Nat)(O:Oi Inv G rb f1 f2 f3 c nx kd ok w0 gb R s w)(N:¬ G sb)(X:Blk w sb (a.map fun o=>.pointer (some ⟨rb,o,none⟩)) 111)(b:R.take a.length=a.map (fun o=>(0,o)):=by rfl)(hn:a.length=n:=by rfl)(d:n<=1000:=by decide):Calls Tryz.prog 116 #[.agg (hq f1 f2 f3 c).toArray,sg n sb] w fun e w'=>e=.returned (.tuple #[])/\Oi Inv G rb f1 f2 f3 c nx kd ok w0 gb (R.drop a.length) (a.foldl (fun s o=>nx 0 o s) s) w':=by
 refine(rR O.H O.I X N (O.next (v:=w) a b).1 (O.next (v:=w) a b).2.1 hn d).mono ?_
 rintro e w' ⟨rfl,I,C⟩;exact⟨rfl,(O.next a b).2.2 I C⟩
theorem Oi.gi(a:List Nat)(O:Oi Inv G rb f1 f2 f3 c nx kd ok w0 gb R s w)(N:¬ G sb)(X:Blk w sb (a.map fun o=>.pointer (some ⟨rb,o,none⟩)) 212)(b:R.take a.length=a.map (fun o=>(2,o)):=by rfl)(hn:a.length=n:=by rfl)(d:n<=1000:=by decide):Calls Tryz.prog 120 #[.agg (hq f1 f2 f3 c).toArray,sg n sb] w fun e w'=>e=.returned (.tuple #[])/\Oi Inv G rb f1 f2 f3 c nx kd ok w0 gb (R.drop a.length) (a.foldl (fun s o=>nx 2 o s) s) w':=by
 refine(oY O.H O.I X N (O.next (v:=w) a b).1 (O.next (v:=w) a b).2.1 hn d).mono ?_
 rintro e w' ⟨rfl,I,C⟩;exact⟨rfl,(O.next a b).2.2 I C⟩
theorem jU(H:HC σ Inv G rb f1 f2 f3 c nx kd ok)(g:Inv s w)(a:∀ p∈[(0,0),(0,1),(0,2),(0,3),(0,4),(0,5),(0,6),(0,7),(0,8),(0,9)],kd p.2=p.1)(hok:ok (thr nx [(0,0),(0,1),(0,2),(0,3),(0,4),(0,5),(0,6),(0,7),(0,8),(0,9)] s)):Calls Tryz.prog 128 #[.pointer (some ⟨rb,0,none⟩),.agg #[.func (.func f1) #[] #[c],.func (.func f2) #[] #[c],.func (.func f3) #[] #[c]]] w (ql σ Inv G (thr nx [(0,0),(0,1),(0,2),(0,3),(0,4),(0,5),(0,6),(0,7),(0,8),(0,9)] s) w):=by
 refine af (n:=37) Tryz.func128 rfl ?_
 refine sr<|ta 3 (hq f1 f2 f3 c) 216 (pg) ?_
 intro v1 k b f B;have O:=Oi.start H g a hok b f B;clear b B H g a hok;refine nt ?_
 replace O:=O.drew;refine gd1 O.X ?_
 refine zlr 0 4 (hq f1 f2 f3 c) (fun _ h=>h) 0<|z 1 5 (pg rb)<|z 2 6 (pg rb)<|z 3 7 (pg rb)<|z 4 8 (pg rb)<|z 5 9 (pg rb)<|z 6 10 (pq rb 1)<|z 7 11 (pg rb)<|z 8 12 (pg rb)<|z 9 13 (pq rb 2)<|z 10 14 (pg rb)<|z 11 15 (pg rb)<|z 12 16 (pq rb 3)<|z 13 17 (pg rb)<|z 14 18 (pg rb)<|z 15 19 (pq rb 4)<|z 16 20 (pg rb)<|z 17 21 (pg rb)<|z 18 22 (pq rb 5)<|z 19 23 (pg rb)<|z 20 24 (pg rb)<|z 21 25 (pq rb 6)<|z 22 26 (pg rb)<|z 23 27 (pg rb)<|z 24 28 (pq rb 7)<|z 25 29 (pg rb)<|z 26 30 (pg rb)<|z 27 31 (pq rb 8)<|z 28 32 (pg rb)<|z 29 33 (pg rb)<|z 30 34 (pq rb 9)<|za 31 35 [pg rb,pq rb 1,pq rb 2,pq rb 3,pq rb 4,pq rb 5,pq rb 6,pq rb 7,pq rb 8,pq rb 9] 111 (sg 10) ?_
 intro j i d e B;obtain⟨O,N⟩:=O.new e B;refine⟨O.X,zc 32 36 116 #[.agg (hq f1 f2 f3 c).toArray,sg 10 i] (O.numbers [0,1,2,3,4,5,6,7,8,9] N d) ?_⟩;rintro _ l ⟨rfl,O⟩;clear d N;refine⟨_,rfl,O.X,aP<|aV (.tuple #[]) (rs0) ?_⟩;exact⟨rfl,O.I,O.C⟩
theorem sf(H:HC σ Inv G rb f1 f2 f3 c nx kd ok)(g:Inv s w)(a:∀ p∈[(0,0),(0,1)],kd p.2=p.1)(hok:ok (thr nx [(0,0),(0,1)] s)):Calls Tryz.prog 130 #[.pointer (some ⟨rb,0,none⟩),.agg #[.func (.func f1) #[] #[c],.func (.func f2) #[] #[c],.func (.func f3) #[] #[c]]] w (ql σ Inv G (thr nx [(0,0),(0,1)] s) w):=by
 refine af (n:=13) Tryz.func130 rfl ?_
 refine sr<|ta 3 (hq f1 f2 f3 c) 216 (pg) ?_
 intro v1 k b f B;have O:=Oi.start H g a hok b f B;clear b B H g a hok;refine nt ?_
 replace O:=O.drew;refine gd1 O.X ?_
 refine zlr 0 4 (hq f1 f2 f3 c) (fun _ h=>h) 0<|z 1 5 (pg rb)<|z 2 6 (pg rb)<|z 3 7 (pg rb)<|z 4 8 (pg rb)<|z 5 9 (pg rb)<|z 6 10 (pq rb 1)<|za 7 11 [pg rb,pq rb 1] 111 (sg 2) ?_
 intro j i d e B;obtain⟨O,N⟩:=O.new e B;refine⟨O.X,zc 8 12 116 #[.agg (hq f1 f2 f3 c).toArray,sg 2 i] (O.numbers [0,1] N d) ?_⟩;rintro _ l ⟨rfl,O⟩;clear d N;refine⟨_,rfl,O.X,aP<|aV (.tuple #[]) (rs0) ?_⟩;exact⟨rfl,O.I,O.C⟩
theorem mX(H:HC σ Inv G rb f1 f2 f3 c nx kd ok)(g:Inv s w)(a:∀ p∈[(2,0)],kd p.2=p.1)(hok:ok (thr nx [(2,0)] s)):Calls Tryz.prog 363 #[.pointer (some ⟨rb,0,none⟩),.agg #[.func (.func f1) #[] #[c],.func (.func f2) #[] #[c],.func (.func f3) #[] #[c]]] w (ql σ Inv G (thr nx [(2,0)] s) w):=by
 refine af (n:=8) Tryz.func363 rfl ?_
 refine sr<|ta 3 (hq f1 f2 f3 c) 216 (pg) ?_
 intro v1 j b f B;have O:=Oi.start H g a hok b f B;clear b B H g a hok;refine nt<|aN<|tlr 4 (hq f1 f2 f3 c) O.X 0<|tz 1<|ta 6 [pg rb] 212 (sg 1) ?_
 intro i h d e B;obtain⟨O,N⟩:=O.new e B;refine tc 7 120 #[.agg (hq f1 f2 f3 c).toArray,sg 1 h] (O.gi [0] N d) ?_
 rintro _ k ⟨rfl,O⟩;clear d N;refine⟨_,rfl,aO<|aV (.tuple #[]) (rs0) ?_⟩;exact⟨rfl,O.I,O.C⟩
theorem iR(H:HC σ Inv G rb f1 f2 f3 c nx kd ok)(g:Inv s w)(a:∀ p∈[(0,0),(0,1)],kd p.2=p.1)(hok:ok (thr nx [(0,0),(0,1)] s)):Calls Tryz.prog 74 #[.pointer (some ⟨rb,0,none⟩),.agg #[.func (.func f1) #[] #[c],.func (.func f2) #[] #[c],.func (.func f3) #[] #[c]]] w (ql σ Inv G (thr nx [(0,0),(0,1)] s) w):=by
 refine af (n:=13) Tryz.func74 rfl ?_
 refine sr<|ta 3 (hq f1 f2 f3 c) 216 (pg) ?_
 intro v1 k b f B;have O:=Oi.start H g a hok b f B;clear b B H g a hok;refine nt ?_
 replace O:=O.drew;refine gd1 O.X ?_
 refine zlr 0 4 (hq f1 f2 f3 c) (fun _ h=>h) 0<|z 1 5 (pg rb)<|z 2 6 (pg rb)<|z 3 7 (pg rb)<|z 4 8 (pg rb)<|z 5 9 (pg rb)<|z 6 10 (pq rb 1)<|za 7 11 [pg rb,pq rb 1] 111 (sg 2) ?_
 intro j i d e B;obtain⟨O,N⟩:=O.new e B;refine⟨O.X,zc 8 12 116 #[.agg (hq f1 f2 f3 c).toArray,sg 2 i] (O.numbers [0,1] N d) ?_⟩;rintro _ l ⟨rfl,O⟩;clear d N;refine⟨_,rfl,O.X,aP<|aV (.tuple #[]) (rs0) ?_⟩;exact⟨rfl,O.I,O.C⟩
theorem oC(H:HC σ Inv G rb f1 f2 f3 c nx kd ok)(x:Inv s w)(e:∀ p∈[(0,0),(0,1),(2,2),(1,3),(0,4),(1,5),(0,6),(2,7),(2,8),(2,9)],kd p.2=p.1)(hok:ok (thr nx [(0,0),(0,1),(2,2),(1,3),(0,4),(1,5),(0,6),(2,7),(2,8),(2,9)] s)):Calls Tryz.prog 77 #[.pointer (some ⟨rb,0,none⟩),.agg #[.func (.func f1) #[] #[c],.func (.func f2) #[] #[c],.func (.func f3) #[] #[c]]] w (ql σ Inv G (thr nx [(0,0),(0,1),(2,2),(1,3),(0,4),(1,5),(0,6),(2,7),(2,8),(2,9)] s) w):=by
 refine af (n:=55) Tryz.func77 rfl ?_
 refine sr<|ta 3 (hq f1 f2 f3 c) 216 (pg) ?_
 intro v1 k m v B;have O:=Oi.start H x e hok m v B;clear m B H x e hok;refine nt<|ag ?_
 replace O:=O.drew;refine gd1 O.X ?_
 refine zlr 0 4 (hq f1 f2 f3 c) (fun _ h=>h) 0<|z 1 5 (pg rb)<|z 2 6 (pg rb)<|z 3 7 (pg rb)<|z 4 8 (pg rb)<|z 5 9 (pg rb)<|z 6 10 (pq rb 1)<|za 7 11 [pg rb,pq rb 1] 111 (sg 2) ?_
 intro Q D j u B;obtain⟨O,N⟩:=O.new u B;refine⟨O.X,zc 8 12 116 #[.agg (hq f1 f2 f3 c).toArray,sg 2 D] (O.numbers [0,1] N j) ?_⟩;rintro _ R ⟨rfl,O⟩;clear j N;refine⟨_,rfl,O.X,aP<|ai<|ay [(0,pg rb),(3,pg k)]<|ag ?_⟩;replace O:=O.drew;refine gd1 O.X ?_
 refine zlr 0 13 (hq f1 f2 f3 c) (fun _ h=>h) 0<|z 1 14 (pg rb)<|z 2 15 (pg rb)<|z 3 16 (pq rb 2)<|za 4 17 [pq rb 2] 212 (sg 1) ?_
 intro v6 A l o B;obtain⟨O,N⟩:=O.new o B;refine⟨O.X,zc 5 18 120 #[.agg (hq f1 f2 f3 c).toArray,sg 1 A] (O.gi [2] N l) ?_⟩;rintro _ P ⟨rfl,O⟩;clear l N;refine⟨_,rfl,O.X,aP<|ai<|ag ?_⟩;replace O:=O.drew;refine gd1 O.X ?_
 refine z 0 19 (pq k 1)<|zl 1 20 (.func (.func f2) #[] #[c]) (fun _ h=>h) 1<|z 2 21 (pg rb)<|z 3 22 (pg rb)<|z 4 23 (pq rb 3)<|zc 5 24 f2 #[pq rb 3,c] (O.tru 3) ?_ (hrun:=uT rfl (by kernel_rfl) (by kernel_rfl) O.H.e2)
 rintro _ M ⟨rfl,O⟩;refine⟨_,rfl,O.X,aP<|ai<|ay [(0,pg rb),(3,pg k)]<|ag ?_⟩;replace O:=O.drew;refine gd1 O.X ?_
 refine zlr 0 25 (hq f1 f2 f3 c) (fun _ h=>h) 0<|z 1 26 (pg rb)<|z 2 27 (pg rb)<|z 3 28 (pq rb 4)<|za 4 29 [pq rb 4] 111 (sg 1) ?_
 intro v10 q b f B;obtain⟨O,N⟩:=O.new f B;refine⟨O.X,zc 5 30 116 #[.agg (hq f1 f2 f3 c).toArray,sg 1 q] (O.numbers [4] N b) ?_⟩;rintro _ J ⟨rfl,O⟩;clear b N;refine⟨_,rfl,O.X,aP<|ai<|ag ?_⟩;replace O:=O.drew;refine gd1 O.X ?_
 refine z 0 31 (pq k 1)<|zl 1 32 (.func (.func f2) #[] #[c]) (fun _ h=>h) 1<|z 2 33 (pg rb)<|z 3 34 (pg rb)<|z 4 35 (pq rb 5)<|zc 5 36 f2 #[pq rb 5,c] (O.tru 5) ?_ (hrun:=uT rfl (by kernel_rfl) (by kernel_rfl) O.H.e2)
 rintro _ y ⟨rfl,O⟩;refine⟨_,rfl,O.X,aP<|ai<|ay [(0,pg rb),(3,pg k)]<|ag ?_⟩;replace O:=O.drew;refine gd1 O.X ?_
 refine zlr 0 37 (hq f1 f2 f3 c) (fun _ h=>h) 0<|z 1 38 (pg rb)<|z 2 39 (pg rb)<|z 3 40 (pq rb 6)<|za 4 41 [pq rb 6] 111 (sg 1) ?_
 intro F r d i B;obtain⟨O,N⟩:=O.new i B;refine⟨O.X,zc 5 42 116 #[.agg (hq f1 f2 f3 c).toArray,sg 1 r] (O.numbers [6] N d) ?_⟩;rintro _ E ⟨rfl,O⟩;clear d N;refine⟨_,rfl,O.X,aP<|ai ?_⟩;replace O:=O.drew;refine gd1 O.X ?_
 refine zlr 0 43 (hq f1 f2 f3 c) (fun _ h=>h) 0<|z 1 44 (pg rb)<|z 2 45 (pg rb)<|z 3 46 (pq rb 7)<|z 4 47 (pg rb)<|z 5 48 (pg rb)<|z 6 49 (pq rb 8)<|z 7 50 (pg rb)<|z 8 51 (pg rb)<|z 9 52 (pq rb 9)<|za 10 53 [pq rb 7,pq rb 8,pq rb 9] 212 (sg 3) ?_
 intro L t a g B;obtain⟨O,N⟩:=O.new g B;refine⟨O.X,zc 11 54 120 #[.agg (hq f1 f2 f3 c).toArray,sg 3 t] (O.gi [7,8,9] N a) ?_⟩;rintro _ K ⟨rfl,O⟩;clear a N;refine⟨_,rfl,O.X,aP<|aV (.tuple #[]) (rs0) ?_⟩;exact⟨rfl,O.I,O.C⟩
theorem kL(H:HC σ Inv G rb f1 f2 f3 c nx kd ok)(m:Inv s w)(b:∀ p∈[(2,0),(0,1),(2,2)],kd p.2=p.1)(hok:ok (thr nx [(2,0),(0,1),(2,2)] s)):Calls Tryz.prog 341 #[.pointer (some ⟨rb,0,none⟩),.agg #[.func (.func f1) #[] #[c],.func (.func f2) #[] #[c],.func (.func f3) #[] #[c]]] w (ql σ Inv G (thr nx [(2,0),(0,1),(2,2)] s) w):=by
 refine af (n:=22) Tryz.func341 rfl ?_
 refine sr<|ta 3 (hq f1 f2 f3 c) 216 (pg) ?_
 intro v1 r g k B;have O:=Oi.start H m b hok g k B;clear g B H m b hok;refine nt<|ag ?_
 replace O:=O.drew;refine gd1 O.X ?_
 refine zlr 0 4 (hq f1 f2 f3 c) (fun _ h=>h) 0<|z 1 5 (pg rb)<|z 2 6 (pg rb)<|z 3 7 (pg rb)<|za 4 8 [pg rb] 212 (sg 1) ?_
 intro v q d j B;obtain⟨O,N⟩:=O.new j B;refine⟨O.X,zc 5 9 120 #[.agg (hq f1 f2 f3 c).toArray,sg 1 q] (O.gi [0] N d) ?_⟩;rintro _ x ⟨rfl,O⟩;clear d N;refine⟨_,rfl,O.X,aP<|ai<|ag ?_⟩;replace O:=O.drew;refine gd1 O.X ?_
 refine zlr 0 10 (hq f1 f2 f3 c) (fun _ h=>h) 0<|z 1 11 (pg rb)<|z 2 12 (pg rb)<|z 3 13 (pq rb 1)<|za 4 14 [pq rb 1] 111 (sg 1) ?_
 intro v6 o f i B;obtain⟨O,N⟩:=O.new i B;refine⟨O.X,zc 5 15 116 #[.agg (hq f1 f2 f3 c).toArray,sg 1 o] (O.numbers [1] N f) ?_⟩;rintro _ u ⟨rfl,O⟩;clear f N;refine⟨_,rfl,O.X,aP<|ai<|ay [(0,pg rb),(3,pg r)] ?_⟩;replace O:=O.drew;refine gd1 O.X ?_
 refine zlr 0 16 (hq f1 f2 f3 c) (fun _ h=>h) 0<|z 1 17 (pg rb)<|z 2 18 (pg rb)<|z 3 19 (pq rb 2)<|za 4 20 [pq rb 2] 212 (sg 1) ?_
 intro t l a e B;obtain⟨O,N⟩:=O.new e B;refine⟨O.X,zc 5 21 120 #[.agg (hq f1 f2 f3 c).toArray,sg 1 l] (O.gi [2] N a) ?_⟩;rintro _ v11 ⟨rfl,O⟩;clear a N;refine⟨_,rfl,O.X,aP<|aV (.tuple #[]) (rs0) ?_⟩;exact⟨rfl,O.I,O.C⟩
theorem iL(H:HC σ Inv G rb f1 f2 f3 c nx kd ok)(j:Inv s w)(b:∀ p∈[(2,0),(0,1)],kd p.2=p.1)(hok:ok (thr nx [(2,0),(0,1)] s)):Calls Tryz.prog 263 #[.pointer (some ⟨rb,0,none⟩),.agg #[.func (.func f1) #[] #[c],.func (.func f2) #[] #[c],.func (.func f3) #[] #[c]]] w (ql σ Inv G (thr nx [(2,0),(0,1)] s) w):=by
 refine af (n:=16) Tryz.func263 rfl ?_
 refine sr<|ta 3 (hq f1 f2 f3 c) 216 (pg) ?_
 intro v1 o d i B;have O:=Oi.start H j b hok d i B;clear d B H j b hok;refine nt<|ag ?_
 replace O:=O.drew;refine gd1 O.X ?_
 refine zlr 0 4 (hq f1 f2 f3 c) (fun _ h=>h) 0<|z 1 5 (pg rb)<|z 2 6 (pg rb)<|z 3 7 (pg rb)<|za 4 8 [pg rb] 212 (sg 1) ?_
 intro m l e g B;obtain⟨O,N⟩:=O.new g B;refine⟨O.X,zc 5 9 120 #[.agg (hq f1 f2 f3 c).toArray,sg 1 l] (O.gi [0] N e) ?_⟩;rintro _ r ⟨rfl,O⟩;clear e N;refine⟨_,rfl,O.X,aP<|ai ?_⟩;replace O:=O.drew;refine gd1 O.X ?_
 refine zlr 0 10 (hq f1 f2 f3 c) (fun _ h=>h) 0<|z 1 11 (pg rb)<|z 2 12 (pg rb)<|z 3 13 (pq rb 1)<|za 4 14 [pq rb 1] 111 (sg 1) ?_
 intro v6 k a f B;obtain⟨O,N⟩:=O.new f B;refine⟨O.X,zc 5 15 116 #[.agg (hq f1 f2 f3 c).toArray,sg 1 k] (O.numbers [1] N a) ?_⟩;rintro _ q ⟨rfl,O⟩;clear a N;refine⟨_,rfl,O.X,aP<|aV (.tuple #[]) (rs0) ?_⟩;exact⟨rfl,O.I,O.C⟩
end
end
end Rc
end
section
namespace Rc
open Go.RowKit Go.Lib Pg
attribute [local go_sem] Oper.semAt_some
def fit (V:Int):Int:=if (gg V).length < 256 then V else 0
theorem pB (V:Int):(gg (fit V)).length < 256:=by
 unfold fit;split
 ·assumption
 ·rw[natB_0];decide
def mu:Nat->Int->List Int
 | 0,x=>be 8 x
 | 1,x=>be 1 x
 | _,x=>kA 1 (gg (fit x))
theorem But.chg {g:Nat} {w w':World} (h:But g w w'):Chg (·=g) w w':=⟨h.os,h.tape,h.output,h.size,fun b hb hne=>h.block b hb hne⟩
theorem rW {w:World} {ao:Option Addr} {n c:Nat} {V:Int} (h:aT w ao n c V) (hn:n<=1000000) :
  Calls Tryz.prog 167 #[.agg #[.slice ao n c]] w fun e w'=>∃ a1 n1 c1,e=.returned (.agg #[.slice a1 n1 c1])/\aT w' a1 n1 c1 (fit V)/\n1<=1000000/\Below w.heap.size w w':=by
 have b1:=aa w (.cells #[.slice ao n c] 55);have A:=aa (w.alloc (.cells #[.slice ao n c] 55)) (.cells #[.slice none 0 0] 55);have q:=aa ((w.alloc (.cells #[.slice ao n c] 55)).alloc (.cells #[.slice none 0 0] 55)) (.cells Tryz.zeroCells80 80);have s1:=qI w (.cells #[.slice ao n c] 55);have s2:=qI (w.alloc (.cells #[.slice ao n c] 55)) (.cells #[.slice none 0 0] 55);have v:=((aj w [.slice ao n c] 55).keep A).keep q;have s:=(aj (w.alloc (.cells #[.slice ao n c] 55)) [.slice none 0 0] 55).keep q;have X:=Ft ((w.alloc (.cells #[.slice ao n c] 55)).alloc (.cells #[.slice none 0 0] 55));rw[s2,s1] at X;rw[s1] at s;obtain⟨C,j⟩:∃ C,Hid ((((w.alloc (.cells #[.slice ao n c] 55)).alloc (.cells #[.slice none 0 0] 55)).alloc (.cells Tryz.zeroCells80 80))=C):=⟨_,rfl⟩
 have t:=ae (ae b1 A) q;rw[j.out] at t v s X;have f:=ax t;have p:=ax v;have m:=ax s;have E:=ax X;have D:=ax (h.keep t);have z:=ax h;have o:=ax (show ¬ (w.heap.size=w.heap.size+1+1) by omega);have l:=ax (show ¬ (w.heap.size+1=w.heap.size+1+1) by omega);clear b1 A s1 s2 v s q X h t;by_cases hf:(gg V).length < 256
 ·have B:=ax (show iH V 0=0 by unfold iH;rw[if_pos hf]);have x:=ax (show fit V=V by unfold fit;rw[if_pos hf])
  have G:=ax (show (jL V 0 []).length<=17592186044416 by
   unfold jL wrote;rw[if_pos hf,if_pos rfl];simp[kA,aI]
   omega)
  clear hf;go_enter Tryz.func167,Tryz.ntmps167;go_wp2_with fail;rw[j.out];refine(zj E.out D.out (by omega) (by simp;omega)).mono ?_
  rintro y F ⟨rfl,g,d⟩;rw[B.out] at g;go_wp2_with fail;refine(j7 g G.out).mono ?_
  rintro y H ⟨rfl,-,b⟩;have k1:=p.out.chg (But.chg d) o.out;have k2:=m.out.chg (But.chg d) l.out;have d1:=(k1.keep b).cell (i:=0) rfl;have d2:=(k2.keep b).cell (i:=0) rfl;have f2:=(k2.keep b).free 0;have r:=ax ((d.below f.out (by omega) (Nat.le_refl _)).trans (b.mono (by have:=f.out.size;have:=d.size;omega)));have u:=ax (show Slot _ _ _ _ from⟨((k2.keep b).setCell (i:=0) (.slice ao n c)).blk⟩);clear k1 k2 g d b;go_wp2;refine bodyPost_ret (qz rfl rfl u.out) rfl ?_
  refine⟨ao,n,c,rfl,?_,hn,?_⟩
  ·rw[x.out];exact z.out.keep (r.out.setCell (Nat.le_succ _) _)
  ·exact r.out.setCell (Nat.le_succ _) _
 ·have B:=ax (show iH V 0=42 by unfold iH;rw[if_neg hf];rfl);have x:=ax (show fit V=0 by unfold fit;rw[if_neg hf]);clear hf;go_enter Tryz.func167,Tryz.ntmps167;go_wp2_with fail;rw[j.out];refine(zj E.out D.out (by omega) (by simp;omega)).mono ?_
  rintro y F ⟨rfl,g,d⟩;rw[B.out] at g;go_wp2_with fail;refine(wrOutE g (by decide)).mono ?_
  rintro y H ⟨rfl,b⟩;have k1:=p.out.chg (But.chg d) o.out;have k2:=m.out.chg (But.chg d) l.out;have d1:=(k1.keep b).cell (i:=0) rfl;have d2:=(k2.keep b).cell (i:=0) rfl;have f2:=(k2.keep b).free 0;have r:=ax ((d.below f.out (by omega) (Nat.le_refl _)).trans (b.mono (by have:=f.out.size;have:=d.size;omega)));have u:=ax (show Slot _ _ _ _ from⟨((k2.keep b).setCell (i:=0) (.slice none 0 0)).blk⟩);clear k1 k2 g d b;go_wp2;refine bodyPost_ret (qz rfl rfl u.out) rfl ?_
  refine⟨none,0,0,rfl,?_,by decide,?_⟩
  ·rw[x.out];exact(Cl _).a
  ·exact r.out.setCell (Nat.le_succ _) _
end Rc
end
section
namespace Rc
open Go.RowKit Go.Lib Pg Gl
attribute [local go_sem] Oper.semAt_some
section
variable {cs:List Value}{v:Value}
theorem Ab(k:Nat)(x:Int):(mu k x).length<=300:=by
 unfold mu;split
 ·rw[aI];decide
 ·rw[aI];decide
 ·have:=pB x;simp only[kA,List.length_append,aI];omega
def pnx(xs:Nat->Int)(k o:Nat)(L:List Int):List Int:=L ++ mu k (xs o)
theorem dn(xs:Nat->Int)(l:List (Nat × Nat)):∀ L:List Int,(thr (pnx xs) l L).length<=L.length+300 * l.length:=by
 induction l with
 | nil=>intro L;simp[thr]
 | cons p l ih =>
  intro L;have h:=ih (pnx xs p.1 p.2 L);have a:=Ab p.1 (xs p.2)
  have e:thr (pnx xs) (p :: l) L=thr (pnx xs) l (pnx xs p.1 p.2 L):=rfl;rw[e];simp only[pnx,List.length_append] at h;simp only[List.length_cons];simp only[pnx];omega
def okL(L:List Int):Prop:=L.length<=1000000000000
structure PI(w0:World)(bw rb:Nat)(cs:List Value)(T:TypeId)(L:List Int)(w:World):Prop where
 wr:WrA w bw 0 L
 bel:Below w0.heap.size w0 w
 blk:Blk w rb cs T
 hb:w0.heap.size<=bw
 ne:rb≠bw
def qQ(w0:World)(kd:Nat->Nat)(cs:List Value)(xs:Nat->Int):Prop:=∀ o,(kd o=0->cs[o]?=some (.int .u64 (xs o)))/\(kd o=1->∃ b:Bool,cs[o]?=some (.bool b)/\xs o=if b then 1 else 0)/\(kd o=2->∃ ao n c,cs[o]?=some (.slice ao n c)/\aT w0 ao n c (xs o)/\n<=1000000)
theorem PI.step{w0 w w':World}{bw rb:Nat}{T:TypeId}{L L':List Int}(h:PI w0 bw rb cs T L w)(X:WrA w' bw 0 L')(B:But bw w w'):PI w0 bw rb cs T L' w' :=
 ⟨X,B.below h.bel h.hb (Nat.le_refl _),h.blk.chg (But.chg B) (fun e=>h.ne e),h.hb,h.ne⟩
def ep(o:Nat):Nat:=([0,0,0,0,0,0,0,0,0,0]:List Nat).getD o 9
def ig(o:Nat):Nat:=([0,0]:List Nat).getD o 9
def gL(o:Nat):Nat:=([2]:List Nat).getD o 9
def dP(o:Nat):Nat:=([0,0]:List Nat).getD o 9
def iS(o:Nat):Nat:=([0,0,2,1,0,1,0,2,2,2]:List Nat).getD o 9
def eE(o:Nat):Nat:=([2,0,2]:List Nat).getD o 9
def dQ(o:Nat):Nat:=([2,0]:List Nat).getD o 9
structure Lk(f:FuncId)(g:Func):Prop where
 ex:∃ fn,Tryz.prog.funcs[f]?=some fn/\fn.body=g.body/\fn.ntmps=g.ntmps/\fn.results=g.results
 en:∀ args w,(callFunc f args).run Tryz.prog w=.ok (.enter f args) w
theorem drop_one{o:Nat}(h:cs[o]?=some v):(cs.drop o).take [v].length=[v]:=by
 rw[List.getElem?_eq_some_iff] at h;obtain⟨h1,rfl⟩:=h;rw[List.drop_eq_getElem_cons h1];rfl
end
section
variable {w w0:World} {f f1 f2 f3:FuncId} {bw rb o:Nat} {L:List Int} {cs:List Value} {T:TypeId}
section
variable {ao:Option Addr}{kd:Nat->Nat}{xs:Nat->Int}
theorem pn_any(K:Lk f Tryz.f162){x:Int}(R:Blk w rb cs T)(c:cs[o]? = some (.int .u64 x))(X:WrA w bw 0 L)(b:L.length<=1000000000000):Calls Tryz.prog f #[pq rb o,pg bw] w fun e w'=>e=.returned (.tuple #[])/\WrA w' bw 0 (L ++ mu 0 x)/\But bw w w':=by
 obtain⟨⟨fn,hf,hb,hn,a⟩,-⟩:=K;refine af (n:=7) (hn:=hn) hf (hb.trans rfl) ?_
 refine aN<|tz 2<|tl 5 (.int .u64 x) R o ?_ (hv:=c)
 refine tc 6 53 #[pg bw,.int .u64 x] (Fx X (by omega)) ?_
 rintro _ v ⟨rfl,X,B⟩;refine⟨_,rfl,aO<|aV (.tuple #[]) (rs0 (h:=a)) ?_⟩;exact⟨rfl,X,B⟩
theorem pt_any(K:Lk f Tryz.f163){x:Bool}{y:Int}(hy:(if x then (1:Int) else 0)=y)(R:Blk w rb cs T)(c:cs[o]? = some (.bool x))(X:WrA w bw 0 L)(b:L.length<=1000000000000):Calls Tryz.prog f #[pq rb o,pg bw] w fun e w'=>e=.returned (.tuple #[])/\WrA w' bw 0 (L ++ mu 1 y)/\But bw w w':=by
 subst hy;obtain⟨⟨fn,hf,hb,hn,a⟩,-⟩:=K;refine af (n:=7) (hn:=hn) hf (hb.trans rfl) ?_
 refine aN<|tz 2<|tl 5 (.bool x) R o ?_ (hv:=c)
 refine tc 6 164 #[pg bw,.bool x] (wrBool X (by omega)) ?_
 rintro _ v ⟨rfl,X,B⟩;refine⟨_,rfl,aO<|aV (.tuple #[]) (rs0 (h:=a)) ?_⟩;exact⟨rfl,X,B⟩
theorem pd_any(K:Lk f Tryz.f165){n c:Nat}{V:Int}(R:Blk w rb cs T)(cc:cs[o]? = some (.slice ao n c))(p:aT w ao n c V)(a:n<=1000000)(X:WrA w bw 0 L)(q:L.length<=1000000000000):Calls Tryz.prog f #[pq rb o,pg bw] w fun e w'=>e=.returned (.tuple #[])/\WrA w' bw 0 (L ++ mu 2 V)/\But bw w w':=by
 obtain⟨⟨fn,hf,hb,hn,hr⟩,-⟩:=K;refine af (n:=8) (hn:=hn) hf (hb.trans rfl) ?_
 refine aN<|tz 2<|tlr 5 [.slice ao n c] R o ?_ (hr:=drop_one cc)
 refine tc 6 167 #[.agg #[.slice ao n c]] (rW p a) ?_
 rintro _ v ⟨a1,m,c1,rfl,k,j,d⟩;refine⟨_,rfl,tc 7 166 #[pg bw,.agg #[.slice a1 m c1]] (zj (X.keep d) k (by omega) (by omega)) ?_⟩;rintro _ v2 ⟨rfl,g,i⟩;refine⟨_,rfl,?_⟩
 have l:iH (fit V) 0=0:=by unfold iH;rw[if_pos (pB V)]
 have b:jL (fit V) 0 L=L ++ mu 2 V:=by unfold jL wrote;rw[if_pos (pB V),if_pos rfl];rfl
 rw[l,b] at g;refine aO<|aV (.tuple #[]) (rs0 (h:=hr)) ?_
 exact⟨rfl,g,(But.of d).trans i⟩
theorem jf(j:Lk f1 Tryz.f162)(i:Lk f2 Tryz.f163)(g:Lk f3 Tryz.f165)(F:qQ w0 kd cs xs):HC (List Int) (PI w0 bw rb cs T) (·=bw) rb f1 f2 f3 (.pointer (some ⟨bw,0,none⟩)) (pnx xs) kd okL where
 oks:=fun k o L h=>by
  unfold okL pnx at *;rw[List.length_append] at h;omega
 keep:=fun L w f h B=>⟨h.wr.keep B,h.bel.trans (B.mono h.bel.size),h.blk.keep B,h.hb,h.ne⟩
 old:=fun L w b h e=>by have l:b=bw:=e;subst l;exact h.wr.lt
 e1:=j.en
 e2:=i.en
 e3:=g.en
 u:=fun L w o h hok hk=>by
  have a:L.length<=1000000000000:=by unfold okL pnx at hok;rw[List.length_append] at hok;omega
  refine(pn_any j h.blk ((F o).1 hk) h.wr a).mono ?_
  rintro e f ⟨rfl,X,B⟩;exact⟨rfl,h.step X B,But.chg B⟩
 t:=fun L w o h hok hk=>by
  have a:L.length<=1000000000000:=by unfold okL pnx at hok;rw[List.length_append] at hok;omega
  obtain⟨b,hb,hx⟩:=(F o).2.1 hk;refine(pt_any i hx.symm h.blk hb h.wr a).mono ?_
  rintro e f ⟨rfl,X,B⟩;exact⟨rfl,h.step X B,But.chg B⟩
 d:=fun L w o h hok hk=>by
  have a:L.length<=1000000000000:=by unfold okL pnx at hok;rw[List.length_append] at hok;omega
  obtain⟨p,n,c,hb,m,hn⟩:=(F o).2.2 hk;refine(pd_any g h.blk hb (m.keep h.bel) hn h.wr a).mono ?_
  rintro e f ⟨rfl,X,B⟩;exact⟨rfl,h.step X B,But.chg B⟩
end
end
section
variable {w:World}{x0 x1 x2 x3 x4 x5 x6 x7 x8 x9:Int}{a0 a2 a7 a8 a9:Option Addr}{n0 c0 n2 c2 n7 c7 n8 c8 n9 c9:Nat}{b3 b5:Bool}{ops:Array Oper}{rest:List Oper}
theorem xe : qQ w ep [.int .u64 x0, .int .u64 x1, .int .u64 x2, .int .u64 x3, .int .u64 x4, .int .u64 x5, .int .u64 x6, .int .u64 x7, .int .u64 x8, .int .u64 x9] (fun o => ([x0, x1, x2, x3, x4, x5, x6, x7, x8, x9] : List Int).getD o 0) := fun o => match o with
    | 0=>⟨fun _=>rfl,fun h=>absurd h (by decide),fun h=>absurd h (by decide)⟩
    | 1=>⟨fun _=>rfl,fun h=>absurd h (by decide),fun h=>absurd h (by decide)⟩
    | 2=>⟨fun _=>rfl,fun h=>absurd h (by decide),fun h=>absurd h (by decide)⟩
    | 3=>⟨fun _=>rfl,fun h=>absurd h (by decide),fun h=>absurd h (by decide)⟩
    | 4=>⟨fun _=>rfl,fun h=>absurd h (by decide),fun h=>absurd h (by decide)⟩
    | 5=>⟨fun _=>rfl,fun h=>absurd h (by decide),fun h=>absurd h (by decide)⟩
    | 6=>⟨fun _=>rfl,fun h=>absurd h (by decide),fun h=>absurd h (by decide)⟩
    | 7=>⟨fun _=>rfl,fun h=>absurd h (by decide),fun h=>absurd h (by decide)⟩
    | 8=>⟨fun _=>rfl,fun h=>absurd h (by decide),fun h=>absurd h (by decide)⟩
    | 9=>⟨fun _=>rfl,fun h=>absurd h (by decide),fun h=>absurd h (by decide)⟩
    | k+10=>⟨fun h=>absurd h (by simp[ep]),fun h=>absurd h (by simp[ep]),fun h=>absurd h (by simp[ep])⟩
theorem yl : qQ w ig [.int .u64 x0, .int .u64 x1] (fun o => ([x0, x1] : List Int).getD o 0) := fun o => match o with
    | 0=>⟨fun _=>rfl,fun h=>absurd h (by decide),fun h=>absurd h (by decide)⟩
    | 1=>⟨fun _=>rfl,fun h=>absurd h (by decide),fun h=>absurd h (by decide)⟩
    | k+2=>⟨fun h=>absurd h (by simp[ig]),fun h=>absurd h (by simp[ig]),fun h=>absurd h (by simp[ig])⟩
theorem Ec(a : aT w a0 n0 c0 x0)(m0 : n0 ≤ 1000000) : qQ w gL [.slice a0 n0 c0] (fun o => ([x0] : List Int).getD o 0) := fun o => match o with
    | 0=>⟨fun h=>absurd h (by decide),fun h=>absurd h (by decide),fun _=>⟨a0,n0,c0,rfl,a,m0⟩⟩
    | k+1=>⟨fun h=>absurd h (by simp[gL]),fun h=>absurd h (by simp[gL]),fun h=>absurd h (by simp[gL])⟩
theorem sS : qQ w dP [.int .u64 x0, .int .u64 x1] (fun o => ([x0, x1] : List Int).getD o 0) := fun o => match o with
    | 0=>⟨fun _=>rfl,fun h=>absurd h (by decide),fun h=>absurd h (by decide)⟩
    | 1=>⟨fun _=>rfl,fun h=>absurd h (by decide),fun h=>absurd h (by decide)⟩
    | k+2=>⟨fun h=>absurd h (by simp[dP]),fun h=>absurd h (by simp[dP]),fun h=>absurd h (by simp[dP])⟩
theorem fl_Val(b : aT w a2 n2 c2 x2)(a : n2 ≤ 1000000)(d : aT w a7 n7 c7 x7)(e : n7 ≤ 1000000)(f : aT w a8 n8 c8 x8)(g : n8 ≤ 1000000)(h9 : aT w a9 n9 c9 x9)(c : n9 ≤ 1000000) : qQ w iS [.int .u64 x0, .int .u64 x1, .slice a2 n2 c2, .bool b3, .int .u64 x4, .bool b5, .int .u64 x6, .slice a7 n7 c7, .slice a8 n8 c8, .slice a9 n9 c9] (fun o => ([x0, x1, x2, (if b3 then 1 else 0), x4, (if b5 then 1 else 0), x6, x7, x8, x9] : List Int).getD o 0) := fun o => match o with
    | 0=>⟨fun _=>rfl,fun h=>absurd h (by decide),fun h=>absurd h (by decide)⟩
    | 1=>⟨fun _=>rfl,fun h=>absurd h (by decide),fun h=>absurd h (by decide)⟩
    | 2=>⟨fun h=>absurd h (by decide),fun h=>absurd h (by decide),fun _=>⟨a2,n2,c2,rfl,b,a⟩⟩
    | 3=>⟨fun h=>absurd h (by decide),fun _=>⟨b3,rfl,rfl⟩,fun h=>absurd h (by decide)⟩
    | 4=>⟨fun _=>rfl,fun h=>absurd h (by decide),fun h=>absurd h (by decide)⟩
    | 5=>⟨fun h=>absurd h (by decide),fun _=>⟨b5,rfl,rfl⟩,fun h=>absurd h (by decide)⟩
    | 6=>⟨fun _=>rfl,fun h=>absurd h (by decide),fun h=>absurd h (by decide)⟩
    | 7=>⟨fun h=>absurd h (by decide),fun h=>absurd h (by decide),fun _=>⟨a7,n7,c7,rfl,d,e⟩⟩
    | 8=>⟨fun h=>absurd h (by decide),fun h=>absurd h (by decide),fun _=>⟨a8,n8,c8,rfl,f,g⟩⟩
    | 9=>⟨fun h=>absurd h (by decide),fun h=>absurd h (by decide),fun _=>⟨a9,n9,c9,rfl,h9,c⟩⟩
    | k+10=>⟨fun h=>absurd h (by simp[iS]),fun h=>absurd h (by simp[iS]),fun h=>absurd h (by simp[iS])⟩
theorem nQ(c : aT w a0 n0 c0 x0)(m0 : n0 ≤ 1000000)(b : aT w a2 n2 c2 x2)(a : n2 ≤ 1000000) : qQ w eE [.slice a0 n0 c0, .int .u64 x1, .slice a2 n2 c2] (fun o => ([x0, x1, x2] : List Int).getD o 0) := fun o => match o with
    | 0=>⟨fun h=>absurd h (by decide),fun h=>absurd h (by decide),fun _=>⟨a0,n0,c0,rfl,c,m0⟩⟩
    | 1=>⟨fun _=>rfl,fun h=>absurd h (by decide),fun h=>absurd h (by decide)⟩
    | 2=>⟨fun h=>absurd h (by decide),fun h=>absurd h (by decide),fun _=>⟨a2,n2,c2,rfl,b,a⟩⟩
    | k+3=>⟨fun h=>absurd h (by simp[eE]),fun h=>absurd h (by simp[eE]),fun h=>absurd h (by simp[eE])⟩
theorem sK(a : aT w a0 n0 c0 x0)(m0 : n0 ≤ 1000000) : qQ w dQ [.slice a0 n0 c0, .int .u64 x1] (fun o => ([x0, x1] : List Int).getD o 0) := fun o => match o with
    | 0=>⟨fun h=>absurd h (by decide),fun h=>absurd h (by decide),fun _=>⟨a0,n0,c0,rfl,a,m0⟩⟩
    | 1=>⟨fun _=>rfl,fun h=>absurd h (by decide),fun h=>absurd h (by decide)⟩
    | k+2=>⟨fun h=>absurd h (by simp[dQ]),fun h=>absurd h (by simp[dQ]),fun h=>absurd h (by simp[dQ])⟩
theorem nK{n:Nat}{ds:List Deferred}{o:Oper}{l:Fr}{Q:Exit->Act->World->Prop}(d:Nat)(h:∀ w1 g,WrA w1 g 0 []->w.heap.size<=g->Below w.heap.size w w1->GL Tryz.prog n ds ops Q rest ((d,pg g) :: l) w1)(a:gd ops l o=some true:=by kernel_rfl)(hc:chk n l o (some d)=true:=by kernel_rfl)(hrun:(execOp (evL l) o).run Tryz.prog w=.ok (.value (pg w.heap.size)) (w.alloc (.cells Tryz.zeroCells80 80)):=by kernel_rfl):GL Tryz.prog n ds ops Q (o :: rest) l w:=fw (some d) _ a hc hrun (h _ _ (Ft w) (Nat.le_refl _) (aa w _))
theorem tm :
  Calls Tryz.prog 127 #[.agg #[.int .u64 x0,.int .u64 x1,.int .u64 x2,.int .u64 x3,.int .u64 x4,.int .u64 x5,.int .u64 x6,.int .u64 x7,.int .u64 x8,.int .u64 x9],.func (.func 128) #[] #[]] w fun e w'=>∃ b n,e=.returned (.slice (some ⟨b,0,none⟩) n n)/\n=(thr (pnx (fun o=>([x0,x1,x2,x3,x4,x5,x6,x7,x8,x9]:List Int).getD o 0)) [(0,0),(0,1),(0,2),(0,3),(0,4),(0,5),(0,6),(0,7),(0,8),(0,9)] []).length/\Box w' b ((thr (pnx (fun o=>([x0,x1,x2,x3,x4,x5,x6,x7,x8,x9]:List Int).getD o 0)) [(0,0),(0,1),(0,2),(0,3),(0,4),(0,5),(0,6),(0,7),(0,8),(0,9)] []).map (Value.int .u8)) 5/\w.heap.size<=b/\Below w.heap.size w w':=by
 refine af (n:=19) Tryz.func127 rfl ?_
 refine sr<|ta 2 [.int .u64 x0,.int .u64 x1,.int .u64 x2,.int .u64 x3,.int .u64 x4,.int .u64 x5,.int .u64 x6,.int .u64 x7,.int .u64 x8,.int .u64 x9] 24 (pg) ?_
 intro v1 g1 c q1 a;refine tz 1<|nx<|nK 5 ?_
 intro v2 f h i d;refine nx<|tz 5 ?_
 have l1:=c.lt;have hlen:=dn (fun o=>([x0,x1,x2,x3,x4,x5,x6,x7,x8,x9]:List Int).getD o 0) [(0,0),(0,1),(0,2),(0,3),(0,4),(0,5),(0,6),(0,7),(0,8),(0,9)] [];refine tc 13 128 #[pg g1,.agg (hq 162 163 165 (pg f)).toArray] (jU (jf ⟨⟨_,Tryz.func162,rfl,rfl,rfl⟩,fun _ _=>by kernel_rfl⟩ ⟨⟨_,Tryz.func163,rfl,rfl,rfl⟩,fun _ _=>by kernel_rfl⟩ ⟨⟨_,Tryz.func165,rfl,rfl,rfl⟩,fun _ _=>by kernel_rfl⟩ (xe (x0:=x0) (x1:=x1) (x2:=x2) (x3:=x3) (x4:=x4) (x5:=x5) (x6:=x6) (x7:=x7) (x8:=x8) (x9:=x9) (w:=w))) (s:=[]) ⟨h,ae a d,c.keep d,Nat.le_trans a.size i,by omega⟩ (by decide) (Nat.le_trans hlen (by decide))) ?_
 rintro _ j ⟨rfl,I,C⟩;generalize thr (pnx (fun o=>([x0,x1,x2,x3,x4,x5,x6,x7,x8,x9]:List Int).getD o 0)) [(0,0),(0,1),(0,2),(0,3),(0,4),(0,5),(0,6),(0,7),(0,8),(0,9)] []=M at *;refine⟨_,rfl,nx<|tc 15 34 #[pg f] (j7 I.wr (Nat.le_trans hlen (by decide))) ?_⟩;rintro _ v4 ⟨rfl,g,k⟩;refine⟨_,rfl,tz 5<|nx<|tz 2<|nr<|ah (sg M.length j.heap.size) (rs1 4) ?_⟩;exact⟨_,_,rfl,rfl,g,I.bel.size,ae I.bel k⟩
theorem xY :
  Calls Tryz.prog 129 #[.agg #[.int .u64 x0,.int .u64 x1],.func (.func 130) #[] #[]] w fun e w'=>∃ b n,e=.returned (.slice (some ⟨b,0,none⟩) n n)/\n=(thr (pnx (fun o=>([x0,x1]:List Int).getD o 0)) [(0,0),(0,1)] []).length/\Box w' b ((thr (pnx (fun o=>([x0,x1]:List Int).getD o 0)) [(0,0),(0,1)] []).map (Value.int .u8)) 5/\w.heap.size<=b/\Below w.heap.size w w':=by
 refine af (n:=19) Tryz.func129 rfl ?_
 refine sr<|ta 2 [.int .u64 x0,.int .u64 x1] 138 (pg) ?_
 intro v1 g1 c q1 a;refine tz 1<|nx<|nK 5 ?_
 intro v2 f h i d;refine nx<|tz 5 ?_
 have l1:=c.lt;have hlen:=dn (fun o=>([x0,x1]:List Int).getD o 0) [(0,0),(0,1)] [];refine tc 13 130 #[pg g1,.agg (hq 168 169 170 (pg f)).toArray] (sf (jf ⟨⟨_,Tryz.func168,rfl,rfl,rfl⟩,fun _ _=>by kernel_rfl⟩ ⟨⟨_,Tryz.func169,rfl,rfl,rfl⟩,fun _ _=>by kernel_rfl⟩ ⟨⟨_,Tryz.func170,rfl,rfl,rfl⟩,fun _ _=>by kernel_rfl⟩ (yl (x0:=x0) (x1:=x1) (w:=w))) (s:=[]) ⟨h,ae a d,c.keep d,Nat.le_trans a.size i,by omega⟩ (by decide) (Nat.le_trans hlen (by decide))) ?_
 rintro _ j ⟨rfl,I,C⟩;generalize thr (pnx (fun o=>([x0,x1]:List Int).getD o 0)) [(0,0),(0,1)] []=M at *;refine⟨_,rfl,nx<|tc 15 34 #[pg f] (j7 I.wr (Nat.le_trans hlen (by decide))) ?_⟩;rintro _ v4 ⟨rfl,g,k⟩;refine⟨_,rfl,tz 5<|nx<|tz 2<|nr<|ah (sg M.length j.heap.size) (rs1 4) ?_⟩;exact⟨_,_,rfl,rfl,g,I.bel.size,ae I.bel k⟩
theorem Cu(k:aT w a0 n0 c0 x0)(m0:n0<=1000000) :
  Calls Tryz.prog 362 #[.agg #[.slice a0 n0 c0],.func (.func 363) #[] #[]] w fun e w'=>∃ b n,e=.returned (.slice (some ⟨b,0,none⟩) n n)/\n=(thr (pnx (fun o=>([x0]:List Int).getD o 0)) [(2,0)] []).length/\Box w' b ((thr (pnx (fun o=>([x0]:List Int).getD o 0)) [(2,0)] []).map (Value.int .u8)) 5/\w.heap.size<=b/\Below w.heap.size w w':=by
 refine af (n:=19) Tryz.func362 rfl ?_
 refine sr<|ta 2 [.slice a0 n0 c0] 55 (pg) ?_
 intro v1 g1 c q1 a;refine tz 1<|nx<|nK 5 ?_
 intro v2 f h i d;refine nx<|tz 5 ?_
 have l1:=c.lt;have hlen:=dn (fun o=>([x0]:List Int).getD o 0) [(2,0)] [];refine tc 13 363 #[pg g1,.agg (hq 382 383 384 (pg f)).toArray] (mX (jf ⟨⟨_,Tryz.func382,rfl,rfl,rfl⟩,fun _ _=>by kernel_rfl⟩ ⟨⟨_,Tryz.func383,rfl,rfl,rfl⟩,fun _ _=>by kernel_rfl⟩ ⟨⟨_,Tryz.func384,rfl,rfl,rfl⟩,fun _ _=>by kernel_rfl⟩ (Ec k m0 (w:=w))) (s:=[]) ⟨h,ae a d,c.keep d,Nat.le_trans a.size i,by omega⟩ (by decide) (Nat.le_trans hlen (by decide))) ?_
 rintro _ j ⟨rfl,I,C⟩;generalize thr (pnx (fun o=>([x0]:List Int).getD o 0)) [(2,0)] []=M at *;refine⟨_,rfl,nx<|tc 15 34 #[pg f] (j7 I.wr (Nat.le_trans hlen (by decide))) ?_⟩;rintro _ v4 ⟨rfl,g,l⟩;refine⟨_,rfl,tz 5<|nx<|tz 2<|nr<|ah (sg M.length j.heap.size) (rs1 4) ?_⟩;exact⟨_,_,rfl,rfl,g,I.bel.size,ae I.bel l⟩
theorem sd :
  Calls Tryz.prog 172 #[.agg #[.int .u64 x0,.int .u64 x1],.func (.func 74) #[] #[]] w fun e w'=>∃ b n,e=.returned (.slice (some ⟨b,0,none⟩) n n)/\n=(thr (pnx (fun o=>([x0,x1]:List Int).getD o 0)) [(0,0),(0,1)] []).length/\Box w' b ((thr (pnx (fun o=>([x0,x1]:List Int).getD o 0)) [(0,0),(0,1)] []).map (Value.int .u8)) 5/\w.heap.size<=b/\Below w.heap.size w w':=by
 refine af (n:=19) Tryz.func172 rfl ?_
 refine sr<|ta 2 [.int .u64 x0,.int .u64 x1] 50 (pg) ?_
 intro v1 g1 c q1 a;refine tz 1<|nx<|nK 5 ?_
 intro v2 f h i d;refine nx<|tz 5 ?_
 have l1:=c.lt;have hlen:=dn (fun o=>([x0,x1]:List Int).getD o 0) [(0,0),(0,1)] [];refine tc 13 74 #[pg g1,.agg (hq 212 213 214 (pg f)).toArray] (iR (jf ⟨⟨_,Tryz.func212,rfl,rfl,rfl⟩,fun _ _=>by kernel_rfl⟩ ⟨⟨_,Tryz.func213,rfl,rfl,rfl⟩,fun _ _=>by kernel_rfl⟩ ⟨⟨_,Tryz.func214,rfl,rfl,rfl⟩,fun _ _=>by kernel_rfl⟩ (sS (x0:=x0) (x1:=x1) (w:=w))) (s:=[]) ⟨h,ae a d,c.keep d,Nat.le_trans a.size i,by omega⟩ (by decide) (Nat.le_trans hlen (by decide))) ?_
 rintro _ j ⟨rfl,I,C⟩;generalize thr (pnx (fun o=>([x0,x1]:List Int).getD o 0)) [(0,0),(0,1)] []=M at *;refine⟨_,rfl,nx<|tc 15 34 #[pg f] (j7 I.wr (Nat.le_trans hlen (by decide))) ?_⟩;rintro _ v4 ⟨rfl,g,k⟩;refine⟨_,rfl,tz 5<|nx<|tz 2<|nr<|ah (sg M.length j.heap.size) (rs1 4) ?_⟩;exact⟨_,_,rfl,rfl,g,I.bel.size,ae I.bel k⟩
theorem DL(g:aT w a2 n2 c2 x2)(m:n2<=1000000)(r:aT w a7 n7 c7 x7)(h:n7<=1000000)(i:aT w a8 n8 c8 x8)(u:n8<=1000000)(h9:aT w a9 n9 c9 x9)(q:n9<=1000000) :
  Calls Tryz.prog 249 #[.agg #[.int .u64 x0,.int .u64 x1,.slice a2 n2 c2,.bool b3,.int .u64 x4,.bool b5,.int .u64 x6,.slice a7 n7 c7,.slice a8 n8 c8,.slice a9 n9 c9],.func (.func 77) #[] #[]] w fun e w'=>∃ b n,e=.returned (.slice (some ⟨b,0,none⟩) n n)/\n=(thr (pnx (fun o=>([x0,x1,x2,(if b3 then 1 else 0),x4,(if b5 then 1 else 0),x6,x7,x8,x9]:List Int).getD o 0)) [(0,0),(0,1),(2,2),(1,3),(0,4),(1,5),(0,6),(2,7),(2,8),(2,9)] []).length/\Box w' b ((thr (pnx (fun o=>([x0,x1,x2,(if b3 then 1 else 0),x4,(if b5 then 1 else 0),x6,x7,x8,x9]:List Int).getD o 0)) [(0,0),(0,1),(2,2),(1,3),(0,4),(1,5),(0,6),(2,7),(2,8),(2,9)] []).map (Value.int .u8)) 5/\w.heap.size<=b/\Below w.heap.size w w':=by
 refine af (n:=19) Tryz.func249 rfl ?_
 refine sr<|ta 2 [.int .u64 x0,.int .u64 x1,.slice a2 n2 c2,.bool b3,.int .u64 x4,.bool b5,.int .u64 x6,.slice a7 n7 c7,.slice a8 n8 c8,.slice a9 n9 c9] 57 (pg) ?_
 intro v1 g1 c q1 a;refine tz 1<|nx<|nK 5 ?_
 intro v2 f k l d;refine nx<|tz 5 ?_
 have l1:=c.lt;have hlen:=dn (fun o=>([x0,x1,x2,(if b3 then 1 else 0),x4,(if b5 then 1 else 0),x6,x7,x8,x9]:List Int).getD o 0) [(0,0),(0,1),(2,2),(1,3),(0,4),(1,5),(0,6),(2,7),(2,8),(2,9)] [];refine tc 13 77 #[pg g1,.agg (hq 307 308 309 (pg f)).toArray] (oC (jf ⟨⟨_,Tryz.func307,rfl,rfl,rfl⟩,fun _ _=>by kernel_rfl⟩ ⟨⟨_,Tryz.func308,rfl,rfl,rfl⟩,fun _ _=>by kernel_rfl⟩ ⟨⟨_,Tryz.func309,rfl,rfl,rfl⟩,fun _ _=>by kernel_rfl⟩ (fl_Val g m r h i u h9 q (x0:=x0) (x1:=x1) (b3:=b3) (x4:=x4) (b5:=b5) (x6:=x6) (w:=w))) (s:=[]) ⟨k,ae a d,c.keep d,Nat.le_trans a.size l,by omega⟩ (by decide) (Nat.le_trans hlen (by decide))) ?_
 rintro _ p ⟨rfl,I,C⟩;generalize thr (pnx (fun o=>([x0,x1,x2,(if b3 then 1 else 0),x4,(if b5 then 1 else 0),x6,x7,x8,x9]:List Int).getD o 0)) [(0,0),(0,1),(2,2),(1,3),(0,4),(1,5),(0,6),(2,7),(2,8),(2,9)] []=M at *;refine⟨_,rfl,nx<|tc 15 34 #[pg f] (j7 I.wr (Nat.le_trans hlen (by decide))) ?_⟩;rintro _ v4 ⟨rfl,j,t⟩;refine⟨_,rfl,tz 5<|nx<|tz 2<|nr<|ah (sg M.length p.heap.size) (rs1 4) ?_⟩;exact⟨_,_,rfl,rfl,j,I.bel.size,ae I.bel t⟩
theorem mi(m:aT w a0 n0 c0 x0)(m0:n0<=1000000)(g:aT w a2 n2 c2 x2)(k:n2<=1000000) :
  Calls Tryz.prog 340 #[.agg #[.slice a0 n0 c0,.int .u64 x1,.slice a2 n2 c2],.func (.func 341) #[] #[]] w fun e w'=>∃ b n,e=.returned (.slice (some ⟨b,0,none⟩) n n)/\n=(thr (pnx (fun o=>([x0,x1,x2]:List Int).getD o 0)) [(2,0),(0,1),(2,2)] []).length/\Box w' b ((thr (pnx (fun o=>([x0,x1,x2]:List Int).getD o 0)) [(2,0),(0,1),(2,2)] []).map (Value.int .u8)) 5/\w.heap.size<=b/\Below w.heap.size w w':=by
 refine af (n:=19) Tryz.func340 rfl ?_
 refine sr<|ta 2 [.slice a0 n0 c0,.int .u64 x1,.slice a2 n2 c2] 181 (pg) ?_
 intro v1 g1 c q1 a;refine tz 1<|nx<|nK 5 ?_
 intro v2 f i j d;refine nx<|tz 5 ?_
 have l1:=c.lt;have hlen:=dn (fun o=>([x0,x1,x2]:List Int).getD o 0) [(2,0),(0,1),(2,2)] [];refine tc 13 341 #[pg g1,.agg (hq 365 366 367 (pg f)).toArray] (kL (jf ⟨⟨_,Tryz.func365,rfl,rfl,rfl⟩,fun _ _=>by kernel_rfl⟩ ⟨⟨_,Tryz.func366,rfl,rfl,rfl⟩,fun _ _=>by kernel_rfl⟩ ⟨⟨_,Tryz.func367,rfl,rfl,rfl⟩,fun _ _=>by kernel_rfl⟩ (nQ m m0 g k (x1:=x1) (w:=w))) (s:=[]) ⟨i,ae a d,c.keep d,Nat.le_trans a.size j,by omega⟩ (by decide) (Nat.le_trans hlen (by decide))) ?_
 rintro _ l ⟨rfl,I,C⟩;generalize thr (pnx (fun o=>([x0,x1,x2]:List Int).getD o 0)) [(2,0),(0,1),(2,2)] []=M at *;refine⟨_,rfl,nx<|tc 15 34 #[pg f] (j7 I.wr (Nat.le_trans hlen (by decide))) ?_⟩;rintro _ v4 ⟨rfl,h,p⟩;refine⟨_,rfl,tz 5<|nx<|tz 2<|nr<|ah (sg M.length l.heap.size) (rs1 4) ?_⟩;exact⟨_,_,rfl,rfl,h,I.bel.size,ae I.bel p⟩
theorem sm(k:aT w a0 n0 c0 x0)(m0:n0<=1000000) :
  Calls Tryz.prog 264 #[.agg #[.slice a0 n0 c0,.int .u64 x1],.func (.func 263) #[] #[]] w fun e w'=>∃ b n,e=.returned (.slice (some ⟨b,0,none⟩) n n)/\n=(thr (pnx (fun o=>([x0,x1]:List Int).getD o 0)) [(2,0),(0,1)] []).length/\Box w' b ((thr (pnx (fun o=>([x0,x1]:List Int).getD o 0)) [(2,0),(0,1)] []).map (Value.int .u8)) 5/\w.heap.size<=b/\Below w.heap.size w w':=by
 refine af (n:=19) Tryz.func264 rfl ?_
 refine sr<|ta 2 [.slice a0 n0 c0,.int .u64 x1] 272 (pg) ?_
 intro v1 g1 c q1 a;refine tz 1<|nx<|nK 5 ?_
 intro v2 f h i d;refine nx<|tz 5 ?_
 have l1:=c.lt;have hlen:=dn (fun o=>([x0,x1]:List Int).getD o 0) [(2,0),(0,1)] [];refine tc 13 263 #[pg g1,.agg (hq 317 318 319 (pg f)).toArray] (iL (jf ⟨⟨_,Tryz.func317,rfl,rfl,rfl⟩,fun _ _=>by kernel_rfl⟩ ⟨⟨_,Tryz.func318,rfl,rfl,rfl⟩,fun _ _=>by kernel_rfl⟩ ⟨⟨_,Tryz.func319,rfl,rfl,rfl⟩,fun _ _=>by kernel_rfl⟩ (sK k m0 (x1:=x1) (w:=w))) (s:=[]) ⟨h,ae a d,c.keep d,Nat.le_trans a.size i,by omega⟩ (by decide) (Nat.le_trans hlen (by decide))) ?_
 rintro _ j ⟨rfl,I,C⟩;generalize thr (pnx (fun o=>([x0,x1]:List Int).getD o 0)) [(2,0),(0,1)] []=M at *;refine⟨_,rfl,nx<|tc 15 34 #[pg f] (j7 I.wr (Nat.le_trans hlen (by decide))) ?_⟩;rintro _ v4 ⟨rfl,g,l⟩;refine⟨_,rfl,tz 5<|nx<|tz 2<|nr<|ah (sg M.length j.heap.size) (rs1 4) ?_⟩;exact⟨_,_,rfl,rfl,g,I.bel.size,ae I.bel l⟩
end
end Rc
end
section
namespace Rc
open Go.RowKit Go.Lib Pg Lim
attribute [local go_sem] Oper.semAt_some
section
variable {w w':World}{B n c g b:Nat}{ao:Option Addr}{x err:Int}{v:Value}{r l:List Int}
structure du(w:World)(B:Nat)(ao:Option Addr)(n c:Nat)(x:Int):Prop where
 ex:∃ b o l,l.length=n/\n<=c/\IsN l x/\At w ao b o l/\B<=b
theorem sD(w:World)(B:Nat):du w B none 0 0 0:=⟨B,0,[],rfl,Nat.le_refl _,jB,⟨.inl rfl,fun i hi=>by simp at hi⟩,Nat.le_refl _⟩
theorem du.low{B':Nat}(h:du w B ao n c x)(hB:B'<=B):du w B' ao n c x:=by
 obtain⟨b,o,l,h1,h2,h3,h4,h5⟩:=h.ex;exact⟨b,o,l,h1,h2,h3,h4,Nat.le_trans hB h5⟩
theorem du.off(h:du w B ao n c x)(_hs:w.heap.size<=w'.heap.size)(hw:∀ b,B<=b->b < w.heap.size->w'.heap[b]?=w.heap[b]?):du w' B ao n c x:=by
 obtain⟨b,o,l,g,e,f,a,d⟩:=h.ex;refine⟨b,o,l,g,e,f,⟨a.loc,fun i hi=>?_⟩,d⟩;have hc:=a.cell i hi;rw[World.cell?_of_block (w:=w) (hw b d (aE hc))];exact hc
theorem newV_w(h:dD w w' v r)(d:IsN r x)(k:B<=w.heap.size):∃ a c,v=.slice a r.length c/\du w' B a r.length c x:=by
 obtain⟨i,b,o,c,e,j,f,g,l⟩:=h.is;exact⟨i,c,e,b,o,r,rfl,j,d,g,Nat.le_trans k f⟩
theorem uH(h:RdA w g b 0 l) :
  Calls Tryz.prog 204 #[.pointer (some ⟨g,0,none⟩)] w fun e w'=>∃ v,e=.returned (.tuple #[v,.int .i64 (rdE (cO l) 0)])/\∃ l1,RdA w' g b 0 l1/\But g w w'/\∀ x k,cO l=.inr (x,k)->l1=l.drop k/\∃ ao n c,v=.slice ao n c/\du w' w.heap.size ao n c x/\n<=255:=by
 have f:=rD (m:=1) h;by_cases j:1<=l.length
 ·have t:=Fp (m:=1) h j (by decide);have M:=Ca h j;rw[show (256:Int) ^ 1=256 by decide] at M;rw[<- f] at t;have R:=(show Hid _ from h.oct)
  by_cases E:1+cA 1 l<=l.length
  ·by_cases y:0 < cA 1 l/\nth (l.drop 1) 0=0
   ·have d:cO l=.inl 41:=by unfold cO; rw[if_pos j,if_pos E,if_pos y]
    have q:Hid (rdE (cO l) 0=41):=by show _=_;rw[d];rfl
    have s:=(show Hid _ from d)
    have B:=(show Hid _ from y)
    clear d h y f;generalize cA 1 l=N at *;go_enter Tryz.func204,Tryz.ntmps204;go_wp2_with fail;refine t.mono ?_
    rintro e G ⟨rfl,z,u⟩;have t2:=BO (m:=N) z (by rw[List.length_drop];omega);clear t;go_wp2_with fail;refine t2.mono ?_
    rintro e C ⟨ao,rfl,hA,F,D⟩;obtain⟨o,k1,k2,k3,p,A⟩:=hA.ex;have t3:=Dj ao N N b o _ C k1 B.out.1 A (by rw[df B.out.1];exact B.out.2);clear t2 k1 k2 k3 p A hA;go_wp2_with fail;refine t3.mono ?_
    rintro e L ⟨rfl,rfl⟩;clear t3;go_wp2;go_ret2;exact⟨_,by rw[q.out];rfl,_,F,u.trans D,fun x k e=>by rw[s.out] at e;cases e⟩
   ·have d:cO l=.inr (bP ((l.drop 1).take (cA 1 l)),1 + cA 1 l):=by unfold cO; rw[if_pos j,if_pos E,if_neg y]
    have q:Hid (rdE (cO l) 0=0):=by show _=_;rw[d];rfl
    have s:=(show Hid _ from d)
    have B:=(show Hid _ from y)
    clear d h y f;generalize cA 1 l=N at *;go_enter Tryz.func204,Tryz.ntmps204;go_wp2_with fail;refine t.mono ?_
    rintro e G ⟨rfl,z,u⟩;have t2:=BO (m:=N) z (by rw[List.length_drop];omega);clear t;go_wp2_with fail;refine t2.mono ?_
    rintro e C ⟨ao,rfl,hA,F,D⟩;obtain⟨o,k1,k2,k3,p,A⟩:=hA.ex;have t3:=Ch ao N N b o _ C k1 (by omega) p A (fun i I=>B.out ⟨i,by rw[df i] at I;exact I⟩);clear t2 k1 k2 k3 p A hA;go_wp2_with fail;refine t3.mono ?_
    rintro e L ⟨v,r,rfl,k1,k2,k3,p⟩;obtain⟨P,Q,rfl,J⟩:=newV_w k1 k2 (show w.heap.size<=C.heap.size from(u.trans D).size);have H:=(show Hid _ from J)
    have K:=(show Hid _ from p)
    clear t3 k1 k2 p J;go_wp2;go_ret2
    exact⟨_,by rw[q.out]; rfl,_,F.keep K.out,(u.trans D).trans (But.of K.out),fun x k e=>by
     rw[s.out] at e
     cases e
     exact⟨by rw[List.drop_drop],_,_,_,rfl,H.out,by omega⟩⟩
  ·have d:cO l=.inl 40:=by unfold cO; rw[if_pos j,if_neg E]
   have q:Hid (rdE (cO l) 0=40):=by show _=_;rw[d];rfl
   have s:=(show Hid _ from d)
   clear d h f;generalize cA 1 l=N at *;go_enter Tryz.func204,Tryz.ntmps204;go_wp2_with fail;refine t.mono ?_
   rintro e G ⟨rfl,z,u⟩;have t2:=Fb (m:=N) z (by rw[List.length_drop];omega);clear t E;go_wp2_with fail;refine t2.mono ?_
   rintro e C ⟨rfl,rfl⟩;clear t2;go_wp2;go_ret2;exact⟨_,by rw[q.out];rfl,_,z,u,fun x k e=>by rw[s.out] at e;cases e⟩
 ·have t:=zM (m:=1) h (by omega)
  have d:cO l=.inl 40:=by unfold cO;rw[if_neg j]
  have q:Hid (rdE (cO l) 0=40):=by show _=_;rw[d];rfl
  have s:=(show Hid _ from d)
  have O:=(show Hid _ from h)
  clear d h j f;go_enter Tryz.func204,Tryz.ntmps204;go_wp2_with fail;refine t.mono ?_
  rintro e G ⟨rfl,rfl⟩;clear t;go_wp2;go_ret2;exact⟨_,by rw[q.out];rfl,_,O.out,But.refl _ _,fun x k e=>by rw[s.out] at e;cases e⟩
theorem rdNatW(h:RdA w g b err l) :
  Calls Tryz.prog 156 #[.pointer (some ⟨g,0,none⟩)] w fun e w'=>∃ ao n c,e=.returned (.slice ao n c)/\du w' w.heap.size ao n c (rdV 0 (cO l) err)/\n<=255/\RdA w' g b (rdE (cO l) err) (rdL (cO l) err l)/\But g w w':=by
 have t:=enNa (z:=(0:Int)) (p:=cO l) (V:=fun x v w'=>∃ ao n c,v=.slice ao n c/\du w' w.heap.size ao n c x/\n<=255) h (fun _=>EG) (fun w'=>⟨none,0,0,rfl,sD w' w.heap.size,by decide⟩) (fun e=>by subst e;exact uH h);clear h;generalize rdV 0 (cO l) err=V at *;generalize rdE (cO l) err=E at *;generalize rdL (cO l) err l=R at *;go_enter Tryz.func156,Tryz.ntmps156;go_wp2_with fail;refine t.mono ?_
 rintro e f ⟨v,rfl,⟨ao,n,c,rfl,k3,d⟩,k1,k2⟩;clear t;go_wp2;go_ret;exact⟨ao,n,c,rfl,k3,d,k1,k2⟩
theorem rdDecW(h:RdA w g b err l) :
  Calls Tryz.prog 115 #[.pointer (some ⟨g,0,none⟩)] w fun e w'=>∃ ao n c,e=.returned (.agg #[.slice ao n c])/\du w' w.heap.size ao n c (rdV 0 (cO l) err)/\n<=255/\RdA w' g b (rdE (cO l) err) (rdL (cO l) err l)/\But g w w':=by
 have f:=(show Hid _ from aa w (.cells #[.slice none 0 0] 55))
 have m:=l9 w (.slice none 0 0) 55
 have o:w.heap.size≠g:=by have:=h.lt;omega
 have i:=(show Hid _ from o)
 have t:=rdNatW (h.keep f.out);clear h o;generalize rdV 0 (cO l) err=V at *;generalize rdE (cO l) err=E at *;generalize rdL (cO l) err l=R at *;go_enter Tryz.func115,Tryz.ntmps115;go_wp2_with fail;refine t.mono ?_
 rintro e j ⟨ao,n,c,rfl,k3,p,k1,k2⟩;have d:=m.but k2 i.out;have c1:=d.cell;have f1:=d.free;have r:=d.put (.slice ao n c);have s:=(show Hid (du (j.setCell ⟨w.heap.size,0,none⟩ (.slice ao n c)) w.heap.size ao n c V) from(k3.off (w':=j.setCell ⟨w.heap.size,0,none⟩ (.slice ao n c)) (by rw[size_set];exact Nat.le_refl _) (fun b hb _=>Below.heap_setCell _ _ _ b (by have:=qI w (.cells #[.slice none 0 0] 55);show b≠w.heap.size;omega))).low f.out.size)
 have q:=(show Hid _ from k1.put (u:=.slice ao n c) d i.out (fun x e=>by cases e))
 have v:=(show Hid _ from((But.of (g:=g) f.out).trans k2).put (Nat.le_refl _) (.slice ao n c))
 clear t m d k1 k2 k3 f i;go_wp2;refine bodyPost_ret (qz rfl rfl r) rfl ?_
 exact⟨ao,n,c,rfl,s.out,p,q.out,v.out⟩
end
end Rc
end
section
namespace Rc
open Go.RowKit Go.Lib Pg Gl
attribute [local go_sem] Oper.semAt_some
section
variable {w w':World}{B o k:Nat}{kd:Nat->Nat}{cs:List Value}{xs:Nat->Int}{v:Value}{l1:List Int}
abbrev RSt:=Int × List Int × (Nat->Int)
def eR(l:List Int):Int ⊕ Int × Nat:=match bS l with
 | .inl e=>.inl e
 | .inr p=>.inr ((if p.1 then 1 else 0),p.2)
def p1:Nat->List Int->Int ⊕ Int × Nat
 | 0,l=>cQ 8 l
 | 1,l=>eR l
 | _,l=>cO l
theorem si(l:List Int)(err:Int):rdE (eR l) err=rdE (bS l) err:=by
 unfold rdE eR
 cases bS l<;>rfl
theorem ry(l m:List Int)(err:Int):rdL (eR l) err m=rdL (bS l) err m:=by
 unfold rdL eR
 cases bS l<;>rfl
theorem rj(l:List Int)(err:Int):rdV 0 (eR l) err=if rdV false (bS l) err then 1 else 0:=by
 unfold rdV eR;by_cases h:err=0
 ·rw[if_pos h,if_pos h]
  cases bS l<;>rfl
 ·rw[if_neg h,if_neg h];rfl
def rnx(k o:Nat)(s:RSt):RSt:=(rdE (p1 k s.2.1) s.1,rdL (p1 k s.2.1) s.1 s.2.1,fun i=>if i=o then rdV 0 (p1 k s.2.1) s.1 else s.2.2 i)
def kM(w:World)(B:Nat)(kd:Nat->Nat)(cs:List Value)(xs:Nat->Int):Prop:=∀ o,(kd o=0->cs[o]?=some (.int .u64 (xs o)))/\(kd o=1->∃ b:Bool,cs[o]?=some (.bool b)/\xs o=if b then 1 else 0)/\(kd o=2->∃ ao n c,cs[o]?=some (.slice ao n c)/\du w B ao n c (xs o)/\n<=255)
theorem kM.off(h:kM w B kd cs xs)(g:w.heap.size<=w'.heap.size)(hw:∀ b,B<=b->b < w.heap.size->w'.heap[b]? = w.heap[b]?):kM w' B kd cs xs:=fun o=>⟨(h o).1,(h o).2.1,fun hk=>by
 obtain⟨a,n,c,e,d,f⟩:=(h o).2.2 hk
 exact⟨a,n,c,e,d.off g hw,f⟩⟩
structure RI(w0:World)(B g b vb rb:Nat)(kd:Nat->Nat)(len:Nat)(T vt:TypeId)(s:RSt)(w:World):Prop where
 rd:RdA w g b s.1 s.2.1
 var:Blk w vb [.pointer (some ⟨g,0,none⟩)] vt
 rc:∃ cs,cs.length=len/\Blk w rb cs T/\kM w B kd cs s.2.2
 bel:Below w0.heap.size w0 w
 s1:rb≠g
 s2:vb≠g
 s3:vb≠rb
 s4:b≠rb
 g1:g < B
 r1:rb < B
 g0:w0.heap.size<=g
 r0:w0.heap.size<=rb
theorem Eo(h:o < cs.length):spl cs o [v]=cs.set o v:=by
 simp only[spl];rw[List.set_eq_take_append_cons_drop,if_pos h,List.append_assoc];rfl
theorem RI.step{w0 w1:World}{g b vb rb len:Nat}{T vt:TypeId}{s:RSt}{e1:Int}{x:Int}(h:RI w0 B g b vb rb kd len T vt s w)(q:cs.length=len)(hF:kM w B kd cs s.2.2)(ho:kd o=k)(z:o < len)(X:RdA w1 g b e1 l1)(l:But g w w1)(Y:Blk w' rb (spl cs o [v]) T)(C:Chg (·=rb) w1 w')(hv:(k=0/\v=.int .u64 x)\/(k=1/\∃ t:Bool,v=.bool t/\x=if t then 1 else 0)\/(k=2/\∃ ao n c,v=.slice ao n c/\du w1 B ao n c x/\n<=255)) :
  RI w0 B g b vb rb kd len T vt (e1,l1,fun i=>if i=o then x else s.2.2 i) w'/\Chg (fun y=>y=g\/y=rb) w w':=by
 have hS:But rb w1 w':=⟨C.os,C.tape,C.output,C.size,fun b hb m=>C.same b hb m⟩
 have r:=h.s1;have A:=h.g1;have u:=h.r1
 have j:Chg (·=g) w w1:=But.chg l;rw[Eo (by omega)] at Y
 have b1:Below w0.heap.size w0 w1:=l.below h.bel h.g0 (Nat.le_refl _)
 have f:∀ y,B<=y->y < w.heap.size->w1.heap[y]?=w.heap[y]?:=fun y hy d=>l.block y d (by omega)
 have CK:∀ y,B<=y->y < w1.heap.size->w'.heap[y]?=w1.heap[y]?:=fun y hy d=>hS.block y d (by omega)
 refine⟨⟨X.offW (fun e=>r e.symm) h.s4 hS,(h.var.chg j h.s2).chg C h.s3,⟨cs.set o v,by rw[List.length_set];exact q,Y,?_⟩,hS.below b1 h.r0 (Nat.le_refl _),h.s1,h.s2,h.s3,h.s4,h.g1,h.r1,h.g0,h.r0⟩,(j.mono (fun _ _ e=>.inl e)).trans C (fun _ _ e=>.inr e)⟩;have p:=hF.off l.size f;intro i;by_cases hi:i=o
 ·subst hi
  have a:(cs.set i v)[i]?=some v:=by rw[List.getElem?_set_self (by omega)]
  rw[a];simp only[if_true];refine⟨fun hk=>?_,fun hk=>?_,fun hk=>?_⟩
  ·rcases hv with⟨_,e⟩ | ⟨e,_⟩ | ⟨e,_⟩
   ·rw[e]
   ·omega
   ·omega
  ·rcases hv with⟨e,_⟩ | ⟨_,t,e,e2⟩ | ⟨e,_⟩
   ·omega
   ·exact⟨t,by rw[e],e2⟩
   ·omega
  ·rcases hv with⟨e,_⟩ | ⟨e,_⟩ | ⟨_,ao,n,c,e,e2,e3⟩
   ·omega
   ·omega
   ·exact⟨ao,n,c,by rw[e],e2.off hS.size CK,e3⟩
 ·have a:(cs.set o v)[i]? = cs[i]? := by rw[List.getElem?_set_ne (fun e=>hi e.symm)]
  simp only[if_neg hi];rw[a];exact(p.off hS.size CK) i
theorem pW(ks:List Nat)(h:ks.getD o 9=k)(hk:k≠9):o < ks.length:=by
 by_cases ho:o < ks.length
 ·exact ho
 ·exfalso;rw[List.getD_eq_getElem?_getD,List.getElem?_eq_none (by omega)] at h;exact hk h.symm
end
section
variable {w:World} {f f1 f2 f3:FuncId} {g b vb rb o:Nat} {err:Int} {l:List Int} {cs:List Value} {T vt:TypeId}
section
variable {w0:World}
theorem rn_any(K:Lk f Tryz.f238)(X:RdA w g b err l)(V:Blk w vb [.pointer (some ⟨g,0,none⟩)] vt)(R:Blk w rb cs T)(a:rb≠g)(ho:o < cs.length):Calls Tryz.prog f #[pq rb o,pg vb] w fun e w'=>e=.returned (.tuple #[])/\∃ w1,Blk w' rb (spl cs o [.int .u64 (rdV 0 (p1 0 l) err)]) T/\Chg (· = rb) w1 w'/\RdA w1 g b (rdE (p1 0 l) err) (rdL (p1 0 l) err l)/\But g w w1:=by
 obtain⟨⟨fn,hf,hb,hn,c⟩,-⟩:=K;refine af (n:=7) (hn:=hn) hf (hb.trans rfl) ?_
 refine aN<|tz 1<|tl 4 (pg g) V 0<|tc 5 48 #[pg g] (Fl X) ?_
 rintro _ w1 ⟨rfl,X,B⟩;refine⟨_,rfl,tz 1<|ts (R.chg (But.chg B) a) o (.int .u64 (rdV 0 (p1 0 l) err)) [.int .u64 (rdV 0 (p1 0 l) err)] _ ?_ (hb:=Nat.ble_eq_true_of_le ho)⟩;intro d Y C;refine aO<|aV (.tuple #[]) (rs0 (h:=c)) ?_
 exact⟨rfl,w1,Y,C,X,B⟩
theorem rt_any(K:Lk f Tryz.f239)(X:RdA w g b err l)(V:Blk w vb [.pointer (some ⟨g,0,none⟩)] vt)(R:Blk w rb cs T)(a:rb≠g)(ho:o < cs.length):Calls Tryz.prog f #[pq rb o,pg vb] w fun e w'=>e=.returned (.tuple #[])/\∃ w1,Blk w' rb (spl cs o [.bool (rdV false (bS l) err)]) T/\Chg (· = rb) w1 w'/\RdA w1 g b (rdE (p1 1 l) err) (rdL (p1 1 l) err l)/\But g w w1:=by
 obtain⟨⟨fn,hf,hb,hn,c⟩,-⟩:=K;refine af (n:=7) (hn:=hn) hf (hb.trans rfl) ?_
 refine aN<|tz 1<|tl 4 (pg g) V 0<|tc 5 113 #[pg g] (rdBool X) ?_
 rintro _ w1 ⟨rfl,X,B⟩;refine⟨_,rfl,tz 1<|ts (R.chg (But.chg B) a) o (.bool (rdV false (bS l) err)) [.bool (rdV false (bS l) err)] _ ?_ (hb:=Nat.ble_eq_true_of_le ho)⟩;intro d Y C;refine aO<|aV (.tuple #[]) (rs0 (h:=c)) ?_
 exact⟨rfl,w1,Y,C,by show RdA w1 g b (rdE (eR l) err) (rdL (eR l) err l);rw[si,ry];exact X,B⟩
theorem rd_any(K:Lk f Tryz.f240)(X:RdA w g b err l)(V:Blk w vb [.pointer (some ⟨g,0,none⟩)] vt)(R:Blk w rb cs T)(a:rb≠g)(ho:o < cs.length):Calls Tryz.prog f #[pq rb o,pg vb] w fun e w'=>e=.returned (.tuple #[])/\∃ w1 ao n c,Blk w' rb (spl cs o [.slice ao n c]) T/\Chg (· = rb) w1 w'/\du w1 w.heap.size ao n c (rdV 0 (p1 2 l) err)/\n<=255/\RdA w1 g b (rdE (p1 2 l) err) (rdL (p1 2 l) err l)/\But g w w1:=by
 obtain⟨⟨fn,hf,hb,hn,j⟩,-⟩:=K;refine af (n:=7) (hn:=hn) hf (hb.trans rfl) ?_
 refine aN<|tz 1<|tl 4 (pg g) V 0<|tc 5 115 #[pg g] (rdDecW X) ?_
 rintro _ w1 ⟨a1,i,d1,rfl,N,d,X,B⟩;refine⟨_,rfl,tz 1<|ts (R.chg (But.chg B) a) o (.agg #[.slice a1 i d1]) [.slice a1 i d1] _ ?_ (hb:=Nat.ble_eq_true_of_le ho)⟩;intro k Y C;refine aO<|aV (.tuple #[]) (rs0 (h:=j)) ?_
 exact⟨rfl,w1,a1,i,d1,Y,C,N,d,X,B⟩
theorem jT{B:Nat}(ks:List Nat)(v:Lk f1 Tryz.f238)(r:Lk f2 Tryz.f239)(q:Lk f3 Tryz.f240):HC RSt (fun s w=>RI w0 B g b vb rb (fun o=>ks.getD o 9) ks.length T vt s w/\B<=w.heap.size) (fun y=>y=g\/y=rb) rb f1 f2 f3 (.pointer (some ⟨vb,0,none⟩)) rnx (fun o=>ks.getD o 9) (fun _=>True) where
 oks:=fun _ _ _ _=>trivial
 keep:=fun s w n h i=>by
  obtain⟨h,c⟩:=h;obtain⟨cs,j,f,k⟩:=h.rc;exact⟨⟨h.rd.keep i,h.var.keep i,⟨cs,j,f.keep i,k.off i.size (fun y _ hy=>i.block y hy)⟩,h.bel.trans (i.mono h.bel.size),h.s1,h.s2,h.s3,h.s4,h.g1,h.r1,h.g0,h.r0⟩,Nat.le_trans c i.size⟩
 old:=fun s w y h e=>by
  have:=h.1.g1;have:=h.1.r1;have:=h.2;rcases e with e | e<;>omega
 e1:=v.en
 e2:=r.en
 e3:=q.en
 u:=fun s w o h _ hk=>by
  obtain⟨h,c⟩:=h;obtain⟨cs,j,f,k⟩:=h.rc;have m:=pW ks hk (by decide);refine(rn_any v h.rd h.var f h.s1 (by omega)).mono ?_
  rintro e n ⟨rfl,p,Y,C,X,l⟩;obtain⟨r1,a⟩:=h.step j k hk m X l Y C (.inl ⟨rfl,rfl⟩);exact⟨rfl,⟨r1,Nat.le_trans c a.size⟩,a⟩
 t:=fun s w o h _ hk=>by
  obtain⟨h,c⟩:=h;obtain⟨cs,j,f,k⟩:=h.rc;have m:=pW ks hk (by decide);refine(rt_any r h.rd h.var f h.s1 (by omega)).mono ?_
  rintro e n ⟨rfl,p,Y,C,X,l⟩;obtain⟨r1,a⟩:=h.step j k hk m X l Y C (x:=rdV 0 (p1 1 s.2.1) s.1) (.inr (.inl ⟨rfl,_,rfl,rj _ _⟩));exact⟨rfl,⟨r1,Nat.le_trans c a.size⟩,a⟩
 d:=fun s w o h _ hk=>by
  obtain⟨h,c⟩:=h;obtain⟨cs,j,f,k⟩:=h.rc;have m:=pW ks hk (by decide);refine(rd_any q h.rd h.var f h.s1 (by omega)).mono ?_
  rintro e n ⟨rfl,p,a1,A,c1,Y,C,z,hn,X,l⟩;obtain⟨r1,a⟩:=h.step j k hk m X l Y C (x:=rdV 0 (p1 2 s.2.1) s.1) (.inr (.inr ⟨rfl,_,_,_,rfl,z.low c,hn⟩));exact⟨rfl,⟨r1,Nat.le_trans c a.size⟩,a⟩
end
end
section
variable {w:World}{B:Nat}{kd:Nat->Nat}{cs:List Value}{xs:Nat->Int}{ks:List Nat}{l:List Int}
theorem EA{α:Type}(p:Int ⊕ α × Nat)(err:Int)(l:List Int):(rdL p err l).length<=l.length:=by
 unfold rdL;split
 ·cases p
  ·exact Nat.le_refl _
  ·simp
 ·exact Nat.le_refl _
theorem D0(ks:List (Nat × Nat)):∀ s:RSt,(thr rnx ks s).2.1.length<=s.2.1.length:=by
 induction ks with
 | nil=>intro s;exact Nat.le_refl _
 | cons p ks ih =>
  intro s
  have e:thr rnx (p :: ks) s=thr rnx ks (rnx p.1 p.2 s):=rfl;rw[e];exact Nat.le_trans (ih _) (EA _ _ _)
structure iG(w:World)(kd:Nat->Nat)(len:Nat)(mk:List Value->Value)(s:RSt)(e:Ending)(w':World):Prop where
 ex:∃ cs xs r,e=.returned (.tuple #[mk cs,.int .i64 r])/\cs.length=len/\kM w' w.heap.size kd cs xs/\(cM s.1 s.2.1=0->r=0/\xs=s.2.2)/\(cM s.1 s.2.1≠0->r=80/\xs=fun _=>0)
 bel:Below w.heap.size w w'
theorem kM.low{B':Nat}(h:kM w B kd cs xs)(hB:B'<=B):kM w B' kd cs xs:=fun o=>⟨(h o).1,(h o).2.1,fun hk=>by
 obtain⟨ao,n,c,h1,h2,h3⟩:=(h o).2.2 hk
 exact⟨ao,n,c,h1,h2.low hB,h3⟩⟩
def mkA(cs:List Value):Value:=.agg cs.toArray
def zk:Nat->Value
 | 0=>.int .u64 0
 | 1=>.bool false
 | _=>.slice none 0 0
abbrev zs(ks:List Nat):List Value:=ks.map zk
theorem wX(ks:List Nat)(w:World)(B:Nat):kM w B (fun o=>ks.getD o 9) (zs ks) (fun _=>0):=by
 intro o
 have h:∀ k,k≠9->ks.getD o 9=k->(zs ks)[o]?=some (zk k):=by
  intro k hk h;have a:=pW ks h hk;rw[List.getD_eq_getElem?_getD,List.getElem?_eq_getElem a] at h;rw[List.getElem?_map,List.getElem?_eq_getElem a];exact congrArg (fun x=>some (zk x)) h
 exact⟨fun k=>h 0 (by decide) k,fun k=>⟨false,h 1 (by decide) k,rfl⟩,fun k=>⟨none,0,0,h 2 (by decide) k,sD _ _,by decide⟩⟩
theorem eB(F:kM w B (fun o=>ks.getD o 9) cs xs)(hc:cs.length=ks.length)(hk:∀ k∈ks,k < 3):cs.all (·.oneCell')=true:=by
 rw[List.all_eq_true];intro v hv;obtain⟨o,l,rfl⟩:=List.mem_iff_getElem.1 hv;have i:=hk (ks[o]'(by omega)) (List.getElem_mem _)
 have d:ks.getD o 9=ks[o]'(by omega):=by rw[List.getD_eq_getElem?_getD,List.getElem?_eq_getElem (by omega)];rfl
 have j:=List.getElem?_eq_getElem l;obtain⟨g,h,f⟩:=F o;rw[j] at g h f;rcases(show ks[o]'(by omega)=0\/ks[o]'(by omega)=1\/ks[o]'(by omega)=2 by omega) with e | e | e
 ·rw[Option.some.inj (g (d.trans e))];rfl
 ·obtain⟨b,hb,-⟩:=h (d.trans e);rw[Option.some.inj hb];rfl
 ·obtain⟨a,n,c,hb,-⟩:=f (d.trans e);rw[Option.some.inj hb];rfl
theorem mw(ks:List (Nat × Nat)){n:Nat}(hn:n<=1000000000)(a:l.length=n):(thr rnx ks (0,l,fun _=>(0:Int))).2.1.length<=9223372036854775807:=by
 have h:(thr rnx ks (0,l,fun _=>(0:Int))).2.1.length<=l.length:=D0 ks (0,l,fun _=>(0:Int));omega
end
section
variable {w v1 v2 v3 v4 v5 v6 v7 v8 v9:World} {g g1 g2 g3 g5 b' B:Nat} {T vt:TypeId} {l:List Int} {ks:List Nat} {cs:List Value} {st:RSt}
section
variable {xs:Nat->Int}
theorem mL(m:Blk v1 g1 (zs ks) T)(h1:w.heap.size<=g1)(j:Below w.heap.size w v1)(n:Blk v2 g2 (zs ks) T)(r:v1.heap.size<=g2)(f:Below v1.heap.size v1 v2)(h:Blk v3 g3 (zs ks) T)(v:v2.heap.size<=g3)(c:Below v2.heap.size v2 v3)(i:RdA v4 g b' 0 l)(s:v3.heap.size<=g)(hb:v3.heap.size<=b')(p:b' < v4.heap.size)(k:Below v3.heap.size v3 v4)(t:v4.heap.size<=g5)(e:Below v4.heap.size v4 v5)(Y:Blk v6 g5 [.pointer (some ⟨g,0,none⟩)] vt)(C:Chg (·=g5) v5 v6) :
  (RI w v6.heap.size g b' g5 g2 (fun o=>ks.getD o 9) ks.length T vt (0,l,fun _=>(0:Int)) v6/\v6.heap.size<=v6.heap.size)/\Blk v6 g1 (zs ks) T/\Blk v6 g3 (zs ks) T/\g1≠g/\g1≠g2/\g3≠g/\g3≠g2/\w.heap.size<=g1/\g1 < v6.heap.size:=by
 have a1:=m.lt;have a2:=n.lt;have a3:=h.lt;have u:=i.lt;have s1:=j.size;have s2:=f.size;have s3:=c.size;have s4:=k.size;have x:=e.size;have q:=C.size;have a:=ae k e
 have hS:But g5 v5 v6:=⟨C.os,C.tape,C.output,C.size,fun b hb d=>C.same b hb d⟩
 refine⟨⟨⟨(i.keep e).offW (by omega) (by omega) hS,Y,⟨_,by simp,((n.keep c).keep a).chg C (show g2≠g5 by omega),wX ks _ _⟩,aM (ae (ae (ae j f) c) a) C (by omega),by omega,by omega,by omega,by omega,by omega,by omega,by omega,by omega⟩,Nat.le_refl _⟩,(((m.keep f).keep c).keep a).chg C (show g1≠g5 by omega),(h.keep a).chg C (show g3≠g5 by omega),by omega,by omega,by omega,by omega,by omega,by omega⟩
theorem mC(f:Blk v6 g1 (zs ks) T)(i:Blk v6 g3 (zs ks) T)(c:g1≠g)(n2:g1≠g2)(b:g3≠g)(e:g3≠g2)(C:Chg (fun y=>y=g\/y=g2) v6 v7)(R:Blk v7 g2 cs T)(d:g2≠g)(a:But g v7 v8):Blk v8 g1 (zs ks) T/\Blk v8 g2 cs T/\Blk v8 g3 (zs ks) T :=
 ⟨(f.chg C (fun h=>h.elim c n2)).chg (But.chg a) c,R.chg (But.chg a) d,(i.chg C (fun h=>h.elim b e)).chg (But.chg a) b⟩
theorem fK(I:RI w B g b' g5 g2 (fun o=>ks.getD o 9) ks.length T vt st v7)(b:But g v7 v8)(C:Chg (·=g1) v8 v9)(h1:w.heap.size<=g1)(c:g1 < B)(F:kM v7 B (fun o=>ks.getD o 9) cs xs):kM v9 w.heap.size (fun o=>ks.getD o 9) cs xs/\Below w.heap.size w v9:=by
 have:=I.g1;refine⟨((F.off b.size (fun y hy a=>b.block y a (by omega))).off C.size (fun y hy a=>C.same y a (fun e=>by have d:y=g1:=e;omega))).low (by omega),aM (b.below I.bel I.g0 (Nat.le_refl _)) C h1⟩
end
end
section
variable {cs:List Value}{w:World}{bb n c:Nat}{ao:Option Addr}{l:List Int}
theorem ls1(h:cs.length=1):∃ y0,cs=[y0]:=match cs,h with
 | [y0],_=>⟨y0,rfl⟩
theorem ls2(h:cs.length=2):∃ y0 y1,cs=[y0,y1]:=match cs,h with
 | [y0,y1],_=>⟨y0,y1,rfl⟩
theorem Dh(h:cs.length=10):∃ y0 y1 y2 y3 y4 y5 y6 y7 y8 y9,cs=[y0,y1,y2,y3,y4,y5,y6,y7,y8,y9]:=match cs,h with
 | [y0,y1,y2,y3,y4,y5,y6,y7,y8,y9],_=>⟨y0,y1,y2,y3,y4,y5,y6,y7,y8,y9,rfl⟩
theorem rG(A:ByA w bb ao n c l)(hn:n<=1000000000)(W:l.length=n) :
  Calls Tryz.prog 191 #[.slice ao n c,.func (.func 128) #[] #[]] w (iG w ep 10 mkA (thr rnx [(0,0),(0,1),(0,2),(0,3),(0,4),(0,5),(0,6),(0,7),(0,8),(0,9)] (0,l,fun _=>(0:Int)))):=by
 refine af (n:=22) Tryz.func191 rfl ?_
 refine sr<|ta 4 (zs [0,0,0,0,0,0,0,0,0,0]) 24 (pg) ?_
 intro v1 g1 H h1 v;refine tz 1<|nx<|ta 6 (zs [0,0,0,0,0,0,0,0,0,0]) 24 (pg) ?_
 intro v2 Z J Q z;refine ta 7 (zs [0,0,0,0,0,0,0,0,0,0]) 24 (pg) ?_
 intro v3 g3 X3 G y;refine nx<|tz 1<|tc 10 44 #[.slice ao n c] (kB (A.keep (ae (ae v z) y)) (by omega)) ?_
 rintro _ v4 ⟨g,b',rfl,⟨K,u,t⟩,E,O⟩;refine⟨_,rfl,ta 8 [.pointer none] 105 (pg) ?_⟩;intro v5 M X5 L B5;refine ts1 X5 (pg g) ?_
 intro v6 Y C;obtain⟨I,q,r,N,P,U,X,x,D⟩:=mL H h1 v J Q z X3 G y E K u t O L B5 Y C;refine nx<|tz 5<|tc 16 128 #[pg Z,.agg (hq 238 239 240 (pg M)).toArray] (jU (jT [0,0,0,0,0,0,0,0,0,0] ⟨⟨_,Tryz.func238,rfl,rfl,rfl⟩,fun _ _=>by kernel_rfl⟩ ⟨⟨_,Tryz.func239,rfl,rfl,rfl⟩,fun _ _=>by kernel_rfl⟩ ⟨⟨_,Tryz.func240,rfl,rfl,rfl⟩,fun _ _=>by kernel_rfl⟩) I (by decide) trivial) ?_
 rintro _ v7 ⟨rfl,⟨I,-⟩,C⟩;refine⟨_,rfl,?_⟩;obtain⟨cs,hc,R,F⟩:=I.rc;obtain⟨i,d,o,a,m,j,k,e,b,f,rfl⟩:=Dh hc;refine nt<|ag<|sr<|tl 17 (pg g) I.var 0<|tc 18 49 #[pg g] (oG I.rd (mw _ hn W)) ?_
 rintro _ v8 ⟨rfl,-,s⟩;refine⟨_,rfl,?_⟩;obtain⟨q,V,r⟩:=mC q r N P U X C R I.s1 s;generalize thr rnx [(0,0),(0,1),(0,2),(0,3),(0,4),(0,5),(0,6),(0,7),(0,8),(0,9)] (0,l,fun _=>(0:Int))=st at *;by_cases p:cM st.1 st.2.1=0
 ·refine tq 19 (.bool (cM st.1 st.2.1 != 0)) (bF) (congrArg Value.bool (bne_eq_false_iff_eq.2 p))<|nt<|nk<|sr<|tlr 21 [i,d,o,a,m,j,k,e,b,f] V 0<|ts q 0 (.agg ([i,d,o,a,m,j,k,e,b,f]).toArray) [i,d,o,a,m,j,k,e,b,f] [i,d,o,a,m,j,k,e,b,f] ?_ (h1:=eB F hc (by decide))
  intro S Y C;refine tz 1<|nr<|ah (.tuple #[.agg ([i,d,o,a,m,j,k,e,b,f]).toArray,iI 0]) (dX (T:=24) 4 5 (lr Y 0)) ?_
  obtain⟨F,B⟩:=fK I s C x D F;exact⟨⟨_,_,0,rfl,rfl,F,fun _=>⟨rfl,rfl⟩,fun h=>absurd p h⟩,B⟩
 ·refine tq 19 (.bool (cM st.1 st.2.1 != 0)) (bT) (congrArg Value.bool (bne_iff_ne.2 p))<|nt<|aJ<|sr<|tlr 20 (zs [0,0,0,0,0,0,0,0,0,0]) r 0<|ts q 0 (.agg ((zs [0,0,0,0,0,0,0,0,0,0])).toArray) (zs [0,0,0,0,0,0,0,0,0,0]) (zs [0,0,0,0,0,0,0,0,0,0]) ?_
  intro S Y C;refine tz 1<|nr<|bN<|ah (.tuple #[.agg ((zs [0,0,0,0,0,0,0,0,0,0])).toArray,iI 80]) (dX (T:=24) 4 5 (lr Y 0)) ?_
  obtain⟨F,B⟩:=fK I s C x D (wX [0,0,0,0,0,0,0,0,0,0] _ _);exact⟨⟨_,_,80,rfl,rfl,F,fun h=>absurd h p,fun _=>⟨rfl,rfl⟩⟩,B⟩
theorem xy(A:ByA w bb ao n c l)(hn:n<=1000000000)(v:l.length=n) :
  Calls Tryz.prog 364 #[.slice ao n c,.func (.func 363) #[] #[]] w (iG w gL 1 mkA (thr rnx [(2,0)] (0,l,fun _=>(0:Int)))):=by
 refine af (n:=22) Tryz.func364 rfl ?_
 refine sr<|ta 4 (zs [2]) 55 (pg) ?_
 intro v1 g1 z h1 m;refine tz 1<|nx<|ta 6 (zs [2]) 55 (pg) ?_
 intro v2 H D r o;refine ta 7 (zs [2]) 55 (pg) ?_
 intro V Z K y k;refine nx<|tz 1<|tc 10 44 #[.slice ao n c] (kB (A.keep (ae (ae m o) k)) (by omega)) ?_
 rintro _ v4 ⟨g,X,rfl,⟨E,j,i⟩,x,P⟩;refine⟨_,rfl,ta 8 [.pointer none] 105 (pg) ?_⟩;intro W M L J N;refine ts1 L (pg g) ?_
 intro v6 Y C;obtain⟨I,b,e,O,Q,t,G,p,q⟩:=mL z h1 m D r o K y k x E j i P J N Y C;refine nx<|tz 5<|tc 16 363 #[pg H,.agg (hq 385 386 387 (pg M)).toArray] (mX (jT [2] ⟨⟨_,Tryz.func385,rfl,rfl,rfl⟩,fun _ _=>by kernel_rfl⟩ ⟨⟨_,Tryz.func386,rfl,rfl,rfl⟩,fun _ _=>by kernel_rfl⟩ ⟨⟨_,Tryz.func387,rfl,rfl,rfl⟩,fun _ _=>by kernel_rfl⟩) I (by decide) trivial) ?_
 rintro _ S ⟨rfl,⟨I,-⟩,C⟩;refine⟨_,rfl,?_⟩;obtain⟨cs,hc,R,F⟩:=I.rc;obtain⟨a,rfl⟩:=ls1 hc;refine nt<|ag<|sr<|tl 17 (pg g) I.var 0<|tc 18 49 #[pg g] (oG I.rd (mw _ hn v)) ?_
 rintro _ U ⟨rfl,-,f⟩;refine⟨_,rfl,?_⟩;obtain⟨b,u,e⟩:=mC b e O Q t G C R I.s1 f;generalize thr rnx [(2,0)] (0,l,fun _=>(0:Int))=st at *;by_cases d:cM st.1 st.2.1=0
 ·refine tq 19 (.bool (cM st.1 st.2.1 != 0)) (bF) (congrArg Value.bool (bne_eq_false_iff_eq.2 d))<|nt<|nk<|sr<|tlr 21 [a] u 0<|ts b 0 (.agg ([a]).toArray) [a] [a] ?_ (h1:=eB F hc (by decide))
  intro s Y C;refine tz 1<|nr<|ah (.tuple #[.agg ([a]).toArray,iI 0]) (dX (T:=55) 4 5 (lr Y 0)) ?_
  obtain⟨F,B⟩:=fK I f C p q F;exact⟨⟨_,_,0,rfl,rfl,F,fun _=>⟨rfl,rfl⟩,fun h=>absurd d h⟩,B⟩
 ·refine tq 19 (.bool (cM st.1 st.2.1 != 0)) (bT) (congrArg Value.bool (bne_iff_ne.2 d))<|nt<|aJ<|sr<|tlr 20 (zs [2]) e 0<|ts b 0 (.agg ((zs [2])).toArray) (zs [2]) (zs [2]) ?_
  intro s Y C;refine tz 1<|nr<|bN<|ah (.tuple #[.agg ((zs [2])).toArray,iI 80]) (dX (T:=55) 4 5 (lr Y 0)) ?_
  obtain⟨F,B⟩:=fK I f C p q (wX [2] _ _);exact⟨⟨_,_,80,rfl,rfl,F,fun h=>absurd h d,fun _=>⟨rfl,rfl⟩⟩,B⟩
theorem px(A:ByA w bb ao n c l)(hn:n<=1000000000)(M:l.length=n) :
  Calls Tryz.prog 73 #[.slice ao n c,.func (.func 74) #[] #[]] w (iG w dP 2 mkA (thr rnx [(0,0),(0,1)] (0,l,fun _=>(0:Int)))):=by
 refine af (n:=22) Tryz.func73 rfl ?_
 refine sr<|ta 4 (zs [0,0]) 50 (pg) ?_
 intro v1 g1 u h1 m;refine tz 1<|nx<|ta 6 (zs [0,0]) 50 (pg) ?_
 intro v2 O v H q;refine ta 7 (zs [0,0]) 50 (pg) ?_
 intro W g3 P t p;refine nx<|tz 1<|tc 10 44 #[.slice ao n c] (kB (A.keep (ae (ae m q) p)) (by omega)) ?_
 rintro _ v4 ⟨g,X,rfl,⟨x,k,j⟩,s,E⟩;refine⟨_,rfl,ta 8 [.pointer none] 105 (pg) ?_⟩;intro Z z Q y S;refine ts1 Q (pg g) ?_
 intro v6 Y C;obtain⟨I,e,f,D,G,K,N,o,r⟩:=mL u h1 m v H q P t p s x k j E y S Y C;refine nx<|tz 5<|tc 16 74 #[pg O,.agg (hq 111 112 114 (pg z)).toArray] (iR (jT [0,0] ⟨⟨_,Tryz.func111,rfl,rfl,rfl⟩,fun _ _=>by kernel_rfl⟩ ⟨⟨_,Tryz.func112,rfl,rfl,rfl⟩,fun _ _=>by kernel_rfl⟩ ⟨⟨_,Tryz.func114,rfl,rfl,rfl⟩,fun _ _=>by kernel_rfl⟩) I (by decide) trivial) ?_
 rintro _ U ⟨rfl,⟨I,-⟩,C⟩;refine⟨_,rfl,?_⟩;obtain⟨cs,hc,R,F⟩:=I.rc;obtain⟨b,a,rfl⟩:=ls2 hc;refine nt<|ag<|sr<|tl 17 (pg g) I.var 0<|tc 18 49 #[pg g] (oG I.rd (mw _ hn M)) ?_
 rintro _ V ⟨rfl,-,i⟩;refine⟨_,rfl,?_⟩;obtain⟨e,L,f⟩:=mC e f D G K N C R I.s1 i;generalize thr rnx [(0,0),(0,1)] (0,l,fun _=>(0:Int))=st at *;by_cases d:cM st.1 st.2.1=0
 ·refine tq 19 (.bool (cM st.1 st.2.1 != 0)) (bF) (congrArg Value.bool (bne_eq_false_iff_eq.2 d))<|nt<|nk<|sr<|tlr 21 [b,a] L 0<|ts e 0 (.agg ([b,a]).toArray) [b,a] [b,a] ?_ (h1:=eB F hc (by decide))
  intro J Y C;refine tz 1<|nr<|ah (.tuple #[.agg ([b,a]).toArray,iI 0]) (dX (T:=50) 4 5 (lr Y 0)) ?_
  obtain⟨F,B⟩:=fK I i C o r F;exact⟨⟨_,_,0,rfl,rfl,F,fun _=>⟨rfl,rfl⟩,fun h=>absurd d h⟩,B⟩
 ·refine tq 19 (.bool (cM st.1 st.2.1 != 0)) (bT) (congrArg Value.bool (bne_iff_ne.2 d))<|nt<|aJ<|sr<|tlr 20 (zs [0,0]) f 0<|ts e 0 (.agg ((zs [0,0])).toArray) (zs [0,0]) (zs [0,0]) ?_
  intro J Y C;refine tz 1<|nr<|bN<|ah (.tuple #[.agg ((zs [0,0])).toArray,iI 80]) (dX (T:=50) 4 5 (lr Y 0)) ?_
  obtain⟨F,B⟩:=fK I i C o r (wX [0,0] _ _);exact⟨⟨_,_,80,rfl,rfl,F,fun h=>absurd h d,fun _=>⟨rfl,rfl⟩⟩,B⟩
theorem yV(A:ByA w bb ao n c l)(hn:n<=1000000000)(W:l.length=n) :
  Calls Tryz.prog 76 #[.slice ao n c,.func (.func 77) #[] #[]] w (iG w iS 10 mkA (thr rnx [(0,0),(0,1),(2,2),(1,3),(0,4),(1,5),(0,6),(2,7),(2,8),(2,9)] (0,l,fun _=>(0:Int)))):=by
 refine af (n:=22) Tryz.func76 rfl ?_
 refine sr<|ta 4 (zs [0,0,2,1,0,1,0,2,2,2]) 57 (pg) ?_
 intro v1 g1 H h1 v;refine tz 1<|nx<|ta 6 (zs [0,0,2,1,0,1,0,2,2,2]) 57 (pg) ?_
 intro v2 Z J Q z;refine ta 7 (zs [0,0,2,1,0,1,0,2,2,2]) 57 (pg) ?_
 intro v3 g3 X3 G y;refine nx<|tz 1<|tc 10 44 #[.slice ao n c] (kB (A.keep (ae (ae v z) y)) (by omega)) ?_
 rintro _ v4 ⟨g,b',rfl,⟨K,u,t⟩,E,O⟩;refine⟨_,rfl,ta 8 [.pointer none] 105 (pg) ?_⟩;intro v5 M X5 L B5;refine ts1 X5 (pg g) ?_
 intro v6 Y C;obtain⟨I,q,r,N,P,U,X,x,D⟩:=mL H h1 v J Q z X3 G y E K u t O L B5 Y C;refine nx<|tz 5<|tc 16 77 #[pg Z,.agg (hq 117 118 119 (pg M)).toArray] (oC (jT [0,0,2,1,0,1,0,2,2,2] ⟨⟨_,Tryz.func117,rfl,rfl,rfl⟩,fun _ _=>by kernel_rfl⟩ ⟨⟨_,Tryz.func118,rfl,rfl,rfl⟩,fun _ _=>by kernel_rfl⟩ ⟨⟨_,Tryz.func119,rfl,rfl,rfl⟩,fun _ _=>by kernel_rfl⟩) I (by decide) trivial) ?_
 rintro _ v7 ⟨rfl,⟨I,-⟩,C⟩;refine⟨_,rfl,?_⟩;obtain⟨cs,hc,R,F⟩:=I.rc;obtain⟨i,d,o,a,m,j,k,e,b,f,rfl⟩:=Dh hc;refine nt<|ag<|sr<|tl 17 (pg g) I.var 0<|tc 18 49 #[pg g] (oG I.rd (mw _ hn W)) ?_
 rintro _ v8 ⟨rfl,-,s⟩;refine⟨_,rfl,?_⟩;obtain⟨q,V,r⟩:=mC q r N P U X C R I.s1 s;generalize thr rnx [(0,0),(0,1),(2,2),(1,3),(0,4),(1,5),(0,6),(2,7),(2,8),(2,9)] (0,l,fun _=>(0:Int))=st at *;by_cases p:cM st.1 st.2.1=0
 ·refine tq 19 (.bool (cM st.1 st.2.1 != 0)) (bF) (congrArg Value.bool (bne_eq_false_iff_eq.2 p))<|nt<|nk<|sr<|tlr 21 [i,d,o,a,m,j,k,e,b,f] V 0<|ts q 0 (.agg ([i,d,o,a,m,j,k,e,b,f]).toArray) [i,d,o,a,m,j,k,e,b,f] [i,d,o,a,m,j,k,e,b,f] ?_ (h1:=eB F hc (by decide))
  intro S Y C;refine tz 1<|nr<|ah (.tuple #[.agg ([i,d,o,a,m,j,k,e,b,f]).toArray,iI 0]) (dX (T:=57) 4 5 (lr Y 0)) ?_
  obtain⟨F,B⟩:=fK I s C x D F;exact⟨⟨_,_,0,rfl,rfl,F,fun _=>⟨rfl,rfl⟩,fun h=>absurd p h⟩,B⟩
 ·refine tq 19 (.bool (cM st.1 st.2.1 != 0)) (bT) (congrArg Value.bool (bne_iff_ne.2 p))<|nt<|aJ<|sr<|tlr 20 (zs [0,0,2,1,0,1,0,2,2,2]) r 0<|ts q 0 (.agg ((zs [0,0,2,1,0,1,0,2,2,2])).toArray) (zs [0,0,2,1,0,1,0,2,2,2]) (zs [0,0,2,1,0,1,0,2,2,2]) ?_
  intro S Y C;refine tz 1<|nr<|bN<|ah (.tuple #[.agg ((zs [0,0,2,1,0,1,0,2,2,2])).toArray,iI 80]) (dX (T:=57) 4 5 (lr Y 0)) ?_
  obtain⟨F,B⟩:=fK I s C x D (wX [0,0,2,1,0,1,0,2,2,2] _ _);exact⟨⟨_,_,80,rfl,rfl,F,fun h=>absurd h p,fun _=>⟨rfl,rfl⟩⟩,B⟩
theorem qa(A:ByA w bb ao n c l)(hn:n<=1000000000)(M:l.length=n) :
  Calls Tryz.prog 262 #[.slice ao n c,.func (.func 263) #[] #[]] w (iG w dQ 2 mkA (thr rnx [(2,0),(0,1)] (0,l,fun _=>(0:Int)))):=by
 refine af (n:=22) Tryz.func262 rfl ?_
 refine sr<|ta 4 (zs [2,0]) 272 (pg) ?_
 intro v1 g1 u h1 m;refine tz 1<|nx<|ta 6 (zs [2,0]) 272 (pg) ?_
 intro v2 O v H q;refine ta 7 (zs [2,0]) 272 (pg) ?_
 intro W g3 P t p;refine nx<|tz 1<|tc 10 44 #[.slice ao n c] (kB (A.keep (ae (ae m q) p)) (by omega)) ?_
 rintro _ v4 ⟨g,X,rfl,⟨x,k,j⟩,s,E⟩;refine⟨_,rfl,ta 8 [.pointer none] 105 (pg) ?_⟩;intro Z z Q y S;refine ts1 Q (pg g) ?_
 intro v6 Y C;obtain⟨I,e,f,D,G,K,N,o,r⟩:=mL u h1 m v H q P t p s x k j E y S Y C;refine nx<|tz 5<|tc 16 263 #[pg O,.agg (hq 314 315 316 (pg z)).toArray] (iL (jT [2,0] ⟨⟨_,Tryz.func314,rfl,rfl,rfl⟩,fun _ _=>by kernel_rfl⟩ ⟨⟨_,Tryz.func315,rfl,rfl,rfl⟩,fun _ _=>by kernel_rfl⟩ ⟨⟨_,Tryz.func316,rfl,rfl,rfl⟩,fun _ _=>by kernel_rfl⟩) I (by decide) trivial) ?_
 rintro _ U ⟨rfl,⟨I,-⟩,C⟩;refine⟨_,rfl,?_⟩;obtain⟨cs,hc,R,F⟩:=I.rc;obtain⟨b,a,rfl⟩:=ls2 hc;refine nt<|ag<|sr<|tl 17 (pg g) I.var 0<|tc 18 49 #[pg g] (oG I.rd (mw _ hn M)) ?_
 rintro _ V ⟨rfl,-,i⟩;refine⟨_,rfl,?_⟩;obtain⟨e,L,f⟩:=mC e f D G K N C R I.s1 i;generalize thr rnx [(2,0),(0,1)] (0,l,fun _=>(0:Int))=st at *;by_cases d:cM st.1 st.2.1=0
 ·refine tq 19 (.bool (cM st.1 st.2.1 != 0)) (bF) (congrArg Value.bool (bne_eq_false_iff_eq.2 d))<|nt<|nk<|sr<|tlr 21 [b,a] L 0<|ts e 0 (.agg ([b,a]).toArray) [b,a] [b,a] ?_ (h1:=eB F hc (by decide))
  intro J Y C;refine tz 1<|nr<|ah (.tuple #[.agg ([b,a]).toArray,iI 0]) (dX (T:=272) 4 5 (lr Y 0)) ?_
  obtain⟨F,B⟩:=fK I i C o r F;exact⟨⟨_,_,0,rfl,rfl,F,fun _=>⟨rfl,rfl⟩,fun h=>absurd d h⟩,B⟩
 ·refine tq 19 (.bool (cM st.1 st.2.1 != 0)) (bT) (congrArg Value.bool (bne_iff_ne.2 d))<|nt<|aJ<|sr<|tlr 20 (zs [2,0]) f 0<|ts e 0 (.agg ((zs [2,0])).toArray) (zs [2,0]) (zs [2,0]) ?_
  intro J Y C;refine tz 1<|nr<|bN<|ah (.tuple #[.agg ((zs [2,0])).toArray,iI 80]) (dX (T:=272) 4 5 (lr Y 0)) ?_
  obtain⟨F,B⟩:=fK I i C o r (wX [2,0] _ _);exact⟨⟨_,_,80,rfl,rfl,F,fun h=>absurd h d,fun _=>⟨rfl,rfl⟩⟩,B⟩
end
section
variable {w:World}{x0 x1 x2 x4 x6 x7 x8 x9:Int}{bb n c n0 c0 n2 c2:Nat}{ao a0 a2 a7 a8 a9:Option Addr}{l:List Int}
theorem nY{x3:Int}{x5:Int} :
  Calls Tryz.prog 88 #[.agg #[.int .u64 x0,.int .u64 x1,.int .u64 x2,.int .u64 x3,.int .u64 x4,.int .u64 x5,.int .u64 x6,.int .u64 x7,.int .u64 x8,.int .u64 x9]] w fun e w'=>∃ b n,e=.returned (.slice (some ⟨b,0,none⟩) n n)/\n=(thr (pnx (fun o=>([x0,x1,x2,x3,x4,x5,x6,x7,x8,x9]:List Int).getD o 0)) [(0,0),(0,1),(0,2),(0,3),(0,4),(0,5),(0,6),(0,7),(0,8),(0,9)] []).length/\Box w' b ((thr (pnx (fun o=>([x0,x1,x2,x3,x4,x5,x6,x7,x8,x9]:List Int).getD o 0)) [(0,0),(0,1),(0,2),(0,3),(0,4),(0,5),(0,6),(0,7),(0,8),(0,9)] []).map (Value.int .u8)) 5/\w.heap.size<=b/\Below w.heap.size w w':=by
 refine af (n:=5) Tryz.func88 rfl ?_
 refine sr<|ta 1 [.int .u64 x0,.int .u64 x1,.int .u64 x2,.int .u64 x3,.int .u64 x4,.int .u64 x5,.int .u64 x6,.int .u64 x7,.int .u64 x8,.int .u64 x9] 24 (pg) ?_
 intro v1 g1 c q1 a;refine tz 1<|nx<|tlr 3 [.int .u64 x0,.int .u64 x1,.int .u64 x2,.int .u64 x3,.int .u64 x4,.int .u64 x5,.int .u64 x6,.int .u64 x7,.int .u64 x8,.int .u64 x9] c 0<|tc 4 127 #[.agg #[.int .u64 x0,.int .u64 x1,.int .u64 x2,.int .u64 x3,.int .u64 x4,.int .u64 x5,.int .u64 x6,.int .u64 x7,.int .u64 x8,.int .u64 x9],.func (.func 128) #[] #[]] (tm) ?_
 rintro _ v2 ⟨b,n,rfl,hn,X,hb,d⟩;refine⟨_,rfl,tz 1<|nr<|ah (.slice (some ⟨b,0,none⟩) n n) (rs1 2) ?_⟩;exact⟨b,n,rfl,hn,X,Nat.le_trans a.size hb,ae a d⟩
theorem uG(A:ByA w bb ao n c l)(hn:n<=1000000000)(u:l.length=n) :
  Calls Tryz.prog 145 #[.slice ao n c] w (iG w ep 10 mkA (thr rnx [(0,0),(0,1),(0,2),(0,3),(0,4),(0,5),(0,6),(0,7),(0,8),(0,9)] (0,l,fun _=>(0:Int)))):=by
 refine af (n:=8) Tryz.func145 rfl ?_
 refine sr<|ta 2 (zs [0,0,0,0,0,0,0,0,0,0]) 24 (pg) ?_
 intro v1 g1 q q1 o;refine tz 1<|nx<|tz 1<|tc 5 191 #[.slice ao n c,.func (.func 128) #[] #[]] (rG (A.keep o) hn u) ?_
 rintro _ v2 ⟨⟨cs,xs,r,rfl,hc,F,v,t⟩,s⟩;refine⟨_,rfl,?_⟩;obtain⟨g,h,m,b,k,i,j,a,d,f,rfl⟩:=Dh hc;have l1:=q.lt;refine tz 2<|ts (q.keep s) 0 (.agg ([g,h,m,b,k,i,j,a,d,f]).toArray) [g,h,m,b,k,i,j,a,d,f] [g,h,m,b,k,i,j,a,d,f] ?_ (h1:=eB (ks:=[0,0,0,0,0,0,0,0,0,0]) F hc (by decide))
 intro x Y C;refine tz 1<|nr<|ah (.tuple #[.agg ([g,h,m,b,k,i,j,a,d,f]).toArray,.int .i64 r]) (dX (T:=24) 2 3 (lr Y 0)) ?_
 exact⟨⟨_,xs,r,rfl,rfl,(F.off C.size (fun y hy p=>C.same y p (fun e=>by have z:y=g1:=e;omega))).low o.size,v,t⟩,aM (ae o s) C q1⟩
theorem pF :
  Calls Tryz.prog 89 #[.agg #[.int .u64 x0,.int .u64 x1]] w fun e w'=>∃ b n,e=.returned (.slice (some ⟨b,0,none⟩) n n)/\n=(thr (pnx (fun o=>([x0,x1]:List Int).getD o 0)) [(0,0),(0,1)] []).length/\Box w' b ((thr (pnx (fun o=>([x0,x1]:List Int).getD o 0)) [(0,0),(0,1)] []).map (Value.int .u8)) 5/\w.heap.size<=b/\Below w.heap.size w w':=by
 refine af (n:=5) Tryz.func89 rfl ?_
 refine sr<|ta 1 [.int .u64 x0,.int .u64 x1] 138 (pg) ?_
 intro v1 g1 c q1 a;refine tz 1<|nx<|tlr 3 [.int .u64 x0,.int .u64 x1] c 0<|tc 4 129 #[.agg #[.int .u64 x0,.int .u64 x1],.func (.func 130) #[] #[]] (xY) ?_
 rintro _ v2 ⟨b,n,rfl,hn,X,hb,d⟩;refine⟨_,rfl,tz 1<|nr<|ah (.slice (some ⟨b,0,none⟩) n n) (rs1 2) ?_⟩;exact⟨b,n,rfl,hn,X,Nat.le_trans a.size hb,ae a d⟩
theorem so(c:aT w a0 n0 c0 x0)(m0:n0<=1000000) :
  Calls Tryz.prog 337 #[.agg #[.slice a0 n0 c0]] w fun e w'=>∃ b n,e=.returned (.slice (some ⟨b,0,none⟩) n n)/\n=(thr (pnx (fun o=>([x0]:List Int).getD o 0)) [(2,0)] []).length/\Box w' b ((thr (pnx (fun o=>([x0]:List Int).getD o 0)) [(2,0)] []).map (Value.int .u8)) 5/\w.heap.size<=b/\Below w.heap.size w w':=by
 refine af (n:=5) Tryz.func337 rfl ?_
 refine sr<|ta 1 [.slice a0 n0 c0] 55 (pg) ?_
 intro v1 g1 d q1 a;refine tz 1<|nx<|tlr 3 [.slice a0 n0 c0] d 0<|tc 4 362 #[.agg #[.slice a0 n0 c0],.func (.func 363) #[] #[]] (Cu (c.keep a) m0) ?_
 rintro _ v2 ⟨b,n,rfl,hn,X,hb,f⟩;refine⟨_,rfl,tz 1<|nr<|ah (.slice (some ⟨b,0,none⟩) n n) (rs1 2) ?_⟩;exact⟨b,n,rfl,hn,X,Nat.le_trans a.size hb,ae a f⟩
theorem A9(A:ByA w bb ao n c l)(hn:n<=1000000000)(i:l.length=n) :
  Calls Tryz.prog 339 #[.slice ao n c] w (iG w gL 1 mkA (thr rnx [(2,0)] (0,l,fun _=>(0:Int)))):=by
 refine af (n:=8) Tryz.func339 rfl ?_
 refine sr<|ta 2 (zs [2]) 55 (pg) ?_
 intro v1 g1 f q1 b;refine tz 1<|nx<|tz 1<|tc 5 364 #[.slice ao n c,.func (.func 363) #[] #[]] (xy (A.keep b) hn i) ?_
 rintro _ v2 ⟨⟨cs,xs,r,rfl,hc,F,j,h⟩,g⟩;refine⟨_,rfl,?_⟩;obtain⟨a,rfl⟩:=ls1 hc;have l1:=f.lt;refine tz 2<|ts (f.keep g) 0 (.agg ([a]).toArray) [a] [a] ?_ (h1:=eB (ks:=[2]) F hc (by decide))
 intro k Y C;refine tz 1<|nr<|ah (.tuple #[.agg ([a]).toArray,.int .i64 r]) (dX (T:=55) 2 3 (lr Y 0)) ?_
 exact⟨⟨_,xs,r,rfl,rfl,(F.off C.size (fun y hy d=>C.same y d (fun e=>by have m:y=g1:=e;omega))).low b.size,j,h⟩,aM (ae b g) C q1⟩
theorem lZ :
  Calls Tryz.prog 132 #[.agg #[.int .u64 x0,.int .u64 x1]] w fun e w'=>∃ b n,e=.returned (.slice (some ⟨b,0,none⟩) n n)/\n=(thr (pnx (fun o=>([x0,x1]:List Int).getD o 0)) [(0,0),(0,1)] []).length/\Box w' b ((thr (pnx (fun o=>([x0,x1]:List Int).getD o 0)) [(0,0),(0,1)] []).map (Value.int .u8)) 5/\w.heap.size<=b/\Below w.heap.size w w':=by
 refine af (n:=5) Tryz.func132 rfl ?_
 refine sr<|ta 1 [.int .u64 x0,.int .u64 x1] 50 (pg) ?_
 intro v1 g1 c q1 a;refine tz 1<|nx<|tlr 3 [.int .u64 x0,.int .u64 x1] c 0<|tc 4 172 #[.agg #[.int .u64 x0,.int .u64 x1],.func (.func 74) #[] #[]] (sd) ?_
 rintro _ v2 ⟨b,n,rfl,hn,X,hb,d⟩;refine⟨_,rfl,tz 1<|nr<|ah (.slice (some ⟨b,0,none⟩) n n) (rs1 2) ?_⟩;exact⟨b,n,rfl,hn,X,Nat.le_trans a.size hb,ae a d⟩
theorem qU(A:ByA w bb ao n c l)(hn:n<=1000000000)(j:l.length=n) :
  Calls Tryz.prog 41 #[.slice ao n c] w (iG w dP 2 mkA (thr rnx [(0,0),(0,1)] (0,l,fun _=>(0:Int)))):=by
 refine af (n:=8) Tryz.func41 rfl ?_
 refine sr<|ta 2 (zs [0,0]) 50 (pg) ?_
 intro v1 g1 g q1 d;refine tz 1<|nx<|tz 1<|tc 5 73 #[.slice ao n c,.func (.func 74) #[] #[]] (px (A.keep d) hn j) ?_
 rintro _ v2 ⟨⟨cs,xs,r,rfl,hc,F,k,i⟩,h⟩;refine⟨_,rfl,?_⟩;obtain⟨a,b,rfl⟩:=ls2 hc;have l1:=g.lt;refine tz 2<|ts (g.keep h) 0 (.agg ([a,b]).toArray) [a,b] [a,b] ?_ (h1:=eB (ks:=[0,0]) F hc (by decide))
 intro m Y C;refine tz 1<|nr<|ah (.tuple #[.agg ([a,b]).toArray,.int .i64 r]) (dX (T:=50) 2 3 (lr Y 0)) ?_
 exact⟨⟨_,xs,r,rfl,rfl,(F.off C.size (fun y hy f=>C.same y f (fun e=>by have o:y=g1:=e;omega))).low d.size,k,i⟩,aM (ae d h) C q1⟩
theorem sI{b3:Bool}{b5:Bool}{n7 c7:Nat}{n8 c8:Nat}{n9 c9:Nat}(c:aT w a2 n2 c2 x2)(i:n2<=1000000)(k:aT w a7 n7 c7 x7)(d:n7<=1000000)(f:aT w a8 n8 c8 x8)(l:n8<=1000000)(h9:aT w a9 n9 c9 x9)(j:n9<=1000000) :
  Calls Tryz.prog 199 #[.agg #[.int .u64 x0,.int .u64 x1,.slice a2 n2 c2,.bool b3,.int .u64 x4,.bool b5,.int .u64 x6,.slice a7 n7 c7,.slice a8 n8 c8,.slice a9 n9 c9]] w fun e w'=>∃ b n,e=.returned (.slice (some ⟨b,0,none⟩) n n)/\n=(thr (pnx (fun o=>([x0,x1,x2,(if b3 then 1 else 0),x4,(if b5 then 1 else 0),x6,x7,x8,x9]:List Int).getD o 0)) [(0,0),(0,1),(2,2),(1,3),(0,4),(1,5),(0,6),(2,7),(2,8),(2,9)] []).length/\Box w' b ((thr (pnx (fun o=>([x0,x1,x2,(if b3 then 1 else 0),x4,(if b5 then 1 else 0),x6,x7,x8,x9]:List Int).getD o 0)) [(0,0),(0,1),(2,2),(1,3),(0,4),(1,5),(0,6),(2,7),(2,8),(2,9)] []).map (Value.int .u8)) 5/\w.heap.size<=b/\Below w.heap.size w w':=by
 refine af (n:=5) Tryz.func199 rfl ?_
 refine sr<|ta 1 [.int .u64 x0,.int .u64 x1,.slice a2 n2 c2,.bool b3,.int .u64 x4,.bool b5,.int .u64 x6,.slice a7 n7 c7,.slice a8 n8 c8,.slice a9 n9 c9] 57 (pg) ?_
 intro v1 g1 g q1 a;refine tz 1<|nx<|tlr 3 [.int .u64 x0,.int .u64 x1,.slice a2 n2 c2,.bool b3,.int .u64 x4,.bool b5,.int .u64 x6,.slice a7 n7 c7,.slice a8 n8 c8,.slice a9 n9 c9] g 0<|tc 4 249 #[.agg #[.int .u64 x0,.int .u64 x1,.slice a2 n2 c2,.bool b3,.int .u64 x4,.bool b5,.int .u64 x6,.slice a7 n7 c7,.slice a8 n8 c8,.slice a9 n9 c9],.func (.func 77) #[] #[]] (DL (c.keep a) i (k.keep a) d (f.keep a) l (h9.keep a) j) ?_
 rintro _ v2 ⟨b,n,rfl,hn,X,hb,h⟩;refine⟨_,rfl,tz 1<|nr<|ah (.slice (some ⟨b,0,none⟩) n n) (rs1 2) ?_⟩;exact⟨b,n,rfl,hn,X,Nat.le_trans a.size hb,ae a h⟩
theorem EP(A:ByA w bb ao n c l)(hn:n<=1000000000)(u:l.length=n) :
  Calls Tryz.prog 43 #[.slice ao n c] w (iG w iS 10 mkA (thr rnx [(0,0),(0,1),(2,2),(1,3),(0,4),(1,5),(0,6),(2,7),(2,8),(2,9)] (0,l,fun _=>(0:Int)))):=by
 refine af (n:=8) Tryz.func43 rfl ?_
 refine sr<|ta 2 (zs [0,0,2,1,0,1,0,2,2,2]) 57 (pg) ?_
 intro v1 g1 q q1 o;refine tz 1<|nx<|tz 1<|tc 5 76 #[.slice ao n c,.func (.func 77) #[] #[]] (yV (A.keep o) hn u) ?_
 rintro _ v2 ⟨⟨cs,xs,r,rfl,hc,F,v,t⟩,s⟩;refine⟨_,rfl,?_⟩;obtain⟨g,h,m,b,k,i,j,a,d,f,rfl⟩:=Dh hc;have l1:=q.lt;refine tz 2<|ts (q.keep s) 0 (.agg ([g,h,m,b,k,i,j,a,d,f]).toArray) [g,h,m,b,k,i,j,a,d,f] [g,h,m,b,k,i,j,a,d,f] ?_ (h1:=eB (ks:=[0,0,2,1,0,1,0,2,2,2]) F hc (by decide))
 intro x Y C;refine tz 1<|nr<|ah (.tuple #[.agg ([g,h,m,b,k,i,j,a,d,f]).toArray,.int .i64 r]) (dX (T:=57) 2 3 (lr Y 0)) ?_
 exact⟨⟨_,xs,r,rfl,rfl,(F.off C.size (fun y hy p=>C.same y p (fun e=>by have z:y=g1:=e;omega))).low o.size,v,t⟩,aM (ae o s) C q1⟩
theorem jV(f:aT w a0 n0 c0 x0)(m0:n0<=1000000)(d:aT w a2 n2 c2 x2)(c:n2<=1000000) :
  Calls Tryz.prog 291 #[.agg #[.slice a0 n0 c0,.int .u64 x1,.slice a2 n2 c2]] w fun e w'=>∃ b n,e=.returned (.slice (some ⟨b,0,none⟩) n n)/\n=(thr (pnx (fun o=>([x0,x1,x2]:List Int).getD o 0)) [(2,0),(0,1),(2,2)] []).length/\Box w' b ((thr (pnx (fun o=>([x0,x1,x2]:List Int).getD o 0)) [(2,0),(0,1),(2,2)] []).map (Value.int .u8)) 5/\w.heap.size<=b/\Below w.heap.size w w':=by
 refine af (n:=5) Tryz.func291 rfl ?_
 refine sr<|ta 1 [.slice a0 n0 c0,.int .u64 x1,.slice a2 n2 c2] 181 (pg) ?_
 intro v1 g1 g q1 a;refine tz 1<|nx<|tlr 3 [.slice a0 n0 c0,.int .u64 x1,.slice a2 n2 c2] g 0<|tc 4 340 #[.agg #[.slice a0 n0 c0,.int .u64 x1,.slice a2 n2 c2],.func (.func 341) #[] #[]] (mi (f.keep a) m0 (d.keep a) c) ?_
 rintro _ v2 ⟨b,n,rfl,hn,X,hb,h⟩;refine⟨_,rfl,tz 1<|nr<|ah (.slice (some ⟨b,0,none⟩) n n) (rs1 2) ?_⟩;exact⟨b,n,rfl,hn,X,Nat.le_trans a.size hb,ae a h⟩
theorem nm(c:aT w a0 n0 c0 x0)(m0:n0<=1000000) :
  Calls Tryz.prog 221 #[.agg #[.slice a0 n0 c0,.int .u64 x1]] w fun e w'=>∃ b n,e=.returned (.slice (some ⟨b,0,none⟩) n n)/\n=(thr (pnx (fun o=>([x0,x1]:List Int).getD o 0)) [(2,0),(0,1)] []).length/\Box w' b ((thr (pnx (fun o=>([x0,x1]:List Int).getD o 0)) [(2,0),(0,1)] []).map (Value.int .u8)) 5/\w.heap.size<=b/\Below w.heap.size w w':=by
 refine af (n:=5) Tryz.func221 rfl ?_
 refine sr<|ta 1 [.slice a0 n0 c0,.int .u64 x1] 272 (pg) ?_
 intro v1 g1 d q1 a;refine tz 1<|nx<|tlr 3 [.slice a0 n0 c0,.int .u64 x1] d 0<|tc 4 264 #[.agg #[.slice a0 n0 c0,.int .u64 x1],.func (.func 263) #[] #[]] (sm (c.keep a) m0) ?_
 rintro _ v2 ⟨b,n,rfl,hn,X,hb,f⟩;refine⟨_,rfl,tz 1<|nr<|ah (.slice (some ⟨b,0,none⟩) n n) (rs1 2) ?_⟩;exact⟨b,n,rfl,hn,X,Nat.le_trans a.size hb,ae a f⟩
theorem rH(A:ByA w bb ao n c l)(hn:n<=1000000000)(j:l.length=n) :
  Calls Tryz.prog 220 #[.slice ao n c] w (iG w dQ 2 mkA (thr rnx [(2,0),(0,1)] (0,l,fun _=>(0:Int)))):=by
 refine af (n:=8) Tryz.func220 rfl ?_
 refine sr<|ta 2 (zs [2,0]) 272 (pg) ?_
 intro v1 g1 g q1 d;refine tz 1<|nx<|tz 1<|tc 5 262 #[.slice ao n c,.func (.func 263) #[] #[]] (qa (A.keep d) hn j) ?_
 rintro _ v2 ⟨⟨cs,xs,r,rfl,hc,F,k,i⟩,h⟩;refine⟨_,rfl,?_⟩;obtain⟨a,b,rfl⟩:=ls2 hc;have l1:=g.lt;refine tz 2<|ts (g.keep h) 0 (.agg ([a,b]).toArray) [a,b] [a,b] ?_ (h1:=eB (ks:=[2,0]) F hc (by decide))
 intro m Y C;refine tz 1<|nr<|ah (.tuple #[.agg ([a,b]).toArray,.int .i64 r]) (dX (T:=272) 2 3 (lr Y 0)) ?_
 exact⟨⟨_,xs,r,rfl,rfl,(F.off C.size (fun y hy f=>C.same y f (fun e=>by have o:y=g1:=e;omega))).low d.size,k,i⟩,aM (ae d h) C q1⟩
end
end Rc
end
section
open Go.RowKit Lim
structure Stp where
 what:Int
 num:Int
 na:Option Addr
 nn:Nat
 nc:Nat
 V:Int
 ba:Option Addr
 bn:Nat
 bc:Nat
 bb:Nat
 bl:List Int
 most:Int
section
variable {l L:List Int}{m:Nat}
theorem E4(h:aK l):be l.length (bP l)=l:=by
 refine ml (fL _ _) h (aI _ _) ?_
 have hb:=bL h;rw[po _ hb.1,Int.emod_eq_of_lt hb.1 hb.2]
theorem fG(h:aK l)(hm:m<=l.length):be m (bP (l.take m))=l.take m:=by
 have:=E4 (l:=l.take m) (fun x hx=>h x (List.mem_of_mem_take hx));rwa [List.length_take,Nat.min_eq_left hm] at this
def One(err':Int)(L L':List Int)(laid:List Int->Prop):Prop:=(err'≠0/\L'=L)\/(err'=0/\∃ k,k<=L.length/\laid (L.take k)/\L'=L.drop k)
theorem Dx(h:aK L)(m:Nat):One (rdE (cQ m L) 0) L (rdL (cQ m L) 0 L) (fun t=>be m (rdV 0 (cQ m L) 0)=t):=by
 by_cases hm:m<=L.length
 ·have e:cQ m L=.inr (bP (L.take m),m):=by unfold cQ; rw[if_pos hm]
  rw[e];exact .inr ⟨rfl,m,hm,fG h hm,rfl⟩
 ·have e:cQ m L=.inl 40:=by unfold cQ; rw[if_neg hm]
  rw[e];exact .inl ⟨by decide,rfl⟩
theorem Co(h:aK L):One (rdE (bS L) 0) L (rdL (bS L) 0 L) (fun t=>be 1 (if rdV false (bS L) 0 then 1 else 0)=t):=by
 by_cases hm:1<=L.length
 ·by_cases hx:1 < bP (L.take 1)
  ·have e:bS L=.inl 41:=by unfold bS; rw[if_pos hm,if_pos hx]
   rw[e];exact .inl ⟨by decide,rfl⟩
  ·have e:bS L=.inr (bP (L.take 1) == 1,1):=by unfold bS; rw[if_pos hm,if_neg hx]
   rw[e];refine .inr ⟨rfl,1,hm,?_,rfl⟩;have a:=fG h hm;have c:=(bL (l:=L.take 1) (fun x hx=>h x (List.mem_of_mem_take hx))).1
   show be 1 (if (bP (L.take 1) == 1)=true then 1 else 0)=L.take 1
   generalize L.take 1=M at *;by_cases b:bP M=1
   ·rw[b] at a ⊢;exact a
   ·rw[show bP M=0 by omega] at a ⊢;exact a
 ·have e:bS L=.inl 40:=by unfold bS; rw[if_neg hm]
  rw[e];exact .inl ⟨by decide,rfl⟩
theorem rC(h:aK L):((cA m L:Nat):Int)=bP (L.take m):=by
 unfold cA;rw[Int.toNat_of_nonneg (bL (fun x hx=>h x (List.mem_of_mem_take hx))).1]
theorem Dz(h:aK L)(hm:m<=L.length)(hc:m+cA m L<=L.length):kA m ((L.drop m).take (cA m L))=L.take (m+cA m L):=by
 unfold kA
 have e:(((L.drop m).take (cA m L)).length:Int)=bP (L.take m):=by
  rw[List.length_take,List.length_drop,Nat.min_eq_left (by omega)];exact rC h
 rw[e,fG h hm,List.take_add]
theorem Ek(h:aK L):One (rdE (cO L) 0) L (rdL (cO L) 0 L) (fun t=>iH (rdV 0 (cO L) 0) 0=0/\∀ K,jL (rdV 0 (cO L) 0) 0 K=K ++ t):=by
 by_cases hm:1<=L.length
 ·by_cases hc:1+cA 1 L<=L.length
  ·by_cases f:0 < cA 1 L/\nth (L.drop 1) 0=0
   ·have e:cO L=.inl 41:=by unfold cO; rw[if_pos hm,if_pos hc,if_pos f]
    rw[e];exact .inl ⟨by decide,rfl⟩
   ·have e:cO L=.inr (bP ((L.drop 1).take (cA 1 L)),1 + cA 1 L):=by unfold cO; rw[if_pos hm,if_pos hc,if_neg f]
    have g:=Dz h hm hc
    have i:((cA 1 L:Nat):Int) < 256:=by
     have:=(bL (l:=L.take 1) (fun x hx=>h x (List.mem_of_mem_take hx))).2;rw[List.length_take,Nat.min_eq_left hm] at this;rw[rC h];simpa using this
    have a:aK ((L.drop 1).take (cA 1 L)):=fun x hx=>h x (List.mem_of_mem_drop (List.mem_of_mem_take hx))
    have hlen:((L.drop 1).take (cA 1 L)).length=cA 1 L:=by rw[List.length_take,List.length_drop];omega
    have j:gg (bP ((L.drop 1).take (cA 1 L)))=(L.drop 1).take (cA 1 L):=lD (bL a).1 ⟨a,fun d=>by
     have b:0 < cA 1 L:=by
      rcases Nat.eq_zero_or_pos (cA 1 L) with c | c
      ·exact absurd (by rw[c];simp) d
      ·exact c
     rw[df b]
     exact fun c=>f ⟨b,c⟩,rfl⟩
    rw[e];refine .inr ⟨rfl,_,hc,?_,rfl⟩
    show iH (bP ((L.drop 1).take (cA 1 L))) 0=0/\∀ K,jL (bP ((L.drop 1).take (cA 1 L))) 0 K=K ++ L.take (1+cA 1 L)
    unfold iH jL;rw[j,if_pos (by omega)];refine⟨rfl,fun K=>?_⟩;rw[if_pos (by omega),g];rfl
  ·have e:cO L=.inl 40:=by unfold cO; rw[if_pos hm,if_neg hc]
   rw[e];exact .inl ⟨by decide,rfl⟩
 ·have e:cO L=.inl 40:=by unfold cO; rw[if_neg hm]
  rw[e];exact .inl ⟨by decide,rfl⟩
end
end
section
namespace Rc
open Go.RowKit Go.Lib Pg Lim
section
variable {l:List Int}
theorem one1(h:aK l)(k:Nat)(he:rdE (p1 k l) 0=0):mu k (rdV 0 (p1 k l) 0) ++ rdL (p1 k l) 0 l=l/\∃ m,rdL (p1 k l) 0 l=l.drop m:=by
 match k with
 | 0 =>
  rcases Dx h 8 with⟨h1,_⟩ | ⟨_,m,h2,h3,h4⟩
  ·exact absurd he h1
  ·show be 8 (rdV 0 (cQ 8 l) 0) ++ rdL (cQ 8 l) 0 l=l/\∃ m,rdL (cQ 8 l) 0 l=l.drop m
   rw[h3,h4];exact⟨List.take_append_drop m l,m,rfl⟩
 | 1 =>
  have a:rdE (bS l) 0=0:=by rw[<- si];exact he
  rcases Co h with⟨h1,_⟩ | ⟨_,m,h2,h3,h4⟩
  ·exact absurd a h1
  ·show be 1 (rdV 0 (eR l) 0) ++ rdL (eR l) 0 l=l/\∃ m,rdL (eR l) 0 l=l.drop m
   rw[rj,ry,h3,h4];exact⟨List.take_append_drop m l,m,rfl⟩
 | k + 2 =>
  rcases Ek h with⟨h1,_⟩ | ⟨_,m,h2,⟨h3,h5⟩,h4⟩
  ·exact absurd he h1
  ·show kA 1 (gg (fit (rdV 0 (cO l) 0))) ++ rdL (cO l) 0 l=l/\∃ m,rdL (cO l) 0 l=l.drop m
   have hf:(gg (rdV 0 (cO l) 0)).length < 256:=by
    unfold iH at h3;split at h3
    ·assumption
    ·exact absurd h3 (by decide)
   have e:=h5 [];unfold jL wrote at e;rw[if_pos hf,if_pos rfl] at e;unfold fit;rw[if_pos hf];simp only[List.nil_append] at e;rw[e,h4];exact⟨List.take_append_drop m l,m,rfl⟩
theorem fO{σ:Type}(nx:Nat->Nat->σ->σ)(p:Nat × Nat)(ks:List (Nat × Nat))(s:σ):thr nx (p :: ks) s=thr nx ks (nx p.1 p.2 s):=rfl
theorem Et(ks:List (Nat × Nat)):∀ s:RSt,s.1≠0->(thr rnx ks s).1=s.1:=by
 induction ks with
 | nil=>intro s _;rfl
 | cons p ks ih =>
  intro s a
  have e:(rnx p.1 p.2 s).1=s.1:=lI a;rw[fO,ih _ (by rw[e];exact a),e]
theorem xc(ks:List (Nat × Nat))(o:Nat):∀ s:RSt,o ∉ ks.map Prod.snd->(thr rnx ks s).2.2 o=s.2.2 o:=by
 induction ks with
 | nil=>intro s _;rfl
 | cons p ks ih =>
  intro s a;rw[List.map_cons,List.mem_cons,not_or] at a;rw[fO,ih _ a.2]
  show (if o=p.2 then _ else _)=_
  rw[if_neg a.1]
theorem sj(h:aK l)(m:Nat):aK (l.drop m):=fun x hx=>h x (List.mem_of_mem_drop hx)
theorem EI(ks:List (Nat × Nat)):∀ (l:List Int) (xs:Nat->Int),aK l->(ks.map Prod.snd).Nodup->(thr rnx ks (0,l,xs)).1=0->∀ L,thr (pnx (thr rnx ks (0,l,xs)).2.2) ks L ++ (thr rnx ks (0,l,xs)).2.1=L ++ l:=by
 induction ks with
 | nil=>intro l xs _ _ _ L;rfl
 | cons p ks ih =>
  intro l xs d a he L;rw[List.map_cons,List.nodup_cons] at a;rw[fO] at he
  have e1:rdE (p1 p.1 l) 0=0:=by
   by_cases c:rdE (p1 p.1 l) 0=0
   ·exact c
   ·exact absurd ((Et ks (rnx p.1 p.2 (0,l,xs)) c).symm.trans he) c
  obtain⟨g,m,f⟩:=one1 d p.1 e1
  have es:rnx p.1 p.2 (0,l,xs)=(0,rdL (p1 p.1 l) 0 l,fun i=>if i=p.2 then rdV 0 (p1 p.1 l) 0 else xs i):=by
   show (rdE (p1 p.1 l) 0,_,_)=_
   rw[e1]
  have e:thr rnx (p :: ks) (0,l,xs)=thr rnx ks (0,rdL (p1 p.1 l) 0 l,fun i=>if i=p.2 then rdV 0 (p1 p.1 l) 0 else xs i):=by rw[fO,es]
  rw[es] at he;rw[e]
  have b:=ih _ _ (by rw[f];exact sj d m) a.2 he;rw[fO,b]
  have ev:(thr rnx ks (0,rdL (p1 p.1 l) 0 l,fun i=>if i=p.2 then rdV 0 (p1 p.1 l) 0 else xs i)).2.2 p.2=rdV 0 (p1 p.1 l) 0:=by
   rw[xc ks p.2 _ a.1]
   show (if p.2=p.2 then _ else _)=_
   rw[if_pos rfl]
  show (L ++ mu p.1 _) ++ _=L ++ l
  rw[ev,List.append_assoc,g]
def rng:Nat->Int->Prop
 | 0,x=>0<=x/\x < 18446744073709551616
 | 1,x=>x=0\/x=1
 | _,x=>0<=x
end
end Rc
end
section
namespace Rc
open Go.RowKit Go.Lib Pg
attribute [local go_sem] Oper.semAt_some
theorem AR (k:Nat) (x:Int):aK (mu k x):=by
 unfold mu;split
 ·exact fL _ _
 ·exact fL _ _
 ·intro y hy;rcases List.mem_append.1 hy with h | h
  ·exact fL _ _ y h
  ·exact zP _ y h
theorem gM (xs:Nat->Int) (ks:List (Nat × Nat)):∀ L,aK L->aK (thr (pnx xs) ks L):=by
 induction ks with
 | nil=>exact fun _ h=>h
 | cons p ks ih =>
  intro L h;rw[fO];refine ih _ ?_
  intro y hy;rcases List.mem_append.1 hy with a | a
  ·exact h y a
  ·exact AR _ _ y a
theorem DB {w:World} {b n:Nat} {M:List Int} (h:Box w b (M.map (Value.int .u8)) 5) (hn:n=M.length) (ho:aK M) (a:M.length<=1000000):ByA w b (some ⟨b,0,none⟩) n n M :=
 ⟨0,hn.symm,Nat.le_refl _,⟨by omega,fun e=>by cases e⟩,ho,h.atB⟩
end Rc
end
section
open Go.RowKit Lim
def stB (s:Stp):Option (List Int) :=
 if s.what=0 then some (be 1 (s.num % 256))
 else if s.what=1 then some (be 4 (s.num % 4294967296))
 else if s.what=2 then some (be 8 s.num)
 else if s.what=3 then some (be 1 (if s.num % 2 == 1 then 1 else 0))
 else if s.what=4\/s.what=5 then (if (gg s.V).length < 256 then some (kA 1 (gg s.V)) else none)
 else if s.what=6 then some (kA 4 s.bl)
 else some []
def stO (s:Stp) (o:Option (List Int)):Option (List Int):=o.bind fun L=>(stB s).map (L ++ ·)
def laid (ss:List Stp):Option (List Int):=ss.foldl (fun o s=>stO s o) (some [])
end
end Go.Proofs.YtpoifdokmjhclaaGreat
