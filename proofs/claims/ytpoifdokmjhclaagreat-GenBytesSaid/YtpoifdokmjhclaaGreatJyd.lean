import Derived.Test.YtpoifdokmjhclaaGreatJyc
import Derived.Deep.WholeRow
import Derived.Deep.LoopGhost
import Derived.Test.YtpoifdokmjhclaaGreatJyb
set_option maxRecDepth 100000
set_option maxHeartbeats 8000000
namespace Go.Proofs.YtpoifdokmjhclaaGreat
section
namespace Gl
open Go.RowKit Go.Lib Pg
section
variable {n:Nat}{a:Act}{v:Value}{o:Oper}{x:Operand}{d:Option Nat}{ops:Array Oper}
abbrev Fr:=List (Nat × Value)
def lk:Fr->Nat->Option Value
 | [],_=>none
 | p :: r,k=>bif Nat.beq p.1 k then some p.2 else lk r k
def evL(l:Fr):Operand->Value
 | .tmp k=>(lk l k).getD undef
 | .const v=>v
 | .global g=>.pointer (some ⟨g,0,none⟩)
 | .func f=>.func (.func f) #[] #[]
def kn(l:Fr):Operand->Bool
 | .tmp k=>(lk l k).isSome
 | _=>true
structure Rd(n:Nat)(ds:List Deferred)(l:Fr)(a:Act):Prop where
 size:a.tmps.size=n
 dfs:a.defers=ds
 get:∀ k v,lk l k=some v->a.tmps[k]?=some v
theorem Rd.ev{ds:List Deferred}{l:Fr}(h:Rd n ds l a)(x:Operand)(hk:kn l x=true):a.eval x=evL l x:=by
 cases x with
 | tmp k =>
  cases hl:lk l k with
  | none=>simp[kn,hl] at hk
  | some v=>simp[Act.eval,evL,hl,h.get k v hl]
 | const v=>rfl
 | global g=>rfl
 | func f=>rfl
def pt(l:Fr):Option Nat->Value->Fr
 | some d,v=>(d,v) :: l
 | none,_=>l
theorem Rd.put{ds:List Deferred}{l:Fr}(h:Rd n ds l a)(d:Option Nat)(v:Value)(b:∀ k,d=some k->k < n):Rd n ds (pt l d v) (a.put d v):=by
 cases d with
 | none=>exact h
 | some d =>
  have b:=b d rfl;refine⟨by simpa[Act.put] using h.size,h.dfs,λk u hu=>?_⟩;simp only[pt,lk] at hu;by_cases e:d=k
  ·subst e;simp at hu;subst hu;simp[Act.put,h.size,b]
  have c:Nat.beq d k=false:=by
   cases hb:Nat.beq d k with
   | false=>rfl
   | true=>exact absurd (Nat.eq_of_beq_eq_true hb) e
  rw[c] at hu;simp only[Act.put,Array.getElem?_setIfInBounds,if_neg e];exact h.get k u hu
def sub(l' l:Fr):Prop:=∀ k v,lk l' k=some v->lk l k=some v
theorem lk_mem{l:Fr}{k:Nat}(h:lk l k=some v):(k,v)∈l:=by
 induction l with
 | nil=>cases h
 | cons p r ih =>
  simp only[lk] at h
  cases hb:Nat.beq p.1 k with
  | true =>
   rw[hb] at h;have:=Nat.eq_of_beq_eq_true hb;simp at h;subst h;subst this;exact List.mem_cons_self
  | false=>rw[hb] at h;exact List.mem_cons_of_mem _ (ih h)
theorem mR{l' l:Fr}(h:l'.map (λp=>lk l p.1)=l'.map (λp=>some p.2)):sub l' l:=λk v hk=>by
 have hm:=lk_mem hk;have:=List.map_inj_left.1 h (k,v) hm;exact this
theorem Rd.sub{ds:List Deferred}{l l':Fr}(h:Rd n ds l a)(hs:sub l' l):Rd n ds l' a:=⟨h.size,h.dfs,λk v hk=>h.get k v (hs k v hk)⟩
def tU:Op->List Operand
 | .call c=>(match c.callee with | .value f=>[f] | .invoke r _=>[r] | .builtin _=>[]) ++ c.args.toList
 | .build _ ps=>ps.toList.map (·.2)
 | .buildSlice _ _ ps=>ps.toList.map (·.2)
 | o=>o.operands.toList
theorem yw{o:Op}(h:x ∈ o.operands):x ∈ tU o:=by
  cases o <;> first
    | (simpa[tU] using h)
    | (simp only[Op.operands] at h;simpa[tU] using h)
    | (rename_i c
       simp only[Op.operands,Call.operands] at h;unfold tU
       cases hc:c.callee <;> simp[hc] at h ⊢ <;> exact h)
def notSel:Op->Bool
 | .select _ _=>false
 | _=>true
def inB(n:Nat):Option Nat->Bool
 | none=>true
 | some d=>Nat.blt d n
def gd(ops:Array Oper)(l:Fr)(o:Oper):Option Bool :=
  match o.guard with
  | none=>some true
  | some (j, b) => match (ops[j]?).bind (·.dst) with
    | none=>some false
    | some s => match lk l s with
      | none=>none
      | some (.bool c)=>some (c == b)
      | some _=>some false
def chk(n:Nat)(l:Fr)(o:Oper)(d:Option Nat):Bool:=(tU o.op).all (kn l) && decide (o.dst=d) && inB n d && notSel o.op
theorem gv{l:Fr}(h:chk n l o d=true):o.dst=d/\∀ k,d=some k->k < n:=by
 simp only[chk,Bool.and_eq_true,decide_eq_true_eq] at h;refine⟨h.1.1.2,λk e=>?_⟩;subst e;have:=h.1.2;simp only[inB,Nat.blt] at this;exact Nat.le_of_ble_eq_true this
theorem fF{ds:List Deferred}{l:Fr}(h:chk n l o d=true)(r:Rd n ds l a):execOp a.eval o=execOp (evL l) o:=by
 simp only[chk,Bool.and_eq_true,List.all_eq_true] at h;exact execOp_congr o (λcs b e=>by have:=h.2;rw[e] at this;cases this) λx hx=>r.ev x (h.1.1.1 x (yw hx))
theorem dX{ds:List Deferred}{l:Fr}{t:Bool}(r:Rd n ds l a)(h:gd ops l o=some t):Region.wanted o (yielded ops a.tmps)=t:=by
 unfold gd at h;unfold Region.wanted
 cases hg:o.guard with
 | none=>rw[hg] at h;simpa using h
 | some p =>
  obtain⟨j,b⟩:=p;rw[hg] at h;simp only at h ⊢;unfold yielded
  cases hs:(ops[j]?).bind (·.dst) with
  | none=>rw[hs] at h;simp at h;subst h;simp
  | some s =>
   rw[hs] at h;simp only at h
   cases hv:lk l s with
   | none=>rw[hv] at h;cases h
   | some v =>
    rw[hv] at h;have hx:=r.get s v hv;simp only[Option.bind_some,hx]
    cases v<;>simp_all
end
section
variable {P:Program} {n:Nat} {ds:List Deferred} {ops:Array Oper} {rest:List Oper} {o o1 o2:Oper} {l:Fr} {w w1:World} {Q Q':Exit->Act->World->Prop} {K:Act->World->Prop}
section
variable {c q:List Oper}{Qc R:Ending->World->Prop}{x y:Code}{id g:Nat}{f:FuncId}{fn:Func}{vs:List Value}{v u:Value}
structure GL(P:Program)(n:Nat)(ds:List Deferred)(ops:Array Oper)(Q:Exit->Act->World->Prop)(rest:List Oper)(l:Fr)(w:World):Prop where
 out:∀ a,Rd n ds l a->wpList P ops Q rest a w
structure GC(P:Program)(n:Nat)(ds:List Deferred)(c:Code)(Q:Exit->Act->World->Prop)(l:Fr)(w:World):Prop where
 out:∀ a,Rd n ds l a->c.wp P Q a w
structure GE(n:Nat)(ds:List Deferred)(Q:Exit->Act->World->Prop)(e:Exit)(l:Fr)(w:World):Prop where
 out:∀ a,Rd n ds l a->Q e a w
theorem aA{c:Code}(l':Fr)(k:GC P n ds c Q l' w)(h:l'.map (λp=>lk l p.1)=l'.map (λp=>some p.2):=by kernel_rfl):GC P n ds c Q l w:=⟨λa r=>k.out a (r.sub (mR h))⟩
theorem fH(d:Option Nat)(v:Value)(b:gd ops l o=some true)(hc:chk n l o d=true)(hrun:(execOp (evL l) o).run P w=.ok (.value v) w1)(h:GL P n ds ops Q rest (pt l d v) w1):GL P n ds ops Q (o :: rest) l w:=⟨λa r =>
 BigFrame.wpList_want (dX r b) λK c=>by
  unfold Oper.wp;rw[fF hc r,hrun]
  show K (a.put o.dst v) w1
  rw[(gv hc).1]
  exact c _ _ (h.out _ (r.put d v (gv hc).2))⟩
theorem vP(b:gd ops l o=some true)(hc:chk n l o none=true)(hrun:(execOp (evL l) o).run P w=.ok .skip w1)(h:GL P n ds ops Q rest l w1):GL P n ds ops Q (o :: rest) l w:=⟨λa r =>
 BigFrame.wpList_want (dX r b) λK c=>by
  unfold Oper.wp;rw[fF hc r,hrun]
  show K (a.put o.dst undef) w1
  rw[(gv hc).1]
  exact c _ _ (h.out _ r)⟩
theorem gl_not(d:Option Nat)(c:gd ops l o=some false)(b:(decide (o.dst=d) && inB n d)=true)(h:GL P n ds ops Q rest (pt l d undef) w):GL P n ds ops Q (o :: rest) l w:=⟨λa r=>by
 simp only[Bool.and_eq_true,decide_eq_true_eq] at b;refine wpList_skip (dX r c) ?_
 rw[b.1];refine h.out _ (r.put d undef λk e=>?_);subst e;have:=b.2;simp only[inB,Nat.blt] at this
 exact Nat.le_of_ble_eq_true this⟩
theorem zP(d:Option Nat)(f:FuncId)(args:Array Value)(c:gd ops l o=some true)(hc:chk n l o d=true)(hrun:(execOp (evL l) o).run P w=.ok (.enter f args) w)(b:Calls P f args w Qc)(h:∀ e w',Qc e w'->∃ v,e=.returned v/\GL P n ds ops Q rest (pt l d v) w'):GL P n ds ops Q (o :: rest) l w:=⟨λa r =>
 BigFrame.wpList_want (dX r c) λK g=>by
  unfold Oper.wp;rw[fF hc r,hrun,Oper.upon_enter];refine b.mono ?_
  intro e w' hq;obtain⟨v,rfl,hv⟩:=h e w' hq
  show K (a.put o.dst v) w'
  rw[(gv hc).1]
  exact g _ _ (hv.out _ (r.put d v (gv hc).2))⟩
theorem aO(h:GE n ds Q .normal l w):GL P n ds ops Q [] l w:=⟨λa r=>wpList_nil (h.out a r)⟩
theorem t(d:Nat)(v:Value)(h:GL P n ds ops Q rest ((d,v) :: l) w)(a:gd ops l o=some true:=by kernel_rfl)(hc:chk n l o (some d)=true:=by kernel_rfl)(hrun:(execOp (evL l) o).run P w=.ok (.value v) w:=by kernel_rfl):GL P n ds ops Q (o :: rest) l w:=fH (some d) v a hc hrun h
theorem tr(d:Nat)(v:Value)(hrun:(execOp (evL l) o).run P w=.ok (.value v) w)(h:GL P n ds ops Q rest ((d,v) :: l) w)(a:gd ops l o=some true:=by kernel_rfl)(hc:chk n l o (some d)=true:=by kernel_rfl):GL P n ds ops Q (o :: rest) l w:=fH (some d) v a hc hrun h
theorem tq(d:Nat)(v a:Value)(hv:v=a)(h:GL P n ds ops Q rest ((d,a) :: l) w)(b:gd ops l o=some true:=by kernel_rfl)(hc:chk n l o (some d)=true:=by kernel_rfl)(hrun:(execOp (evL l) o).run P w=.ok (.value v) w:=by kernel_rfl):GL P n ds ops Q (o :: rest) l w:=by
 subst hv;exact fH (some d) v b hc hrun h
theorem tw(d:Nat)(v:Value)(w1:World)(hrun:(execOp (evL l) o).run P w=.ok (.value v) w1)(h:GL P n ds ops Q rest ((d,v) :: l) w1)(a:gd ops l o=some true:=by kernel_rfl)(hc:chk n l o (some d)=true:=by kernel_rfl):GL P n ds ops Q (o :: rest) l w:=fH (some d) v a hc hrun h
theorem tv(w1:World)(hrun:(execOp (evL l) o).run P w=.ok .skip w1)(h:GL P n ds ops Q rest l w1)(a:gd ops l o=some true:=by kernel_rfl)(hc:chk n l o none=true:=by kernel_rfl):GL P n ds ops Q (o :: rest) l w:=vP a hc hrun h
theorem tn(d:Nat)(h:GL P n ds ops Q rest ((d,undef) :: l) w)(b:gd ops l o=some false:=by kernel_rfl)(a:(decide (o.dst=some d) && inB n (some d))=true:=by kernel_rfl):GL P n ds ops Q (o :: rest) l w:=gl_not (some d) b a h
theorem tc(d:Nat)(f:FuncId)(args:Array Value)(a:Calls P f args w Qc)(h:∀ e w',Qc e w'->∃ v,e=.returned v/\GL P n ds ops Q rest ((d,v) :: l) w')(b:gd ops l o=some true:=by kernel_rfl)(hc:chk n l o (some d)=true:=by kernel_rfl)(hrun:(execOp (evL l) o).run P w=.ok (.enter f args) w:=by kernel_rfl):GL P n ds ops Q (o :: rest) l w:=zP (some d) f args b hc hrun a h
theorem ag(h:GC P n ds x (Exit.then (y.wp P Q) Q) l w):GC P n ds (x.seq y) Q l w:=⟨λa r=>wp_seq (h.out a r)⟩
theorem aN(h:GL P n ds c.toArray Q c l w):GC P n ds (Code.region id c.toArray false) Q l w:=⟨λa r=>wp_region_lit (h.out a r)⟩
theorem aL{c:Operand}(h:GC P n ds x Q l w)(hk:kn l c=true:=by kernel_rfl)(hc:evL l c=.bool true:=by kernel_rfl):GC P n ds (Code.cond c x y) Q l w:=⟨λa r=>wp_cond_true ((r.ev c hk).trans hc) (h.out a r)⟩
theorem aX{c:Operand}(h:GC P n ds y Q l w)(hk:kn l c=true:=by kernel_rfl)(hc:evL l c=.bool false:=by kernel_rfl):GC P n ds (Code.cond c x y) Q l w:=⟨λa r=>wp_cond_false ((r.ev c hk).trans hc) (h.out a r)⟩
theorem aT(h:GE n ds Q .normal l w):GC P n ds Code.skip Q l w:=⟨λa r=>wp_skip (h.out a r)⟩
theorem bB(h:GE n ds Q .ret l w):GC P n ds Code.ret Q l w:=⟨λa r=>wp_ret (h.out a r)⟩
theorem bQ(h:GE n ds Q (.exit id) l w):GC P n ds (Code.exit id) Q l w:=⟨λa r=>wp_exit (h.out a r)⟩
theorem aB{c:Code}(h:GC P n ds c (Exit.inBlock id Q) l w):GC P n ds (Code.block id c) Q l w:=⟨λa r=>wp_block (h.out a r)⟩
theorem aj(h:GC P n ds y Q l w):GE n ds (Exit.then (y.wp P Q) Q') .normal l w:=⟨λa r=>h.out a r⟩
theorem bE(h:GE n ds Q' .ret l w):GE n ds (Exit.then K Q') .ret l w:=⟨λa r=>h.out a r⟩
theorem bC(h:GE n ds Q' (.exit id) l w):GE n ds (Exit.then K Q') (.exit id) l w:=⟨λa r=>h.out a r⟩
theorem cX(h:GE n ds Q .normal l w):GE n ds (Exit.inBlock id Q) .normal l w:=⟨λa r=>h.out a r⟩
theorem kx(h:GE n ds Q .ret l w):GE n ds (Exit.inBlock id Q) .ret l w:=⟨λa r=>h.out a r⟩
theorem dg(h:GE n ds Q .normal l w):GE n ds (Exit.inBlock id Q) (.exit id) l w:=⟨λa r=>by
 show if id=id then Q .normal a w else Q (.exit id) a w
 rw[if_pos rfl];exact h.out a r⟩
theorem bI{σ : Type}{c:Code}(μ : σ → Nat)(b : σ → Fr)(F : σ → World → Prop)(s : σ)(hF : F s w)(g : (b s).map (λp => lk l p.1) = (b s).map (λp => some p.2))(round : ∀ s w, F s w → GC P n ds c (Exit.then (λa' w' => ∃ s', μ s' < μ s ∧ Rd n ds (b s') a' ∧ F s' w') Q) (b s) w) : GC P n ds (Code.loop c) Q l w := ⟨λa r => by
  refine wp_loop_ghost (λm a w=>∃ s,μ s=m∧Rd n ds (b s) a∧F s w) (μ s) ⟨s,rfl,r.sub (mR g),hF⟩ ?_
  rintro m a w ⟨s,rfl,i,hF⟩;refine wp_mono ((round s w hF).out a i) ?_
  intro e a' w' h
  cases e with
  | normal =>
    obtain⟨s',f,d,j⟩:= h;exact⟨μ s',f,s',rfl,d,j⟩
  | _=>exact h⟩
theorem bH{σ:Type}{μ:σ->Nat}{a:σ->Fr}{F:σ->World->Prop}{m:Nat}(s':σ)(hF:F s' w)(b:(a s').map (λp=>lk l p.1)=(a s').map (λp=>some p.2))(hm:μ s' < m:=by decide):GE n ds (Exit.then (λa' w'=>∃ s',μ s' < m/\Rd n ds (a s') a'/\F s' w') Q) .normal l w:=⟨λ_ r=>⟨s',hm,r.sub (mR b),hF⟩⟩
theorem wV{σ:Type}(b:σ->Fr)(F:σ->World->Prop)(h1:GC P n ds x (Exit.then (λa' w'=>∃ s,Rd n ds (b s) a'/\F s w') Q) l w)(c:∀ s w',F s w'->GC P n ds y Q (b s) w'):GC P n ds (x.seq y) Q l w:=⟨λa r=>wp_seq (wp_mono (h1.out a r) λe a' w' h=>by
 cases e with
 | normal=>obtain⟨s,d,hF⟩:=h;exact(c s w' hF).out a' d
 | _=>exact h)⟩
theorem nx(h:GL P n ds c.toArray (Exit.then (y.wp P Q) Q) c l w):GL P n ds ops (Exit.then (((Code.region id c.toArray false).seq y).wp P Q) Q') [] l w:=aO (aj (ag (aN h)))
theorem nt(h:GC P n ds y Q l w):GL P n ds ops (Exit.then (y.wp P Q) Q') [] l w:=aO (aj h)
theorem nr(h:GE n ds Q .ret l w):GL P n ds ops (Exit.then (Code.ret.wp P Q) Q') [] l w:=aO (aj (bB h))
theorem sr(h:GL P n ds c.toArray (Exit.then (y.wp P Q) Q) c l w):GC P n ds ((Code.region id c.toArray false).seq y) Q l w:=ag (aN h)
theorem nk{c:Operand}(h:GC P n ds y Q l w)(hk:kn l c=true:=by kernel_rfl)(hc:evL l c=.bool false:=by kernel_rfl):GC P n ds (Code.cond c x Code.skip) (Exit.then (y.wp P Q) Q') l w:=aX (aT (aj h)) hk hc
def si(P:Program)(n:Nat)(ops:Array Oper):Nat→List Oper→Fr→World→Option (Fr × World)
  | 0,_,l,w=>some (l,w)
  | _+1,[],_,_=>none
  | k + 1, o :: r, l, w => match o.dst, (execOp (evL l) o).run P w with
    | some d, .ok (.value v) w1 => match gd ops l o == some true && chk n l o (some d) with
      | true=>si P n ops k r ((d,v) :: l) w1
      | false=>none
    | _,_=>none
theorem wW:∀ (k:Nat) (q:List Oper) (l:Fr) (w:World) (l2:Fr) (w2:World),si P n ops k q l w=some (l2,w2)->GL P n ds ops Q (q.drop k) l2 w2->GL P n ds ops Q q l w
 | 0,_,_,_,_,_,e,h=>by
  simp only[si,Option.some.injEq,Prod.mk.injEq] at e;rw[e.1,e.2];exact h
 | _+1,[],_,_,_,_,e,_=>by simp[si] at e
 | k + 1,o :: r,l,w,l2,w2,e,h=>by
  unfold si at e;split at e
  ·rename_i d v w1 hd hr;split at e
   ·rename_i hc;simp only[Bool.and_eq_true,beq_iff_eq] at hc;exact fH (some d) v hc.1 hc.2 hr (wW k r _ _ _ _ e h)
   cases e
  cases e
theorem tz(k:Nat)(h:GL P n ds ops Q (q.drop k) (((si P n ops k q l w).map Prod.fst).getD []) w)(a:(si P n ops k q l w).map Prod.snd=some w:=by kernel_rfl):GL P n ds ops Q q l w:=by
 cases e:si P n ops k q l w with
 | none=>rw[e] at a;cases a
 | some p =>
  rw[e] at a h;simp only[Option.map_some,Option.some.injEq,Option.getD_some] at a h;exact wW k q l w p.1 p.2 e (by rw[a];exact h)
theorem iC{σ:Type}{a:σ->Fr}{F:σ->World->Prop}(s:σ)(hF:F s w)(b:(a s).map (λp=>lk l p.1)=(a s).map (λp=>some p.2)):GE n ds (Exit.then (λa' w'=>∃ s,Rd n ds (a s) a'/\F s w') Q) .normal l w:=⟨λ_ r=>⟨s,r.sub (mR b),hF⟩⟩
def en:Nat->List Value->Fr
 | _,[]=>[]
 | i,v :: r=>(i,v) :: en (i+1) r
theorem Bo:∀ (vs:List Value) (i k:Nat) (v:Value),lk (en i vs) k=some v->i<=k/\vs[k - i]?=some v
 | [],_,_,_,h=>by cases h
 | u :: r,i,k,v,h=>by
  simp only[en,lk] at h
  cases hb:Nat.beq i k with
  | true =>
   rw[hb] at h;have:=Nat.eq_of_beq_eq_true hb;subst this;simp at h;subst h;exact⟨Nat.le_refl _,by simp⟩
  | false =>
   rw[hb] at h;obtain⟨b,a⟩:=Bo r (i+1) k v h;refine⟨by omega,?_⟩;have:k - i=(k - (i+1))+1:=by omega
   rw[this,List.getElem?_cons_succ];exact a
theorem af{c:Code}(hf:P.funcs[f]?=some fn)(hb:fn.body=some c)(h:GC P n [] c (bodyPost P fn R) (en 0 vs) w)(hn:fn.ntmps=n:=by kernel_rfl)(hs:Nat.ble vs.length n=true:=by kernel_rfl):Calls P f vs.toArray w R:=by
 have hs:=Nat.le_of_ble_eq_true hs;refine calls_of_wp hf hb (h.out _ ⟨?_,rfl,λk v hk=>?_⟩)
 ·simp;omega
 obtain⟨_,b⟩:=Bo vs 0 k v hk;rw[Nat.sub_zero] at b;have a:=(List.getElem?_eq_some_iff.1 b).1;rw[Array.getElem?_append_left (by simpa using a)];simpa using b
theorem ah(v:Value)(hr:∀ a,Rd n [] l a->(results fn a.tmps).run P w=.ok v w)(hR:R (.returned v) w):GE n [] (bodyPost P fn R) .ret l w:=⟨λa r=>bodyPost_ret (hr a r) r.dfs hR⟩
theorem bh(v:Value)(hr:∀ a,Rd n [] l a->(results fn a.tmps).run P w=.ok v w)(hR:R (.returned v) w):GE n [] (bodyPost P fn R) .normal l w:=⟨λa r=>⟨r.dfs,v,hr a r,hR⟩⟩
theorem Rd.gD{a:Act}(r:Rd n ds l a){k:Nat}(h:lk l k=some v):a.tmps.getD k undef=v:=by
 rw[Array.getD_eq_getD_getElem?,r.get k v h];rfl
theorem rs1(k:Nat)(h:fn.results=#[.tmp k]:=by kernel_rfl)(hv:lk l k=some v:=by kernel_rfl)(a:Act)(r:Rd n [] l a):(results fn a.tmps).run P w=.ok v w:=by
 have:=r.gD hv;simp at this;simp[results,h,this]
theorem rs0(h:fn.results=#[]:=by kernel_rfl)(a:Act)(_:Rd n [] l a):(results fn a.tmps).run P w=.ok (.tuple #[]) w:=by
 simp[results,h]
theorem rs2(j k:Nat)(h:fn.results=#[.tmp j,.tmp k]:=by kernel_rfl)(hu:lk l j=some u:=by kernel_rfl)(hv:lk l k=some v:=by kernel_rfl)(a:Act)(r:Rd n [] l a):(results fn a.tmps).run P w=.ok (.tuple #[u,v]) w:=by
 have c:=r.gD hu;have b:=r.gD hv;simp at c b;simp[results,h,c,b]
theorem rsc(j:Nat){T:TypeId}(c:(loadVar T ⟨g,0,none⟩).run P w=.ok u w)(h:fn.results=#[.cell j T]:=by kernel_rfl)(hu:lk l j=some (.pointer (some ⟨g,0,none⟩)):=by kernel_rfl)(a:Act)(r:Rd n [] l a):(results fn a.tmps).run P w=.ok u w:=by
 have b:=r.gD hu;simp at b;simp[results,h,b,asAddr,c]
theorem dk(j k:Nat){T:TypeId}(d:(loadVar T ⟨g,0,none⟩).run P w=.ok u w)(h:fn.results=#[.cell j T,.tmp k]:=by kernel_rfl)(hu:lk l j=some (.pointer (some ⟨g,0,none⟩)):=by kernel_rfl)(hv:lk l k=some v:=by kernel_rfl)(a:Act)(r:Rd n [] l a):(results fn a.tmps).run P w=.ok (.tuple #[u,v]) w:=by
 have c:=r.gD hu;have b:=r.gD hv;simp at c b;simp[results,h,c,b,asAddr,d]
end
end
section
variable {P:Program} {ops:Array Oper} {Q:Exit->Act->World->Prop} {md:Region.Mode} {S:World->Prop} {Z:Nat->Bool}
section
variable {i:Nat}{v:Value}{S0:World->Prop}
def ic(P:Program)(md:Region.Mode)(ops:Array Oper)(Q:Exit->Act->World->Prop)(S:World->Prop)(Z:Nat->Bool):Nat->Array Bool->Act->World->Prop
 | 0,listed,a,w=>Region.ready md ops listed=[]/\Q .normal a w
 | fuel + 1,listed,a,w =>
  (Region.ready md ops listed=[]->Q .normal a w) /\
  ∀ i∈Region.ready md ops listed,wpOp P ops Q i (λa' w'=>(Z i=true\/S w'\/w'=w)/\ic P md ops Q S Z fuel (listed.setIfInBounds i true) a' w') a w
theorem sZ(fuel:Nat):∀ (listed:Array Bool) (a:Act) (w:World),ic P md ops Q S Z fuel listed a w->wpAnyH P md ops Q (λ_=>True) fuel listed a w:=by
 induction fuel with
 | zero=>exact λ_ _ _ h=>h
 | succ fuel ih=>exact λ_ _ _ h=>⟨h.1,λi hi=>wpOp_mono (λd b c=>⟨trivial,ih _ d b c.2⟩) (h.2 i hi)⟩
def fK(ops:Array Oper)(Z:Nat->Bool)(i:Nat):Bool:=(List.range ops.size).all λz=>!Z z || (decide (z≠i) && (ops.getD z default).after.any λe=>Region.binds .any e && decide (e.on=i))
theorem yX(n:fK ops Z i=true)(j:Nat)(l:Oper)(a:ops[j]?=some l)(b:∀ e∈l.after,Region.binds .any e=true->e.on≠i)(w w':World)(h:Z j=true\/S w'\/w'=w)(hS:S w):S w':=by
 have g:¬ Z j=true:=λe=>by
  have c:j < ops.size:=(Array.getElem?_eq_some_iff.1 a).1;have d:=List.all_eq_true.1 n j (List.mem_range.2 c);rw[e] at d;simp only[Bool.not_true,Bool.false_or,Bool.and_eq_true,decide_eq_true_eq] at d
  have o:ops.getD j default=l:=by
   rw[Array.getD_eq_getD_getElem?,a];rfl
  have m:=d.2;rw[o,Array.any_eq_true] at m;obtain⟨k,hk,f⟩:=m;rw[Bool.and_eq_true,decide_eq_true_eq] at f;exact b _ (Array.getElem_mem hk) f.1 f.2
 rcases h.resolve_left g with h | h
 ·exact h
 rw[h];exact hS
theorem kN{q:Oper}(hk:∀ (j:Nat) (oj:Oper),ops[j]?=some oj->(∀ e∈oj.after,Region.binds .any e=true->e.on≠i)->∀ w w':World,(Z j=true\/S w'\/w'=w)->S0 w->S0 w')(hi:ops[i]?=some q)(p:∀ (j:Nat) (o:Oper) cs b,ops[j]?=some o->o.op≠.select cs b)(hQ:∀ c a w,Q (.panic c) (a.put q.dst v) w->Q (.panic c) a w) :
  ∀ (fuel:Nat) (listed:Array Bool) (a:Act) (w:World),
   (∀ j oj,ops[j]?=some oj->j≠i->listed.getD j true=false->(∀ e∈oj.after,Region.binds .any e=true->e.on≠i)->q.apart ops oj=true) ->
   i∈Region.ready .any ops listed->YieldsIf P ops S0 q v a->S0 w ->
   ic P .any ops Q S Z fuel (listed.setIfInBounds i true) (a.put q.dst v) w->ic P .any ops Q S Z (fuel+1) listed a w:=by
 intro fuel
 induction fuel with
 | zero =>
  intro listed a w _ s hy hS H;refine⟨λh=>(by rw[h] at s;cases s),λj z=>?_⟩;by_cases d:j=i
  ·subst d;exact hy.wpOp hi hS ⟨.inr (.inr rfl),H⟩
  have:=ready_mono z d;rw[H.1] at this
  cases this
 | succ fuel ih =>
  intro listed a w f s hy hS H;refine⟨λh=>(by rw[h] at s;cases s),λj z=>?_⟩;by_cases d:j=i
  ·subst d;exact hy.wpOp hi hS ⟨.inr (.inr rfl),H⟩
  have r:=H.2 j (ready_mono z d);obtain⟨m,oj,l,x⟩:=mem_ready.1 z
  have n:∀ e∈oj.after,Region.binds .any e=true->e.on≠i:=λe he hb heq=>by
   have r:=x e he hb;have D:=(mem_ready.1 s).1;rw[heq] at r;rcases Nat.lt_or_ge i listed.size with A | A
   ·simp[A] at D r;rw[D] at r;cases r
   simp[Array.getElem?_eq_none A] at r
  have E:=wpOp_putIf l (f j oj l d m n) (λcs b=>p i q cs b hi) (λcs b=>p j oj cs b l) hQ hy r
  have g:∀ k ok,ops[k]?=some ok->k≠i->(listed.setIfInBounds j true).getD k true=false ->
    (∀ e∈ok.after,Region.binds .any e=true->e.on≠i)->q.apart ops ok=true:=λk ok hk C u B=>by
   refine f k ok hk C ?_ B;by_cases t:j=k
   ·subst t;exact m
   rw[getD_set_ne true t] at u;exact u
  refine wpOp_mono (λF w' y=>?_) E;refine⟨y.2.1,ih (listed.setIfInBounds j true) F w' g (ready_mono s (Ne.symm d)) y.1 (hk j oj l n w w' y.2.1 hS) ?_⟩;rw[Array.setIfInBounds_comm _ _ d];exact y.2.2
end
end
section
variable {ops:Array Oper}{i a b:Nat}{L:List Nat}{Z:Nat->Bool}
theorem cC(h:i < ops.size):ops[i]?=some (ops.getD i default):=by
 simp[Array.getD,h]
def oH:List Nat->Nat->Bool
 | [],_=>false
 | p :: r,k=>bif Nat.beq p k then true else oH r k
def arr(n:Nat)(L:List Nat):Array Bool:=((List.range n).map (oH L)).toArray
theorem BQ(h:a≠b):Nat.beq a b=false:=by
 cases hb:Nat.beq a b with
 | false=>rfl
 | true=>exact absurd (Nat.eq_of_beq_eq_true hb) h
theorem qI(n:Nat)(L:List Nat)(j:Nat)(d:Bool):(arr n L).getD j d=if j < n then oH L j else d:=by
 by_cases h:j < n
 ·simp[arr,h]
 simp[arr,h]
theorem Es(n:Nat):arr n []=Array.replicate n false:=by
 apply Array.ext
 ·simp[arr]
 intro i h1 h2;simp[arr,oH]
theorem fD{n:Nat}(L:List Nat)(_h:i < n):(arr n L).setIfInBounds i true=arr n (i :: L):=by
 apply Array.ext
 ·simp[arr]
 intro j b c
 have a:j < (arr n L).size:=by simpa using b
 rw[Array.getElem_setIfInBounds a];by_cases e:i=j
 ·subst e;simp[arr,oH]
 simp[arr,oH,e,BQ e]
def yV(ops:Array Oper)(L:List Nat)(i:Nat):Bool:=match ops[i]? with
 | none=>false
 | some o=>!oH L i && o.after.toList.all λe=>!Region.binds .any e || (Nat.blt e.on ops.size && oH L e.on)
theorem kH:yV ops L i=true<->i∈Region.ready .any ops (arr ops.size L):=by
 rw[mem_ready];unfold yV
 cases ho:ops[i]? with
 | none=>simp
 | some o =>
  have b:i < ops.size:=(Array.getElem?_eq_some_iff.1 ho).1;simp only[Bool.and_eq_true,Bool.not_eq_true',List.all_eq_true,Bool.or_eq_true,Option.some.injEq,exists_eq_left',qI,if_pos b];constructor
  ·rintro⟨f,c⟩;refine⟨f,λe he hb => ?_⟩;rcases c e (by simpa using he) with h | h
   ·rw[hb] at h;cases h
   have:=Nat.le_of_ble_eq_true h.1;rw[if_pos (by omega)];exact h.2
  rintro⟨f,c⟩;refine⟨f,λe he=>?_⟩
  cases hb:Region.binds .any e with
  | false=>exact .inl rfl
  | true =>
   right;have a:=c e (by simpa using he) hb;by_cases d:e.on < ops.size
   ·rw[if_pos d] at a;exact⟨by simp only[Nat.blt];exact Nat.ble_eq_true_of_le d,a⟩
   rw[if_neg d] at a;cases a
def eu(ops:Array Oper)(L:List Nat):List Nat:=(List.range ops.size).filter (yV ops L)
theorem fC(ops:Array Oper)(L:List Nat):Region.ready .any ops (arr ops.size L)=eu ops L:=by
 have hm:∀ j,j∈Region.ready .any ops (arr ops.size L)<->yV ops L j=true:=λj=>kH.symm
 unfold Region.ready at hm ⊢;unfold eu;refine List.filter_congr λj a=>?_
 have:=hm j;rw[List.mem_filter] at this;simp only[a,true_and] at this;exact Bool.eq_iff_iff.2 this
def Fa(o:Oper)(i:Nat):Bool:=o.after.toList.any λe=>Region.binds .any e && Nat.beq e.on i
def G8(ops : Array Oper)(i : Nat) : Bool := match ops[i]? with
  | none=>false
  | some oi => (List.range ops.size).all λj => Nat.beq j i || match ops[j]? with
      | some oj=>Fa oj i || Fa oi j || oi.apart ops oj
      | none=>true
def okR(ops:Array Oper)(_Z:Nat->Bool):Bool:=Region.noSelect ops && (List.range ops.size).all (G8 ops)
theorem rM(h:okR ops Z=true){o:Oper}(hi:ops[i]?=some o)(hr:yV ops L i=true)(j:Nat)(n:Oper)(r:ops[j]?=some n)(l:j≠i)(c:(arr ops.size L).getD j true=false)(g:∀ e∈n.after,Region.binds .any e=true->e.on≠i):o.apart ops n=true:=by
 simp only[okR,Bool.and_eq_true,List.all_eq_true,List.mem_range] at h
 have k:i < ops.size:=(Array.getElem?_eq_some_iff.1 hi).1
 have b:j < ops.size:=(Array.getElem?_eq_some_iff.1 r).1;have p:=h.2 i k;simp only[G8,hi,List.all_eq_true,List.mem_range] at p;have a:=p j b;rw[BQ l,r] at a;simp only[Bool.false_or,Bool.or_eq_true] at a;rcases a with(a | a) | a
 ·simp only[Fa,List.any_eq_true,Bool.and_eq_true] at a;obtain⟨e,he,hb,m⟩:=a;exact absurd (Nat.eq_of_beq_eq_true m) (g e (by simpa using he) hb)
 ·simp only[Fa,List.any_eq_true,Bool.and_eq_true] at a;obtain⟨e,he,hb,m⟩:=a;have e1:=Nat.eq_of_beq_eq_true m;obtain⟨-,s,d,f⟩:=mem_ready.1 (kH.1 hr);rw[hi] at d
  cases d;have q:=f e (by simpa using he) hb;rw[e1,qI,if_pos b] at q;rw[qI,if_pos b] at c;rw[q] at c
  cases c
 exact a
theorem wo(h:okR ops Z=true):Region.noSelect ops=true:=by
 simp only[okR,Bool.and_eq_true] at h;exact h.1
def qS(n:Nat)(l:Fr)(ops:Array Oper)(L:List Nat)(i:Nat)(d:Option Nat):Bool:=yV ops L i && Nat.blt i ops.size && chk n l (ops.getD i default) d
theorem jB(h:Nat.blt a b=true):a < b:=Nat.le_of_ble_eq_true h
end
section
variable {P:Program} {n:Nat} {ds:List Deferred} {ops:Array Oper} {Q:Exit->Act->World->Prop} {S:World->Prop} {Z:Nat->Bool} {fuel:Nat} {L:List Nat} {l:Fr} {w:World}
section
variable {id g:Nat}{cs cv:List Value}{rs:List Nat}{Qc:Ending->World->Prop}
structure GZ(P:Program)(n:Nat)(ds:List Deferred)(ops:Array Oper)(Q:Exit->Act->World->Prop)(S:World->Prop)(Z:Nat->Bool)(fuel:Nat)(L:List Nat)(l:Fr)(w:World):Prop where
 out:okR ops Z=true->S w->∀ a,Rd n ds l a->ic P .any ops Q S Z fuel (arr ops.size L) a w
structure GY(P:Program)(n:Nat)(ds:List Deferred)(ops:Array Oper)(Q:Exit->Act->World->Prop)(S:World->Prop)(Z:Nat->Bool)(fuel:Nat)(L:List Nat)(l:Fr)(w:World):Prop where
 out:okR ops Z=true->∀ a,Rd n ds l a->ic P .any ops Q S Z fuel (arr ops.size L) a w
theorem iK(h:GY P n ds ops Q S Z fuel L l w):GZ P n ds ops Q S Z fuel L l w:=⟨λok _=>h.out ok⟩
theorem dx(S:World->Prop)(Z:Nat->Bool)(hS:S w.drew)(h:GZ P n ds ops Q S Z ops.size [] l w.drew)(hm:P.follows .mixedOrders=true:=by kernel_rfl)(ok:okR ops Z=true:=by kernel_rfl):GC P n ds (Code.region id ops true) Q l w:=⟨λa r =>
 wp_region_held_drew (S:=λ_=>True) hm trivial λ_=>sZ _ _ _ _ (by have:=h.out ok hS a r;rw[Es] at this;exact this)⟩
theorem gd1{t:TypeId}(X:Blk w.drew g cs t)(h:GZ P n ds ops Q (λw'=>Blk w' g cs t) (λ_=>false) ops.size [] l w.drew)(hm:P.follows .mixedOrders=true:=by kernel_rfl)(ok:okR ops (λ_=>false)=true:=by kernel_rfl):GC P n ds (Code.region id ops true) Q l w:=dx _ _ X h hm ok
theorem gd2{k:Nat}{t u:TypeId}(X:Blk w.drew g cs t)(Y:Blk w.drew k cv u)(h:GZ P n ds ops Q (λw'=>Blk w' g cs t/\Blk w' k cv u) (λ_=>false) ops.size [] l w.drew)(hm:P.follows .mixedOrders=true:=by kernel_rfl)(ok:okR ops (λ_=>false)=true:=by kernel_rfl):GC P n ds (Code.region id ops true) Q l w:=dx _ _ ⟨X,Y⟩ h hm ok
theorem kI(i:Nat)(d:Option Nat)(v:Value)(hy:∀ w',S w'->(execOp (evL l) (ops.getD i default)).run P w'=.ok (.value v) w')(o:fK ops Z i=true)(hc:qS n l ops L i d=true)(k:gd ops l (ops.getD i default)=some true)(hQ:∀ c a w,Q (.panic c) (a.put d v) w->Q (.panic c) a w)(h:GZ P n ds ops Q S Z fuel (i :: L) (pt l d v) w):GZ P n ds ops Q S Z (fuel + 1) L l w:=⟨λok hS a r=>by
 simp only[qS,Bool.and_eq_true] at hc;obtain⟨⟨g,b⟩,f⟩:=hc;have b:=jB b;obtain⟨j,m⟩:=gv f;refine kN (v:=v) (yX o) (cC b) (Region.noSelect_spec (wo ok)) (by rw[j];exact hQ) fuel _ a w (rM ok (cC b) g) (kH.1 g) (.inl ⟨dX r k,λw' e=>by rw[fF f r];exact hy w' e⟩) hS ?_
 rw[j,fD L b]
 exact h.out ok hS _ (r.put d v m)⟩
theorem zp(i d:Nat)(v:Value)(h:GZ P n ds ops Q S Z fuel (i :: L) ((d,v) :: l) w)(hc:qS n l ops L i (some d)=true:=by kernel_rfl)(j:gd ops l (ops.getD i default)=some true:=by kernel_rfl)(hQ:∀ c a w,Q (.panic c) (a.put (some d) v) w->Q (.panic c) a w:=by exact λ_ _ _ h=>h)(hrun:∀ w',(execOp (evL l) (ops.getD i default)).run P w'=.ok (.value v) w':=by intro _; kernel_rfl):GZ P n ds ops Q S Z (fuel + 1) L l w:=⟨λok hS a r=>by
 simp only[qS,Bool.and_eq_true] at hc;obtain⟨⟨f,b⟩,e⟩:=hc;have b:=jB b;obtain⟨g,k⟩:=gv e;refine kN (v:=v) (S0:=λ_=>True) (λ_ _ _ _ _ _ _ _=>trivial) (cC b) (Region.noSelect_spec (wo ok)) (by rw[g];exact hQ) fuel _ a w (rM ok (cC b) f) (kH.1 f) (.inl ⟨dX r j,λw' _=>by rw[fF e r];exact hrun w'⟩) trivial ?_
 rw[g,fD L b]
 exact h.out ok hS _ (r.put (some d) v k)⟩
theorem aS(h:GE n ds Q .normal l w)(hr:eu ops L=[]:=by kernel_rfl):GZ P n ds ops Q S Z fuel L l w:=⟨λ_ _ a r=>by
 have hr:=(fC ops L).trans hr
 cases fuel with
 | zero=>exact⟨hr,h.out a r⟩
 | succ _=>exact⟨λ_=>h.out a r,by rw[hr];simp⟩⟩
theorem iF(h:GE n ds Q .normal l w)(hr:eu ops L=[]:=by kernel_rfl):GY P n ds ops Q S Z fuel L l w:=⟨λ_ a r=>by
 have hr:=(fC ops L).trans hr
 cases fuel with
 | zero=>exact⟨hr,h.out a r⟩
 | succ _=>exact⟨λ_=>h.out a r,by rw[hr];simp⟩⟩
structure GA(P:Program)(n:Nat)(ds:List Deferred)(ops:Array Oper)(Q:Exit->Act->World->Prop)(S:World->Prop)(Z:Nat->Bool)(fuel:Nat)(L:List Nat)(l:Fr)(w:World)(rs:List Nat):Prop where
 out:okR ops Z=true->S w->∀ a,Rd n ds l a->∀ i∈rs,wpOp P ops Q i (λa' w'=>(Z i=true\/S w'\/w'=w)/\ic P .any ops Q S Z fuel ((arr ops.size L).setIfInBounds i true) a' w') a w
theorem fb(rs:List Nat)(h:GA P n ds ops Q S Z fuel L l w rs)(hr:eu ops L=rs:=by kernel_rfl)(b:rs≠[]:=by decide):GZ P n ds ops Q S Z (fuel + 1) L l w:=⟨λok hS a r =>
 ⟨λc=>absurd (((fC ops L).trans hr).symm.trans c) b,λi hi=>h.out ok hS a r i (by rw[<- hr,<- fC];exact hi)⟩⟩
theorem ig:GA P n ds ops Q S Z fuel L l w []:=⟨λ_ _ _ _ _ h=>by cases h⟩
def ia(n:Nat)(l:Fr)(ops:Array Oper)(i:Nat)(d:Option Nat):Bool:=Nat.blt i ops.size && chk n l (ops.getD i default) d
theorem qK(i:Nat)(h:okR ops Z=true->S w->∀ a,Rd n ds l a->wpOp P ops Q i (λa' w'=>(Z i=true\/S w'\/w'=w)/\ic P .any ops Q S Z fuel ((arr ops.size L).setIfInBounds i true) a' w') a w)(hs:GA P n ds ops Q S Z fuel L l w rs):GA P n ds ops Q S Z fuel L l w (i :: rs):=⟨λok hS a r j b=>by
 rcases List.mem_cons.1 b with rfl | b
 ·exact h ok hS a r
 exact hs.out ok hS a r j b⟩
theorem ki(i:Nat)(d:Option Nat)(f:FuncId)(args:Array Value)(b:Calls P f args w Qc)(hk:∀ e w',Qc e w'->∃ v,e=.returned v/\S w'/\GZ P n ds ops Q S Z fuel (i :: L) (pt l d v) w')(hs:GA P n ds ops Q S Z fuel L l w rs)(hc:ia n l ops i d=true:=by kernel_rfl)(j:gd ops l (ops.getD i default)=some true:=by kernel_rfl)(hrun:(execOp (evL l) (ops.getD i default)).run P w=.ok (.enter f args) w:=by kernel_rfl):GA P n ds ops Q S Z fuel L l w (i :: rs):=by
 simp only[ia,Bool.and_eq_true] at hc;obtain⟨g,h⟩:=hc;have g:=jB g;obtain⟨o,k⟩:=gv h;refine qK i (λok _ a r=>wpOp_step (cC g) λK m=>?_) hs;rw[if_pos (dX r j)];unfold Oper.wp;rw[fF h r,hrun];refine b.mono λe w' he=>?_
 obtain⟨v,rfl,c,hw⟩:=hk e w' he
 show K (a.put (ops.getD i default).dst v) w'
 rw[o];refine m _ _ ⟨.inr (.inl c),?_⟩;rw[fD L g];exact hw.out ok c _ (r.put d v k)
theorem vg(i:Nat)(d:Option Nat)(v:Value)(w1:World)(hrun:(execOp (evL l) (ops.getD i default)).run P w=.ok (.value v) w1)(b:S w1)(h:GZ P n ds ops Q S Z fuel (i :: L) (pt l d v) w1)(hs:GA P n ds ops Q S Z fuel L l w rs)(hc:ia n l ops i d=true:=by kernel_rfl)(f:gd ops l (ops.getD i default)=some true:=by kernel_rfl):GA P n ds ops Q S Z fuel L l w (i :: rs):=by
 simp only[ia,Bool.and_eq_true] at hc;obtain⟨c,e⟩:=hc;have c:=jB c;obtain⟨k,g⟩:=gv e;refine qK i (λok _ a r=>wpOp_step (cC c) λK j=>?_) hs;rw[if_pos (dX r f)];unfold Oper.wp;rw[fF e r,hrun]
 show K (a.put (ops.getD i default).dst v) w1
 rw[k];refine j _ _ ⟨.inr (.inl b),?_⟩;rw[fD L c];exact h.out ok b _ (r.put d v g)
theorem DZ(i:Nat)(w1:World)(hrun:(execOp (evL l) (ops.getD i default)).run P w=.ok .skip w1)(b:S w1)(h:GZ P n ds ops Q S Z fuel (i :: L) l w1)(hs:GA P n ds ops Q S Z fuel L l w rs)(hc:ia n l ops i none=true:=by kernel_rfl)(e:gd ops l (ops.getD i default)=some true:=by kernel_rfl):GA P n ds ops Q S Z fuel L l w (i :: rs):=by
 simp only[ia,Bool.and_eq_true] at hc;obtain⟨c,d⟩:=hc;have c:=jB c;obtain⟨g,j⟩:=gv d;refine qK i (λok _ a r=>wpOp_step (cC c) λK f=>?_) hs;rw[if_pos (dX r e)];unfold Oper.wp;rw[fF d r,hrun]
 show K (a.put (ops.getD i default).dst undef) w1
 rw[g];refine f _ _ ⟨.inr (.inl b),?_⟩;rw[fD L c];exact h.out ok b _ r
theorem yv(i:Nat)(w1:World)(hrun:(execOp (evL l) (ops.getD i default)).run P w=.ok .skip w1)(h:GY P n ds ops Q S Z fuel (i :: L) l w1)(hr:eu ops L=[i]:=by kernel_rfl)(hc:ia n l ops i none=true:=by kernel_rfl)(f:gd ops l (ops.getD i default)=some true:=by kernel_rfl)(k:Z i=true:=by rfl):GY P n ds ops Q S Z (fuel + 1) L l w:=⟨λok a r=>by
 simp only[ia,Bool.and_eq_true] at hc;obtain⟨b,d⟩:=hc;have b:=jB b;obtain⟨m,o⟩:=gv d;have hr:=(fC ops L).trans hr;refine⟨λc=>(by rw[hr] at c;cases c),λj e=>?_⟩;obtain rfl:j=i:=by rw[hr] at e;simpa using e
 refine wpOp_step (cC b) λK g=>?_
 rw[if_pos (dX r f)];unfold Oper.wp;rw[fF d r,hrun]
 show K (a.put (ops.getD j default).dst undef) w1
 rw[m];refine g _ _ ⟨.inl k,?_⟩;rw[fD L b]
 exact h.out ok _ r⟩
theorem yt(i d:Nat)(v:Value)(h:GY P n ds ops Q S Z fuel (i :: L) ((d,v) :: l) w)(hr:eu ops L=[i]:=by kernel_rfl)(hc:ia n l ops i (some d)=true:=by kernel_rfl)(g:gd ops l (ops.getD i default)=some true:=by kernel_rfl)(o:Z i=true:=by rfl)(hrun:(execOp (evL l) (ops.getD i default)).run P w=.ok (.value v) w:=by kernel_rfl):GY P n ds ops Q S Z (fuel + 1) L l w:=⟨λok a r=>by
 simp only[ia,Bool.and_eq_true] at hc;obtain⟨b,e⟩:=hc;have b:=jB b;obtain⟨p,k⟩:=gv e;have hr:=(fC ops L).trans hr;refine⟨λc=>(by rw[hr] at c;cases c),λj f=>?_⟩;obtain rfl:j=i:=by rw[hr] at f;simpa using f
 refine wpOp_step (cC b) λK m=>?_
 rw[if_pos (dX r g)];unfold Oper.wp;rw[fF e r,hrun]
 show K (a.put (ops.getD j default).dst v) w
 rw[p];refine m _ _ ⟨.inl o,?_⟩;rw[fD L b]
 exact h.out ok _ (r.put (some d) v k)⟩
theorem z(i d:Nat)(v:Value)(h:GZ P n ds ops Q S Z fuel (i :: L) ((d,v) :: l) w)(e:fK ops Z i=true:=by kernel_rfl)(hc:qS n l ops L i (some d)=true:=by kernel_rfl)(b:gd ops l (ops.getD i default)=some true:=by kernel_rfl)(hQ:∀ c a w,Q (.panic c) (a.put (some d) v) w->Q (.panic c) a w:=by exact λ_ _ _ h=>h)(hrun:∀ w',S w'->(execOp (evL l) (ops.getD i default)).run P w'=.ok (.value v) w':=by intro _ _;kernel_rfl):GZ P n ds ops Q S Z (fuel+1) L l w:=kI i (some d) v hrun e hc b hQ h
theorem zr(i d:Nat)(v:Value)(hrun:∀ w',S w'->(execOp (evL l) (ops.getD i default)).run P w'=.ok (.value v) w')(h:GZ P n ds ops Q S Z fuel (i :: L) ((d,v) :: l) w)(e:fK ops Z i=true:=by kernel_rfl)(hc:qS n l ops L i (some d)=true:=by kernel_rfl)(b:gd ops l (ops.getD i default)=some true:=by kernel_rfl)(hQ:∀ c a w,Q (.panic c) (a.put (some d) v) w->Q (.panic c) a w:=by exact λ_ _ _ h=>h):GZ P n ds ops Q S Z (fuel+1) L l w:=kI i (some d) v hrun e hc b hQ h
theorem zq(i d:Nat)(v b:Value)(hv:v=b)(h:GZ P n ds ops Q S Z fuel (i :: L) ((d,b) :: l) w)(f:fK ops Z i=true:=by kernel_rfl)(hc:qS n l ops L i (some d)=true:=by kernel_rfl)(e:gd ops l (ops.getD i default)=some true:=by kernel_rfl)(hQ:∀ c a w,Q (.panic c) (a.put (some d) b) w->Q (.panic c) a w:=by exact λ_ _ _ h=>h)(hrun:∀ w',S w'->(execOp (evL l) (ops.getD i default)).run P w'=.ok (.value v) w':=by intro _ _;kernel_rfl):GZ P n ds ops Q S Z (fuel+1) L l w:=by
 subst hv;exact kI i (some d) v hrun f hc e hQ h
theorem zc(i d:Nat)(f:FuncId)(args:Array Value)(a:Calls P f args w Qc)(hk:∀ e w',Qc e w'->∃ v,e=.returned v/\S w'/\GZ P n ds ops Q S Z fuel (i :: L) ((d,v) :: l) w')(hr:eu ops L=[i]:=by kernel_rfl)(hc:ia n l ops i (some d)=true:=by kernel_rfl)(b:gd ops l (ops.getD i default)=some true:=by kernel_rfl)(hrun:(execOp (evL l) (ops.getD i default)).run P w=.ok (.enter f args) w:=by kernel_rfl):GZ P n ds ops Q S Z (fuel+1) L l w:=fb [i] (ki i (some d) f args a hk ig hc b hrun) hr (by simp)
theorem zw(i d:Nat)(v:Value)(w1:World)(hrun:(execOp (evL l) (ops.getD i default)).run P w=.ok (.value v) w1)(a:S w1)(h:GZ P n ds ops Q S Z fuel (i :: L) ((d,v) :: l) w1)(hr:eu ops L=[i]:=by kernel_rfl)(hc:ia n l ops i (some d)=true:=by kernel_rfl)(b:gd ops l (ops.getD i default)=some true:=by kernel_rfl):GZ P n ds ops Q S Z (fuel+1) L l w:=fb [i] (vg i (some d) v w1 hrun a h ig hc b) hr (by simp)
theorem zv(i:Nat)(w1:World)(hrun:(execOp (evL l) (ops.getD i default)).run P w=.ok .skip w1)(a:S w1)(h:GZ P n ds ops Q S Z fuel (i :: L) l w1)(hr:eu ops L=[i]:=by kernel_rfl)(hc:ia n l ops i none=true:=by kernel_rfl)(b:gd ops l (ops.getD i default)=some true:=by kernel_rfl):GZ P n ds ops Q S Z (fuel+1) L l w:=fb [i] (DZ i w1 hrun a h ig hc b) hr (by simp)
end
end
section
variable {w:World}{g:Nat}{cs vs:List Value}{v x:Value}
abbrev pg(g:Nat):Value:=.pointer (some ⟨g,0,none⟩)
abbrev iU(x:Int):Value:=.int .u64 x
abbrev iI(x:Int):Value:=.int .i64 x
abbrev bT:Value:=.bool true
abbrev bF:Value:=.bool false
abbrev zS:Value:=.slice none 0 0
abbrev cl0:List Value:=[iU 0,iU 0,iU 0,iU 0,iU 0,iU 0,iU 0,iU 0,iU 0,iU 0,zS,zS]
abbrev cl1:List Value:=[iU 0,iU 0,iU 0,iU 0,iU 0,iU 0,iU 0,iU 0,iU 0,iU 0]
abbrev cl2:List Value:=[iU 0,iU 0,iU 0,iU 0,zS,bF,iU 0,bF,iU 0,zS,zS,zS,zS,iU 0,zS,bF]
abbrev cl3:List Value:=[iU 0,iU 0,iU 0,zS,zS,zS,iU 0]
abbrev cl4:List Value:=[iU 0,iU 0,zS,bF,iU 0,bF,iU 0,zS,zS,zS]
abbrev cl5:List Value:=[iU 0,iU 0]
abbrev cl6:List Value:=[iU 1,iU 1,iU 1,iU 0,iU 0,iU 0,iU 0,iU 0,iU 0,iU 16]
abbrev cl7:List Value:=[iU 16,iU 100,iU 16,iU 100]
abbrev cl8:List Value:=[iU 16,iU 100]
abbrev cl9:List Value:=[iU 16,iU 16,iU 0,zS,zS,zS,iU 0]
abbrev ko:List Value:=[iU 16,iU 500,iU 10]
abbrev l3:List Value:=[iU 17,iU 500,iU 10]
abbrev cB(f:FuncId)(a:Array Value)(w:World)(v:Value):Prop:=Calls Tryz.prog f a w λe w'=>e=.returned v/\BW w w'
abbrev pq(g o:Nat):Value:=.pointer (some ⟨g,o,none⟩)
abbrev sg(n g:Nat):Value:=.slice (some ⟨g,0,none⟩) n n
def AD(P:Program)(T:TypeId)(n:Nat):Bool:=(match P.underlying T with | some d=>d.isRow | none=>false) && ((P.info? T).map (·.size) == some n)
theorem l1{P:Program}{t T:TypeId}(X:Blk w g cs t)(o:Nat)(hv:cs[o]?=some v:=by rfl)(a:∀ w,(isAgg T).run P w=.ok false w:=by intro _;kernel_rfl):(loadVar T ⟨g,o,none⟩).run P w=.ok v w:=by
 have h:=X.cell hv;simp[loadVar,a,h]
theorem lr{P:Program}{t T:TypeId}(X:Blk w g cs t)(o:Nat)(hr:(cs.drop o).take vs.length=vs:=by rfl)(hc:AD P T vs.length=true:=by kernel_rfl):(loadVar T ⟨g,o,none⟩).run P w=.ok (.agg vs.toArray) w:=by
 simp only[AD,Bool.and_eq_true,beq_iff_eq] at hc;obtain⟨a,b⟩:=hc
 cases hu:P.underlying T with
 | none=>rw[hu] at a;cases a
 | some d =>
  rw[hu] at a;refine run_loadVar_mid w g o T vs d (λj v hv=>?_) hu a b;refine X.cell ?_
  rw[<- hr] at hv;rw[List.getElem?_take] at hv;split at hv
  ·rw[List.getElem?_drop] at hv;exact hv
  cases hv
def spl(cs:List Value)(o:Nat)(vs:List Value):List Value:=cs.take o ++ vs ++ cs.drop (o+vs.length)
theorem iY(b:Nat):∀ (vs:List Value) (o:Nat) (w:World) (k:Nat),k≠b->(w.setCells b o vs).heap[k]?=w.heap[k]?
 | [],_,_,_,_=>rfl
 | v :: r,o,w,k,h=>by
  rw[World.setCells,iY b r (o+1) _ k h,Below.heap_setCell w ⟨b,o,none⟩ v k h]
theorem iS(b:Nat):∀ (vs:List Value) (o:Nat) (w:World),(w.setCells b o vs).heap.size=w.heap.size
 | [],_,_=>rfl
 | v :: r,o,w=>by rw[World.setCells,iS b r (o+1)];simp[World.setCell]
theorem eO(b:Nat):∀ (vs:List Value) (o:Nat) (w:World),(w.setCells b o vs).os=w.os/\(w.setCells b o vs).tape=w.tape/\(w.setCells b o vs).output=w.output
 | [],_,_=>⟨rfl,rfl,rfl⟩
 | v :: r,o,w=>by rw[World.setCells];exact eO b r (o+1) _
theorem fl{t:TypeId}:∀ (vs:List Value) (o:Nat) (cs:List Value) (w:World),Blk w g cs t->o+vs.length<=cs.length->Blk (w.setCells g o vs) g (spl cs o vs) t
 | [],o,cs,w,X,_=>by simpa[World.setCells,spl] using X
 | v :: r,o,cs,w,X,h=>by
  rw[World.setCells]
  have h':o+1+r.length<=(cs.set o v).length:=by simp at h ⊢;omega
  have:=fl r (o+1) (cs.set o v) _ (X.setCell (i:=o) v) h'
  have e:spl (cs.set o v) (o+1) r=spl cs o (v :: r):=by
   simp only[List.length_cons] at h;unfold spl;rw[List.drop_set_of_lt (by omega),List.take_set,List.take_add_one,List.set_append]
   have a:(cs.take o).length=o:=by rw[List.length_take];omega
   rw[a,if_neg (by omega),Nat.sub_self];obtain⟨y,hy⟩:∃ y,cs[o]?=some y:=⟨_,List.getElem?_eq_getElem (by omega)⟩
   rw[hy];simp;omega
  rw[e] at this;exact this
theorem pM{P:Program}{o:Nat}{t T:TypeId}(X:Blk w g cs t)(hx:x.cells.toList=vs)(hi:((P.info? T).map (·.size) == some vs.length)=true)(h1:vs.all (·.oneCell')=true)(hb:o+vs.length<=cs.length):(storeVar T ⟨g,o,none⟩ x).run P w=.ok () (w.setCells g o vs):=by
 have:=run_storeCells_cells (P:=P) g o vs 0 w (λj c=>by
   have:=X.cell (i:=o+j) (List.getElem?_eq_getElem (by omega))
   simpa using (by rw[this];rfl:(w.cell? ⟨g,o+j,none⟩).isSome=true)) (λj _=>by simpa using X.free (o+j))
  (λv hv=>List.all_eq_true.1 h1 v hv)
 cases hq:P.info? T with
 | none=>rw[hq] at hi;cases hi
 | some i =>
  rw[hq] at hi
  have b:i.size=vs.length:=by simpa using hi
  have a:x.cells.size=i.size:=by rw[b,<- hx];simp
  simp only[Nat.add_zero] at this;simp[storeVar,sizeOf,typeInfo,hq,a,hx,this]
end
section
variable {P:Program} {n:Nat} {ds:List Deferred} {ops:Array Oper} {rest:List Oper} {o o1 o2:Oper} {l:Fr} {w w1:World} {Q Q':Exit->Act->World->Prop} {K:Act->World->Prop} {S:World->Prop} {Z:Nat->Bool} {fuel:Nat} {L:List Nat}
section
variable {ρ:Operand->Value}{g off:Nat}{cs vs:List Value}{x v:Value}{rs:List Nat}
theorem pG{t:TypeId}(X:Blk w g cs t)(a:∃ T p q,o.op=.store T p q/\ρ p=.pointer (some ⟨g,off,none⟩)/\ρ q=x/\((P.info? T).map (·.size) == some vs.length)=true)(hx:x.cells.toList=vs)(h1:vs.all (·.oneCell')=true)(hb:Nat.ble (off+vs.length) cs.length=true):(execOp ρ o).run P w=.ok .skip (w.setCells g off vs):=by
 obtain⟨T,p,q,h,b,hq,hi⟩:=a;simp only[execOp,h,b,hq,Instr.storeAt,Instr.sureAddr,Sem.run_bind,Sem.run_pure,Result.andThen_ok,pM X hx hi h1 (Nat.le_of_ble_eq_true hb)]
theorem gG(g off:Nat)(vs:List Value):Chg (·=g) w (w.setCells g off vs):=⟨(eO g vs off w).1,(eO g vs off w).2.1,(eO g vs off w).2.2,by rw[iS];exact Nat.le_refl _,λb _ hb=>iY g vs off w b hb⟩
theorem wZ{t:TypeId}(X:Blk w g cs t)(hv:cs[off]?=some v)(ho:∃ T p,o.op=.load T p/\ρ p=.pointer (some ⟨g,off,none⟩)/\∀ w,(isAgg T).run P w=.ok false w):(execOp ρ o).run P w=.ok (.value v) w:=by
 obtain⟨T,p,h,a,b⟩:=ho;have:=l1 (P:=P) (T:=T) X off hv b;simp only[execOp,h,a];simp[Instr.loadAt,Instr.sureAddr,Result.andThen,this]
theorem mh{t:TypeId}(X:Blk w g cs t)(hr:(cs.drop off).take vs.length=vs)(ho:∃ T p,o.op=.load T p/\ρ p=.pointer (some ⟨g,off,none⟩)/\AD P T vs.length=true):(execOp ρ o).run P w=.ok (.value (.agg vs.toArray)) w:=by
 obtain⟨T,p,h,a,b⟩:=ho;have:=lr (P:=P) (T:=T) X off hr b;simp only[execOp,h,a];simp[Instr.loadAt,Instr.sureAddr,Result.andThen,this]
theorem tl(d:Nat)(v:Value){t:TypeId}(X:Blk w g cs t)(off:Nat)(h:GL P n ds ops Q rest ((d,v) :: l) w)(hv:cs[off]?=some v:=by rfl)(ho:∃ T p,o.op=.load T p/\evL l p=.pointer (some ⟨g,off,none⟩)/\∀ w,(isAgg T).run P w=.ok false w:=by exact⟨_,_,rfl,by kernel_rfl,λ_=>by kernel_rfl⟩)(a:gd ops l o=some true:=by kernel_rfl)(hc:chk n l o (some d)=true:=by kernel_rfl):GL P n ds ops Q (o :: rest) l w:=fH (some d) v a hc (wZ X hv ho) h
theorem tlr(d:Nat)(vs:List Value){t:TypeId}(X:Blk w g cs t)(off:Nat)(h:GL P n ds ops Q rest ((d,.agg vs.toArray) :: l) w)(hr:(cs.drop off).take vs.length=vs:=by rfl)(ho:∃ T p,o.op=.load T p/\evL l p=.pointer (some ⟨g,off,none⟩)/\AD P T vs.length=true:=by exact⟨_,_,rfl,by kernel_rfl,by kernel_rfl⟩)(a:gd ops l o=some true:=by kernel_rfl)(hc:chk n l o (some d)=true:=by kernel_rfl):GL P n ds ops Q (o :: rest) l w:=fH (some d) _ a hc (mh X hr ho) h
theorem zl(i d:Nat)(v:Value){t:TypeId}(X:∀ w',S w'->Blk w' g cs t)(off:Nat)(h:GZ P n ds ops Q S Z fuel (i :: L) ((d,v) :: l) w)(hv:cs[off]?=some v:=by rfl)(ho:∃ T p,(ops.getD i default).op=.load T p/\evL l p=.pointer (some ⟨g,off,none⟩)/\∀ w,(isAgg T).run P w=.ok false w:=by exact⟨_,_,rfl,by kernel_rfl,λ_=>by kernel_rfl⟩)(f:fK ops Z i=true:=by kernel_rfl)(hc:qS n l ops L i (some d)=true:=by kernel_rfl)(e:gd ops l (ops.getD i default)=some true:=by kernel_rfl)(hQ:∀ c a w,Q (.panic c) (a.put (some d) v) w->Q (.panic c) a w:=by exact λ_ _ _ h=>h):GZ P n ds ops Q S Z (fuel+1) L l w:=kI i (some d) v (λw' b=>wZ (X w' b) hv ho) f hc e hQ h
theorem zlr(i d:Nat)(vs:List Value){t:TypeId}(X:∀ w',S w'->Blk w' g cs t)(off:Nat)(h:GZ P n ds ops Q S Z fuel (i :: L) ((d,.agg vs.toArray) :: l) w)(hr:(cs.drop off).take vs.length=vs:=by rfl)(ho:∃ T p,(ops.getD i default).op=.load T p/\evL l p=.pointer (some ⟨g,off,none⟩)/\AD P T vs.length=true:=by exact⟨_,_,rfl,by kernel_rfl,by kernel_rfl⟩)(f:fK ops Z i=true:=by kernel_rfl)(hc:qS n l ops L i (some d)=true:=by kernel_rfl)(e:gd ops l (ops.getD i default)=some true:=by kernel_rfl)(hQ:∀ c a w,Q (.panic c) (a.put (some d) (.agg vs.toArray)) w->Q (.panic c) a w:=by exact λ_ _ _ h=>h):GZ P n ds ops Q S Z (fuel+1) L l w:=kI i (some d) _ (λw' b=>mh (X w' b) hr ho) f hc e hQ h
theorem ta(d:Nat)(vs:List Value)(T:TypeId)(mk:Nat->Value)(h:∀ w1 g,Blk w1 g vs T->w.heap.size<=g->BW w w1->GL P n ds ops Q rest ((d,mk g) :: l) w1)(a:gd ops l o=some true:=by kernel_rfl)(hc:chk n l o (some d)=true:=by kernel_rfl)(hrun:(execOp (evL l) o).run P w=.ok (.value (mk w.heap.size)) (w.alloc (.cells vs.toArray T)):=by kernel_rfl):GL P n ds ops Q (o :: rest) l w :=
 fH (some d) _ a hc hrun (h _ _ (ay w vs T) (Nat.le_refl _) (aa w _))
theorem ts{t:TypeId}(X:Blk w g cs t)(off:Nat)(x:Value)(vs a:List Value)(h:∀ w1,Blk w1 g a t->Chg (·=g) w w1->GL P n ds ops Q rest l w1)(hx:x.cells.toList=vs:=by rfl)(h1:vs.all (·.oneCell')=true:=by rfl)(hb:Nat.ble (off+vs.length) cs.length=true:=by rfl)(he:spl cs off vs=a:=by rfl)(b:∃ T p q,o.op=.store T p q/\evL l p=.pointer (some ⟨g,off,none⟩)/\evL l q=x/\((P.info? T).map (·.size) == some vs.length)=true:=by exact⟨_,_,_,rfl,by kernel_rfl,by kernel_rfl,by kernel_rfl⟩)(c:gd ops l o=some true:=by kernel_rfl)(hc:chk n l o none=true:=by kernel_rfl):GL P n ds ops Q (o :: rest) l w:=by
 refine vP c hc (pG X b hx h1 hb) (h _ ?_ (gG g off vs));rw[<- he];exact fl vs off cs w X (Nat.le_of_ble_eq_true hb)
theorem spw(h:vs.length=cs.length):Nat.ble (0+vs.length) cs.length=true/\spl cs 0 vs=vs:=by
 refine⟨by simp[h],?_⟩;simp[spl,h]
theorem tsw{t:TypeId}(X:Blk w g cs t)(vs:List Value)(h:∀ w1,Blk w1 g vs t->Chg (·=g) w w1->GL P n ds ops Q rest l w1)(h1:vs.all (·.oneCell')=true:=by rfl)(hb:vs.length=cs.length:=by rfl)(a:∃ T p q,o.op=.store T p q/\evL l p=pg g/\evL l q=.agg vs.toArray/\((P.info? T).map (·.size) == some vs.length)=true:=by exact⟨_,_,_,rfl,by kernel_rfl,by kernel_rfl,by kernel_rfl⟩)(b:gd ops l o=some true:=by kernel_rfl)(hc:chk n l o none=true:=by kernel_rfl):GL P n ds ops Q (o :: rest) l w:=ts X 0 (.agg vs.toArray) vs vs h rfl h1 (spw hb).1 (spw hb).2 a b hc
theorem ts1{t:TypeId}(X:Blk w g cs t)(x:Value)(h:∀ w1,Blk w1 g [x] t->Chg (·=g) w w1->GL P n ds ops Q rest l w1)(hx:x.cells.toList=[x]:=by rfl)(h1:x.oneCell'=true:=by rfl)(hb:cs.length=1:=by rfl)(a:∃ T p q,o.op=.store T p q/\evL l p=pg g/\evL l q=x/\((P.info? T).map (·.size) == some 1)=true:=by exact⟨_,_,_,rfl,by kernel_rfl,by kernel_rfl,by kernel_rfl⟩)(b:gd ops l o=some true:=by kernel_rfl)(hc:chk n l o none=true:=by kernel_rfl):GL P n ds ops Q (o :: rest) l w:=ts X 0 x [x] [x] h hx (by simpa using h1) (spw (vs:=[x]) (by simpa using hb.symm)).1 (spw (vs:=[x]) (by simpa using hb.symm)).2 a b hc
theorem za(i d:Nat)(vs:List Value)(T:TypeId)(mk:Nat->Value)(h:∀ w1 g,Blk w1 g vs T->w.heap.size<=g->BW w w1->S w1/\GZ P n ds ops Q S Z fuel (i :: L) ((d,mk g) :: l) w1)(hr:eu ops L=[i]:=by kernel_rfl)(a:gd ops l (ops.getD i default)=some true:=by kernel_rfl)(hc:ia n l ops i (some d)=true:=by kernel_rfl)(hrun:(execOp (evL l) (ops.getD i default)).run P w=.ok (.value (mk w.heap.size)) (w.alloc (.cells vs.toArray T)):=by kernel_rfl):GZ P n ds ops Q S Z (fuel+1) L l w:=by
 have H:=h _ _ (ay w vs T) (Nat.le_refl _) (aa w _);exact zw i d _ _ hrun H.1 H.2 hr hc a
theorem zaa(i d:Nat)(vs:List Value)(T:TypeId)(mk:Nat->Value)(h:∀ w1 g,Blk w1 g vs T->w.heap.size<=g->BW w w1->S w1/\GZ P n ds ops Q S Z fuel (i :: L) ((d,mk g) :: l) w1)(hs:GA P n ds ops Q S Z fuel L l w rs)(a:gd ops l (ops.getD i default)=some true:=by kernel_rfl)(hc:ia n l ops i (some d)=true:=by kernel_rfl)(hrun:(execOp (evL l) (ops.getD i default)).run P w=.ok (.value (mk w.heap.size)) (w.alloc (.cells vs.toArray T)):=by kernel_rfl):GA P n ds ops Q S Z fuel L l w (i :: rs):=by
 have H:=h _ _ (ay w vs T) (Nat.le_refl _) (aa w _);exact vg i (some d) _ _ hrun H.1 H.2 hs hc a
theorem zs(i:Nat){t:TypeId}(X:Blk w g cs t)(off:Nat)(x:Value)(vs a:List Value)(h:∀ w1,Blk w1 g a t->Chg (·=g) w w1->S w1/\GZ P n ds ops Q S Z fuel (i :: L) l w1)(hx:x.cells.toList=vs:=by rfl)(h1:vs.all (·.oneCell')=true:=by rfl)(hb:Nat.ble (off+vs.length) cs.length=true:=by rfl)(he:spl cs off vs=a:=by rfl)(b:∃ T p q,(ops.getD i default).op=.store T p q/\evL l p=.pointer (some ⟨g,off,none⟩)/\evL l q=x/\((P.info? T).map (·.size) == some vs.length)=true:=by exact⟨_,_,_,rfl,by kernel_rfl,by kernel_rfl,by kernel_rfl⟩)(hr:eu ops L=[i]:=by kernel_rfl)(c:gd ops l (ops.getD i default)=some true:=by kernel_rfl)(hc:ia n l ops i none=true:=by kernel_rfl):GZ P n ds ops Q S Z (fuel+1) L l w:=by
 have Y:=fl vs off cs w X (Nat.le_of_ble_eq_true hb);rw[he] at Y;have H:=h _ Y (gG g off vs);exact zv i _ (pG X b hx h1 hb) H.1 H.2 hr hc c
theorem zsw(i:Nat){t:TypeId}(X:Blk w g cs t)(vs:List Value)(h:∀ w1,Blk w1 g vs t->Chg (·=g) w w1->S w1/\GZ P n ds ops Q S Z fuel (i :: L) l w1)(h1:vs.all (·.oneCell')=true:=by rfl)(hb:vs.length=cs.length:=by rfl)(a:∃ T p q,(ops.getD i default).op=.store T p q/\evL l p=pg g/\evL l q=.agg vs.toArray/\((P.info? T).map (·.size) == some vs.length)=true:=by exact⟨_,_,_,rfl,by kernel_rfl,by kernel_rfl,by kernel_rfl⟩)(hr:eu ops L=[i]:=by kernel_rfl)(b:gd ops l (ops.getD i default)=some true:=by kernel_rfl)(hc:ia n l ops i none=true:=by kernel_rfl):GZ P n ds ops Q S Z (fuel+1) L l w:=zs i X 0 (.agg vs.toArray) vs vs h rfl h1 (spw hb).1 (spw hb).2 a hr b hc
theorem ys(i:Nat){t:TypeId}(X:Blk w g cs t)(off:Nat)(x:Value)(vs a:List Value)(h:∀ w1,Blk w1 g a t->Chg (·=g) w w1->GY P n ds ops Q S Z fuel (i :: L) l w1)(hx:x.cells.toList=vs:=by rfl)(h1:vs.all (·.oneCell')=true:=by rfl)(hb:Nat.ble (off+vs.length) cs.length=true:=by rfl)(he:spl cs off vs=a:=by rfl)(b:∃ T p q,(ops.getD i default).op=.store T p q/\evL l p=.pointer (some ⟨g,off,none⟩)/\evL l q=x/\((P.info? T).map (·.size) == some vs.length)=true:=by exact⟨_,_,_,rfl,by kernel_rfl,by kernel_rfl,by kernel_rfl⟩)(hr:eu ops L=[i]:=by kernel_rfl)(c:gd ops l (ops.getD i default)=some true:=by kernel_rfl)(hc:ia n l ops i none=true:=by kernel_rfl)(d:Z i=true:=by rfl):GY P n ds ops Q S Z (fuel+1) L l w:=by
 have Y:=fl vs off cs w X (Nat.le_of_ble_eq_true hb);rw[he] at Y;exact yv i _ (pG X b hx h1 hb) (h _ Y (gG g off vs)) hr hc c d
end
end
section
variable {z:Int}{ρ:Operand->Value}{o:Oper}{w:World}
theorem wi(h:-9223372036854775808<=z/\z < 9223372036854775808):Value.int .i64 (IntKind.i64.wrap z)=.int .i64 z:=by rw[IntKind.wrap_i64];congr 1;omega
theorem wu(h:0<=z/\z < 18446744073709551616):Value.int .u64 (IntKind.u64.wrap z)=.int .u64 z:=by rw[IntKind.wrap_u64];congr 1;omega
theorem xk{P:Program}{v v':Value}(e:v=v')(h:(execOp ρ o).run P w=.ok (.value v) w):(execOp ρ o).run P w=.ok (.value v') w:=e▸h
def slT(P:Program)(T:TypeId)(sz:Nat):Bool:=match P.underlying T with
 | some (.slice e)=>(P.info? e).map (·.size) == some sz
 | _=>false
theorem rm{P:Program}(g b off n c k:Nat)(hk:k < n)(ho:∃ T x y,o.op=.indexAddr T x y/\slT P T g=true/\ρ x=.slice (some ⟨b,off,none⟩) n c/\ρ y=.int .i64 (k:Int):=by exact⟨_,_,_,rfl,by kernel_rfl,by kernel_rfl,by kernel_rfl⟩):(execOp ρ o).run P w=.ok (.value (.pointer (some ⟨b,off+k * g,none⟩))) w:=by
 obtain⟨T,x,y,j,f,l,m⟩:=ho
 have p:(k:Int) < n:=by omega
 have q:¬ ((k:Int) < 0):=by omega
 unfold slT at f
 cases hu:P.underlying T with
 | none=>rw[hu] at f;cases f
 | some d =>
  rw[hu] at f
  cases d with
  | slice e =>
   simp only[beq_iff_eq] at f
   cases hi:P.info? e with
   | none=>rw[hi] at f;cases f
   | some i =>
    rw[hi] at f;simp at f;simp only[execOp,j,l,m];go_simp;simp[sizeOf,typeInfo,hi,f]
  | _=>cases f
theorem aF{w0 w1:World}{g:Nat}(B:BW w0 w)(C:Chg (·=g) w w1)(h:w0.heap.size<=g:=by omega):BW w0 w1:=B.trans (C.below (λb e=>by have e':b=g:=e;omega) B.size)
end
end Gl
end
section
namespace Mg
open Go.RowKit Go.Lib Pg Lim Gl
def In8 (x:Int):Prop:=0<=x/\x < 18446744073709551616
abbrev St:=Int × List Int
def rU (m:Nat) (s:St):Int × St:=(rdV 0 (cA m s.2) s.1,rdE (cA m s.2) s.1,rdL (cA m s.2) s.1 s.2)
theorem kY (m:Nat) (x:Int) (r:List Int) (h0:0<=x) (h1:x < 256 ^ m):rU m (0,be m x ++ r)=(x,0,r):=by
 have a:=ax m x
 have b:cA m (be m x ++ r)=.inr (x,m):=by
  unfold cA;rw[if_pos (by rw[List.length_append];omega),List.take_left' a,kR m h0,Int.emod_eq_of_lt h0 h1]
 simp only[rU,b,rdV,rdE,rdL,if_pos];rw[List.drop_left' a]
theorem mV {m:Nat} {s:St} {x:Int} {s':St} (e:rU m s=(x,s')) (ho:aJ s.2):(aJ s'.2/\0<=x/\x < 256 ^ m)/\(s'.1=0->s.1=0/\s.2=be m x ++ s'.2):=by
 obtain⟨err,l⟩:=s
 have b:(0:Int) < 256 ^ m:=Int.pow_pos (by decide);simp only[rU,Prod.mk.injEq] at e;obtain⟨e1,e2⟩:=e;subst e2;simp only at e1 ⊢;by_cases he:err=0
 ·subst he;by_cases hm:m<=l.length
  ·have hq:cA m l=.inr (bJ (l.take m),m):=by unfold cA; rw[if_pos hm]
   simp only[hq,rdV,rdE,rdL,if_pos] at e1 ⊢;subst e1
   have a:aJ (l.take m):=λy hy=>ho y (List.mem_of_mem_take hy)
   refine⟨⟨λy hy=>ho y (List.mem_of_mem_drop hy),?_⟩,λ_=>⟨trivial,?_⟩⟩
   ·have h:=fS ho hm;have c:=(bL a).1;have f:=kR m c;rw[h] at f;have d:=Int.emod_lt_of_pos (bJ (l.take m)) b;rw[<- f] at d;exact⟨c,d⟩
   rw[fS ho hm,List.take_append_drop]
  have hq:cA m l=.inl 40:=by unfold cA; rw[if_neg hm]
  simp only[hq,rdV,rdE,rdL,if_pos] at e1 ⊢;subst e1;exact⟨⟨ho,Int.le_refl _,b⟩,λh=>absurd h (by decide)⟩
 rw[mr he] at e1;subst e1;rw[jT he,mi he];exact⟨⟨ho,Int.le_refl _,b⟩,λh=>absurd h he⟩
theorem iL {a b:List Int} (ha:aJ a) (hb:aJ b):aJ (a ++ b):=λy hy=>(List.mem_append.1 hy).elim (ha y) (hb y)
theorem p8:(256:Int) ^ 8=18446744073709551616:=by decide
theorem r8 {x:Int} {r:List Int} (h:In8 x):rU 8 (0,be 8 x ++ r)=(x,0,r):=kY 8 x r h.1 (by rw[p8];exact h.2)
end Mg
end
end Go.Proofs.YtpoifdokmjhclaaGreat
