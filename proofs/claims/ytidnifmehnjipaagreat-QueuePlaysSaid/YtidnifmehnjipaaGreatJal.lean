import Derived.Deep.WholeRow
import Derived.Deep.MidRow
import Derived.Deep.LoopGhost
import Derived.BigFrame
import Derived.Test.YtidnifmehnjipaaGreatJak
set_option maxRecDepth 100000
set_option maxHeartbeats 8000000
namespace Go.Proofs.YtidnifmehnjipaaGreat
section
namespace Gl
open Go.RowKit Go.Lib Pg
section
variable {n:Nat}{a:Act}{v:Value}{o:Oper}{x:Operand}{d:Option Nat}{ops:Array Oper}
abbrev Fr:=List (Nat × Value)
def lk:Fr->Nat->Option Value
 | [],_=>none
 | p :: r,k=>bif Nat.beq p.1 k then some p.2 else lk r k
def evL(l:Fr):Operand->Value
 | .tmp k=>(lk l k).getD undef
 | .const v=>v
 | .global g=>.pointer (some ⟨g,0,none⟩)
 | .func f=>.func (.func f) #[] #[]
def kn(l:Fr):Operand->Bool
 | .tmp k=>(lk l k).isSome
 | _=>true
structure Rd(n:Nat)(ds:List Deferred)(l:Fr)(a:Act):Prop where
 size:a.tmps.size=n
 dfs:a.defers=ds
 get:∀ k v,lk l k=some v->a.tmps[k]?=some v
theorem Rd.ev{ds:List Deferred}{l:Fr}(h:Rd n ds l a)(x:Operand)(b:kn l x=true):a.eval x=evL l x:=by
 cases x with
 | tmp k =>
  cases hl:lk l k with
  | none=>simp[kn,hl] at b
  | some v=>simp[Act.eval,evL,hl,h.get k v hl]
 | const v=>rfl
 | global g=>rfl
 | func f=>rfl
def pt(l:Fr):Option Nat->Value->Fr
 | some d,v=>(d,v) :: l
 | none,_=>l
theorem Rd.put{ds:List Deferred}{l:Fr}(h:Rd n ds l a)(d:Option Nat)(v:Value)(b:∀ k,d=some k->k < n):Rd n ds (pt l d v) (a.put d v):=by
 cases d with
 | none=>exact h
 | some d =>
  have b:=b d rfl;refine⟨by simpa[Act.put] using h.size,h.dfs,fun k u hu=>?_⟩;simp only[pt,lk] at hu;by_cases e:d=k
  ·subst e;simp at hu;subst hu;simp[Act.put,h.size,b]
  ·have c:Nat.beq d k=false:=by
    cases hb:Nat.beq d k with
    | false=>rfl
    | true=>exact absurd (Nat.eq_of_beq_eq_true hb) e
   rw[c] at hu;simp only[Act.put,Array.getElem?_setIfInBounds,if_neg e];exact h.get k u hu
def sub(l' l:Fr):Prop:=∀ k v,lk l' k=some v->lk l k=some v
theorem lk_mem{l:Fr}{k:Nat}(h:lk l k=some v):(k,v)∈l:=by
 induction l with
 | nil=>cases h
 | cons p r ih =>
  simp only[lk] at h
  cases hb:Nat.beq p.1 k with
  | true =>
   rw[hb] at h;have:=Nat.eq_of_beq_eq_true hb;simp at h;subst h;subst this;exact List.mem_cons_self
  | false=>rw[hb] at h;exact List.mem_cons_of_mem _ (ih h)
theorem ml{l' l:Fr}(h:l'.map (fun p=>lk l p.1)=l'.map (fun p=>some p.2)):sub l' l:=fun k v hk=>by
 have hm:=lk_mem hk;have:=List.map_inj_left.1 h (k,v) hm;exact this
theorem Rd.sub{ds:List Deferred}{l l':Fr}(h:Rd n ds l a)(hs:sub l' l):Rd n ds l' a:=⟨h.size,h.dfs,fun k v hk=>h.get k v (hs k v hk)⟩
def sC:Op->List Operand
 | .call c=>(match c.callee with | .value f=>[f] | .invoke r _=>[r] | .builtin _=>[]) ++ c.args.toList
 | .build _ ps=>ps.toList.map (·.2)
 | .buildSlice _ _ ps=>ps.toList.map (·.2)
 | o=>o.operands.toList
theorem ya{o:Op}(h:x ∈ o.operands):x ∈ sC o:=by
  cases o <;> first
    | (simpa[sC] using h)
    | (simp only[Op.operands] at h;simpa[sC] using h)
    | (rename_i c
       simp only[Op.operands,Call.operands] at h;unfold sC
       cases hc:c.callee <;> simp[hc] at h ⊢ <;> exact h)
def notSel:Op->Bool
 | .select _ _=>false
 | _=>true
def inB(n:Nat):Option Nat->Bool
 | none=>true
 | some d=>Nat.blt d n
def gd(ops:Array Oper)(l:Fr)(o:Oper):Option Bool :=
  match o.guard with
  | none=>some true
  | some (j, b) => match (ops[j]?).bind (·.dst) with
    | none=>some false
    | some s => match lk l s with
      | none=>none
      | some (.bool c)=>some (c == b)
      | some _=>some false
def chk(n:Nat)(l:Fr)(o:Oper)(d:Option Nat):Bool:=(sC o.op).all (kn l) && decide (o.dst=d) && inB n d && notSel o.op
theorem jC{l:Fr}(h:chk n l o d=true):o.dst=d/\∀ k,d=some k->k < n:=by
 simp only[chk,Bool.and_eq_true,decide_eq_true_eq] at h;refine⟨h.1.1.2,fun k e=>?_⟩;subst e;have:=h.1.2;simp only[inB,Nat.blt] at this;exact Nat.le_of_ble_eq_true this
theorem iO{ds:List Deferred}{l:Fr}(h:chk n l o d=true)(r:Rd n ds l a):execOp a.eval o=execOp (evL l) o:=by
 simp only[chk,Bool.and_eq_true,List.all_eq_true] at h;exact execOp_congr o (fun cs b e=>by have:=h.2;rw[e] at this;cases this) fun x hx=>r.ev x (h.1.1.1 x (ya hx))
theorem fw{ds:List Deferred}{l:Fr}{t:Bool}(r:Rd n ds l a)(h:gd ops l o=some t):Region.wanted o (yielded ops a.tmps)=t:=by
 unfold gd at h;unfold Region.wanted
 cases hg:o.guard with
 | none=>rw[hg] at h;simpa using h
 | some p =>
  obtain⟨j,b⟩:=p;rw[hg] at h;simp only at h ⊢;unfold yielded
  cases hs:(ops[j]?).bind (·.dst) with
  | none=>rw[hs] at h;simp at h;subst h;simp
  | some s =>
   rw[hs] at h;simp only at h
   cases hv:lk l s with
   | none=>rw[hv] at h;cases h
   | some v =>
    rw[hv] at h;have hx:=r.get s v hv;simp only[Option.bind_some,hx]
    cases v<;>simp_all
end
section
variable {P:Program} {n:Nat} {ds:List Deferred} {ops:Array Oper} {rest:List Oper} {o o1 o2:Oper} {l:Fr} {w w1:World} {Q Q':Exit->Act->World->Prop} {K:Act->World->Prop}
section
variable {c x y:Code}{Qc R:Ending->World->Prop}{id g:Nat}{f:FuncId}{fn:Func}{vs:List Value}{v u:Value}
structure GL(P:Program)(n:Nat)(ds:List Deferred)(ops:Array Oper)(Q:Exit->Act->World->Prop)(rest:List Oper)(l:Fr)(w:World):Prop where
 out:∀ a,Rd n ds l a->wpList P ops Q rest a w
structure GC(P:Program)(n:Nat)(ds:List Deferred)(c:Code)(Q:Exit->Act->World->Prop)(l:Fr)(w:World):Prop where
 out:∀ a,Rd n ds l a->c.wp P Q a w
structure GE(n:Nat)(ds:List Deferred)(Q:Exit->Act->World->Prop)(e:Exit)(l:Fr)(w:World):Prop where
 out:∀ a,Rd n ds l a->Q e a w
theorem aG(l':Fr)(k:GC P n ds c Q l' w)(h:l'.map (fun p=>lk l p.1)=l'.map (fun p=>some p.2):=by kernel_rfl):GC P n ds c Q l w:=⟨fun a r=>k.out a (r.sub (ml h))⟩
theorem iR(d:Option Nat)(v:Value)(c:gd ops l o=some true)(hc:chk n l o d=true)(b:(execOp (evL l) o).run P w=.ok (.value v) w1)(h:GL P n ds ops Q rest (pt l d v) w1):GL P n ds ops Q (o :: rest) l w:=⟨fun a r =>
 BigFrame.wpList_want (fw r c) fun K e=>by
  unfold Oper.wp;rw[iO hc r,b]
  show K (a.put o.dst v) w1
  rw[(jC hc).1]
  exact e _ _ (h.out _ (r.put d v (jC hc).2))⟩
theorem Cu(c:gd ops l o=some true)(hc:chk n l o none=true)(b:(execOp (evL l) o).run P w=.ok .skip w1)(h:GL P n ds ops Q rest l w1):GL P n ds ops Q (o :: rest) l w:=⟨fun a r =>
 BigFrame.wpList_want (fw r c) fun K d=>by
  unfold Oper.wp;rw[iO hc r,b]
  show K (a.put o.dst undef) w1
  rw[(jC hc).1]
  exact d _ _ (h.out _ r)⟩
theorem gl_not(d:Option Nat)(c:gd ops l o=some false)(b:(decide (o.dst=d) && inB n d)=true)(h:GL P n ds ops Q rest (pt l d undef) w):GL P n ds ops Q (o :: rest) l w:=⟨fun a r=>by
 simp only[Bool.and_eq_true,decide_eq_true_eq] at b;refine wpList_skip (fw r c) ?_
 rw[b.1];refine h.out _ (r.put d undef fun k e=>?_);subst e;have:=b.2;simp only[inB,Nat.blt] at this
 exact Nat.le_of_ble_eq_true this⟩
theorem yZ(d:Option Nat)(f:FuncId)(args:Array Value)(g:gd ops l o=some true)(hc:chk n l o d=true)(c:(execOp (evL l) o).run P w=.ok (.enter f args) w)(b:Calls P f args w Qc)(h:∀ e w',Qc e w'->∃ v,e=.returned v/\GL P n ds ops Q rest (pt l d v) w'):GL P n ds ops Q (o :: rest) l w:=⟨fun a r =>
 BigFrame.wpList_want (fw r g) fun K j=>by
  unfold Oper.wp;rw[iO hc r,c,Oper.upon_enter];refine b.mono ?_
  intro e w' i;obtain⟨v,rfl,k⟩:=h e w' i
  show K (a.put o.dst v) w'
  rw[(jC hc).1]
  exact j _ _ (k.out _ (r.put d v (jC hc).2))⟩
theorem ae(h:GE n ds Q .normal l w):GL P n ds ops Q [] l w:=⟨fun a r=>wpList_nil (h.out a r)⟩
theorem t(d:Nat)(v:Value)(h:GL P n ds ops Q rest ((d,v) :: l) w)(b:gd ops l o=some true:=by kernel_rfl)(hc:chk n l o (some d)=true:=by kernel_rfl)(a:(execOp (evL l) o).run P w=.ok (.value v) w:=by kernel_rfl):GL P n ds ops Q (o :: rest) l w:=iR (some d) v b hc a h
theorem tr(d:Nat)(v:Value)(a:(execOp (evL l) o).run P w=.ok (.value v) w)(h:GL P n ds ops Q rest ((d,v) :: l) w)(b:gd ops l o=some true:=by kernel_rfl)(hc:chk n l o (some d)=true:=by kernel_rfl):GL P n ds ops Q (o :: rest) l w:=iR (some d) v b hc a h
theorem tq(d:Nat)(v b:Value)(e:v=b)(h:GL P n ds ops Q rest ((d,b) :: l) w)(c:gd ops l o=some true:=by kernel_rfl)(hc:chk n l o (some d)=true:=by kernel_rfl)(a:(execOp (evL l) o).run P w=.ok (.value v) w:=by kernel_rfl):GL P n ds ops Q (o :: rest) l w:=by
 subst e;exact iR (some d) v c hc a h
theorem tw(d:Nat)(v:Value)(w1:World)(a:(execOp (evL l) o).run P w=.ok (.value v) w1)(h:GL P n ds ops Q rest ((d,v) :: l) w1)(b:gd ops l o=some true:=by kernel_rfl)(hc:chk n l o (some d)=true:=by kernel_rfl):GL P n ds ops Q (o :: rest) l w:=iR (some d) v b hc a h
theorem tn(d:Nat)(h:GL P n ds ops Q rest ((d,undef) :: l) w)(b:gd ops l o=some false:=by kernel_rfl)(a:(decide (o.dst=some d) && inB n (some d))=true:=by kernel_rfl):GL P n ds ops Q (o :: rest) l w:=gl_not (some d) b a h
theorem tc(d:Nat)(f:FuncId)(args:Array Value)(a:Calls P f args w Qc)(h:∀ e w',Qc e w'->∃ v,e=.returned v/\GL P n ds ops Q rest ((d,v) :: l) w')(c:gd ops l o=some true:=by kernel_rfl)(hc:chk n l o (some d)=true:=by kernel_rfl)(b:(execOp (evL l) o).run P w=.ok (.enter f args) w:=by kernel_rfl):GL P n ds ops Q (o :: rest) l w:=yZ (some d) f args c hc b a h
theorem ab(h:GC P n ds x (Exit.then (y.wp P Q) Q) l w):GC P n ds (x.seq y) Q l w:=⟨fun a r=>wp_seq (h.out a r)⟩
theorem ag{c:List Oper}(h:GL P n ds c.toArray Q c l w):GC P n ds (Code.region id c.toArray false) Q l w:=⟨fun a r=>wp_region_lit (h.out a r)⟩
theorem aP{c:Operand}(h:GC P n ds x Q l w)(b:kn l c=true:=by kernel_rfl)(hc:evL l c=.bool true:=by kernel_rfl):GC P n ds (Code.cond c x y) Q l w:=⟨fun a r=>wp_cond_true ((r.ev c b).trans hc) (h.out a r)⟩
theorem aW{c:Operand}(h:GC P n ds y Q l w)(b:kn l c=true:=by kernel_rfl)(hc:evL l c=.bool false:=by kernel_rfl):GC P n ds (Code.cond c x y) Q l w:=⟨fun a r=>wp_cond_false ((r.ev c b).trans hc) (h.out a r)⟩
theorem aK(h:GE n ds Q .normal l w):GC P n ds Code.skip Q l w:=⟨fun a r=>wp_skip (h.out a r)⟩
theorem aF(h:GE n ds Q .ret l w):GC P n ds Code.ret Q l w:=⟨fun a r=>wp_ret (h.out a r)⟩
theorem dM(h:GE n ds Q (.exit id) l w):GC P n ds (Code.exit id) Q l w:=⟨fun a r=>wp_exit (h.out a r)⟩
theorem bj(h:GC P n ds c (Exit.inBlock id Q) l w):GC P n ds (Code.block id c) Q l w:=⟨fun a r=>wp_block (h.out a r)⟩
theorem aa(h:GC P n ds y Q l w):GE n ds (Exit.then (y.wp P Q) Q') .normal l w:=⟨fun a r=>h.out a r⟩
theorem dm(h:GE n ds Q' .ret l w):GE n ds (Exit.then K Q') .ret l w:=⟨fun a r=>h.out a r⟩
theorem dC(h:GE n ds Q' (.exit id) l w):GE n ds (Exit.then K Q') (.exit id) l w:=⟨fun a r=>h.out a r⟩
theorem dk(h:GE n ds Q .normal l w):GE n ds (Exit.inBlock id Q) .normal l w:=⟨fun a r=>h.out a r⟩
theorem jB(h:GE n ds Q .ret l w):GE n ds (Exit.inBlock id Q) .ret l w:=⟨fun a r=>h.out a r⟩
theorem gy(h:GE n ds Q .normal l w):GE n ds (Exit.inBlock id Q) (.exit id) l w:=⟨fun a r=>by
 show if id=id then Q .normal a w else Q (.exit id) a w
 rw[if_pos rfl];exact h.out a r⟩
theorem ic{σ : Type}(μ : σ → Nat)(b : σ → Fr)(F : σ → World → Prop)(s : σ)(hF : F s w)(g : (b s).map (fun p => lk l p.1) = (b s).map (fun p => some p.2))(round : ∀ s w, F s w → GC P n ds c (Exit.then (fun a' w' => ∃ s', μ s' < μ s ∧ Rd n ds (b s') a' ∧ F s' w') Q) (b s) w) : GC P n ds (Code.loop c) Q l w := ⟨fun a r => by
  refine wp_loop_ghost (fun m a w=>∃ s,μ s=m∧Rd n ds (b s) a∧F s w) (μ s) ⟨s,rfl,r.sub (ml g),hF⟩ ?_
  rintro m a w ⟨s,rfl,i,hF⟩;refine wp_mono ((round s w hF).out a i) ?_
  intro e a' w' h
  cases e with
  | normal =>
    obtain⟨s',f,d,j⟩:= h;exact⟨μ s',f,s',rfl,d,j⟩
  | _=>exact h⟩
theorem dK{σ:Type}{μ:σ->Nat}{b:σ->Fr}{F:σ->World->Prop}{m:Nat}(a:σ)(hm:μ a < m)(hF:F a w)(c:(b a).map (fun p=>lk l p.1)=(b a).map (fun p=>some p.2)):GE n ds (Exit.then (fun a' w'=>∃ a,μ a < m/\Rd n ds (b a) a'/\F a w') Q) .normal l w:=⟨fun _ r=>⟨a,hm,r.sub (ml c),hF⟩⟩
theorem gm{σ:Type}(b:σ->Fr)(F:σ->World->Prop)(f:GC P n ds x (Exit.then (fun a' w'=>∃ s,Rd n ds (b s) a'/\F s w') Q) l w)(c:∀ s w',F s w'->GC P n ds y Q (b s) w'):GC P n ds (x.seq y) Q l w:=⟨fun a r=>wp_seq (wp_mono (f.out a r) fun e a' w' h=>by
 cases e with
 | normal=>obtain⟨s,d,hF⟩:=h;exact(c s w' hF).out a' d
 | _=>exact h)⟩
theorem bZ{σ:Type}{a:σ->Fr}{F:σ->World->Prop}(s:σ)(hF:F s w)(b:(a s).map (fun p=>lk l p.1)=(a s).map (fun p=>some p.2)):GE n ds (Exit.then (fun a' w'=>∃ s,Rd n ds (a s) a'/\F s w') Q) .normal l w:=⟨fun _ r=>⟨s,r.sub (ml b),hF⟩⟩
def en:Nat->List Value->Fr
 | _,[]=>[]
 | i,v :: r=>(i,v) :: en (i+1) r
theorem E8:∀ (vs:List Value) (i k:Nat) (v:Value),lk (en i vs) k=some v->i<=k/\vs[k - i]?=some v
 | [],_,_,_,h=>by cases h
 | u :: r,i,k,v,h=>by
  simp only[en,lk] at h
  cases hb:Nat.beq i k with
  | true =>
   rw[hb] at h;have:=Nat.eq_of_beq_eq_true hb;subst this;simp at h;subst h;exact⟨Nat.le_refl _,by simp⟩
  | false =>
   rw[hb] at h;obtain⟨b,a⟩:=E8 r (i+1) k v h;refine⟨by omega,?_⟩;have:k - i=(k - (i+1))+1:=by omega
   rw[this,List.getElem?_cons_succ];exact a
theorem aC(hf:P.funcs[f]?=some fn)(hb:fn.body=some c)(h:GC P n [] c (bodyPost P fn R) (en 0 vs) w)(hn:fn.ntmps=n:=by kernel_rfl)(d:Nat.ble vs.length n=true:=by kernel_rfl):Calls P f vs.toArray w R:=by
 have d:=Nat.le_of_ble_eq_true d;refine calls_of_wp hf hb (h.out _ ⟨?_,rfl,fun k v e=>?_⟩)
 ·simp;omega
 ·obtain⟨_,b⟩:=E8 vs 0 k v e;rw[Nat.sub_zero] at b;have a:=(List.getElem?_eq_some_iff.1 b).1;rw[Array.getElem?_append_left (by simpa using a)];simpa using b
theorem aE(v:Value)(hr:∀ a,Rd n [] l a->(results fn a.tmps).run P w=.ok v w)(hR:R (.returned v) w):GE n [] (bodyPost P fn R) .ret l w:=⟨fun a r=>bodyPost_ret (hr a r) r.dfs hR⟩
theorem j7(v:Value)(hr:∀ a,Rd n [] l a->(results fn a.tmps).run P w=.ok v w)(hR:R (.returned v) w):GE n [] (bodyPost P fn R) .normal l w:=⟨fun a r=>⟨r.dfs,v,hr a r,hR⟩⟩
theorem Rd.gD{a:Act}(r:Rd n ds l a){k:Nat}(h:lk l k=some v):a.tmps.getD k undef=v:=by
 rw[Array.getD_eq_getD_getElem?,r.get k v h];rfl
theorem rs1(k:Nat)(h:fn.results=#[.tmp k])(hv:lk l k=some v)(a:Act)(r:Rd n [] l a):(results fn a.tmps).run P w=.ok v w:=by
 have:=r.gD hv;simp at this;simp[results,h,this]
theorem rs0(h:fn.results=#[])(a:Act)(_:Rd n [] l a):(results fn a.tmps).run P w=.ok (.tuple #[]) w:=by
 simp[results,h]
theorem rs2(j k:Nat)(h:fn.results=#[.tmp j,.tmp k])(hu:lk l j=some u)(d:lk l k=some v)(a:Act)(r:Rd n [] l a):(results fn a.tmps).run P w=.ok (.tuple #[u,v]) w:=by
 have c:=r.gD hu;have b:=r.gD d;simp at c b;simp[results,h,c,b]
theorem rsc(j:Nat){T:TypeId}(h:fn.results=#[.cell j T])(hu:lk l j=some (.pointer (some ⟨g,0,none⟩)))(c:(loadVar T ⟨g,0,none⟩).run P w=.ok u w)(a:Act)(r:Rd n [] l a):(results fn a.tmps).run P w=.ok u w:=by
 have b:=r.gD hu;simp at b;simp[results,h,b,asAddr,c]
theorem iQ(j k:Nat){T:TypeId}(h:fn.results=#[.cell j T,.tmp k])(hu:lk l j=some (.pointer (some ⟨g,0,none⟩)))(e:lk l k=some v)(d:(loadVar T ⟨g,0,none⟩).run P w=.ok u w)(a:Act)(r:Rd n [] l a):(results fn a.tmps).run P w=.ok (.tuple #[u,v]) w:=by
 have c:=r.gD hu;have b:=r.gD e;simp at c b;simp[results,h,c,b,asAddr,d]
end
end
section
variable {P:Program} {ops:Array Oper} {Q:Exit->Act->World->Prop} {md:Region.Mode} {S:World->Prop} {Z:Nat->Bool}
section
variable {i:Nat}{v:Value}{S0:World->Prop}
def iG(P:Program)(md:Region.Mode)(ops:Array Oper)(Q:Exit->Act->World->Prop)(S:World->Prop)(Z:Nat->Bool):Nat->Array Bool->Act->World->Prop
 | 0,listed,a,w=>Region.ready md ops listed=[]/\Q .normal a w
 | fuel + 1,listed,a,w =>
  (Region.ready md ops listed=[]->Q .normal a w) /\
  ∀ i∈Region.ready md ops listed,wpOp P ops Q i (fun a' w'=>(Z i=true\/S w'\/w'=w)/\iG P md ops Q S Z fuel (listed.setIfInBounds i true) a' w') a w
theorem sm(fuel:Nat):∀ (listed:Array Bool) (a:Act) (w:World),iG P md ops Q S Z fuel listed a w->wpAnyH P md ops Q (fun _=>True) fuel listed a w:=by
 induction fuel with
 | zero=>exact fun _ _ _ h=>h
 | succ fuel ih=>exact fun _ _ _ h=>⟨h.1,fun i hi=>wpOp_mono (fun d b c=>⟨trivial,ih _ d b c.2⟩) (h.2 i hi)⟩
def eY(ops:Array Oper)(Z:Nat->Bool)(i:Nat):Bool:=(List.range ops.size).all fun z=>!Z z || (decide (z≠i) && (ops.getD z default).after.any fun e=>Region.binds .any e && decide (e.on=i))
theorem yD(o:eY ops Z i=true)(j:Nat)(l:Oper)(a:ops[j]?=some l)(b:∀ e∈l.after,Region.binds .any e=true->e.on≠i)(w w':World)(h:Z j=true\/S w'\/w'=w)(hS:S w):S w':=by
 have g:¬ Z j=true:=fun e=>by
  have c:j < ops.size:=(Array.getElem?_eq_some_iff.1 a).1;have d:=List.all_eq_true.1 o j (List.mem_range.2 c);rw[e] at d;simp only[Bool.not_true,Bool.false_or,Bool.and_eq_true,decide_eq_true_eq] at d
  have p:ops.getD j default=l:=by
   rw[Array.getD_eq_getD_getElem?,a];rfl
  have m:=d.2;rw[p,Array.any_eq_true] at m;obtain⟨k,n,f⟩:=m;rw[Bool.and_eq_true,decide_eq_true_eq] at f;exact b _ (Array.getElem_mem n) f.1 f.2
 rcases h.resolve_left g with h | h
 ·exact h
 ·rw[h];exact hS
theorem rf{q:Oper}(D:∀ (j:Nat) (oj:Oper),ops[j]?=some oj->(∀ e∈oj.after,Region.binds .any e=true->e.on≠i)->∀ w w':World,(Z j=true\/S w'\/w'=w)->S0 w->S0 w')(hi:ops[i]?=some q)(p:∀ (j:Nat) (o:Oper) cs b,ops[j]?=some o->o.op≠.select cs b)(I:∀ c a w,Q (.panic c) (a.put q.dst v) w->Q (.panic c) a w) :
  ∀ (fuel:Nat) (listed:Array Bool) (a:Act) (w:World),
   (∀ j oj,ops[j]?=some oj->j≠i->listed.getD j true=false->(∀ e∈oj.after,Region.binds .any e=true->e.on≠i)->q.apart ops oj=true) ->
   i∈Region.ready .any ops listed->YieldsIf P ops S0 q v a->S0 w ->
   iG P .any ops Q S Z fuel (listed.setIfInBounds i true) (a.put q.dst v) w->iG P .any ops Q S Z (fuel+1) listed a w:=by
 intro fuel
 induction fuel with
 | zero =>
  intro listed a w _ s hy hS H;refine⟨fun h=>(by rw[h] at s;cases s),fun j z=>?_⟩;by_cases d:j=i
  ·subst d;exact hy.wpOp hi hS ⟨.inr (.inr rfl),H⟩
  ·have:=ready_mono z d;rw[H.1] at this
   cases this
 | succ fuel ih =>
  intro listed a w f s hy hS H;refine⟨fun h=>(by rw[h] at s;cases s),fun j z=>?_⟩;by_cases d:j=i
  ·subst d;exact hy.wpOp hi hS ⟨.inr (.inr rfl),H⟩
  ·have r:=H.2 j (ready_mono z d);obtain⟨m,oj,l,x⟩:=mem_ready.1 z
   have n:∀ e∈oj.after,Region.binds .any e=true->e.on≠i:=fun e he hb heq=>by
    have r:=x e he hb;have E:=(mem_ready.1 s).1;rw[heq] at r;rcases Nat.lt_or_ge i listed.size with A | A
    ·simp[A] at E r;rw[E] at r;cases r
    ·simp[Array.getElem?_eq_none A] at r
   have F:=wpOp_putIf l (f j oj l d m n) (fun cs b=>p i q cs b hi) (fun cs b=>p j oj cs b l) I hy r
   have g:∀ k ok,ops[k]?=some ok->k≠i->(listed.setIfInBounds j true).getD k true=false ->
     (∀ e∈ok.after,Region.binds .any e=true->e.on≠i)->q.apart ops ok=true:=fun k ok D C u B=>by
    refine f k ok D C ?_ B;by_cases t:j=k
    ·subst t;exact m
    ·rw[getD_set_ne true t] at u;exact u
   refine wpOp_mono (fun G w' y=>?_) F;refine⟨y.2.1,ih (listed.setIfInBounds j true) G w' g (ready_mono s (Ne.symm d)) y.1 (D j oj l n w w' y.2.1 hS) ?_⟩;rw[Array.setIfInBounds_comm _ _ d];exact y.2.2
end
end
section
variable {ops:Array Oper}{i a b:Nat}{L:List Nat}{Z:Nat->Bool}
theorem cC(h:i < ops.size):ops[i]?=some (ops.getD i default):=by
 simp[Array.getD,h]
def ox:List Nat->Nat->Bool
 | [],_=>false
 | p :: r,k=>bif Nat.beq p k then true else ox r k
def arr(n:Nat)(L:List Nat):Array Bool:=((List.range n).map (ox L)).toArray
theorem AQ(h:a≠b):Nat.beq a b=false:=by
 cases hb:Nat.beq a b with
 | false=>rfl
 | true=>exact absurd (Nat.eq_of_beq_eq_true hb) h
theorem qw(n:Nat)(L:List Nat)(j:Nat)(d:Bool):(arr n L).getD j d=if j < n then ox L j else d:=by
 by_cases h:j < n
 ·simp[arr,h]
 ·simp[arr,h]
theorem Di(n:Nat):arr n []=Array.replicate n false:=by
 apply Array.ext
 ·simp[arr]
 ·intro i h1 h2;simp[arr,ox]
theorem jj{n:Nat}(L:List Nat)(_h:i < n):(arr n L).setIfInBounds i true=arr n (i :: L):=by
 apply Array.ext
 ·simp[arr]
 ·intro j b c
  have a:j < (arr n L).size:=by simpa using b
  rw[Array.getElem_setIfInBounds a];by_cases e:i=j
  ·subst e;simp[arr,ox]
  ·simp[arr,ox,e,AQ e]
def yy(ops:Array Oper)(L:List Nat)(i:Nat):Bool:=match ops[i]? with
 | none=>false
 | some o=>!ox L i && o.after.toList.all fun e=>!Region.binds .any e || (Nat.blt e.on ops.size && ox L e.on)
theorem nD:yy ops L i=true<->i∈Region.ready .any ops (arr ops.size L):=by
 rw[mem_ready];unfold yy
 cases ho:ops[i]? with
 | none=>simp
 | some o =>
  have b:i < ops.size:=(Array.getElem?_eq_some_iff.1 ho).1;simp only[Bool.and_eq_true,Bool.not_eq_true',List.all_eq_true,Bool.or_eq_true,Option.some.injEq,exists_eq_left',qw,if_pos b];constructor
  ·rintro⟨f,c⟩;refine⟨f,fun e he hb => ?_⟩;rcases c e (by simpa using he) with h | h
   ·rw[hb] at h;cases h
   ·have:=Nat.le_of_ble_eq_true h.1;rw[if_pos (by omega)];exact h.2
  ·rintro⟨f,c⟩;refine⟨f,fun e he=>?_⟩
   cases hb:Region.binds .any e with
   | false=>exact .inl rfl
   | true =>
    right;have a:=c e (by simpa using he) hb;by_cases d:e.on < ops.size
    ·rw[if_pos d] at a;exact⟨by simp only[Nat.blt];exact Nat.ble_eq_true_of_le d,a⟩
    ·rw[if_neg d] at a;cases a
def gu(ops:Array Oper)(L:List Nat):List Nat:=(List.range ops.size).filter (yy ops L)
theorem kL(ops:Array Oper)(L:List Nat):Region.ready .any ops (arr ops.size L)=gu ops L:=by
 have hm:∀ j,j∈Region.ready .any ops (arr ops.size L)<->yy ops L j=true:=fun j=>nD.symm
 unfold Region.ready at hm ⊢;unfold gu;refine List.filter_congr fun j a=>?_
 have:=hm j;rw[List.mem_filter] at this;simp only[a,true_and] at this;exact Bool.eq_iff_iff.2 this
def DO(o:Oper)(i:Nat):Bool:=o.after.toList.any fun e=>Region.binds .any e && Nat.beq e.on i
def Fk(ops : Array Oper)(i : Nat) : Bool := match ops[i]? with
  | none=>false
  | some oi => (List.range ops.size).all fun j => Nat.beq j i || match ops[j]? with
      | some oj=>DO oj i || DO oi j || oi.apart ops oj
      | none=>true
def okR(ops:Array Oper)(_Z:Nat->Bool):Bool:=Region.noSelect ops && (List.range ops.size).all (Fk ops)
theorem yG(h:okR ops Z=true){p:Oper}(hi:ops[i]?=some p)(s:yy ops L i=true)(j:Nat)(n:Oper)(r:ops[j]?=some n)(l:j≠i)(c:(arr ops.size L).getD j true=false)(g:∀ e∈n.after,Region.binds .any e=true->e.on≠i):p.apart ops n=true:=by
 simp only[okR,Bool.and_eq_true,List.all_eq_true,List.mem_range] at h
 have k:i < ops.size:=(Array.getElem?_eq_some_iff.1 hi).1
 have b:j < ops.size:=(Array.getElem?_eq_some_iff.1 r).1;have o:=h.2 i k;simp only[Fk,hi,List.all_eq_true,List.mem_range] at o;have a:=o j b;rw[AQ l,r] at a;simp only[Bool.false_or,Bool.or_eq_true] at a;rcases a with(a | a) | a
 ·simp only[DO,List.any_eq_true,Bool.and_eq_true] at a;obtain⟨e,he,hb,m⟩:=a;exact absurd (Nat.eq_of_beq_eq_true m) (g e (by simpa using he) hb)
 ·simp only[DO,List.any_eq_true,Bool.and_eq_true] at a;obtain⟨e,he,hb,m⟩:=a;have e1:=Nat.eq_of_beq_eq_true m;obtain⟨-,t,d,f⟩:=mem_ready.1 (nD.1 s);rw[hi] at d
  cases d;have q:=f e (by simpa using he) hb;rw[e1,qw,if_pos b] at q;rw[qw,if_pos b] at c;rw[q] at c
  cases c
 ·exact a
theorem Ds(h:okR ops Z=true):Region.noSelect ops=true:=by
 simp only[okR,Bool.and_eq_true] at h;exact h.1
def uz(n:Nat)(l:Fr)(ops:Array Oper)(L:List Nat)(i:Nat)(d:Option Nat):Bool:=yy ops L i && Nat.blt i ops.size && chk n l (ops.getD i default) d
theorem qI(h:Nat.blt a b=true):a < b:=Nat.le_of_ble_eq_true h
end
section
variable {P:Program} {n:Nat} {ds:List Deferred} {ops:Array Oper} {Q:Exit->Act->World->Prop} {S:World->Prop} {Z:Nat->Bool} {fuel:Nat} {L:List Nat} {l:Fr} {w:World}
section
variable {rs:List Nat}{Qc:Ending->World->Prop}
structure GZ(P:Program)(n:Nat)(ds:List Deferred)(ops:Array Oper)(Q:Exit->Act->World->Prop)(S:World->Prop)(Z:Nat->Bool)(fuel:Nat)(L:List Nat)(l:Fr)(w:World):Prop where
 out:okR ops Z=true->S w->∀ a,Rd n ds l a->iG P .any ops Q S Z fuel (arr ops.size L) a w
theorem bI{id:Nat}(S:World->Prop)(Z:Nat->Bool)(hS:S w.drew)(h:GZ P n ds ops Q S Z ops.size [] l w.drew)(hm:P.follows .mixedOrders=true:=by kernel_rfl)(ok:okR ops Z=true:=by kernel_rfl):GC P n ds (Code.region id ops true) Q l w:=⟨fun a r =>
 wp_region_held_drew (S:=fun _=>True) hm trivial fun _=>sm _ _ _ _ (by have:=h.out ok hS a r;rw[Di] at this;exact this)⟩
theorem jO(i:Nat)(d:Option Nat)(v:Value)(hy:∀ w',S w'->(execOp (evL l) (ops.getD i default)).run P w'=.ok (.value v) w')(p:eY ops Z i=true)(hc:uz n l ops L i d=true)(m:gd ops l (ops.getD i default)=some true)(k:∀ c a w,Q (.panic c) (a.put d v) w->Q (.panic c) a w)(h:GZ P n ds ops Q S Z fuel (i :: L) (pt l d v) w):GZ P n ds ops Q S Z (fuel + 1) L l w:=⟨fun ok hS a r=>by
 simp only[uz,Bool.and_eq_true] at hc;obtain⟨⟨g,b⟩,f⟩:=hc;have b:=qI b;obtain⟨j,o⟩:=jC f;refine rf (v:=v) (yD p) (cC b) (Region.noSelect_spec (Ds ok)) (by rw[j];exact k) fuel _ a w (yG ok (cC b) g) (nD.1 g) (.inl ⟨fw r m,fun w' e=>by rw[iO f r];exact hy w' e⟩) hS ?_
 rw[j,jj L b]
 exact h.out ok hS _ (r.put d v o)⟩
theorem bB(h:GE n ds Q .normal l w)(b:gu ops L=[]:=by kernel_rfl):GZ P n ds ops Q S Z fuel L l w:=⟨fun _ _ a r=>by
 have b:=(kL ops L).trans b
 cases fuel with
 | zero=>exact⟨b,h.out a r⟩
 | succ _=>exact⟨fun _=>h.out a r,by rw[b];simp⟩⟩
structure GA(P:Program)(n:Nat)(ds:List Deferred)(ops:Array Oper)(Q:Exit->Act->World->Prop)(S:World->Prop)(Z:Nat->Bool)(fuel:Nat)(L:List Nat)(l:Fr)(w:World)(rs:List Nat):Prop where
 out:okR ops Z=true->S w->∀ a,Rd n ds l a->∀ i∈rs,wpOp P ops Q i (fun a' w'=>(Z i=true\/S w'\/w'=w)/\iG P .any ops Q S Z fuel ((arr ops.size L).setIfInBounds i true) a' w') a w
theorem eX(rs:List Nat)(h:GA P n ds ops Q S Z fuel L l w rs)(c:gu ops L=rs:=by kernel_rfl)(b:rs≠[]:=by decide):GZ P n ds ops Q S Z (fuel + 1) L l w:=⟨fun ok hS a r =>
 ⟨fun d=>absurd (((kL ops L).trans c).symm.trans d) b,fun i hi=>h.out ok hS a r i (by rw[<- c,<- kL];exact hi)⟩⟩
theorem iS:GA P n ds ops Q S Z fuel L l w []:=⟨fun _ _ _ _ _ h=>by cases h⟩
def lD(n:Nat)(l:Fr)(ops:Array Oper)(i:Nat)(d:Option Nat):Bool:=Nat.blt i ops.size && chk n l (ops.getD i default) d
theorem qA(i:Nat)(h:okR ops Z=true->S w->∀ a,Rd n ds l a->wpOp P ops Q i (fun a' w'=>(Z i=true\/S w'\/w'=w)/\iG P .any ops Q S Z fuel ((arr ops.size L).setIfInBounds i true) a' w') a w)(c:GA P n ds ops Q S Z fuel L l w rs):GA P n ds ops Q S Z fuel L l w (i :: rs):=⟨fun ok hS a r j b=>by
 rcases List.mem_cons.1 b with rfl | b
 ·exact h ok hS a r
 ·exact c.out ok hS a r j b⟩
theorem jA(i:Nat)(d:Option Nat)(f:FuncId)(args:Array Value)(b:Calls P f args w Qc)(m:∀ e w',Qc e w'->∃ v,e=.returned v/\S w'/\GZ P n ds ops Q S Z fuel (i :: L) (pt l d v) w')(q:GA P n ds ops Q S Z fuel L l w rs)(hc:lD n l ops i d=true:=by kernel_rfl)(k:gd ops l (ops.getD i default)=some true:=by kernel_rfl)(c:(execOp (evL l) (ops.getD i default)).run P w=.ok (.enter f args) w:=by kernel_rfl):GA P n ds ops Q S Z fuel L l w (i :: rs):=by
 simp only[lD,Bool.and_eq_true] at hc;obtain⟨h,j⟩:=hc;have h:=qI h;obtain⟨s,o⟩:=jC j;refine qA i (fun ok _ a r=>wpOp_step (cC h) fun K p=>?_) q;rw[if_pos (fw r k)];unfold Oper.wp;rw[iO j r,c];refine b.mono fun e w' he=>?_
 obtain⟨v,rfl,g,hw⟩:=m e w' he
 show K (a.put (ops.getD i default).dst v) w'
 rw[s];refine p _ _ ⟨.inr (.inl g),?_⟩;rw[jj L h];exact hw.out ok g _ (r.put d v o)
theorem uF(i:Nat)(d:Option Nat)(v:Value)(w1:World)(c:(execOp (evL l) (ops.getD i default)).run P w=.ok (.value v) w1)(b:S w1)(h:GZ P n ds ops Q S Z fuel (i :: L) (pt l d v) w1)(m:GA P n ds ops Q S Z fuel L l w rs)(hc:lD n l ops i d=true:=by kernel_rfl)(g:gd ops l (ops.getD i default)=some true:=by kernel_rfl):GA P n ds ops Q S Z fuel L l w (i :: rs):=by
 simp only[lD,Bool.and_eq_true] at hc;obtain⟨e,f⟩:=hc;have e:=qI e;obtain⟨o,j⟩:=jC f;refine qA i (fun ok _ a r=>wpOp_step (cC e) fun K k=>?_) m;rw[if_pos (fw r g)];unfold Oper.wp;rw[iO f r,c]
 show K (a.put (ops.getD i default).dst v) w1
 rw[o];refine k _ _ ⟨.inr (.inl b),?_⟩;rw[jj L e];exact h.out ok b _ (r.put d v j)
theorem CJ(i:Nat)(w1:World)(c:(execOp (evL l) (ops.getD i default)).run P w=.ok .skip w1)(b:S w1)(h:GZ P n ds ops Q S Z fuel (i :: L) l w1)(j:GA P n ds ops Q S Z fuel L l w rs)(hc:lD n l ops i none=true:=by kernel_rfl)(f:gd ops l (ops.getD i default)=some true:=by kernel_rfl):GA P n ds ops Q S Z fuel L l w (i :: rs):=by
 simp only[lD,Bool.and_eq_true] at hc;obtain⟨d,e⟩:=hc;have d:=qI d;obtain⟨k,m⟩:=jC e;refine qA i (fun ok _ a r=>wpOp_step (cC d) fun K g=>?_) j;rw[if_pos (fw r f)];unfold Oper.wp;rw[iO e r,c]
 show K (a.put (ops.getD i default).dst undef) w1
 rw[k];refine g _ _ ⟨.inr (.inl b),?_⟩;rw[jj L d];exact h.out ok b _ r
theorem z(i d:Nat)(v:Value)(h:GZ P n ds ops Q S Z fuel (i :: L) ((d,v) :: l) w)(g:eY ops Z i=true:=by kernel_rfl)(hc:uz n l ops L i (some d)=true:=by kernel_rfl)(f:gd ops l (ops.getD i default)=some true:=by kernel_rfl)(e:∀ c a w,Q (.panic c) (a.put (some d) v) w->Q (.panic c) a w:=by exact fun _ _ _ h=>h)(b:∀ w',S w'->(execOp (evL l) (ops.getD i default)).run P w'=.ok (.value v) w':=by exact fun _ _=>by kernel_rfl):GZ P n ds ops Q S Z (fuel+1) L l w:=jO i (some d) v b g hc f e h
theorem zr(i d:Nat)(v:Value)(b:∀ w',S w'->(execOp (evL l) (ops.getD i default)).run P w'=.ok (.value v) w')(h:GZ P n ds ops Q S Z fuel (i :: L) ((d,v) :: l) w)(g:eY ops Z i=true:=by kernel_rfl)(hc:uz n l ops L i (some d)=true:=by kernel_rfl)(f:gd ops l (ops.getD i default)=some true:=by kernel_rfl)(e:∀ c a w,Q (.panic c) (a.put (some d) v) w->Q (.panic c) a w:=by exact fun _ _ _ h=>h):GZ P n ds ops Q S Z (fuel+1) L l w:=jO i (some d) v b g hc f e h
theorem zq(i d:Nat)(v e:Value)(j:v=e)(h:GZ P n ds ops Q S Z fuel (i :: L) ((d,e) :: l) w)(k:eY ops Z i=true:=by kernel_rfl)(hc:uz n l ops L i (some d)=true:=by kernel_rfl)(g:gd ops l (ops.getD i default)=some true:=by kernel_rfl)(f:∀ c a w,Q (.panic c) (a.put (some d) e) w->Q (.panic c) a w:=by exact fun _ _ _ h=>h)(b:∀ w',S w'->(execOp (evL l) (ops.getD i default)).run P w'=.ok (.value v) w':=by exact fun _ _=>by kernel_rfl):GZ P n ds ops Q S Z (fuel+1) L l w:=by
 subst j;exact jO i (some d) v b k hc g f h
theorem zc(i d:Nat)(f:FuncId)(args:Array Value)(a:Calls P f args w Qc)(h:∀ e w',Qc e w'->∃ v,e=.returned v/\S w'/\GZ P n ds ops Q S Z fuel (i :: L) ((d,v) :: l) w')(c:gu ops L=[i]:=by kernel_rfl)(hc:lD n l ops i (some d)=true:=by kernel_rfl)(g:gd ops l (ops.getD i default)=some true:=by kernel_rfl)(b:(execOp (evL l) (ops.getD i default)).run P w=.ok (.enter f args) w:=by kernel_rfl):GZ P n ds ops Q S Z (fuel+1) L l w:=eX [i] (jA i (some d) f args a h iS hc g b) c (by simp)
theorem zw(i d:Nat)(v:Value)(w1:World)(a:(execOp (evL l) (ops.getD i default)).run P w=.ok (.value v) w1)(b:S w1)(h:GZ P n ds ops Q S Z fuel (i :: L) ((d,v) :: l) w1)(c:gu ops L=[i]:=by kernel_rfl)(hc:lD n l ops i (some d)=true:=by kernel_rfl)(e:gd ops l (ops.getD i default)=some true:=by kernel_rfl):GZ P n ds ops Q S Z (fuel+1) L l w:=eX [i] (uF i (some d) v w1 a b h iS hc e) c (by simp)
theorem zv(i:Nat)(w1:World)(a:(execOp (evL l) (ops.getD i default)).run P w=.ok .skip w1)(b:S w1)(h:GZ P n ds ops Q S Z fuel (i :: L) l w1)(c:gu ops L=[i]:=by kernel_rfl)(hc:lD n l ops i none=true:=by kernel_rfl)(d:gd ops l (ops.getD i default)=some true:=by kernel_rfl):GZ P n ds ops Q S Z (fuel+1) L l w:=eX [i] (CJ i w1 a b h iS hc d) c (by simp)
end
end
section
variable {w:World}{g:Nat}{cs vs:List Value}{v x:Value}
abbrev pg(g:Nat):Value:=.pointer (some ⟨g,0,none⟩)
abbrev iU(x:Int):Value:=.int .u64 x
abbrev iI(x:Int):Value:=.int .i64 x
abbrev bT:Value:=.bool true
abbrev bF:Value:=.bool false
abbrev pq(g o:Nat):Value:=.pointer (some ⟨g,o,none⟩)
abbrev sg(n g:Nat):Value:=.slice (some ⟨g,0,none⟩) n n
def zN(P:Program)(T:TypeId)(n:Nat):Bool:=(match P.underlying T with | some d=>d.isRow | none=>false) && ((P.info? T).map (·.size) == some n)
theorem l1{P:Program}{t T:TypeId}(X:Blk w g cs t)(o:Nat)(a:cs[o]?=some v:=by rfl)(b:∀ w,(isAgg T).run P w=.ok false w:=by exact fun _=>by kernel_rfl):(loadVar T ⟨g,o,none⟩).run P w=.ok v w:=by
 have h:=X.cell a;simp[loadVar,b,h]
theorem lr{P:Program}{t T:TypeId}(X:Blk w g cs t)(o:Nat)(e:(cs.drop o).take vs.length=vs:=by rfl)(hc:zN P T vs.length=true:=by kernel_rfl):(loadVar T ⟨g,o,none⟩).run P w=.ok (.agg vs.toArray) w:=by
 simp only[zN,Bool.and_eq_true,beq_iff_eq] at hc;obtain⟨b,c⟩:=hc
 cases hu:P.underlying T with
 | none=>rw[hu] at b;cases b
 | some d =>
  rw[hu] at b;refine run_loadVar_mid w g o T vs d (fun j v a=>?_) hu b c;refine X.cell ?_
  rw[<- e] at a;rw[List.getElem?_take] at a;split at a
  ·rw[List.getElem?_drop] at a;exact a
  ·cases a
def spl(cs:List Value)(o:Nat)(vs:List Value):List Value:=cs.take o ++ vs ++ cs.drop (o+vs.length)
theorem iF(b:Nat):∀ (vs:List Value) (o:Nat) (w:World) (k:Nat),k≠b->(w.setCells b o vs).heap[k]?=w.heap[k]?
 | [],_,_,_,_=>rfl
 | v :: r,o,w,k,h=>by
  rw[World.setCells,iF b r (o+1) _ k h,Below.heap_setCell w ⟨b,o,none⟩ v k h]
theorem iC(b:Nat):∀ (vs:List Value) (o:Nat) (w:World),(w.setCells b o vs).heap.size=w.heap.size
 | [],_,_=>rfl
 | v :: r,o,w=>by rw[World.setCells,iC b r (o+1)];simp[World.setCell]
theorem ew(b:Nat):∀ (vs:List Value) (o:Nat) (w:World),(w.setCells b o vs).os=w.os/\(w.setCells b o vs).tape=w.tape/\(w.setCells b o vs).output=w.output
 | [],_,_=>⟨rfl,rfl,rfl⟩
 | v :: r,o,w=>by rw[World.setCells];exact ew b r (o+1) _
theorem gg{t:TypeId}:∀ (vs:List Value) (o:Nat) (cs:List Value) (w:World),Blk w g cs t->o+vs.length<=cs.length->Blk (w.setCells g o vs) g (spl cs o vs) t
 | [],o,cs,w,X,_=>by simpa[World.setCells,spl] using X
 | v :: r,o,cs,w,X,h=>by
  rw[World.setCells]
  have h':o+1+r.length<=(cs.set o v).length:=by simp at h ⊢;omega
  have:=gg r (o+1) (cs.set o v) _ (X.setCell (i:=o) v) h'
  have e:spl (cs.set o v) (o+1) r=spl cs o (v :: r):=by
   simp only[List.length_cons] at h;unfold spl;rw[List.drop_set_of_lt (by omega),List.take_set,List.take_add_one,List.set_append]
   have a:(cs.take o).length=o:=by rw[List.length_take];omega
   rw[a,if_neg (by omega),Nat.sub_self];obtain⟨y,hy⟩:∃ y,cs[o]?=some y:=⟨_,List.getElem?_eq_getElem (by omega)⟩
   rw[hy];simp;omega
  rw[e] at this;exact this
theorem pE{P:Program}{o:Nat}{t T:TypeId}(X:Blk w g cs t)(hx:x.cells.toList=vs)(hi:((P.info? T).map (·.size) == some vs.length)=true)(a:vs.all (·.oneCell')=true)(hb:o+vs.length<=cs.length):(storeVar T ⟨g,o,none⟩ x).run P w=.ok () (w.setCells g o vs):=by
 have:=run_storeCells_cells (P:=P) g o vs 0 w (fun j e=>by
   have:=X.cell (i:=o+j) (List.getElem?_eq_getElem (by omega))
   simpa using (by rw[this];rfl:(w.cell? ⟨g,o+j,none⟩).isSome=true)) (fun j _=>by simpa using X.free (o+j))
  (fun v d=>List.all_eq_true.1 a v d)
 cases hq:P.info? T with
 | none=>rw[hq] at hi;cases hi
 | some i =>
  rw[hq] at hi
  have c:i.size=vs.length:=by simpa using hi
  have b:x.cells.size=i.size:=by rw[c,<- hx];simp
  simp only[Nat.add_zero] at this;simp[storeVar,sizeOf,typeInfo,hq,b,hx,this]
end
section
variable {P:Program} {n:Nat} {ds:List Deferred} {ops:Array Oper} {rest:List Oper} {o o1 o2:Oper} {l:Fr} {w w1:World} {Q Q':Exit->Act->World->Prop} {K:Act->World->Prop} {S:World->Prop} {Z:Nat->Bool} {fuel:Nat} {L:List Nat}
section
variable {ρ:Operand->Value}{g off:Nat}{cs vs:List Value}{x v:Value}{rs:List Nat}
theorem vi{t:TypeId}(X:Blk w g cs t)(a:∃ T p q,o.op=.store T p q/\ρ p=.pointer (some ⟨g,off,none⟩)/\ρ q=x/\((P.info? T).map (·.size) == some vs.length)=true)(hx:x.cells.toList=vs)(d:vs.all (·.oneCell')=true)(hb:Nat.ble (off+vs.length) cs.length=true):(execOp ρ o).run P w=.ok .skip (w.setCells g off vs):=by
 obtain⟨T,p,q,h,b,c,hi⟩:=a;simp only[execOp,h,b,c,Instr.storeAt,Instr.sureAddr,Sem.run_bind,Sem.run_pure,Result.andThen_ok,pE X hx hi d (Nat.le_of_ble_eq_true hb)]
theorem ji(g off:Nat)(vs:List Value):Chg (·=g) w (w.setCells g off vs):=⟨(ew g vs off w).1,(ew g vs off w).2.1,(ew g vs off w).2.2,by rw[iC];exact Nat.le_refl _,fun b _ hb=>iF g vs off w b hb⟩
theorem lY{t:TypeId}(X:Blk w g cs t)(d:cs[off]?=some v)(b:∃ T p,o.op=.load T p/\ρ p=.pointer (some ⟨g,off,none⟩)/\∀ w,(isAgg T).run P w=.ok false w):(execOp ρ o).run P w=.ok (.value v) w:=by
 obtain⟨T,p,h,a,c⟩:=b;have:=l1 (P:=P) (T:=T) X off d c;simp only[execOp,h,a];simp[Instr.loadAt,Instr.sureAddr,Result.andThen,this]
theorem vH{t:TypeId}(X:Blk w g cs t)(c:(cs.drop off).take vs.length=vs)(b:∃ T p,o.op=.load T p/\ρ p=.pointer (some ⟨g,off,none⟩)/\zN P T vs.length=true):(execOp ρ o).run P w=.ok (.value (.agg vs.toArray)) w:=by
 obtain⟨T,p,h,a,d⟩:=b;have:=lr (P:=P) (T:=T) X off c d;simp only[execOp,h,a];simp[Instr.loadAt,Instr.sureAddr,Result.andThen,this]
theorem tl(d:Nat)(v:Value){t:TypeId}(X:Blk w g cs t)(off:Nat)(h:GL P n ds ops Q rest ((d,v) :: l) w)(c:cs[off]?=some v:=by rfl)(a:∃ T p,o.op=.load T p/\evL l p=.pointer (some ⟨g,off,none⟩)/\∀ w,(isAgg T).run P w=.ok false w:=by exact⟨_,_,rfl,by kernel_rfl,fun _=>by kernel_rfl⟩)(b:gd ops l o=some true:=by kernel_rfl)(hc:chk n l o (some d)=true:=by kernel_rfl):GL P n ds ops Q (o :: rest) l w:=iR (some d) v b hc (lY X c a) h
theorem tlr(d:Nat)(vs:List Value){t:TypeId}(X:Blk w g cs t)(off:Nat)(h:GL P n ds ops Q rest ((d,.agg vs.toArray) :: l) w)(b:(cs.drop off).take vs.length=vs:=by rfl)(a:∃ T p,o.op=.load T p/\evL l p=.pointer (some ⟨g,off,none⟩)/\zN P T vs.length=true:=by exact⟨_,_,rfl,by kernel_rfl,by kernel_rfl⟩)(c:gd ops l o=some true:=by kernel_rfl)(hc:chk n l o (some d)=true:=by kernel_rfl):GL P n ds ops Q (o :: rest) l w:=iR (some d) _ c hc (vH X b a) h
theorem zl(i d:Nat)(v:Value){t:TypeId}(X:∀ w',S w'->Blk w' g cs t)(off:Nat)(h:GZ P n ds ops Q S Z fuel (i :: L) ((d,v) :: l) w)(k:cs[off]?=some v:=by rfl)(e:∃ T p,(ops.getD i default).op=.load T p/\evL l p=.pointer (some ⟨g,off,none⟩)/\∀ w,(isAgg T).run P w=.ok false w:=by exact⟨_,_,rfl,by kernel_rfl,fun _=>by kernel_rfl⟩)(m:eY ops Z i=true:=by kernel_rfl)(hc:uz n l ops L i (some d)=true:=by kernel_rfl)(j:gd ops l (ops.getD i default)=some true:=by kernel_rfl)(f:∀ c a w,Q (.panic c) (a.put (some d) v) w->Q (.panic c) a w:=by exact fun _ _ _ h=>h):GZ P n ds ops Q S Z (fuel+1) L l w:=jO i (some d) v (fun w' b=>lY (X w' b) k e) m hc j f h
theorem zlr(i d:Nat)(vs:List Value){t:TypeId}(X:∀ w',S w'->Blk w' g cs t)(off:Nat)(h:GZ P n ds ops Q S Z fuel (i :: L) ((d,.agg vs.toArray) :: l) w)(f:(cs.drop off).take vs.length=vs:=by rfl)(e:∃ T p,(ops.getD i default).op=.load T p/\evL l p=.pointer (some ⟨g,off,none⟩)/\zN P T vs.length=true:=by exact⟨_,_,rfl,by kernel_rfl,by kernel_rfl⟩)(m:eY ops Z i=true:=by kernel_rfl)(hc:uz n l ops L i (some d)=true:=by kernel_rfl)(k:gd ops l (ops.getD i default)=some true:=by kernel_rfl)(j:∀ c a w,Q (.panic c) (a.put (some d) (.agg vs.toArray)) w->Q (.panic c) a w:=by exact fun _ _ _ h=>h):GZ P n ds ops Q S Z (fuel+1) L l w:=jO i (some d) _ (fun w' b=>vH (X w' b) f e) m hc k j h
theorem ta(d:Nat)(vs:List Value)(T:TypeId)(mk:Nat->Value)(h:∀ w1 g,Blk w1 g vs T->w.heap.size<=g->Below w.heap.size w w1->GL P n ds ops Q rest ((d,mk g) :: l) w1)(b:gd ops l o=some true:=by kernel_rfl)(hc:chk n l o (some d)=true:=by kernel_rfl)(a:(execOp (evL l) o).run P w=.ok (.value (mk w.heap.size)) (w.alloc (.cells vs.toArray T)):=by kernel_rfl):GL P n ds ops Q (o :: rest) l w :=
 iR (some d) _ b hc a (h _ _ (aj w vs T) (Nat.le_refl _) (af w _))
theorem ts{t:TypeId}(X:Blk w g cs t)(off:Nat)(x:Value)(vs a:List Value)(h:∀ w1,Blk w1 g a t->Chg (·=g) w w1->GL P n ds ops Q rest l w1)(hx:x.cells.toList=vs:=by rfl)(d:vs.all (·.oneCell')=true:=by rfl)(hb:Nat.ble (off+vs.length) cs.length=true:=by rfl)(he:spl cs off vs=a:=by rfl)(b:∃ T p q,o.op=.store T p q/\evL l p=.pointer (some ⟨g,off,none⟩)/\evL l q=x/\((P.info? T).map (·.size) == some vs.length)=true:=by exact⟨_,_,_,rfl,by kernel_rfl,by kernel_rfl,by kernel_rfl⟩)(c:gd ops l o=some true:=by kernel_rfl)(hc:chk n l o none=true:=by kernel_rfl):GL P n ds ops Q (o :: rest) l w:=by
 refine Cu c hc (vi X b hx d hb) (h _ ?_ (ji g off vs));rw[<- he];exact gg vs off cs w X (Nat.le_of_ble_eq_true hb)
theorem za(i d:Nat)(vs:List Value)(T:TypeId)(mk:Nat->Value)(h:∀ w1 g,Blk w1 g vs T->w.heap.size<=g->Below w.heap.size w w1->S w1/\GZ P n ds ops Q S Z fuel (i :: L) ((d,mk g) :: l) w1)(b:gu ops L=[i]:=by kernel_rfl)(c:gd ops l (ops.getD i default)=some true:=by kernel_rfl)(hc:lD n l ops i (some d)=true:=by kernel_rfl)(a:(execOp (evL l) (ops.getD i default)).run P w=.ok (.value (mk w.heap.size)) (w.alloc (.cells vs.toArray T)):=by kernel_rfl):GZ P n ds ops Q S Z (fuel+1) L l w:=by
 have H:=h _ _ (aj w vs T) (Nat.le_refl _) (af w _);exact zw i d _ _ a H.1 H.2 b hc c
theorem zaa(i d:Nat)(vs:List Value)(T:TypeId)(mk:Nat->Value)(h:∀ w1 g,Blk w1 g vs T->w.heap.size<=g->Below w.heap.size w w1->S w1/\GZ P n ds ops Q S Z fuel (i :: L) ((d,mk g) :: l) w1)(c:GA P n ds ops Q S Z fuel L l w rs)(b:gd ops l (ops.getD i default)=some true:=by kernel_rfl)(hc:lD n l ops i (some d)=true:=by kernel_rfl)(a:(execOp (evL l) (ops.getD i default)).run P w=.ok (.value (mk w.heap.size)) (w.alloc (.cells vs.toArray T)):=by kernel_rfl):GA P n ds ops Q S Z fuel L l w (i :: rs):=by
 have H:=h _ _ (aj w vs T) (Nat.le_refl _) (af w _);exact uF i (some d) _ _ a H.1 H.2 c hc b
theorem zs(i:Nat){t:TypeId}(X:Blk w g cs t)(off:Nat)(x:Value)(vs a:List Value)(h:∀ w1,Blk w1 g a t->Chg (·=g) w w1->S w1/\GZ P n ds ops Q S Z fuel (i :: L) l w1)(hx:x.cells.toList=vs:=by rfl)(d:vs.all (·.oneCell')=true:=by rfl)(hb:Nat.ble (off+vs.length) cs.length=true:=by rfl)(he:spl cs off vs=a:=by rfl)(b:∃ T p q,(ops.getD i default).op=.store T p q/\evL l p=.pointer (some ⟨g,off,none⟩)/\evL l q=x/\((P.info? T).map (·.size) == some vs.length)=true:=by exact⟨_,_,_,rfl,by kernel_rfl,by kernel_rfl,by kernel_rfl⟩)(e:gu ops L=[i]:=by kernel_rfl)(c:gd ops l (ops.getD i default)=some true:=by kernel_rfl)(hc:lD n l ops i none=true:=by kernel_rfl):GZ P n ds ops Q S Z (fuel+1) L l w:=by
 have Y:=gg vs off cs w X (Nat.le_of_ble_eq_true hb);rw[he] at Y;have H:=h _ Y (ji g off vs);exact zv i _ (vi X b hx d hb) H.1 H.2 e hc c
end
end
section
variable {z:Int}{ρ:Operand->Value}{w:World}
theorem wi(h:-9223372036854775808<=z/\z < 9223372036854775808):Value.int .i64 (IntKind.i64.wrap z)=.int .i64 z:=by rw[IntKind.wrap_i64];congr 1;omega
theorem wu(h:0<=z/\z < 18446744073709551616):Value.int .u64 (IntKind.u64.wrap z)=.int .u64 z:=by rw[IntKind.wrap_u64];congr 1;omega
def slT(P:Program)(T:TypeId)(sz:Nat):Bool:=match P.underlying T with
 | some (.slice e)=>(P.info? e).map (·.size) == some sz
 | _=>false
theorem Eo{P:Program}{o:Oper}(g b off n c k:Nat)(q:k < n)(m:∃ T x y,o.op=.indexAddr T x y/\slT P T g=true/\ρ x=.slice (some ⟨b,off,none⟩) n c/\ρ y=.int .i64 (k:Int):=by exact⟨_,_,_,rfl,by kernel_rfl,by kernel_rfl,by kernel_rfl⟩):(execOp ρ o).run P w=.ok (.value (.pointer (some ⟨b,off+k * g,none⟩))) w:=by
 obtain⟨T,x,y,j,f,l,p⟩:=m
 have r:(k:Int) < n:=by omega
 have s:¬ ((k:Int) < 0):=by omega
 unfold slT at f
 cases hu:P.underlying T with
 | none=>rw[hu] at f;cases f
 | some d =>
  rw[hu] at f
  cases d with
  | slice e =>
   simp only[beq_iff_eq] at f
   cases hi:P.info? e with
   | none=>rw[hi] at f;cases f
   | some i =>
    rw[hi] at f;simp at f;simp only[execOp,j,l,p];go_simp;simp[sizeOf,typeInfo,hi,f]
  | _=>cases f
theorem aS{w0 w1:World}{g:Nat}(B:Below w0.heap.size w0 w)(C:Chg (·=g) w w1)(h:w0.heap.size<=g):Below w0.heap.size w0 w1:=B.trans (C.below (fun b e=>by have e':b=g:=e;omega) B.size)
end
end Gl
end
section
namespace Rc
open Go.RowKit Go.Lib Pg Lim Gl
section
variable {xs:Nat->Int}{w w':World}{b g B n c T bb:Nat}{cs:List Value}{l:List Int}{ao:Option Addr}{x:Int}{e:Ending}
def aV(s:RSt):Int:=if dF s.1 s.2.1=0 then 0 else 80
def aT(s:RSt):Nat->Int:=if dF s.1 s.2.1=0 then s.2.2 else fun _=>0
theorem lP{s:RSt}(h:aV s=0):aT s=s.2.2:=by
 unfold aV at h;unfold aT;split at h
 ·rename_i h';rw[if_pos h']
 ·cases h
theorem lJ{s:RSt}(h:¬ aV s=0):aT s=fun _=>0:=by
 unfold aV at h;unfold aT;split at h
 ·exact absurd rfl h
 ·rename_i h';rw[if_neg h']
theorem kE{s:RSt}{r:Int}(b:dF s.1 s.2.1=0->r=0/\xs=s.2.2)(a:dF s.1 s.2.1≠0->r=80/\xs=fun _=>0):xs=aT s/\r=aV s:=by
 unfold aT aV;by_cases h:dF s.1 s.2.1=0
 ·rw[if_pos h,if_pos h];exact⟨(b h).2,(b h).1⟩
 ·rw[if_neg h,if_neg h];exact⟨(a h).2,(a h).1⟩
theorem But.blk{t:TypeId}(h:But b w w')(X:Blk w g cs t)(hn:g≠b):Blk w' g cs t:=X.same (h.block g X.lt hn)
theorem cN(h:Chg (·=g) w w'):But g w w':=⟨h.os,h.tape,h.output,h.size,fun b hb hne=>h.same b hb hne⟩
def u8V:Value->Bool
 | .int .u8 _=>true
 | _=>false
theorem RfA.iZ{g':Nat}{err:Int}{t:TypeId}(h:RfA w g b err l)(X:Blk w g' cs t)(a:cs.any u8V=false)(d:g≠g')(f:But g' w w'):RfA w' g b err l:=by
 obtain⟨i,n,c,Y,A⟩:=h.ex
 exact⟨i,n,c,⟨by rw[f.block g Y.lt d]; exact Y.blk⟩,A.but ⟨X.blk⟩ (fun v j x e=>by
  have:=List.any_eq_false.1 a v j;rw[e] at this
  exact this rfl) f⟩
structure oA(w:World)(B T:Nat)(ao:Option Addr)(n c:Nat)(x:Int):Prop where
 ex:∃ w0:World,w0.heap.size=T/\T<=w.heap.size/\dg w0 B ao n c x/\∀ b,B<=b->b < T->w.heap[b]?=w0.heap[b]?
theorem natX(h:dg w B ao n c x):oA w B w.heap.size ao n c x:=⟨w,rfl,Nat.le_refl _,h,fun _ _ _=>rfl⟩
theorem oA.nat(h:oA w B T ao n c x):dg w B ao n c x:=by
 obtain⟨w0,h1,h2,h3,h4⟩:=h.ex;exact h3.off (by omega) fun b hb hl=>h4 b hb (by omega)
theorem oA.but(h:oA w B T ao n c x)(U:But g w w')(k:g < B\/T<=g):oA w' B T ao n c x:=by
 obtain⟨e,j,d,f,i⟩:=h.ex;exact⟨e,j,Nat.le_trans d U.size,f,fun b hb a=>(U.block b (by omega) (by omega)).trans (i b hb a)⟩
theorem jU{s:RSt}(o:Nat)(h:RfA w g b s.1 s.2.1):Calls Tryz.prog 146 #[pg g,.int .i64 8] w fun e w'=>∃ s',s'=rnx 0 o s/\e=.returned (.int .u64 (s'.2.2 o))/\RfA w' g b s'.1 s'.2.1/\But g w w':=by
 refine(rfU (m:=8) h (by decide)).mono ?_
 rintro e w' ⟨rfl,R,U⟩;refine⟨_,rfl,?_,R,U⟩;simp[rnx,p1]
theorem jD{s:RSt}(o:Nat)(h:RfA w g b s.1 s.2.1):Calls Tryz.prog 153 #[pg g] w fun e w'=>∃ s',s'=rnx 2 o s/\∃ a n c,e=.returned (.agg #[.slice a n c])/\dg w' w.heap.size a n c (s'.2.2 o)/\n<=510/\RfA w' g b s'.1 s'.2.1/\But g w w':=by
 refine(rfDecW h).mono ?_
 rintro e w' ⟨a,n,c,rfl,N,hn,R,U⟩;refine⟨_,rfl,a,n,c,rfl,?_,hn,R,U⟩;simpa[rnx,p1] using N
theorem vK{s:RSt}(h:RfA w g b s.1 s.2.1):Calls Tryz.prog 147 #[pg g] w fun e w'=>e=.returned (.int .i64 (aV s))/\But g w w':=by
 refine aC (n:=6) Tryz.func147 rfl ?_
 refine ab (ag (t 2 (iI 0) (ae (aa (ab (ab (ag (t 3 (pg g) (tc 4 197 #[pg g] (rfEnd h) ?_)))))))));rintro _ v1 ⟨rfl,-,U⟩;refine⟨_,rfl,?_⟩;by_cases c2:(dF s.1 s.2.1:Int)=0
 ·refine tq 5 (.bool ((dF s.1 s.2.1:Int) != 0)) (bF) (congrArg Value.bool (bne_eq_false_iff_eq.2 c2)) (ae (aa (aW (aK (aa (ab (ag (t 2 (iI 0) (ae (aa (aF (aE (iI 0) (rs1 2 (by kernel_rfl) (by kernel_rfl)) ?_))))))))))));exact⟨by unfold aV;rw[if_pos c2],U⟩
 ·refine tq 5 (.bool ((dF s.1 s.2.1:Int) != 0)) (bT) (congrArg Value.bool (bne_iff_ne.2 c2)) (ae (aa (aP (ab (ag (t 2 (iI 80) (ae (aa (aF (dm (aE (iI 80) (rs1 2 (by kernel_rfl) (by kernel_rfl)) ?_)))))))))));exact⟨by unfold aV;rw[if_neg c2],U⟩
def b8(l:List Int):RSt:=thr rnx [(0,0),(0,1)] (0,l,fun _=>0)
theorem Al{s:RSt}(h:gA w bL 2 mkA s e w'):e=.returned (.tuple #[.agg #[.int .u64 (aT s 0),.int .u64 (aT s 1)],.int .i64 (aV s)])/\Below w.heap.size w w':=by
 obtain⟨⟨cs,xs,r,rfl,g,a,f,c⟩,B⟩:=h;obtain⟨e1,e2⟩:=kE f c;subst e1 e2;have b:=(a 0).1 rfl;have d:=(a 1).1 rfl
 have ecs:cs=[.int .u64 (aT s 0),.int .u64 (aT s 1)]:=by
  refine List.ext_getElem? fun i=>?_
  rcases Nat.lt_or_ge i 2 with hi | hi
  ·match i,hi with
   | 0,_=>exact b
   | 1,_=>exact d
   | n+2,h=>exact absurd h (by omega)
  ·rw[List.getElem?_eq_none (by omega),List.getElem?_eq_none hi]
 subst ecs;exact⟨rfl,B⟩
theorem oChain(A:ByA w bb ao n c l)(hn:n<=1000000000):Calls Tryz.prog 141 #[.slice ao n c] w fun e w'=>e=.returned (.tuple #[.agg #[.int .u64 (aT (b8 l) 0),.int .u64 (aT (b8 l) 1)],.int .i64 (aV (b8 l))])/\Below w.heap.size w w':=by
 refine(xo A hn (by obtain⟨o,a,_⟩:=A.ex;exact a)).mono ?_
 intro e w' h;exact Al h
theorem rChain(A:ByA w bb ao n c l) :
  Calls Tryz.prog 99 #[.slice ao n c] w fun e w'=>e=.returned (.tuple #[.agg #[.int .u64 (aT (b8 l) 0),.int .u64 (aT (b8 l) 1)],.int .i64 (aV (b8 l))])/\Below w.heap.size w w':=by
 have d:=Below.refl w.heap.size w;obtain⟨v,k⟩:∃ s:RSt,(0,l,fun _=>0)=s:=⟨_,rfl⟩
 refine aC (n:=23) Tryz.func99 rfl ?_
 refine ab (ag (ta 2 [iU 0,iU 0] 40 (pg) ?_));intro v1 j a x B;have I:=Nat.le_trans d.size x;replace d:=ai d B;refine t 3 (iI 0) (ae (aa (ab (ag (t 7 (.slice ao n c) (t 8 (.agg #[.slice ao n c,iI 0]) ?_))))));have p:=a.lt;refine ta 9 [.slice ao n c,iI 0] 243 (pg) ?_
 intro G g m u B;have J:=Nat.le_trans d.size u;replace d:=ai d B;replace a:=a.keep B
 have f:RfA G g bb v.1 v.2.1:=by subst k;exact⟨ao,n,c,⟨m.blk⟩,A.keep d⟩
 clear m;have r:=f.lt;refine t 4 (pg g) (ae (aa (ab (ag (t 10 (pg g) (tc 11 146 #[pg g,iI 8] (jU 0 (s:=v) f) ?_))))));rintro _ M ⟨s1,e1,rfl,o,U⟩;refine⟨_,rfl,?_⟩;replace d:=But.below U d (by omega) (Nat.le_refl _);replace a:=But.blk U a (show j≠g by omega);clear U;replace f:=o;clear o;refine t 12 (.agg #[iU (s1.2.2 0),iU 0]) ?_
 have p:=a.lt;have r:=f.lt;refine ta 5 [iU 0,iU 0] 40 (pg) ?_
 intro v6 i b q B;have z:=Nat.le_trans d.size q;replace d:=ai d B;replace a:=a.keep B;replace f:=f.keep B;refine ts b 0 (.agg #[iU (s1.2.2 0),iU 0]) [iU (s1.2.2 0),iU 0] [iU (s1.2.2 0),iU 0] ?_
 intro L Y C;replace d:=aS d C (by omega);replace a:=a.chg C (show j≠i by omega);replace f:=RfA.iZ f b rfl (by omega) (cN C);have b:=Y;refine ae (aa (ab (ag (t 13 (pg g) (tc 14 146 #[pg g,iI 8] (jU 1 (s:=s1) f) ?_)))));rintro _ K ⟨s2,e2,rfl,o,U⟩;refine⟨_,rfl,?_⟩;replace d:=But.below U d (by omega) (Nat.le_refl _);replace a:=But.blk U a (show j≠g by omega);replace b:=But.blk U b (show i≠g by omega);clear U;replace f:=o;clear o;refine t 15 (pq i 1) (ts b 1 (iU (s2.2.2 1)) [iU (s2.2.2 1)] [iU (s1.2.2 0),iU (s2.2.2 1)] ?_);intro v10 Y C;replace d:=aS d C (by omega);replace a:=a.chg C (show j≠i by omega);replace f:=RfA.iZ f b rfl (by omega) (cN C);have b:=Y;refine ae (aa (ab (ag (t 16 (pg g) (tc 17 147 #[pg g] (vK f) ?_)))));rintro _ v11 ⟨rfl,U⟩;refine⟨_,rfl,?_⟩;replace d:=But.below U d (by omega) (Nat.le_refl _);replace a:=But.blk U a (show j≠g by omega);replace b:=But.blk U b (show i≠g by omega);clear U;clear f;refine t 6 (iI (aV s2)) (ae (aa (aG [(2,pg j),(3,iI 0),(5,pg i),(6,iI (aV s2))] (ab (ab (ag (t 18 (iI (aV s2)) ?_)))))));by_cases h:(aV s2:Int)=0
 ·refine tq 19 (.bool ((aV s2:Int) != 0)) (bF) (congrArg Value.bool (bne_eq_false_iff_eq.2 h)) (ae (aa (aW (aK (aa (ab (ag (tlr 22 [iU (s1.2.2 0),iU (s2.2.2 1)] b 0 (ts a 0 (.agg #[iU (s1.2.2 0),iU (s2.2.2 1)]) [iU (s1.2.2 0),iU (s2.2.2 1)] [iU (s1.2.2 0),iU (s2.2.2 1)] ?_)))))))));intro y Y C;replace d:=aS d C (by omega);replace b:=b.chg C (show i≠j by omega);have a:=Y;refine t 3 (iI 0) (ae (aa (aF (aE (.tuple #[.agg #[iU (s1.2.2 0),iU (s2.2.2 1)],iI 0]) (iQ 2 3 (T:=40) (by kernel_rfl) (by kernel_rfl) (by kernel_rfl) (lr a 0)) ?_))))
  have es:s2=(b8 l):=by rw[e2,e1,<- k];rfl
  have H:aV (b8 l)=0:=by rw[<- es];exact h
  have ex:aT (b8 l)=s2.2.2:=by rw[<- es];exact lP h
  clear es
  have F:s1.2.2 0=aT (b8 l) 0:=by rw[ex,e2];rfl
  have E:s2.2.2 1=aT (b8 l) 1:=by rw[ex]
  exact⟨by rw[H,F,E],d⟩
 ·refine tq 19 (.bool ((aV s2:Int) != 0)) (bT) (congrArg Value.bool (bne_iff_ne.2 h)) (ae (aa (aP (ab (ag (t 20 (.agg #[iU 0,iU 0]) (t 21 (iI (aV s2)) (ts a 0 (.agg #[iU 0,iU 0]) [iU 0,iU 0] [iU 0,iU 0] ?_))))))));intro D Y C;replace d:=aS d C (by omega);replace b:=b.chg C (show i≠j by omega);have a:=Y;refine t 3 (iI (aV s2)) (ae (aa (aF (dm (aE (.tuple #[.agg #[iU 0,iU 0],iI (aV s2)]) (iQ 2 3 (T:=40) (by kernel_rfl) (by kernel_rfl) (by kernel_rfl) (lr a 0)) ?_)))))
  have es:s2=(b8 l):=by rw[e2,e1,<- k];rfl
  have ex:aT (b8 l)=fun _=>0:=by rw[<- es];exact lJ h
  rw[es];exact⟨by rw[ex],d⟩
theorem outPool{s:RSt}(h:gA w fx 1 mkA s e w'):∃ a0 n0 c0,e=.returned (.tuple #[.agg #[.slice a0 n0 c0],.int .i64 (aV s)])/\(dg w' w.heap.size a0 n0 c0 (aT s 0)/\n0<=510)/\Below w.heap.size w w':=by
 obtain⟨⟨cs,xs,r,rfl,g,b,d,c⟩,B⟩:=h;obtain⟨e1,e2⟩:=kE d c;subst e1 e2;obtain⟨a0,n0,c0,a,f,j⟩:=(b 0).2.2 rfl
 have ecs:cs=[.slice a0 n0 c0]:=by
  refine List.ext_getElem? fun i=>?_
  rcases Nat.lt_or_ge i 1 with hi | hi
  ·match i,hi with
   | 0,_=>exact a
   | n+1,h=>exact absurd h (by omega)
  ·rw[List.getElem?_eq_none (by omega),List.getElem?_eq_none hi]
 subst ecs;exact⟨a0,n0,c0,rfl,⟨f,by omega⟩,B⟩
def im(l:List Int):RSt:=thr rnx [(0,0),(0,1)] (0,l,fun _=>0)
theorem outHistory{s:RSt}(h:gA w uU 2 mkA s e w'):∃ a0 n0 c0,e=.returned (.tuple #[.agg #[.slice a0 n0 c0,.int .u64 (aT s 1)],.int .i64 (aV s)])/\(dg w' w.heap.size a0 n0 c0 (aT s 0)/\n0<=510)/\Below w.heap.size w w':=by
 obtain⟨⟨cs,xs,r,rfl,j,a,f,c⟩,B⟩:=h;obtain⟨e1,e2⟩:=kE f c;subst e1 e2;obtain⟨a0,n0,c0,b,g,k⟩:=(a 0).2.2 rfl;have d:=(a 1).1 rfl
 have ecs:cs=[.slice a0 n0 c0,.int .u64 (aT s 1)]:=by
  refine List.ext_getElem? fun i=>?_
  rcases Nat.lt_or_ge i 2 with hi | hi
  ·match i,hi with
   | 0,_=>exact b
   | 1,_=>exact d
   | n+2,h=>exact absurd h (by omega)
  ·rw[List.getElem?_eq_none (by omega),List.getElem?_eq_none hi]
 subst ecs;exact⟨a0,n0,c0,rfl,⟨g,by omega⟩,B⟩
def aI(l:List Int):RSt:=thr rnx [(0,0),(0,1),(0,2),(0,3),(0,4),(0,5)] (0,l,fun _=>0)
theorem p8{s:RSt}(h:gA w aM 6 mkA s e w'):e=.returned (.tuple #[.agg #[.int .u64 (aT s 0),.int .u64 (aT s 1),.int .u64 (aT s 2),.int .u64 (aT s 3),.int .u64 (aT s 4),.int .u64 (aT s 5)],.int .i64 (aV s)])/\Below w.heap.size w w':=by
 obtain⟨⟨cs,xs,r,rfl,m,a,k,c⟩,B⟩:=h;obtain⟨e1,e2⟩:=kE k c;subst e1 e2;have b:=(a 0).1 rfl;have d:=(a 1).1 rfl;have l:=(a 2).1 rfl;have f:=(a 3).1 rfl;have j:=(a 4).1 rfl;have g:=(a 5).1 rfl
 have ecs:cs=[.int .u64 (aT s 0),.int .u64 (aT s 1),.int .u64 (aT s 2),.int .u64 (aT s 3),.int .u64 (aT s 4),.int .u64 (aT s 5)]:=by
  refine List.ext_getElem? fun i=>?_
  rcases Nat.lt_or_ge i 6 with hi | hi
  ·match i,hi with
   | 0,_=>exact b
   | 1,_=>exact d
   | 2,_=>exact l
   | 3,_=>exact f
   | 4,_=>exact j
   | 5,_=>exact g
   | n+6,h=>exact absurd h (by omega)
  ·rw[List.getElem?_eq_none (by omega),List.getElem?_eq_none hi]
 subst ecs;exact⟨rfl,B⟩
theorem uH(A:ByA w bb ao n c l)(hn:n<=1000000000):Calls Tryz.prog 96 #[.slice ao n c] w fun e w'=>e=.returned (.tuple #[.agg #[.int .u64 (aT (aI l) 0),.int .u64 (aT (aI l) 1),.int .u64 (aT (aI l) 2),.int .u64 (aT (aI l) 3),.int .u64 (aT (aI l) 4),.int .u64 (aT (aI l) 5)],.int .i64 (aV (aI l))])/\Below w.heap.size w w':=by
 refine(nW A hn (by obtain⟨o,a,_⟩:=A.ex;exact a)).mono ?_
 intro e w' h;exact p8 h
theorem uI(A:ByA w bb ao n c l) :
  Calls Tryz.prog 105 #[.slice ao n c] w fun e w'=>e=.returned (.tuple #[.agg #[.int .u64 (aT (aI l) 0),.int .u64 (aT (aI l) 1),.int .u64 (aT (aI l) 2),.int .u64 (aT (aI l) 3),.int .u64 (aT (aI l) 4),.int .u64 (aT (aI l) 5)],.int .i64 (aV (aI l))])/\Below w.heap.size w w':=by
 have d:=Below.refl w.heap.size w;obtain⟨y,p⟩:∃ s:RSt,(0,l,fun _=>0)=s:=⟨_,rfl⟩
 refine aC (n:=35) Tryz.func105 rfl ?_
 refine ab (ag (ta 2 [iU 0,iU 0,iU 0,iU 0,iU 0,iU 0] 42 (pg) ?_));intro v1 j a F B;have ad:=Nat.le_trans d.size F;replace d:=ai d B;refine t 3 (iI 0) (ae (aa (ab (ag (t 7 (.slice ao n c) (t 8 (.agg #[.slice ao n c,iI 0]) ?_))))));have x:=a.lt;refine ta 9 [.slice ao n c,iI 0] 243 (pg) ?_
 intro M f v E B;have af:=Nat.le_trans d.size E;replace d:=ai d B;replace a:=a.keep B
 have g:RfA M f bb y.1 y.2.1:=by subst p;exact⟨ao,n,c,⟨v.blk⟩,A.keep d⟩
 clear v;have D:=g.lt;refine t 4 (pg f) (ae (aa (ab (ag ?_))));have x:=a.lt;have D:=g.lt;refine ta 5 [iU 0,iU 0,iU 0,iU 0,iU 0,iU 0] 42 (pg) ?_
 intro v5 h b z B;have X:=Nat.le_trans d.size z;replace d:=ai d B;replace a:=a.keep B;replace g:=g.keep B;refine ae (aa (ab (ag (t 10 (pg f) (tc 11 146 #[pg f,iI 8] (jU 0 (s:=y) g) ?_)))));rintro _ v7 ⟨s1,e1,rfl,k,U⟩;refine⟨_,rfl,?_⟩;replace d:=But.below U d (by omega) (Nat.le_refl _);replace a:=But.blk U a (show j≠f by omega);replace b:=But.blk U b (show h≠f by omega);clear U;replace g:=k;clear k;refine t 12 (pg h) (ts b 0 (iU (s1.2.2 0)) [iU (s1.2.2 0)] [iU (s1.2.2 0),iU 0,iU 0,iU 0,iU 0,iU 0] ?_);intro v8 Y C;replace d:=aS d C (by omega);replace a:=a.chg C (show j≠h by omega);replace g:=RfA.iZ g b rfl (by omega) (cN C);have b:=Y;refine ae (aa (ab (ag (t 13 (pg f) (tc 14 146 #[pg f,iI 8] (jU 1 (s:=s1) g) ?_)))));rintro _ v9 ⟨s2,e2,rfl,k,U⟩;refine⟨_,rfl,?_⟩;replace d:=But.below U d (by omega) (Nat.le_refl _);replace a:=But.blk U a (show j≠f by omega);replace b:=But.blk U b (show h≠f by omega);clear U;replace g:=k;clear k;refine t 15 (pq h 1) (ts b 1 (iU (s2.2.2 1)) [iU (s2.2.2 1)] [iU (s1.2.2 0),iU (s2.2.2 1),iU 0,iU 0,iU 0,iU 0] ?_);intro v10 Y C;replace d:=aS d C (by omega);replace a:=a.chg C (show j≠h by omega);replace g:=RfA.iZ g b rfl (by omega) (cN C);have b:=Y;refine ae (aa (ab (ag (t 16 (pg f) (tc 17 146 #[pg f,iI 8] (jU 2 (s:=s2) g) ?_)))));rintro _ v11 ⟨s3,e3,rfl,k,U⟩;refine⟨_,rfl,?_⟩;replace d:=But.below U d (by omega) (Nat.le_refl _);replace a:=But.blk U a (show j≠f by omega);replace b:=But.blk U b (show h≠f by omega);clear U;replace g:=k;clear k;refine t 18 (pq h 2) (ts b 2 (iU (s3.2.2 2)) [iU (s3.2.2 2)] [iU (s1.2.2 0),iU (s2.2.2 1),iU (s3.2.2 2),iU 0,iU 0,iU 0] ?_);intro W Y C;replace d:=aS d C (by omega);replace a:=a.chg C (show j≠h by omega);replace g:=RfA.iZ g b rfl (by omega) (cN C);have b:=Y;refine ae (aa (aG [(2,pg j),(3,iI 0),(4,pg f),(5,pg h)] (ab (ag (t 19 (pg f) (tc 20 146 #[pg f,iI 8] (jU 3 (s:=s3) g) ?_))))));rintro _ G ⟨s4,u,rfl,k,U⟩;refine⟨_,rfl,?_⟩;replace d:=But.below U d (by omega) (Nat.le_refl _);replace a:=But.blk U a (show j≠f by omega);replace b:=But.blk U b (show h≠f by omega);clear U;replace g:=k;clear k;refine t 21 (pq h 3) (ts b 3 (iU (s4.2.2 3)) [iU (s4.2.2 3)] [iU (s1.2.2 0),iU (s2.2.2 1),iU (s3.2.2 2),iU (s4.2.2 3),iU 0,iU 0] ?_);intro S Y C;replace d:=aS d C (by omega);replace a:=a.chg C (show j≠h by omega);replace g:=RfA.iZ g b rfl (by omega) (cN C);have b:=Y;refine ae (aa (ab (ag (t 22 (pg f) (tc 23 146 #[pg f,iI 8] (jU 4 (s:=s4) g) ?_)))));rintro _ I ⟨m,r,rfl,k,U⟩;refine⟨_,rfl,?_⟩;replace d:=But.below U d (by omega) (Nat.le_refl _);replace a:=But.blk U a (show j≠f by omega);replace b:=But.blk U b (show h≠f by omega);clear U;replace g:=k;clear k;refine t 24 (pq h 4) (ts b 4 (iU (m.2.2 4)) [iU (m.2.2 4)] [iU (s1.2.2 0),iU (s2.2.2 1),iU (s3.2.2 2),iU (s4.2.2 3),iU (m.2.2 4),iU 0] ?_);intro J Y C;replace d:=aS d C (by omega);replace a:=a.chg C (show j≠h by omega);replace g:=RfA.iZ g b rfl (by omega) (cN C);have b:=Y;refine ae (aa (ab (ag (t 25 (pg f) (tc 26 146 #[pg f,iI 8] (jU 5 (s:=m) g) ?_)))));rintro _ Q ⟨i,q,rfl,k,U⟩;refine⟨_,rfl,?_⟩;replace d:=But.below U d (by omega) (Nat.le_refl _);replace a:=But.blk U a (show j≠f by omega);replace b:=But.blk U b (show h≠f by omega);clear U;replace g:=k;clear k;refine t 27 (pq h 5) (ts b 5 (iU (i.2.2 5)) [iU (i.2.2 5)] [iU (s1.2.2 0),iU (s2.2.2 1),iU (s3.2.2 2),iU (s4.2.2 3),iU (m.2.2 4),iU (i.2.2 5)] ?_);intro ah Y C;replace d:=aS d C (by omega);replace a:=a.chg C (show j≠h by omega);replace g:=RfA.iZ g b rfl (by omega) (cN C);have b:=Y;refine ae (aa (ab (ag (t 28 (pg f) (tc 29 147 #[pg f] (vK g) ?_)))))
 rintro _ O ⟨rfl,U⟩;refine⟨_,rfl,?_⟩;replace d:=But.below U d (by omega) (Nat.le_refl _);replace a:=But.blk U a (show j≠f by omega);replace b:=But.blk U b (show h≠f by omega);clear U;clear g;refine t 6 (iI (aV i)) (ae (aa (ab (ab (ag (t 30 (iI (aV i)) ?_))))));by_cases o:(aV i:Int)=0
 ·refine tq 31 (.bool ((aV i:Int) != 0)) (bF) (congrArg Value.bool (bne_eq_false_iff_eq.2 o)) (ae (aa (aW (aK (aa (ab (ag (tlr 34 [iU (s1.2.2 0),iU (s2.2.2 1),iU (s3.2.2 2),iU (s4.2.2 3),iU (m.2.2 4),iU (i.2.2 5)] b 0 (ts a 0 (.agg #[iU (s1.2.2 0),iU (s2.2.2 1),iU (s3.2.2 2),iU (s4.2.2 3),iU (m.2.2 4),iU (i.2.2 5)]) [iU (s1.2.2 0),iU (s2.2.2 1),iU (s3.2.2 2),iU (s4.2.2 3),iU (m.2.2 4),iU (i.2.2 5)] [iU (s1.2.2 0),iU (s2.2.2 1),iU (s3.2.2 2),iU (s4.2.2 3),iU (m.2.2 4),iU (i.2.2 5)] ?_)))))))));intro H Y C;replace d:=aS d C (by omega);replace b:=b.chg C (show h≠j by omega);have a:=Y;refine t 3 (iI 0) (ae (aa (aG [(2,pg j),(3,iI 0)] (aF (aE (.tuple #[.agg #[iU (s1.2.2 0),iU (s2.2.2 1),iU (s3.2.2 2),iU (s4.2.2 3),iU (m.2.2 4),iU (i.2.2 5)],iI 0]) (iQ 2 3 (T:=42) (by kernel_rfl) (by kernel_rfl) (by kernel_rfl) (lr a 0)) ?_)))))
  have es:i=(aI l):=by rw[q,r,u,e3,e2,e1,<- p];rfl
  have Z:aV (aI l)=0:=by rw[<- es];exact o
  have ex:aT (aI l)=i.2.2:=by rw[<- es];exact lP o
  clear es
  have L:s1.2.2 0=aT (aI l) 0:=by rw[ex,q,r,u,e3,e2];rfl
  have V:s2.2.2 1=aT (aI l) 1:=by rw[ex,q,r,u,e3];rfl
  have K:s3.2.2 2=aT (aI l) 2:=by rw[ex,q,r,u];rfl
  have R:s4.2.2 3=aT (aI l) 3:=by rw[ex,q,r];rfl
  have N:m.2.2 4=aT (aI l) 4:=by rw[ex,q];rfl
  have P:i.2.2 5=aT (aI l) 5:=by rw[ex]
  exact⟨by rw[Z,L,V,K,R,N,P],d⟩
 ·refine tq 31 (.bool ((aV i:Int) != 0)) (bT) (congrArg Value.bool (bne_iff_ne.2 o)) (ae (aa (aP (ab (ag (t 32 (.agg #[iU 0,iU 0,iU 0,iU 0,iU 0,iU 0]) (t 33 (iI (aV i)) (ts a 0 (.agg #[iU 0,iU 0,iU 0,iU 0,iU 0,iU 0]) [iU 0,iU 0,iU 0,iU 0,iU 0,iU 0] [iU 0,iU 0,iU 0,iU 0,iU 0,iU 0] ?_))))))));intro ac Y C;replace d:=aS d C (by omega);replace b:=b.chg C (show h≠j by omega);have a:=Y;refine t 3 (iI (aV i)) (ae (aa (aG [(2,pg j),(3,iI (aV i)),(5,pg h)] (aF (dm (aE (.tuple #[.agg #[iU 0,iU 0,iU 0,iU 0,iU 0,iU 0],iI (aV i)]) (iQ 2 3 (T:=42) (by kernel_rfl) (by kernel_rfl) (by kernel_rfl) (lr a 0)) ?_))))))
  have es:i=(aI l):=by rw[q,r,u,e3,e2,e1,<- p];rfl
  have ex:aT (aI l)=fun _=>0:=by rw[<- es];exact lJ o
  rw[es];exact⟨by rw[ex],d⟩
def bu(l:List Int):RSt:=thr rnx [(0,0),(0,1),(0,2),(0,3),(0,4),(0,5),(2,6)] (0,l,fun _=>0)
theorem Db{s:RSt}(h:gA w bR 7 mkA s e w'):∃ a6 n6 c6,e=.returned (.tuple #[.agg #[.int .u64 (aT s 0),.int .u64 (aT s 1),.int .u64 (aT s 2),.int .u64 (aT s 3),.int .u64 (aT s 4),.int .u64 (aT s 5),.slice a6 n6 c6],.int .i64 (aV s)])/\(dg w' w.heap.size a6 n6 c6 (aT s 6)/\n6<=510)/\Below w.heap.size w w':=by
 obtain⟨⟨cs,xs,r,rfl,p,a,m,d⟩,B⟩:=h;obtain⟨e1,e2⟩:=kE m d;subst e1 e2;have b:=(a 0).1 rfl;have f:=(a 1).1 rfl;have o:=(a 2).1 rfl;have g:=(a 3).1 rfl;have l:=(a 4).1 rfl;have j:=(a 5).1 rfl;obtain⟨a6,n6,c6,c,k,q⟩:=(a 6).2.2 rfl
 have ecs:cs=[.int .u64 (aT s 0),.int .u64 (aT s 1),.int .u64 (aT s 2),.int .u64 (aT s 3),.int .u64 (aT s 4),.int .u64 (aT s 5),.slice a6 n6 c6]:=by
  refine List.ext_getElem? fun i=>?_
  rcases Nat.lt_or_ge i 7 with hi | hi
  ·match i,hi with
   | 0,_=>exact b
   | 1,_=>exact f
   | 2,_=>exact o
   | 3,_=>exact g
   | 4,_=>exact l
   | 5,_=>exact j
   | 6,_=>exact c
   | n+7,h=>exact absurd h (by omega)
  ·rw[List.getElem?_eq_none (by omega),List.getElem?_eq_none hi]
 subst ecs;exact⟨a6,n6,c6,rfl,⟨k,by omega⟩,B⟩
theorem oMove(A:ByA w bb ao n c l)(hn:n<=1000000000):Calls Tryz.prog 102 #[.slice ao n c] w fun e w'=>∃ a6 n6 c6,e=.returned (.tuple #[.agg #[.int .u64 (aT (bu l) 0),.int .u64 (aT (bu l) 1),.int .u64 (aT (bu l) 2),.int .u64 (aT (bu l) 3),.int .u64 (aT (bu l) 4),.int .u64 (aT (bu l) 5),.slice a6 n6 c6],.int .i64 (aV (bu l))])/\(dg w' w.heap.size a6 n6 c6 (aT (bu l) 6)/\n6<=510)/\Below w.heap.size w w':=by
 refine(BN A hn (by obtain⟨o,a,_⟩:=A.ex;exact a)).mono ?_
 intro e w' h;exact Db h
theorem rMove(A:ByA w bb ao n c l) :
  Calls Tryz.prog 106 #[.slice ao n c] w fun e w'=>∃ a6 n6 c6,e=.returned (.tuple #[.agg #[.int .u64 (aT (bu l) 0),.int .u64 (aT (bu l) 1),.int .u64 (aT (bu l) 2),.int .u64 (aT (bu l) 3),.int .u64 (aT (bu l) 4),.int .u64 (aT (bu l) 5),.slice a6 n6 c6],.int .i64 (aV (bu l))])/\(dg w' w.heap.size a6 n6 c6 (aT (bu l) 6)/\n6<=510)/\Below w.heap.size w w':=by
 have d:=Below.refl w.heap.size w;obtain⟨E,u⟩:∃ s:RSt,(0,l,fun _=>0)=s:=⟨_,rfl⟩
 refine aC (n:=38) Tryz.func106 rfl ?_
 refine ab (ag (ta 2 [iU 0,iU 0,iU 0,iU 0,iU 0,iU 0,.slice none 0 0] 48 (pg) ?_));intro v1 j b K B;have zg2:=Nat.le_trans d.size K;replace d:=ai d B;refine t 3 (iI 0) (ae (aa (ab (ag (t 7 (.slice ao n c) (t 8 (.agg #[.slice ao n c,iI 0]) ?_))))));have D:=b.lt;refine ta 9 [.slice ao n c,iI 0] 243 (pg) ?_
 intro W f z J B;have zg4:=Nat.le_trans d.size J;replace d:=ai d B;replace b:=b.keep B
 have g:RfA W f bb E.1 E.2.1:=by subst u;exact⟨ao,n,c,⟨z.blk⟩,A.keep d⟩
 clear z;have I:=g.lt;refine t 4 (pg f) (ae (aa (ab (ag ?_))));have D:=b.lt;have I:=g.lt;refine ta 5 [iU 0,iU 0,iU 0,iU 0,iU 0,iU 0,.slice none 0 0] 48 (pg) ?_
 intro v5 h a H B;have zg6:=Nat.le_trans d.size H;replace d:=ai d B;replace b:=b.keep B;replace g:=g.keep B;refine ae (aa (ab (ag (t 10 (pg f) (tc 11 146 #[pg f,iI 8] (jU 0 (s:=E) g) ?_)))));rintro _ v7 ⟨s1,e1,rfl,i,U⟩;refine⟨_,rfl,?_⟩;replace d:=But.below U d (by omega) (Nat.le_refl _);replace b:=But.blk U b (show j≠f by omega);replace a:=But.blk U a (show h≠f by omega);clear U;replace g:=i;clear i;refine t 12 (pg h) (ts a 0 (iU (s1.2.2 0)) [iU (s1.2.2 0)] [iU (s1.2.2 0),iU 0,iU 0,iU 0,iU 0,iU 0,.slice none 0 0] ?_);intro v8 Y C;replace d:=aS d C (by omega);replace b:=b.chg C (show j≠h by omega);replace g:=RfA.iZ g a rfl (by omega) (cN C);have a:=Y;refine ae (aa (ab (ag (t 13 (pg f) (tc 14 146 #[pg f,iI 8] (jU 1 (s:=s1) g) ?_)))));rintro _ v9 ⟨s2,e2,rfl,i,U⟩;refine⟨_,rfl,?_⟩;replace d:=But.below U d (by omega) (Nat.le_refl _);replace b:=But.blk U b (show j≠f by omega);replace a:=But.blk U a (show h≠f by omega);clear U;replace g:=i;clear i;refine t 15 (pq h 1) (ts a 1 (iU (s2.2.2 1)) [iU (s2.2.2 1)] [iU (s1.2.2 0),iU (s2.2.2 1),iU 0,iU 0,iU 0,iU 0,.slice none 0 0] ?_);intro v10 Y C;replace d:=aS d C (by omega);replace b:=b.chg C (show j≠h by omega);replace g:=RfA.iZ g a rfl (by omega) (cN C);have a:=Y;refine ae (aa (ab (ag (t 16 (pg f) (tc 17 146 #[pg f,iI 8] (jU 2 (s:=s2) g) ?_)))));rintro _ v11 ⟨s3,e3,rfl,i,U⟩;refine⟨_,rfl,?_⟩;replace d:=But.below U d (by omega) (Nat.le_refl _);replace b:=But.blk U b (show j≠f by omega);replace a:=But.blk U a (show h≠f by omega);clear U;replace g:=i;clear i;refine t 18 (pq h 2) (ts a 2 (iU (s3.2.2 2)) [iU (s3.2.2 2)] [iU (s1.2.2 0),iU (s2.2.2 1),iU (s3.2.2 2),iU 0,iU 0,iU 0,.slice none 0 0] ?_);intro v12 Y C;replace d:=aS d C (by omega);replace b:=b.chg C (show j≠h by omega);replace g:=RfA.iZ g a rfl (by omega) (cN C);have a:=Y;refine ae (aa (aG [(2,pg j),(3,iI 0),(4,pg f),(5,pg h)] (ab (ag (t 19 (pg f) (tc 20 146 #[pg f,iI 8] (jU 3 (s:=s3) g) ?_))))));rintro _ N ⟨s4,y,rfl,i,U⟩;refine⟨_,rfl,?_⟩;replace d:=But.below U d (by omega) (Nat.le_refl _);replace b:=But.blk U b (show j≠f by omega);replace a:=But.blk U a (show h≠f by omega);clear U;replace g:=i;clear i;refine t 21 (pq h 3) (ts a 3 (iU (s4.2.2 3)) [iU (s4.2.2 3)] [iU (s1.2.2 0),iU (s2.2.2 1),iU (s3.2.2 2),iU (s4.2.2 3),iU 0,iU 0,.slice none 0 0] ?_);intro v14 Y C;replace d:=aS d C (by omega);replace b:=b.chg C (show j≠h by omega);replace g:=RfA.iZ g a rfl (by omega) (cN C);have a:=Y;refine ae (aa (ab (ag (t 22 (pg f) (tc 23 146 #[pg f,iI 8] (jU 4 (s:=s4) g) ?_)))));rintro _ P ⟨m,x,rfl,i,U⟩;refine⟨_,rfl,?_⟩;replace d:=But.below U d (by omega) (Nat.le_refl _);replace b:=But.blk U b (show j≠f by omega);replace a:=But.blk U a (show h≠f by omega);clear U;replace g:=i;clear i;refine t 24 (pq h 4) (ts a 4 (iU (m.2.2 4)) [iU (m.2.2 4)] [iU (s1.2.2 0),iU (s2.2.2 1),iU (s3.2.2 2),iU (s4.2.2 3),iU (m.2.2 4),iU 0,.slice none 0 0] ?_);intro R Y C;replace d:=aS d C (by omega);replace b:=b.chg C (show j≠h by omega);replace g:=RfA.iZ g a rfl (by omega) (cN C);have a:=Y;refine ae (aa (ab (ag (t 25 (pg f) (tc 26 146 #[pg f,iI 8] (jU 5 (s:=m) g) ?_)))));rintro _ v17 ⟨q,v,rfl,i,U⟩;refine⟨_,rfl,?_⟩;replace d:=But.below U d (by omega) (Nat.le_refl _);replace b:=But.blk U b (show j≠f by omega);replace a:=But.blk U a (show h≠f by omega);clear U;replace g:=i;clear i;refine t 27 (pq h 5) (ts a 5 (iU (q.2.2 5)) [iU (q.2.2 5)] [iU (s1.2.2 0),iU (s2.2.2 1),iU (s3.2.2 2),iU (s4.2.2 3),iU (m.2.2 4),iU (q.2.2 5),.slice none 0 0] ?_);intro v18 Y C;replace d:=aS d C (by omega);replace b:=b.chg C (show j≠h by omega);replace g:=RfA.iZ g a rfl (by omega) (cN C)
 have a:=Y;refine ae (aa (ab (ag (t 28 (pg f) ?_))));have F:=b.lt;have G:=a.lt;have L:=g.lt;have M:=d.size;refine tc 29 153 #[pg f] (jD 6 (s:=q) g) ?_
 rintro _ Z ⟨k,r,a6,n6,c6,rfl,o,L6,i,U⟩;refine⟨_,rfl,?_⟩;replace d:=But.below U d (by omega) (Nat.le_refl _);replace b:=But.blk U b (show j≠f by omega);replace a:=But.blk U a (show h≠f by omega);clear U;replace g:=i;clear i;replace o:=natX o;refine t 30 (pq h 6) (ts a 6 (.agg #[.slice a6 n6 c6]) [.slice a6 n6 c6] [iU (s1.2.2 0),iU (s2.2.2 1),iU (s3.2.2 2),iU (s4.2.2 3),iU (m.2.2 4),iU (q.2.2 5),.slice a6 n6 c6] ?_);intro v20 Y C;replace d:=aS d C (by omega);replace b:=b.chg C (show j≠h by omega);replace g:=RfA.iZ g a rfl (by omega) (cN C);replace o:=oA.but o (cN C) (by omega);have a:=Y;refine ae (aa (ab (ag (t 31 (pg f) (tc 32 147 #[pg f] (vK g) ?_)))));rintro _ O ⟨rfl,U⟩;refine⟨_,rfl,?_⟩;replace d:=But.below U d (by omega) (Nat.le_refl _);replace b:=But.blk U b (show j≠f by omega);replace a:=But.blk U a (show h≠f by omega);replace o:=oA.but o U (by omega);clear U;clear g;refine t 6 (iI (aV k)) (ae (aa (ab (ab (ag (t 33 (iI (aV k)) ?_))))));by_cases p:(aV k:Int)=0
 ·refine tq 34 (.bool ((aV k:Int) != 0)) (bF) (congrArg Value.bool (bne_eq_false_iff_eq.2 p)) (ae (aa (aG [(2,pg j),(3,iI 0),(5,pg h),(6,iI (aV k)),(34,bF)] (aW (aK (aa (ab (ag (tlr 37 [iU (s1.2.2 0),iU (s2.2.2 1),iU (s3.2.2 2),iU (s4.2.2 3),iU (m.2.2 4),iU (q.2.2 5),.slice a6 n6 c6] a 0 (ts b 0 (.agg #[iU (s1.2.2 0),iU (s2.2.2 1),iU (s3.2.2 2),iU (s4.2.2 3),iU (m.2.2 4),iU (q.2.2 5),.slice a6 n6 c6]) [iU (s1.2.2 0),iU (s2.2.2 1),iU (s3.2.2 2),iU (s4.2.2 3),iU (m.2.2 4),iU (q.2.2 5),.slice a6 n6 c6] [iU (s1.2.2 0),iU (s2.2.2 1),iU (s3.2.2 2),iU (s4.2.2 3),iU (m.2.2 4),iU (q.2.2 5),.slice a6 n6 c6] ?_))))))))));intro v23 Y C;replace d:=aS d C (by omega);replace a:=a.chg C (show h≠j by omega);replace o:=oA.but o (cN C) (by omega);have b:=Y;refine t 3 (iI 0) (ae (aa (aF (aE (.tuple #[.agg #[iU (s1.2.2 0),iU (s2.2.2 1),iU (s3.2.2 2),iU (s4.2.2 3),iU (m.2.2 4),iU (q.2.2 5),.slice a6 n6 c6],iI 0]) (iQ 2 3 (T:=48) (by kernel_rfl) (by kernel_rfl) (by kernel_rfl) (lr b 0)) ?_))))
  have es:k=(bu l):=by rw[r,v,x,y,e3,e2,e1,<- u];rfl
  have h0:aV (bu l)=0:=by rw[<- es];exact p
  have ex:aT (bu l)=k.2.2:=by rw[<- es];exact lP p
  clear es
  have V:s1.2.2 0=aT (bu l) 0:=by rw[ex,r,v,x,y,e3,e2];rfl
  have x1:s2.2.2 1=aT (bu l) 1:=by rw[ex,r,v,x,y,e3];rfl
  have S:s3.2.2 2=aT (bu l) 2:=by rw[ex,r,v,x,y];rfl
  have x3:s4.2.2 3=aT (bu l) 3:=by rw[ex,r,v,x];rfl
  have X:m.2.2 4=aT (bu l) 4:=by rw[ex,r,v];rfl
  have x5:q.2.2 5=aT (bu l) 5:=by rw[ex,r];rfl
  have x6:k.2.2 6=aT (bu l) 6:=by rw[ex]
  rw[x6] at o;exact⟨_,_,_,by rw[h0,V,x1,S,x3,X,x5],⟨o.nat.low (by omega),L6⟩,d⟩
 ·refine tq 34 (.bool ((aV k:Int) != 0)) (bT) (congrArg Value.bool (bne_iff_ne.2 p)) (ae (aa (aG [(2,pg j),(3,iI 0),(5,pg h),(6,iI (aV k)),(34,bT)] (aP (ab (ag (t 35 (.agg #[iU 0,iU 0,iU 0,iU 0,iU 0,iU 0,.slice none 0 0]) (t 36 (iI (aV k)) (ts b 0 (.agg #[iU 0,iU 0,iU 0,iU 0,iU 0,iU 0,.slice none 0 0]) [iU 0,iU 0,iU 0,iU 0,iU 0,iU 0,.slice none 0 0] [iU 0,iU 0,iU 0,iU 0,iU 0,iU 0,.slice none 0 0] ?_)))))))));intro Q Y C;replace d:=aS d C (by omega);replace a:=a.chg C (show h≠j by omega);replace o:=oA.but o (cN C) (by omega);have b:=Y;refine t 3 (iI (aV k)) (ae (aa (aF (dm (aE (.tuple #[.agg #[iU 0,iU 0,iU 0,iU 0,iU 0,iU 0,.slice none 0 0],iI (aV k)]) (iQ 2 3 (T:=48) (by kernel_rfl) (by kernel_rfl) (by kernel_rfl) (lr b 0)) ?_)))))
  have es:k=(bu l):=by rw[r,v,x,y,e3,e2,e1,<- u];rfl
  have ex:aT (bu l)=fun _=>0:=by rw[<- es];exact lJ p
  rw[es];exact⟨none,0,0,by rw[ex],⟨by rw[ex];exact fb _ _,by decide⟩,d⟩
def bM(l:List Int):RSt:=thr rnx [(0,0)] (0,l,fun _=>0)
theorem yc{s:RSt}(h:gA w bg 1 mkO s e w'):e=.returned (.tuple #[.int .u64 (aT s 0),.int .i64 (aV s)])/\Below w.heap.size w w':=by
 obtain⟨⟨cs,xs,r,rfl,f,b,d,c⟩,B⟩:=h;obtain⟨e1,e2⟩:=kE d c;subst e1 e2;have a:=(b 0).1 rfl
 have ecs:cs=[.int .u64 (aT s 0)]:=by
  refine List.ext_getElem? fun i=>?_
  rcases Nat.lt_or_ge i 1 with hi | hi
  ·match i,hi with
   | 0,_=>exact a
   | n+1,h=>exact absurd h (by omega)
  ·rw[List.getElem?_eq_none (by omega),List.getElem?_eq_none hi]
 subst ecs;exact⟨rfl,B⟩
theorem CO(A:ByA w bb ao n c l)(hn:n<=1000000000):Calls Tryz.prog 65 #[.slice ao n c] w fun e w'=>e=.returned (.tuple #[.int .u64 (aT (bM l) 0),.int .i64 (aV (bM l))])/\Below w.heap.size w w':=by
 refine(ua A hn (by obtain⟨o,a,_⟩:=A.ex;exact a)).mono ?_
 intro e w' h;exact yc h
theorem CK(A:ByA w bb ao n c l) :
  Calls Tryz.prog 108 #[.slice ao n c] w fun e w'=>e=.returned (.tuple #[.int .u64 (aT (bM l) 0),.int .i64 (aV (bM l))])/\Below w.heap.size w w':=by
 have a:=Below.refl w.heap.size w;obtain⟨i,b⟩:∃ s:RSt,(0,l,fun _=>0)=s:=⟨_,rfl⟩
 refine aC (n:=18) Tryz.func108 rfl ?_
 refine ab (ag (t 2 (iU 0) (t 3 (iI 0) (ae (aa (ab (ag (t 7 (.slice ao n c) (t 8 (.agg #[.slice ao n c,iI 0]) (ta 9 [.slice ao n c,iI 0] 243 (pg) ?_))))))))));intro v1 d h j B;have q:=Nat.le_trans a.size j;replace a:=ai a B
 have f:RfA v1 d bb i.1 i.2.1:=by subst b;exact⟨ao,n,c,⟨h.blk⟩,A.keep a⟩
 clear h;have m:=f.lt;refine t 4 (pg d) (ae (aa (ab (ag (t 10 (pg d) (tc 11 146 #[pg d,iI 8] (jU 0 (s:=i) f) ?_))))));rintro _ r ⟨s1,e1,rfl,k,U⟩;refine⟨_,rfl,?_⟩;replace a:=But.below U a (by omega) (Nat.le_refl _);clear U;replace f:=k;clear k;refine t 5 (iU (s1.2.2 0)) (ae (aa (ab (ag (t 12 (pg d) (tc 13 147 #[pg d] (vK f) ?_))))));rintro _ v4 ⟨rfl,U⟩;refine⟨_,rfl,?_⟩;replace a:=But.below U a (by omega) (Nat.le_refl _);clear U;clear f;refine t 6 (iI (aV s1)) (ae (aa (ab (ab (ag (t 14 (iI (aV s1)) ?_))))));by_cases g:(aV s1:Int)=0
 ·refine tq 15 (.bool ((aV s1:Int) != 0)) (bF) (congrArg Value.bool (bne_eq_false_iff_eq.2 g)) (ae (aa (aW (aK (aa (ab (ag (t 17 (iU (s1.2.2 0)) (t 2 (iU (s1.2.2 0)) (t 3 (iI 0) (ae (aa (aG [(2,iU (s1.2.2 0)),(3,iI 0)] (aF (aE (.tuple #[iU (s1.2.2 0),iI 0]) (rs2 2 3 (by kernel_rfl) (by kernel_rfl) (by kernel_rfl)) ?_)))))))))))))))
  have es:s1=(bM l):=by rw[e1,<- b];rfl
  have p:aV (bM l)=0:=by rw[<- es];exact g
  have ex:aT (bM l)=s1.2.2:=by rw[<- es];exact lP g
  clear es
  have o:s1.2.2 0=aT (bM l) 0:=by rw[ex]
  exact⟨by rw[p,o],a⟩
 ·refine tq 15 (.bool ((aV s1:Int) != 0)) (bT) (congrArg Value.bool (bne_iff_ne.2 g)) (ae (aa (aP (ab (ag (t 16 (iI (aV s1)) (t 2 (iU 0) (t 3 (iI (aV s1)) (ae (aa (aG [(2,iU 0),(3,iI (aV s1)),(5,iU (s1.2.2 0))] (aF (dm (aE (.tuple #[iU 0,iI (aV s1)]) (rs2 2 3 (by kernel_rfl) (by kernel_rfl) (by kernel_rfl)) ?_))))))))))))))
  have es:s1=(bM l):=by rw[e1,<- b];rfl
  have ex:aT (bM l)=fun _=>0:=by rw[<- es];exact lJ g
  rw[es];exact⟨by rw[ex],a⟩
end
end Rc
end
end Go.Proofs.YtidnifmehnjipaaGreat
