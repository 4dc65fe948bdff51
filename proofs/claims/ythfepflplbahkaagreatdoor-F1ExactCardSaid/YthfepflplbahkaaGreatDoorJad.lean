import Derived.Test.YthfepflplbahkaaGreatDoorJac
import Derived.Deep.RegionHeld3
import Derived.Deep.RegionWith
import Derived.Deep.WholeRow
import Derived.Deep.MidRow
import Derived.Deep.LoopGhost
import Derived.BigFrame
set_option maxRecDepth 100000
set_option maxHeartbeats 8000000
namespace Go.Proofs.YthfepflplbahkaaGreatDoor
section
namespace Gl
open Go.RowKit Go.Lib Pg
section
variable {n:Nat}{a:Act}{v:Value}{o:Oper}{x:Operand}{d:Option Nat}{ops:Array Oper}
abbrev Fr:=List (Nat × Value)
def lk:Fr->Nat->Option Value
 | [],_=>none
 | p :: r,k=>bif Nat.beq p.1 k then some p.2 else lk r k
def evL(l:Fr):Operand->Value
 | .tmp k=>(lk l k).getD undef
 | .const v=>v
 | .global g=>.pointer (some ⟨g,0,none⟩)
 | .func f=>.func (.func f) #[] #[]
def kn(l:Fr):Operand->Bool
 | .tmp k=>(lk l k).isSome
 | _=>true
structure Rd(n:Nat)(ds:List Deferred)(l:Fr)(a:Act):Prop where
 size:a.tmps.size=n
 dfs:a.defers=ds
 get:∀ k v,lk l k=some v->a.tmps[k]? = some v
theorem Rd.ev{ds:List Deferred}{l:Fr}(h:Rd n ds l a)(x:Operand)(b:kn l x=true):a.eval x=evL l x:=by
 cases x with
 | tmp k =>
  cases hl:lk l k with
  | none=>simp[kn,hl] at b
  | some v=>simp[Act.eval,evL,hl,h.get k v hl]
 | const v=>rfl
 | global g=>rfl
 | func f=>rfl
def pt(l:Fr):Option Nat->Value->Fr
 | some d,v=>(d,v) :: l
 | none,_=>l
theorem Rd.put{ds:List Deferred}{l:Fr}(h:Rd n ds l a)(d:Option Nat)(v:Value)(b:∀ k,d=some k->k < n):Rd n ds (pt l d v) (a.put d v):=by
 cases d with
 | none=>exact h
 | some d =>
  have b:=b d rfl;refine⟨by simpa[Act.put] using h.size,h.dfs,fun k u hu => ?_⟩;simp only[pt,lk] at hu;by_cases e:d=k
  ·subst e;simp at hu;subst hu;simp[Act.put,h.size,b]
  ·have c:Nat.beq d k=false:=by
    cases hb:Nat.beq d k with
    | false=>rfl
    | true=>exact absurd (Nat.eq_of_beq_eq_true hb) e
   rw[c] at hu;simp only[Act.put,Array.getElem?_setIfInBounds,if_neg e];exact h.get k u hu
def sub(l' l:Fr):Prop:=∀ k v,lk l' k=some v->lk l k=some v
theorem su{l:Fr}{k:Nat}(h:lk l k=some v):(k,v)∈l:=by
 induction l with
 | nil=>cases h
 | cons p r ih =>
  simp only[lk] at h
  cases hb:Nat.beq p.1 k with
  | true =>
   rw[hb] at h;have:=Nat.eq_of_beq_eq_true hb;simp at h;subst h; subst this;exact List.mem_cons_self
  | false=>rw[hb] at h; exact List.mem_cons_of_mem _ (ih h)
theorem pN{l' l:Fr}(h:l'.map (fun p=>lk l p.1)=l'.map (fun p=>some p.2)):sub l' l:=fun k v hk=>by
 have hm:=su hk;have:=List.map_inj_left.1 h (k,v) hm;exact this
theorem Rd.sub{ds:List Deferred}{l l':Fr}(h:Rd n ds l a)(hs:sub l' l):Rd n ds l' a:=⟨h.size,h.dfs,fun k v hk=>h.get k v (hs k v hk)⟩
def rF:Op->List Operand
 | .call c=>(match c.callee with | .value f=>[f] | .invoke r _=>[r] | .builtin _=>[]) ++ c.args.toList
 | .build _ ps=>ps.toList.map (·.2)
 | .buildSlice _ _ ps=>ps.toList.map (·.2)
 | o=>o.operands.toList
theorem wc{o:Op}(h : x ∈ o.operands) : x ∈ rF o := by
  cases o <;> first
    | (simpa[rF] using h)
    | (simp only[Op.operands] at h; simpa[rF] using h)
    | (rename_i c
       simp only[Op.operands, Call.operands] at h;unfold rF
       cases hc : c.callee <;> simp[hc] at h ⊢ <;> exact h)
def notSel:Op->Bool
 | .select _ _=>false
 | _=>true
def inB(n:Nat):Option Nat->Bool
 | none=>true
 | some d=>Nat.blt d n
def gd(ops : Array Oper)(l : Fr)(o : Oper) : Option Bool :=
  match o.guard with
  | none => some true
  | some (j, b) => match (ops[j]?).bind (·.dst) with
    | none => some false
    | some s => match lk l s with
      | none => none
      | some (.bool c) => some (c == b)
      | some _ => some false
def chk(n:Nat)(l:Fr)(o:Oper)(d:Option Nat):Bool:=(rF o.op).all (kn l) && decide (o.dst=d) && inB n d && notSel o.op
theorem gO{l:Fr}(h:chk n l o d=true):o.dst=d/\∀ k,d=some k->k < n:=by
 simp only[chk,Bool.and_eq_true,decide_eq_true_eq] at h;refine⟨h.1.1.2,fun k e => ?_⟩;subst e;have:=h.1.2;simp only[inB,Nat.blt] at this;exact Nat.le_of_ble_eq_true this
theorem gA{ds:List Deferred}{l:Fr}(h:chk n l o d=true)(r:Rd n ds l a):execOp a.eval o=execOp (evL l) o:=by
 simp only[chk,Bool.and_eq_true,List.all_eq_true] at h;exact execOp_congr o (fun cs b e=>by have:=h.2; rw[e] at this; cases this) fun x hx=>r.ev x (h.1.1.1 x (wc hx))
theorem eG{ds:List Deferred}{l:Fr}{t:Bool}(r:Rd n ds l a)(h:gd ops l o=some t):Region.wanted o (yielded ops a.tmps)=t:=by
 unfold gd at h;unfold Region.wanted
 cases hg:o.guard with
 | none=>rw[hg] at h; simpa using h
 | some p =>
  obtain⟨j,b⟩:=p;rw[hg] at h;simp only at h ⊢;unfold yielded
  cases hs:(ops[j]?).bind (·.dst) with
  | none=>rw[hs] at h; simp at h; subst h; simp
  | some s =>
   rw[hs] at h;simp only at h
   cases hv:lk l s with
   | none=>rw[hv] at h; cases h
   | some v =>
    rw[hv] at h;have hx:=r.get s v hv;simp only[Option.bind_some,hx]
    cases v<;>simp_all
end
section
variable {P:Program} {n:Nat} {ds:List Deferred} {ops:Array Oper} {rest:List Oper} {o o1 o2:Oper} {l:Fr} {w w1:World} {Q Q':Exit->Act->World->Prop} {K:Act->World->Prop}
section
variable {c x y:Code}{Qc R:Ending->World->Prop}{id g:Nat}{f:FuncId}{fn:Func}{vs:List Value}{v u:Value}
structure GL(P:Program)(n:Nat)(ds:List Deferred)(ops:Array Oper)(Q:Exit->Act->World->Prop)(rest:List Oper)(l:Fr)(w:World):Prop where
 out:∀ a,Rd n ds l a->wpList P ops Q rest a w
structure GC(P:Program)(n:Nat)(ds:List Deferred)(c:Code)(Q:Exit->Act->World->Prop)(l:Fr)(w:World):Prop where
 out:∀ a,Rd n ds l a->c.wp P Q a w
structure GE(n:Nat)(ds:List Deferred)(Q:Exit->Act->World->Prop)(e:Exit)(l:Fr)(w:World):Prop where
 out:∀ a,Rd n ds l a->Q e a w
theorem aY(l':Fr)(h:l'.map (fun p=>lk l p.1)=l'.map (fun p=>some p.2))(k:GC P n ds c Q l' w):GC P n ds c Q l w:=⟨fun a r=>k.out a (r.sub (pN h))⟩
theorem jZ(d:Option Nat)(v:Value)(c:gd ops l o=some true)(hc:chk n l o d=true)(b:(execOp (evL l) o).run P w=.ok (.value v) w1)(h:GL P n ds ops Q rest (pt l d v) w1):GL P n ds ops Q (o :: rest) l w:=⟨fun a r =>
 BigFrame.wpList_want (eG r c) fun K e=>by
  unfold Oper.wp;rw[gA hc r,b]
  show K (a.put o.dst v) w1
  rw[(gO hc).1]
  exact e _ _ (h.out _ (r.put d v (gO hc).2))⟩
theorem Bj(c:gd ops l o=some true)(hc:chk n l o none=true)(b:(execOp (evL l) o).run P w=.ok .skip w1)(h:GL P n ds ops Q rest l w1):GL P n ds ops Q (o :: rest) l w:=⟨fun a r =>
 BigFrame.wpList_want (eG r c) fun K d=>by
  unfold Oper.wp;rw[gA hc r,b]
  show K (a.put o.dst undef) w1
  rw[(gO hc).1]
  exact d _ _ (h.out _ r)⟩
theorem gl_not(d:Option Nat)(c:gd ops l o=some false)(b:(decide (o.dst=d) && inB n d)=true)(h:GL P n ds ops Q rest (pt l d undef) w):GL P n ds ops Q (o :: rest) l w:=⟨fun a r=>by
 simp only[Bool.and_eq_true,decide_eq_true_eq] at b;refine wpList_skip (eG r c) ?_
 rw[b.1];refine h.out _ (r.put d undef fun k e => ?_);subst e;have:=b.2;simp only[inB,Nat.blt] at this
 exact Nat.le_of_ble_eq_true this⟩
theorem yJ(d:Option Nat)(f:FuncId)(args:Array Value)(g:gd ops l o=some true)(hc:chk n l o d=true)(c:(execOp (evL l) o).run P w=.ok (.enter f args) w)(b:Calls P f args w Qc)(h:∀ e w',Qc e w'->∃ v,e=.returned v/\GL P n ds ops Q rest (pt l d v) w'):GL P n ds ops Q (o :: rest) l w:=⟨fun a r =>
 BigFrame.wpList_want (eG r g) fun K j=>by
  unfold Oper.wp;rw[gA hc r,c,Oper.upon_enter];refine b.mono ?_
  intro e w' i;obtain⟨v,rfl,hv⟩:=h e w' i
  show K (a.put o.dst v) w'
  rw[(gO hc).1]
  exact j _ _ (hv.out _ (r.put d v (gO hc).2))⟩
theorem ay(h:GE n ds Q .normal l w):GL P n ds ops Q [] l w:=⟨fun a r=>wpList_nil (h.out a r)⟩
theorem t(d:Nat)(v:Value)(h:GL P n ds ops Q rest ((d,v) :: l) w)(b:gd ops l o=some true:=by kernel_rfl)(hc:chk n l o (some d)=true:=by kernel_rfl)(a:(execOp (evL l) o).run P w=.ok (.value v) w:=by kernel_rfl):GL P n ds ops Q (o :: rest) l w:=jZ (some d) v b hc a h
theorem tr(d:Nat)(v:Value)(a:(execOp (evL l) o).run P w=.ok (.value v) w)(h:GL P n ds ops Q rest ((d,v) :: l) w)(b:gd ops l o=some true:=by kernel_rfl)(hc:chk n l o (some d)=true:=by kernel_rfl):GL P n ds ops Q (o :: rest) l w:=jZ (some d) v b hc a h
theorem tq(d:Nat)(v b:Value)(hv:v=b)(h:GL P n ds ops Q rest ((d,b) :: l) w)(c:gd ops l o=some true:=by kernel_rfl)(hc:chk n l o (some d)=true:=by kernel_rfl)(a:(execOp (evL l) o).run P w=.ok (.value v) w:=by kernel_rfl):GL P n ds ops Q (o :: rest) l w:=by
 subst hv; exact jZ (some d) v c hc a h
theorem tn(d:Nat)(h:GL P n ds ops Q rest ((d,undef) :: l) w)(a:gd ops l o=some false:=by kernel_rfl)(b:(decide (o.dst=some d) && inB n (some d))=true:=by kernel_rfl):GL P n ds ops Q (o :: rest) l w:=gl_not (some d) a b h
theorem tc(d:Nat)(f:FuncId)(args:Array Value)(a:Calls P f args w Qc)(h:∀ e w',Qc e w'->∃ v,e=.returned v/\GL P n ds ops Q rest ((d,v) :: l) w')(c:gd ops l o=some true:=by kernel_rfl)(hc:chk n l o (some d)=true:=by kernel_rfl)(b:(execOp (evL l) o).run P w=.ok (.enter f args) w:=by kernel_rfl):GL P n ds ops Q (o :: rest) l w:=yJ (some d) f args c hc b a h
theorem ax(h:GC P n ds x (Exit.then (y.wp P Q) Q) l w):GC P n ds (x.seq y) Q l w:=⟨fun a r=>wp_seq (h.out a r)⟩
theorem aA{c:List Oper}(h:GL P n ds c.toArray Q c l w):GC P n ds (Code.region id c.toArray false) Q l w:=⟨fun a r=>wp_region_lit (h.out a r)⟩
theorem eU{c:Operand}(h:GC P n ds x Q l w)(b:kn l c=true:=by kernel_rfl)(hc:evL l c=.bool true:=by kernel_rfl):GC P n ds (Code.cond c x y) Q l w:=⟨fun a r=>wp_cond_true ((r.ev c b).trans hc) (h.out a r)⟩
theorem dV{c:Operand}(h:GC P n ds y Q l w)(b:kn l c=true:=by kernel_rfl)(hc:evL l c=.bool false:=by kernel_rfl):GC P n ds (Code.cond c x y) Q l w:=⟨fun a r=>wp_cond_false ((r.ev c b).trans hc) (h.out a r)⟩
theorem bW(h:GE n ds Q .normal l w):GC P n ds Code.skip Q l w:=⟨fun a r=>wp_skip (h.out a r)⟩
theorem aV(h:GE n ds Q .ret l w):GC P n ds Code.ret Q l w:=⟨fun a r=>wp_ret (h.out a r)⟩
theorem vx(h:GE n ds Q (.exit id) l w):GC P n ds (Code.exit id) Q l w:=⟨fun a r=>wp_exit (h.out a r)⟩
theorem gU(h:GC P n ds c (Exit.inBlock id Q) l w):GC P n ds (Code.block id c) Q l w:=⟨fun a r=>wp_block (h.out a r)⟩
theorem ah(h:GC P n ds y Q l w):GE n ds (Exit.then (y.wp P Q) Q') .normal l w:=⟨fun a r=>h.out a r⟩
theorem iJ(h:GE n ds Q' .ret l w):GE n ds (Exit.then K Q') .ret l w:=⟨fun a r=>h.out a r⟩
theorem uF(h:GE n ds Q' (.exit id) l w):GE n ds (Exit.then K Q') (.exit id) l w:=⟨fun a r=>h.out a r⟩
theorem xN(h:GE n ds Q .normal l w):GE n ds (Exit.inBlock id Q) .normal l w:=⟨fun a r=>h.out a r⟩
theorem D5(h:GE n ds Q .ret l w):GE n ds (Exit.inBlock id Q) .ret l w:=⟨fun a r=>h.out a r⟩
theorem DV(h:GE n ds Q .normal l w):GE n ds (Exit.inBlock id Q) (.exit id) l w:=⟨fun a r=>by
 show if id=id then Q .normal a w else Q (.exit id) a w
 rw[if_pos rfl]; exact h.out a r⟩
theorem vh{σ : Type}(μ : σ → Nat)(b : σ → Fr)(F : σ → World → Prop)(s : σ)(hF : F s w)(d : (b s).map (fun p => lk l p.1) = (b s).map (fun p => some p.2))(round : ∀ s w, F s w → GC P n ds c (Exit.then (fun a' w' => ∃ s', μ s' < μ s ∧ Rd n ds (b s') a' ∧ F s' w') Q) (b s) w) : GC P n ds (Code.loop c) Q l w := ⟨fun a r => by
  refine wp_loop_ghost (fun m a w => ∃ s, μ s = m ∧ Rd n ds (b s) a ∧ F s w) (μ s) ⟨s, rfl, r.sub (pN d), hF⟩ ?_
  rintro m a w ⟨s, rfl, i, hF⟩;refine wp_mono ((round s w hF).out a i) ?_
  intro e a' w' h
  cases e with
  | normal =>
    obtain⟨s', g, f, j⟩:= h;exact⟨μ s', g, s', rfl, f, j⟩
  | _ => exact h⟩
theorem ra{σ:Type}{μ:σ->Nat}{b:σ->Fr}{F:σ->World->Prop}{m:Nat}(a:σ)(hm:μ a < m)(hF:F a w)(c:(b a).map (fun p=>lk l p.1)=(b a).map (fun p=>some p.2)):GE n ds (Exit.then (fun a' w'=>∃ a,μ a < m/\Rd n ds (b a) a'/\F a w') Q) .normal l w:=⟨fun _ r=>⟨a,hm,r.sub (pN c),hF⟩⟩
theorem pW{σ:Type}(b:σ->Fr)(F:σ->World->Prop)(f:GC P n ds x (Exit.then (fun a' w'=>∃ s,Rd n ds (b s) a'/\F s w') Q) l w)(c:∀ s w',F s w'->GC P n ds y Q (b s) w'):GC P n ds (x.seq y) Q l w:=⟨fun a r=>wp_seq (wp_mono (f.out a r) fun e a' w' h=>by
 cases e with
 | normal=>obtain⟨s,d,hF⟩:=h; exact(c s w' hF).out a' d
 | _=>exact h)⟩
theorem dL{σ:Type}{a:σ->Fr}{F:σ->World->Prop}(s:σ)(hF:F s w)(b:(a s).map (fun p=>lk l p.1)=(a s).map (fun p=>some p.2)):GE n ds (Exit.then (fun a' w'=>∃ s,Rd n ds (a s) a'/\F s w') Q) .normal l w:=⟨fun _ r=>⟨s,r.sub (pN b),hF⟩⟩
def en:Nat->List Value->Fr
 | _,[]=>[]
 | i,v :: r=>(i,v) :: en (i + 1) r
theorem AG:∀ (vs:List Value) (i k:Nat) (v:Value),lk (en i vs) k=some v->i<=k/\vs[k - i]? = some v
 | [],_,_,_,h=>by cases h
 | u :: r,i,k,v,h=>by
  simp only[en,lk] at h
  cases hb:Nat.beq i k with
  | true =>
   rw[hb] at h;have:=Nat.eq_of_beq_eq_true hb;subst this;simp at h;subst h;exact⟨Nat.le_refl _,by simp⟩
  | false =>
   rw[hb] at h;obtain⟨b,a⟩:=AG r (i + 1) k v h;refine⟨by omega,?_⟩;have:k - i=(k - (i + 1)) + 1:=by omega
   rw[this,List.getElem?_cons_succ];exact a
theorem aO(hf:P.funcs[f]? = some fn)(hb:fn.body=some c)(hn:fn.ntmps=n)(hs:Nat.ble vs.length n=true)(h:GC P n [] c (bodyPost P fn R) (en 0 vs) w):Calls P f vs.toArray w R:=by
 have hs:=Nat.le_of_ble_eq_true hs;refine calls_of_wp hf hb (h.out _ ⟨?_,rfl,fun k v d => ?_⟩)
 ·simp;omega
 ·obtain⟨_,a⟩:=AG vs 0 k v d;rw[Nat.sub_zero] at a;have b:=(List.getElem?_eq_some_iff.1 a).1;rw[Array.getElem?_append_left (by simpa using b)];simpa using a
theorem aX(v:Value)(hr:∀ a,Rd n [] l a->(results fn a.tmps).run P w=.ok v w)(hR:R (.returned v) w):GE n [] (bodyPost P fn R) .ret l w:=⟨fun a r=>bodyPost_ret (hr a r) r.dfs hR⟩
theorem je(v:Value)(hr:∀ a,Rd n [] l a->(results fn a.tmps).run P w=.ok v w)(hR:R (.returned v) w):GE n [] (bodyPost P fn R) .normal l w:=⟨fun a r=>⟨r.dfs,v,hr a r,hR⟩⟩
theorem Rd.gD{a:Act}(r:Rd n ds l a){k:Nat}(h:lk l k=some v):a.tmps.getD k undef=v:=by
 rw[Array.getD_eq_getD_getElem?,r.get k v h]; rfl
theorem rs1(k:Nat)(h:fn.results=#[.tmp k])(hv:lk l k=some v)(a:Act)(r:Rd n [] l a):(results fn a.tmps).run P w=.ok v w:=by
 have:=r.gD hv;simp at this;simp[results,h,this]
theorem rs0(h:fn.results=#[])(a:Act)(_:Rd n [] l a):(results fn a.tmps).run P w=.ok (.tuple #[]) w:=by
 simp[results,h]
theorem rs2(j k:Nat)(h:fn.results=#[.tmp j,.tmp k])(hu:lk l j=some u)(hv:lk l k=some v)(a:Act)(r:Rd n [] l a):(results fn a.tmps).run P w=.ok (.tuple #[u,v]) w:=by
 have c:=r.gD hu;have b:=r.gD hv;simp at c b;simp[results,h,c,b]
theorem rsc(j:Nat){T:TypeId}(h:fn.results=#[.cell j T])(hu:lk l j=some (.pointer (some ⟨g,0,none⟩)))(c:(loadVar T ⟨g,0,none⟩).run P w=.ok u w)(a:Act)(r:Rd n [] l a):(results fn a.tmps).run P w=.ok u w:=by
 have b:=r.gD hu;simp at b;simp[results,h,b,asAddr,c]
theorem rO(j k:Nat){T:TypeId}(h:fn.results=#[.cell j T,.tmp k])(hu:lk l j=some (.pointer (some ⟨g,0,none⟩)))(hv:lk l k=some v)(d:(loadVar T ⟨g,0,none⟩).run P w=.ok u w)(a:Act)(r:Rd n [] l a):(results fn a.tmps).run P w=.ok (.tuple #[u,v]) w:=by
 have c:=r.gD hu;have b:=r.gD hv;simp at c b;simp[results,h,c,b,asAddr,d]
end
end
end Gl
end
section
namespace Gl
open Go.RowKit Go.Lib Pg
section
variable {P:Program} {ops:Array Oper} {Q:Exit->Act->World->Prop} {md:Region.Mode} {S:World->Prop} {Z:Nat->Bool}
def gJ (P:Program) (md:Region.Mode) (ops:Array Oper) (Q:Exit->Act->World->Prop) (S:World->Prop) (Z:Nat->Bool):Nat->Array Bool->Act->World->Prop
 | 0,listed,a,w=>Region.ready md ops listed=[]/\Q .normal a w
 | fuel + 1,listed,a,w =>
  (Region.ready md ops listed=[]->Q .normal a w) /\
  ∀ i∈Region.ready md ops listed,wpOp P ops Q i (fun a' w'=>(Z i=true\/S w')/\gJ P md ops Q S Z fuel (listed.setIfInBounds i true) a' w') a w
theorem qV (fuel:Nat):∀ (listed:Array Bool) (a:Act) (w:World),gJ P md ops Q S Z fuel listed a w->wpAnyH P md ops Q (fun _=>True) fuel listed a w:=by
 induction fuel with
 | zero=>exact fun _ _ _ h=>h
 | succ fuel ih=>exact fun _ _ _ h=>⟨h.1,fun i hi=>wpOp_mono (fun b d c=>⟨trivial,ih _ b d c.2⟩) (h.2 i hi)⟩
def lH (ops:Array Oper) (Z:Nat->Bool) (i:Nat):Bool:=(List.range ops.size).all fun z => !Z z || (decide (z≠i) && (ops.getD z default).after.any fun e=>Region.binds .any e && decide (e.on=i))
theorem qd {i:Nat} {r:Oper} {v:Value} (N:lH ops Z i=true) (hi:ops[i]? = some r) (n:∀ (j:Nat) (o:Oper) cs b,ops[j]? = some o->o.op≠.select cs b)
  (M:∀ c a w,Q (.panic c) (a.put r.dst v) w->Q (.panic c) a w) :
  ∀ (fuel:Nat) (listed:Array Bool) (a:Act) (w:World),
   (∀ j oj,ops[j]? = some oj->j≠i->listed.getD j true=false->(∀ e∈oj.after,Region.binds .any e=true->e.on≠i)->r.apart ops oj=true) ->
   i∈Region.ready .any ops listed->YieldsIf P ops S r v a->S w ->
   gJ P .any ops Q S Z fuel (listed.setIfInBounds i true) (a.put r.dst v) w->gJ P .any ops Q S Z (fuel + 1) listed a w:=by
 intro fuel
 induction fuel with
 | zero =>
  intro listed a w _ s hy hS H;refine⟨fun h=>(by rw[h] at s; cases s),fun j B => ?_⟩;by_cases d:j=i
  ·subst d; exact hy.wpOp hi hS ⟨.inr hS,H⟩
  ·have:=ready_mono B d;rw[H.1] at this
   cases this
 | succ fuel ih =>
  intro listed a w f s hy hS H;refine⟨fun h=>(by rw[h] at s; cases s),fun j B => ?_⟩;by_cases d:j=i
  ·subst d; exact hy.wpOp hi hS ⟨.inr hS,H⟩
  ·have q:=H.2 j (ready_mono B d);obtain⟨p,oj,g,z⟩:=mem_ready.1 B
   have m:∀ e∈oj.after,Region.binds .any e=true->e.on≠i:=fun e he hb heq=>by
    have q:=z e he hb;have K:=(mem_ready.1 s).1;rw[heq] at q;rcases Nat.lt_or_ge i listed.size with I | I
    ·simp[I] at K q; rw[K] at q; cases q
    ·simp[Array.getElem?_eq_none I] at q
   have F:¬ Z j=true:=fun e=>by
    have E:j < ops.size:=(Array.getElem?_eq_some_iff.1 g).1;have y:=List.all_eq_true.1 N j (List.mem_range.2 E);rw[e] at y;simp only[Bool.not_true,Bool.false_or,Bool.and_eq_true,decide_eq_true_eq] at y
    have O:ops.getD j default=oj:=by
     rw[Array.getD_eq_getD_getElem?,g]; rfl
    have t:=y.2;rw[O,Array.any_eq_true] at t;obtain⟨k,G,J⟩:=t;rw[Bool.and_eq_true,decide_eq_true_eq] at J;exact m _ (Array.getElem_mem G) J.1 J.2
   have y:=wpOp_putIf g (f j oj g d p m) (fun cs b=>n i r cs b hi) (fun cs b=>n j oj cs b g) M hy q
   have l:∀ k ok,ops[k]? = some ok->k≠i->(listed.setIfInBounds j true).getD k true=false ->
     (∀ e∈ok.after,Region.binds .any e=true->e.on≠i)->r.apart ops ok=true:=fun k ok G D x C=>by
    refine f k ok G D ?_ C;by_cases A:j=k
    ·subst A; exact p
    ·rw[getD_set_ne true A] at x; exact x
   refine wpOp_mono (fun L R t => ?_) y
   have u:=t.2.1.resolve_left F;refine⟨.inr u,ih (listed.setIfInBounds j true) L R l (ready_mono s (Ne.symm d)) t.1 u ?_⟩;rw[Array.setIfInBounds_comm _ _ d];exact t.2.2
end
section
variable {ops:Array Oper}{i a b:Nat}{L:List Nat}{Z:Nat->Bool}
theorem bN(h:i < ops.size):ops[i]? = some (ops.getD i default):=by
 simp[Array.getD,h]
def rG:List Nat->Nat->Bool
 | [],_=>false
 | p :: r,k=>bif Nat.beq p k then true else rG r k
def arr(n:Nat)(L:List Nat):Array Bool:=((List.range n).map (rG L)).toArray
theorem yZ(h:a≠b):Nat.beq a b=false:=by
 cases hb:Nat.beq a b with
 | false=>rfl
 | true=>exact absurd (Nat.eq_of_beq_eq_true hb) h
theorem pF(n:Nat)(L:List Nat)(j:Nat)(d:Bool):(arr n L).getD j d=if j < n then rG L j else d:=by
 by_cases h:j < n
 ·simp[arr,h]
 ·simp[arr,h]
theorem BN(n:Nat):arr n []=Array.replicate n false:=by
 apply Array.ext
 ·simp[arr]
 ·intro i h1 h2;simp[arr,rG]
theorem fZ{n:Nat}(L:List Nat)(_h:i < n):(arr n L).setIfInBounds i true=arr n (i :: L):=by
 apply Array.ext
 ·simp[arr]
 ·intro j a c
  have b:j < (arr n L).size:=by simpa using a
  rw[Array.getElem_setIfInBounds b];by_cases e:i=j
  ·subst e;simp[arr,rG]
  ·simp[arr,rG,e,yZ e]
def wH(ops:Array Oper)(L:List Nat)(i:Nat):Bool:=match ops[i]? with
 | none=>false
 | some o => !rG L i && o.after.toList.all fun e => !Region.binds .any e || (Nat.blt e.on ops.size && rG L e.on)
theorem lT:wH ops L i=true<->i∈Region.ready .any ops (arr ops.size L):=by
 rw[mem_ready];unfold wH
 cases ho:ops[i]? with
 | none=>simp
 | some o =>
  have c:i < ops.size:=(Array.getElem?_eq_some_iff.1 ho).1;simp only[Bool.and_eq_true,Bool.not_eq_true',List.all_eq_true,Bool.or_eq_true,Option.some.injEq,exists_eq_left',pF,if_pos c];constructor
  ·rintro⟨d,b⟩;refine⟨d,fun e he hb => ?_⟩;rcases b e (by simpa using he) with h | h
   ·rw[hb] at h; cases h
   ·have:=Nat.le_of_ble_eq_true h.1;rw[if_pos (by omega)];exact h.2
  ·rintro⟨d,b⟩;refine⟨d,fun e he => ?_⟩
   cases hb:Region.binds .any e with
   | false=>exact .inl rfl
   | true =>
    right;have a:=b e (by simpa using he) hb;by_cases f:e.on < ops.size
    ·rw[if_pos f] at a;exact⟨by simp only[Nat.blt]; exact Nat.ble_eq_true_of_le f,a⟩
    ·rw[if_neg f] at a; cases a
def eD(ops:Array Oper)(L:List Nat):List Nat:=(List.range ops.size).filter (wH ops L)
theorem ft(ops:Array Oper)(L:List Nat):Region.ready .any ops (arr ops.size L)=eD ops L:=by
 have hm:∀ j,j∈Region.ready .any ops (arr ops.size L)<->wH ops L j=true:=fun j=>lT.symm
 unfold Region.ready at hm ⊢;unfold eD;refine List.filter_congr fun j a => ?_
 have:=hm j;rw[List.mem_filter] at this;simp only[a,true_and] at this;exact Bool.eq_iff_iff.2 this
def DB(o:Oper)(i:Nat):Bool:=o.after.toList.any fun e=>Region.binds .any e && Nat.beq e.on i
def D8(ops : Array Oper)(i : Nat) : Bool := match ops[i]? with
  | none => false
  | some oi => (List.range ops.size).all fun j => Nat.beq j i || match ops[j]? with
      | some oj => DB oj i || DB oi j || oi.apart ops oj
      | none => true
def okR(ops:Array Oper)(Z:Nat->Bool):Bool:=Region.noSelect ops && (List.range ops.size).all (D8 ops) && (List.range ops.size).all fun i=>Z i || lH ops Z i
theorem xC(h:okR ops Z=true){q:Oper}(hi:ops[i]? = some q)(s:wH ops L i=true)(j:Nat)(l:Oper)(o:ops[j]? = some l)(k:j≠i)(c:(arr ops.size L).getD j true=false)(m:∀ e∈l.after,Region.binds .any e=true->e.on≠i):q.apart ops l=true:=by
 simp only[okR,Bool.and_eq_true,List.all_eq_true,List.mem_range] at h
 have g:i < ops.size:=(Array.getElem?_eq_some_iff.1 hi).1
 have b:j < ops.size:=(Array.getElem?_eq_some_iff.1 o).1;have p:=h.1.2 i g;simp only[D8,hi,List.all_eq_true,List.mem_range] at p;have a:=p j b;rw[yZ k,o] at a;simp only[Bool.false_or,Bool.or_eq_true] at a;rcases a with(a | a) | a
 ·simp only[DB,List.any_eq_true,Bool.and_eq_true] at a;obtain⟨e,he,hb,n⟩:=a;exact absurd (Nat.eq_of_beq_eq_true n) (m e (by simpa using he) hb)
 ·simp only[DB,List.any_eq_true,Bool.and_eq_true] at a;obtain⟨e,he,hb,n⟩:=a;have e1:=Nat.eq_of_beq_eq_true n;obtain⟨-,t,f,d⟩:=mem_ready.1 (lT.1 s);rw[hi] at f
  cases f;have r:=d e (by simpa using he) hb;rw[e1,pF,if_pos b] at r;rw[pF,if_pos b] at c;rw[r] at c
  cases c
 ·exact a
theorem zK(h:okR ops Z=true)(hi:i < ops.size)(hz:Z i=false):lH ops Z i=true:=by
 simp only[okR,Bool.and_eq_true,List.all_eq_true,List.mem_range] at h;have:=h.2 i hi;rw[hz] at this;simpa using this
theorem Bb(h:okR ops Z=true):Region.noSelect ops=true:=by
 simp only[okR,Bool.and_eq_true] at h;exact h.1.1
def sn(n:Nat)(l:Fr)(ops:Array Oper)(L:List Nat)(i:Nat)(d:Option Nat):Bool:=wH ops L i && Nat.blt i ops.size && chk n l (ops.getD i default) d
theorem kD(h:Nat.blt a b=true):a < b:=Nat.le_of_ble_eq_true h
end
section
variable {P:Program} {n:Nat} {ds:List Deferred} {ops:Array Oper} {Q:Exit->Act->World->Prop} {S:World->Prop} {Z:Nat->Bool} {fuel:Nat} {L:List Nat} {l:Fr} {w:World}
section
variable {rs:List Nat}{Qc:Ending->World->Prop}
structure GZ(P:Program)(n:Nat)(ds:List Deferred)(ops:Array Oper)(Q:Exit->Act->World->Prop)(S:World->Prop)(Z:Nat->Bool)(fuel:Nat)(L:List Nat)(l:Fr)(w:World):Prop where
 out:okR ops Z=true->S w->∀ a,Rd n ds l a->gJ P .any ops Q S Z fuel (arr ops.size L) a w
structure GY(P:Program)(n:Nat)(ds:List Deferred)(ops:Array Oper)(Q:Exit->Act->World->Prop)(S:World->Prop)(Z:Nat->Bool)(fuel:Nat)(L:List Nat)(l:Fr)(w:World):Prop where
 out:okR ops Z=true->∀ a,Rd n ds l a->gJ P .any ops Q S Z fuel (arr ops.size L) a w
theorem oN(h:GY P n ds ops Q S Z fuel L l w):GZ P n ds ops Q S Z fuel L l w:=⟨fun ok _=>h.out ok⟩
theorem cy{id:Nat}(S:World->Prop)(Z:Nat->Bool)(hS:S w.drew)(h:GZ P n ds ops Q S Z ops.size [] l w.drew)(hm:P.follows .mixedOrders=true:=by kernel_rfl)(ok:okR ops Z=true:=by kernel_rfl):GC P n ds (Code.region id ops true) Q l w:=⟨fun a r =>
 wp_region_held_drew (S:=fun _=>True) hm trivial fun _=>qV _ _ _ _ (by have:=h.out ok hS a r; rw[BN] at this; exact this)⟩
theorem jI(i:Nat)(d:Option Nat)(v:Value)(hy:∀ w',S w'->(execOp (evL l) (ops.getD i default)).run P w'=.ok (.value v) w')(k:Z i=false)(hc:sn n l ops L i d=true)(m:gd ops l (ops.getD i default)=some true)(o:∀ c a w,Q (.panic c) (a.put d v) w->Q (.panic c) a w)(h:GZ P n ds ops Q S Z fuel (i :: L) (pt l d v) w):GZ P n ds ops Q S Z (fuel + 1) L l w:=⟨fun ok hS a r=>by
 simp only[sn,Bool.and_eq_true] at hc;obtain⟨⟨j,b⟩,f⟩:=hc;have b:=kD b;obtain⟨g,h7⟩:=gO f;refine qd (v:=v) (zK ok b k) (bN b) (Region.noSelect_spec (Bb ok)) (by rw[g]; exact o) fuel _ a w (xC ok (bN b) j) (lT.1 j) (.inl ⟨eG r m,fun w' e=>by rw[gA f r]; exact hy w' e⟩) hS ?_
 rw[g,fZ L b]
 exact h.out ok hS _ (r.put d v h7)⟩
theorem bC(h:GE n ds Q .normal l w)(b:eD ops L=[]:=by kernel_rfl):GZ P n ds ops Q S Z fuel L l w:=⟨fun _ _ a r=>by
 have b:=(ft ops L).trans b
 cases fuel with
 | zero=>exact⟨b,h.out a r⟩
 | succ _=>exact⟨fun _=>h.out a r,by rw[b]; simp⟩⟩
theorem oY(h:GE n ds Q .normal l w)(b:eD ops L=[]:=by kernel_rfl):GY P n ds ops Q S Z fuel L l w:=⟨fun _ a r=>by
 have b:=(ft ops L).trans b
 cases fuel with
 | zero=>exact⟨b,h.out a r⟩
 | succ _=>exact⟨fun _=>h.out a r,by rw[b]; simp⟩⟩
structure GA(P:Program)(n:Nat)(ds:List Deferred)(ops:Array Oper)(Q:Exit->Act->World->Prop)(S:World->Prop)(Z:Nat->Bool)(fuel:Nat)(L:List Nat)(l:Fr)(w:World)(rs:List Nat):Prop where
 out:okR ops Z=true->S w->∀ a,Rd n ds l a->∀ i∈rs,wpOp P ops Q i (fun a' w'=>(Z i=true\/S w')/\gJ P .any ops Q S Z fuel ((arr ops.size L).setIfInBounds i true) a' w') a w
theorem cJ(rs:List Nat)(h:GA P n ds ops Q S Z fuel L l w rs)(c:eD ops L=rs:=by kernel_rfl)(b:rs≠[]:=by decide):GZ P n ds ops Q S Z (fuel + 1) L l w:=⟨fun ok hS a r =>
 ⟨fun d=>absurd (((ft ops L).trans c).symm.trans d) b,fun i hi=>h.out ok hS a r i (by rw[<- c,<- ft]; exact hi)⟩⟩
theorem dY:GA P n ds ops Q S Z fuel L l w []:=⟨fun _ _ _ _ _ h=>by cases h⟩
def hH(n:Nat)(l:Fr)(ops:Array Oper)(i:Nat)(d:Option Nat):Bool:=Nat.blt i ops.size && chk n l (ops.getD i default) d
theorem qa(i:Nat)(h:okR ops Z=true->S w->∀ a,Rd n ds l a->wpOp P ops Q i (fun a' w'=>(Z i=true\/S w')/\gJ P .any ops Q S Z fuel ((arr ops.size L).setIfInBounds i true) a' w') a w)(hs:GA P n ds ops Q S Z fuel L l w rs):GA P n ds ops Q S Z fuel L l w (i :: rs):=⟨fun ok hS a r j b=>by
 rcases List.mem_cons.1 b with rfl | b
 ·exact h ok hS a r
 ·exact hs.out ok hS a r j b⟩
theorem dX(i:Nat)(d:Option Nat)(f:FuncId)(args:Array Value)(b:Calls P f args w Qc)(k:∀ e w',Qc e w'->∃ v,e=.returned v/\S w'/\GZ P n ds ops Q S Z fuel (i :: L) (pt l d v) w')(hs:GA P n ds ops Q S Z fuel L l w rs)(hc:hH n l ops i d=true:=by kernel_rfl)(m:gd ops l (ops.getD i default)=some true:=by kernel_rfl)(g:(execOp (evL l) (ops.getD i default)).run P w=.ok (.enter f args) w:=by kernel_rfl):GA P n ds ops Q S Z fuel L l w (i :: rs):=by
 simp only[hH,Bool.and_eq_true] at hc;obtain⟨h,j⟩:=hc;have h:=kD h;obtain⟨o,h7⟩:=gO j;refine qa i (fun ok _ a r=>wpOp_step (bN h) fun K p => ?_) hs;rw[if_pos (eG r m)];unfold Oper.wp;rw[gA j r,g];refine b.mono fun e w' he => ?_
 obtain⟨v,rfl,c,hw⟩:=k e w' he
 show K (a.put (ops.getD i default).dst v) w'
 rw[o];refine p _ _ ⟨.inr c,?_⟩;rw[fZ L h];exact hw.out ok c _ (r.put d v h7)
theorem AF(i:Nat)(d:Option Nat)(v:Value)(w1:World)(c:(execOp (evL l) (ops.getD i default)).run P w=.ok (.value v) w1)(b:S w1)(h:GZ P n ds ops Q S Z fuel (i :: L) (pt l d v) w1)(hs:GA P n ds ops Q S Z fuel L l w rs)(hc:hH n l ops i d=true:=by kernel_rfl)(g:gd ops l (ops.getD i default)=some true:=by kernel_rfl):GA P n ds ops Q S Z fuel L l w (i :: rs):=by
 simp only[hH,Bool.and_eq_true] at hc;obtain⟨e,f⟩:=hc;have e:=kD e;obtain⟨j,h7⟩:=gO f;refine qa i (fun ok _ a r=>wpOp_step (bN e) fun K k => ?_) hs;rw[if_pos (eG r g)];unfold Oper.wp;rw[gA f r,c]
 show K (a.put (ops.getD i default).dst v) w1
 rw[j];refine k _ _ ⟨.inr b,?_⟩;rw[fZ L e];exact h.out ok b _ (r.put d v h7)
theorem Dx(i:Nat)(w1:World)(c:(execOp (evL l) (ops.getD i default)).run P w=.ok .skip w1)(b:S w1)(h:GZ P n ds ops Q S Z fuel (i :: L) l w1)(hs:GA P n ds ops Q S Z fuel L l w rs)(hc:hH n l ops i none=true:=by kernel_rfl)(f:gd ops l (ops.getD i default)=some true:=by kernel_rfl):GA P n ds ops Q S Z fuel L l w (i :: rs):=by
 simp only[hH,Bool.and_eq_true] at hc;obtain⟨d,e⟩:=hc;have d:=kD d;obtain⟨g,h7⟩:=gO e;refine qa i (fun ok _ a r=>wpOp_step (bN d) fun K j => ?_) hs;rw[if_pos (eG r f)];unfold Oper.wp;rw[gA e r,c]
 show K (a.put (ops.getD i default).dst undef) w1
 rw[g];refine j _ _ ⟨.inr b,?_⟩;rw[fZ L d];exact h.out ok b _ r
theorem yv(i:Nat)(w1:World)(b:(execOp (evL l) (ops.getD i default)).run P w=.ok .skip w1)(h:GY P n ds ops Q S Z fuel (i :: L) l w1)(d:eD ops L=[i]:=by kernel_rfl)(hc:hH n l ops i none=true:=by kernel_rfl)(m:gd ops l (ops.getD i default)=some true:=by kernel_rfl)(k:Z i=true:=by rfl):GY P n ds ops Q S Z (fuel + 1) L l w:=⟨fun ok a r=>by
 simp only[hH,Bool.and_eq_true] at hc;obtain⟨c,e⟩:=hc;have c:=kD c;obtain⟨o,h7⟩:=gO e;have d:=(ft ops L).trans d;refine⟨fun g=>(by rw[d] at g; cases g),fun j f => ?_⟩;obtain rfl:j=i:=by rw[d] at f; simpa using f
 refine wpOp_step (bN c) fun K p => ?_
 rw[if_pos (eG r m)];unfold Oper.wp;rw[gA e r,b]
 show K (a.put (ops.getD j default).dst undef) w1
 rw[o];refine p _ _ ⟨.inl k,?_⟩;rw[fZ L c]
 exact h.out ok _ r⟩
theorem yt(i d:Nat)(v:Value)(h:GY P n ds ops Q S Z fuel (i :: L) ((d,v) :: l) w)(e:eD ops L=[i]:=by kernel_rfl)(hc:hH n l ops i (some d)=true:=by kernel_rfl)(o:gd ops l (ops.getD i default)=some true:=by kernel_rfl)(m:Z i=true:=by rfl)(b:(execOp (evL l) (ops.getD i default)).run P w=.ok (.value v) w:=by kernel_rfl):GY P n ds ops Q S Z (fuel + 1) L l w:=⟨fun ok a r=>by
 simp only[hH,Bool.and_eq_true] at hc;obtain⟨c,f⟩:=hc;have c:=kD c;obtain⟨p,h7⟩:=gO f;have e:=(ft ops L).trans e;refine⟨fun k=>(by rw[e] at k; cases k),fun j g => ?_⟩;obtain rfl:j=i:=by rw[e] at g; simpa using g
 refine wpOp_step (bN c) fun K q => ?_
 rw[if_pos (eG r o)];unfold Oper.wp;rw[gA f r,b]
 show K (a.put (ops.getD j default).dst v) w
 rw[p];refine q _ _ ⟨.inl m,?_⟩;rw[fZ L c]
 exact h.out ok _ (r.put (some d) v h7)⟩
theorem z(i d:Nat)(v:Value)(h:GZ P n ds ops Q S Z fuel (i :: L) ((d,v) :: l) w)(g:Z i=false:=by rfl)(hc:sn n l ops L i (some d)=true:=by kernel_rfl)(e:gd ops l (ops.getD i default)=some true:=by kernel_rfl)(f:∀ c a w,Q (.panic c) (a.put (some d) v) w->Q (.panic c) a w:=by exact fun _ _ _ h=>h)(b:∀ w',S w'->(execOp (evL l) (ops.getD i default)).run P w'=.ok (.value v) w':=by exact fun _ _=>by kernel_rfl):GZ P n ds ops Q S Z (fuel + 1) L l w:=jI i (some d) v b g hc e f h
theorem zr(i d:Nat)(v:Value)(b:∀ w',S w'->(execOp (evL l) (ops.getD i default)).run P w'=.ok (.value v) w')(h:GZ P n ds ops Q S Z fuel (i :: L) ((d,v) :: l) w)(g:Z i=false:=by rfl)(hc:sn n l ops L i (some d)=true:=by kernel_rfl)(e:gd ops l (ops.getD i default)=some true:=by kernel_rfl)(f:∀ c a w,Q (.panic c) (a.put (some d) v) w->Q (.panic c) a w:=by exact fun _ _ _ h=>h):GZ P n ds ops Q S Z (fuel + 1) L l w:=jI i (some d) v b g hc e f h
theorem zq(i d:Nat)(v e:Value)(hv:v=e)(h:GZ P n ds ops Q S Z fuel (i :: L) ((d,e) :: l) w)(j:Z i=false:=by rfl)(hc:sn n l ops L i (some d)=true:=by kernel_rfl)(f:gd ops l (ops.getD i default)=some true:=by kernel_rfl)(g:∀ c a w,Q (.panic c) (a.put (some d) e) w->Q (.panic c) a w:=by exact fun _ _ _ h=>h)(b:∀ w',S w'->(execOp (evL l) (ops.getD i default)).run P w'=.ok (.value v) w':=by exact fun _ _=>by kernel_rfl):GZ P n ds ops Q S Z (fuel + 1) L l w:=by
 subst hv; exact jI i (some d) v b j hc f g h
theorem zc(i d:Nat)(f:FuncId)(args:Array Value)(a:Calls P f args w Qc)(g:∀ e w',Qc e w'->∃ v,e=.returned v/\S w'/\GZ P n ds ops Q S Z fuel (i :: L) ((d,v) :: l) w')(h:eD ops L=[i]:=by kernel_rfl)(hc:hH n l ops i (some d)=true:=by kernel_rfl)(c:gd ops l (ops.getD i default)=some true:=by kernel_rfl)(b:(execOp (evL l) (ops.getD i default)).run P w=.ok (.enter f args) w:=by kernel_rfl):GZ P n ds ops Q S Z (fuel + 1) L l w:=cJ [i] (dX i (some d) f args a g dY hc c b) h (by simp)
theorem zw(i d:Nat)(v:Value)(w1:World)(a:(execOp (evL l) (ops.getD i default)).run P w=.ok (.value v) w1)(b:S w1)(h:GZ P n ds ops Q S Z fuel (i :: L) ((d,v) :: l) w1)(e:eD ops L=[i]:=by kernel_rfl)(hc:hH n l ops i (some d)=true:=by kernel_rfl)(c:gd ops l (ops.getD i default)=some true:=by kernel_rfl):GZ P n ds ops Q S Z (fuel + 1) L l w:=cJ [i] (AF i (some d) v w1 a b h dY hc c) e (by simp)
theorem zv(i:Nat)(w1:World)(a:(execOp (evL l) (ops.getD i default)).run P w=.ok .skip w1)(b:S w1)(h:GZ P n ds ops Q S Z fuel (i :: L) l w1)(d:eD ops L=[i]:=by kernel_rfl)(hc:hH n l ops i none=true:=by kernel_rfl)(c:gd ops l (ops.getD i default)=some true:=by kernel_rfl):GZ P n ds ops Q S Z (fuel + 1) L l w:=cJ [i] (Dx i w1 a b h dY hc c) d (by simp)
end
end
end Gl
end
section
namespace Gl
open Go.RowKit Go.Lib Pg
section
variable {w:World}{g:Nat}{cs vs:List Value}{v x:Value}
abbrev pg(g:Nat):Value:=.pointer (some ⟨g,0,none⟩)
abbrev pq(g o:Nat):Value:=.pointer (some ⟨g,o,none⟩)
def zC(P:Program)(T:TypeId)(n:Nat):Bool:=(match P.underlying T with | some d=>d.isRow | none=>false) && ((P.info? T).map (·.size) == some n)
theorem l1{P:Program}{t T:TypeId}(X:Blk w g cs t)(o:Nat)(hv:cs[o]? = some v:=by rfl)(a:∀ w,(isAgg T).run P w=.ok false w:=by exact fun _=>by kernel_rfl):(loadVar T ⟨g,o,none⟩).run P w=.ok v w:=by
 have h:=X.cell hv;simp[loadVar,a,h]
theorem lr{P:Program}{t T:TypeId}(X:Blk w g cs t)(o:Nat)(c:(cs.drop o).take vs.length=vs:=by rfl)(hc:zC P T vs.length=true:=by kernel_rfl):(loadVar T ⟨g,o,none⟩).run P w=.ok (.agg vs.toArray) w:=by
 simp only[zC,Bool.and_eq_true,beq_iff_eq] at hc;obtain⟨a,b⟩:=hc
 cases hu:P.underlying T with
 | none=>rw[hu] at a; cases a
 | some d =>
  rw[hu] at a;refine run_loadVar_mid w g o T vs d (fun j v hv => ?_) hu a b;refine X.cell ?_
  rw[<- c] at hv;rw[List.getElem?_take] at hv;split at hv
  ·rw[List.getElem?_drop] at hv; exact hv
  ·cases hv
def spl(cs:List Value)(o:Nat)(vs:List Value):List Value:=cs.take o ++ vs ++ cs.drop (o + vs.length)
theorem iL(b:Nat):∀ (vs:List Value) (o:Nat) (w:World) (k:Nat),k≠b->(w.setCells b o vs).heap[k]? = w.heap[k]?
 | [],_,_,_,_=>rfl
 | v :: r,o,w,k,h=>by
  rw[World.setCells,iL b r (o + 1) _ k h,Below.heap_setCell w ⟨b,o,none⟩ v k h]
theorem iI(b:Nat):∀ (vs:List Value) (o:Nat) (w:World),(w.setCells b o vs).heap.size=w.heap.size
 | [],_,_=>rfl
 | v :: r,o,w=>by rw[World.setCells,iI b r (o + 1)]; simp[World.setCell]
theorem eF(b:Nat):∀ (vs:List Value) (o:Nat) (w:World),(w.setCells b o vs).os=w.os/\(w.setCells b o vs).tape=w.tape/\(w.setCells b o vs).output=w.output
 | [],_,_=>⟨rfl,rfl,rfl⟩
 | v :: r,o,w=>by rw[World.setCells]; exact eF b r (o + 1) _
theorem fl{t:TypeId}:∀ (vs:List Value) (o:Nat) (cs:List Value) (w:World),Blk w g cs t->o + vs.length<=cs.length->Blk (w.setCells g o vs) g (spl cs o vs) t
 | [],o,cs,w,X,_=>by simpa[World.setCells,spl] using X
 | v :: r,o,cs,w,X,h=>by
  rw[World.setCells]
  have h':o + 1 + r.length<=(cs.set o v).length:=by simp at h ⊢; omega
  have:=fl r (o + 1) (cs.set o v) _ (X.setCell (i:=o) v) h'
  have e:spl (cs.set o v) (o + 1) r=spl cs o (v :: r):=by
   simp only[List.length_cons] at h;unfold spl;rw[List.drop_set_of_lt (by omega),List.take_set,List.take_add_one,List.set_append]
   have a:(cs.take o).length=o:=by rw[List.length_take]; omega
   rw[a,if_neg (by omega),Nat.sub_self];obtain⟨y,hy⟩:∃ y,cs[o]? = some y:=⟨_,List.getElem?_eq_getElem (by omega)⟩
   rw[hy];simp;omega
  rw[e] at this;exact this
theorem pJ{P:Program}{o:Nat}{t T:TypeId}(X:Blk w g cs t)(hx:x.cells.toList=vs)(hi:((P.info? T).map (·.size) == some vs.length)=true)(b:vs.all (·.oneCell')=true)(hb:o + vs.length<=cs.length):(storeVar T ⟨g,o,none⟩ x).run P w=.ok () (w.setCells g o vs):=by
 have:=run_storeCells_cells (P:=P) g o vs 0 w (fun j c=>by
   have:=X.cell (i:=o + j) (List.getElem?_eq_getElem (by omega))
   simpa using (by rw[this]; rfl:(w.cell? ⟨g,o + j,none⟩).isSome=true)) (fun j _=>by simpa using X.free (o + j))
  (fun v hv=>List.all_eq_true.1 b v hv)
 cases hq:P.info? T with
 | none=>rw[hq] at hi; cases hi
 | some i =>
  rw[hq] at hi
  have hs:i.size=vs.length:=by simpa using hi
  have a:x.cells.size=i.size:=by rw[hs,<- hx]; simp
  simp only[Nat.add_zero] at this;simp[storeVar,sizeOf,typeInfo,hq,a,hx,this]
end
section
variable {P:Program} {n:Nat} {ds:List Deferred} {ops:Array Oper} {rest:List Oper} {o o1 o2:Oper} {l:Fr} {w w1:World} {Q Q':Exit->Act->World->Prop} {K:Act->World->Prop} {S:World->Prop} {Z:Nat->Bool} {fuel:Nat} {L:List Nat}
section
variable {ρ:Operand->Value}{g off:Nat}{cs vs:List Value}{x v:Value}{rs:List Nat}
theorem qq{t:TypeId}(X:Blk w g cs t)(a:∃ T p q,o.op=.store T p q/\ρ p=.pointer (some ⟨g,off,none⟩)/\ρ q=x/\((P.info? T).map (·.size) == some vs.length)=true)(hx:x.cells.toList=vs)(d:vs.all (·.oneCell')=true)(hb:Nat.ble (off + vs.length) cs.length=true):(execOp ρ o).run P w=.ok .skip (w.setCells g off vs):=by
 obtain⟨T,p,q,h,b,c,hi⟩:=a;simp only[execOp,h,b,c,Instr.storeAt,Instr.sureAddr,Sem.run_bind,Sem.run_pure,Result.andThen_ok,pJ X hx hi d (Nat.le_of_ble_eq_true hb)]
theorem gv(g off:Nat)(vs:List Value):Chg (· = g) w (w.setCells g off vs):=⟨(eF g vs off w).1,(eF g vs off w).2.1,(eF g vs off w).2.2,by rw[iI]; exact Nat.le_refl _,fun b _ hb=>iL g vs off w b hb⟩
theorem uD{t:TypeId}(X:Blk w g cs t)(hv:cs[off]? = some v)(c:∃ T p,o.op=.load T p/\ρ p=.pointer (some ⟨g,off,none⟩)/\∀ w,(isAgg T).run P w=.ok false w):(execOp ρ o).run P w=.ok (.value v) w:=by
 obtain⟨T,p,h,a,b⟩:=c;have:=l1 (P:=P) (T:=T) X off hv b;simp only[execOp,h,a];simp[Instr.loadAt,Instr.sureAddr,Result.andThen,this]
theorem uX{t:TypeId}(X:Blk w g cs t)(c:(cs.drop off).take vs.length=vs)(d:∃ T p,o.op=.load T p/\ρ p=.pointer (some ⟨g,off,none⟩)/\zC P T vs.length=true):(execOp ρ o).run P w=.ok (.value (.agg vs.toArray)) w:=by
 obtain⟨T,p,h,a,b⟩:=d;have:=lr (P:=P) (T:=T) X off c b;simp only[execOp,h,a];simp[Instr.loadAt,Instr.sureAddr,Result.andThen,this]
theorem tl(d:Nat)(v:Value){t:TypeId}(X:Blk w g cs t)(off:Nat)(h:GL P n ds ops Q rest ((d,v) :: l) w)(hv:cs[off]? = some v:=by rfl)(b:∃ T p,o.op=.load T p/\evL l p=.pointer (some ⟨g,off,none⟩)/\∀ w,(isAgg T).run P w=.ok false w:=by exact⟨_,_,rfl,by kernel_rfl,fun _=>by kernel_rfl⟩)(a:gd ops l o=some true:=by kernel_rfl)(hc:chk n l o (some d)=true:=by kernel_rfl):GL P n ds ops Q (o :: rest) l w:=jZ (some d) v a hc (uD X hv b) h
theorem tlr(d:Nat)(vs:List Value){t:TypeId}(X:Blk w g cs t)(off:Nat)(h:GL P n ds ops Q rest ((d,.agg vs.toArray) :: l) w)(b:(cs.drop off).take vs.length=vs:=by rfl)(c:∃ T p,o.op=.load T p/\evL l p=.pointer (some ⟨g,off,none⟩)/\zC P T vs.length=true:=by exact⟨_,_,rfl,by kernel_rfl,by kernel_rfl⟩)(a:gd ops l o=some true:=by kernel_rfl)(hc:chk n l o (some d)=true:=by kernel_rfl):GL P n ds ops Q (o :: rest) l w:=jZ (some d) _ a hc (uX X b c) h
theorem zl(i d:Nat)(v:Value){t:TypeId}(X:∀ w',S w'->Blk w' g cs t)(off:Nat)(h:GZ P n ds ops Q S Z fuel (i :: L) ((d,v) :: l) w)(hv:cs[off]? = some v:=by rfl)(k:∃ T p,(ops.getD i default).op=.load T p/\evL l p=.pointer (some ⟨g,off,none⟩)/\∀ w,(isAgg T).run P w=.ok false w:=by exact⟨_,_,rfl,by kernel_rfl,fun _=>by kernel_rfl⟩)(j:Z i=false:=by rfl)(hc:sn n l ops L i (some d)=true:=by kernel_rfl)(e:gd ops l (ops.getD i default)=some true:=by kernel_rfl)(f:∀ c a w,Q (.panic c) (a.put (some d) v) w->Q (.panic c) a w:=by exact fun _ _ _ h=>h):GZ P n ds ops Q S Z (fuel + 1) L l w:=jI i (some d) v (fun w' b=>uD (X w' b) hv k) j hc e f h
theorem zlr(i d:Nat)(vs:List Value){t:TypeId}(X:∀ w',S w'->Blk w' g cs t)(off:Nat)(h:GZ P n ds ops Q S Z fuel (i :: L) ((d,.agg vs.toArray) :: l) w)(k:(cs.drop off).take vs.length=vs:=by rfl)(m:∃ T p,(ops.getD i default).op=.load T p/\evL l p=.pointer (some ⟨g,off,none⟩)/\zC P T vs.length=true:=by exact⟨_,_,rfl,by kernel_rfl,by kernel_rfl⟩)(j:Z i=false:=by rfl)(hc:sn n l ops L i (some d)=true:=by kernel_rfl)(e:gd ops l (ops.getD i default)=some true:=by kernel_rfl)(f:∀ c a w,Q (.panic c) (a.put (some d) (.agg vs.toArray)) w->Q (.panic c) a w:=by exact fun _ _ _ h=>h):GZ P n ds ops Q S Z (fuel + 1) L l w:=jI i (some d) _ (fun w' b=>uX (X w' b) k m) j hc e f h
theorem ta(d:Nat)(vs:List Value)(T:TypeId)(mk:Nat->Value)(h:∀ w1 g,Blk w1 g vs T->w.heap.size<=g->Below w.heap.size w w1->GL P n ds ops Q rest ((d,mk g) :: l) w1)(b:gd ops l o=some true:=by kernel_rfl)(hc:chk n l o (some d)=true:=by kernel_rfl)(a:(execOp (evL l) o).run P w=.ok (.value (mk w.heap.size)) (w.alloc (.cells vs.toArray T)):=by kernel_rfl):GL P n ds ops Q (o :: rest) l w :=
 jZ (some d) _ b hc a (h _ _ (aC w vs T) (Nat.le_refl _) (ae w _))
theorem ts{t:TypeId}(X:Blk w g cs t)(off:Nat)(x:Value)(vs a:List Value)(h:∀ w1,Blk w1 g a t->Chg (· = g) w w1->GL P n ds ops Q rest l w1)(hx:x.cells.toList=vs:=by rfl)(c:vs.all (·.oneCell')=true:=by rfl)(hb:Nat.ble (off + vs.length) cs.length=true:=by rfl)(he:spl cs off vs=a:=by rfl)(b:∃ T p q,o.op=.store T p q/\evL l p=.pointer (some ⟨g,off,none⟩)/\evL l q=x/\((P.info? T).map (·.size) == some vs.length)=true:=by exact⟨_,_,_,rfl,by kernel_rfl,by kernel_rfl,by kernel_rfl⟩)(d:gd ops l o=some true:=by kernel_rfl)(hc:chk n l o none=true:=by kernel_rfl):GL P n ds ops Q (o :: rest) l w:=by
 refine Bj d hc (qq X b hx c hb) (h _ ?_ (gv g off vs));rw[<- he];exact fl vs off cs w X (Nat.le_of_ble_eq_true hb)
theorem za(i d:Nat)(vs:List Value)(T:TypeId)(mk:Nat->Value)(h:∀ w1 g,Blk w1 g vs T->w.heap.size<=g->Below w.heap.size w w1->S w1/\GZ P n ds ops Q S Z fuel (i :: L) ((d,mk g) :: l) w1)(c:eD ops L=[i]:=by kernel_rfl)(b:gd ops l (ops.getD i default)=some true:=by kernel_rfl)(hc:hH n l ops i (some d)=true:=by kernel_rfl)(a:(execOp (evL l) (ops.getD i default)).run P w=.ok (.value (mk w.heap.size)) (w.alloc (.cells vs.toArray T)):=by kernel_rfl):GZ P n ds ops Q S Z (fuel + 1) L l w:=by
 have H:=h _ _ (aC w vs T) (Nat.le_refl _) (ae w _);exact zw i d _ _ a H.1 H.2 c hc b
theorem zaa(i d:Nat)(vs:List Value)(T:TypeId)(mk:Nat->Value)(h:∀ w1 g,Blk w1 g vs T->w.heap.size<=g->Below w.heap.size w w1->S w1/\GZ P n ds ops Q S Z fuel (i :: L) ((d,mk g) :: l) w1)(hs:GA P n ds ops Q S Z fuel L l w rs)(b:gd ops l (ops.getD i default)=some true:=by kernel_rfl)(hc:hH n l ops i (some d)=true:=by kernel_rfl)(a:(execOp (evL l) (ops.getD i default)).run P w=.ok (.value (mk w.heap.size)) (w.alloc (.cells vs.toArray T)):=by kernel_rfl):GA P n ds ops Q S Z fuel L l w (i :: rs):=by
 have H:=h _ _ (aC w vs T) (Nat.le_refl _) (ae w _);exact AF i (some d) _ _ a H.1 H.2 hs hc b
theorem zs(i:Nat){t:TypeId}(X:Blk w g cs t)(off:Nat)(x:Value)(vs a:List Value)(h:∀ w1,Blk w1 g a t->Chg (· = g) w w1->S w1/\GZ P n ds ops Q S Z fuel (i :: L) l w1)(hx:x.cells.toList=vs:=by rfl)(c:vs.all (·.oneCell')=true:=by rfl)(hb:Nat.ble (off + vs.length) cs.length=true:=by rfl)(he:spl cs off vs=a:=by rfl)(b:∃ T p q,(ops.getD i default).op=.store T p q/\evL l p=.pointer (some ⟨g,off,none⟩)/\evL l q=x/\((P.info? T).map (·.size) == some vs.length)=true:=by exact⟨_,_,_,rfl,by kernel_rfl,by kernel_rfl,by kernel_rfl⟩)(e:eD ops L=[i]:=by kernel_rfl)(d:gd ops l (ops.getD i default)=some true:=by kernel_rfl)(hc:hH n l ops i none=true:=by kernel_rfl):GZ P n ds ops Q S Z (fuel + 1) L l w:=by
 have Y:=fl vs off cs w X (Nat.le_of_ble_eq_true hb);rw[he] at Y;have H:=h _ Y (gv g off vs);exact zv i _ (qq X b hx c hb) H.1 H.2 e hc d
theorem ys(i:Nat){t:TypeId}(X:Blk w g cs t)(off:Nat)(x:Value)(vs a:List Value)(h:∀ w1,Blk w1 g a t->Chg (· = g) w w1->GY P n ds ops Q S Z fuel (i :: L) l w1)(hx:x.cells.toList=vs:=by rfl)(d:vs.all (·.oneCell')=true:=by rfl)(hb:Nat.ble (off + vs.length) cs.length=true:=by rfl)(he:spl cs off vs=a:=by rfl)(b:∃ T p q,(ops.getD i default).op=.store T p q/\evL l p=.pointer (some ⟨g,off,none⟩)/\evL l q=x/\((P.info? T).map (·.size) == some vs.length)=true:=by exact⟨_,_,_,rfl,by kernel_rfl,by kernel_rfl,by kernel_rfl⟩)(f:eD ops L=[i]:=by kernel_rfl)(e:gd ops l (ops.getD i default)=some true:=by kernel_rfl)(hc:hH n l ops i none=true:=by kernel_rfl)(c:Z i=true:=by rfl):GY P n ds ops Q S Z (fuel + 1) L l w:=by
 have Y:=fl vs off cs w X (Nat.le_of_ble_eq_true hb);rw[he] at Y;exact yv i _ (qq X b hx d hb) (h _ Y (gv g off vs)) f hc e c
end
end
theorem wi {z:Int} (h : -9223372036854775808<=z/\z < 9223372036854775808):Value.int .i64 (IntKind.i64.wrap z)=.int .i64 z:=by rw[IntKind.wrap_i64]; congr 1; omega
def slT (P:Program) (T:TypeId) (sz:Nat):Bool:=match P.underlying T with
 | some (.slice e)=>(P.info? e).map (·.size) == some sz
 | _=>false
theorem vm {P:Program} {ρ:Operand->Value} {o:Oper} {w:World} (g b off n c k:Nat) (q:k < n) (p:∃ T x y,o.op=.indexAddr T x y/\slT P T g=true/\ρ x=.slice (some ⟨b,off,none⟩) n c/\ρ y=.int .i64 (k:Int):=by exact⟨_,_,_,rfl,by kernel_rfl,by kernel_rfl,by kernel_rfl⟩):(execOp ρ o).run P w=.ok (.value (.pointer (some ⟨b,off + k * g,none⟩))) w:=by
 obtain⟨T,x,y,l,f,j,m⟩:=p
 have h7:(k:Int) < n:=by omega
 have h8:¬ ((k:Int) < 0):=by omega
 unfold slT at f
 cases hu:P.underlying T with
 | none=>rw[hu] at f; cases f
 | some d =>
  rw[hu] at f
  cases d with
  | slice e =>
   simp only[beq_iff_eq] at f
   cases hi:P.info? e with
   | none=>rw[hi] at f; cases f
   | some i =>
    rw[hi] at f;simp at f;simp only[execOp,l,j,m];go_simp;simp[sizeOf,typeInfo,hi,f]
  | _=>cases f
theorem a7 {w0 w w1:World} {g:Nat} (B:Below w0.heap.size w0 w) (C:Chg (· = g) w w1) (h:w0.heap.size<=g):Below w0.heap.size w0 w1:=B.trans (C.below (fun b e=>by have e':b=g:=e; omega) B.size)
end Gl
end
end Go.Proofs.YthfepflplbahkaaGreatDoor
