import Derived.Test.YtpoifdokmjhclaaGreatJgk
set_option maxRecDepth 100000
set_option maxHeartbeats 8000000
namespace Go.Proofs.YtpoifdokmjhclaaGreat
namespace Gl
open Go.RowKit Go.Lib Pg
section
variable {P:Program} {n:Nat} {ds:List Deferred} {ops:Array Oper} {rest:List Oper} {o:Oper} {l:Fr} {w:World} {Q:Exit->Act->World->Prop}
section
variable {fn:Func}{vs:List Value}{f:FuncId}{c:Code}{R:Ending->World->Prop}{R':Ending→World→Prop}
theorem td(d:Deferred)(h:GL P n (d :: ds) ops Q rest l w)(b:gd ops l o=some true:=by kernel_rfl)(hc:chk n l o none=true:=by kernel_rfl)(hrun:(execOp (evL l) o).run P w=.ok (.defer d) w:=by kernel_rfl):GL P n ds ops Q (o :: rest) l w:=⟨fun a r =>
 BigFrame.wpList_want (dN r b) fun K c=>by
  unfold Oper.wp;rw[fq hc r,hrun,Oper.upon_defer,(fX hc).1]
  exact c _ _ (h.out _ ⟨r.size,by show d :: a.defers=d :: ds;rw[r.dfs],r.get⟩)⟩
theorem enR(hn:fn.ntmps=n)(c:Nat.ble vs.length n=true):Rd n [] (en 0 vs) { tmps:=vs.toArray ++ Array.replicate (fn.ntmps - vs.toArray.size) undef,defers:=[] }:=by
 have c:=Nat.le_of_ble_eq_true c;refine⟨?_,rfl,fun k v hk=>?_⟩
 ·simp;omega
 ·obtain⟨_,b⟩:=Av vs 0 k v hk;rw[Nat.sub_zero] at b;have a:=(List.getElem?_eq_some_iff.1 b).1;rw[Array.getElem?_append_left (by simpa using a)];simpa using b
theorem oH(hf:P.funcs[f]?=some fn)(hb:fn.body=some c)(h:GC P n [] c (bodyPostD P fn R) (en 0 vs) w)(hn:fn.ntmps=n:=by kernel_rfl)(a:Nat.ble vs.length n=true:=by kernel_rfl):Calls P f vs.toArray w R :=
 calls_of_wp_defers hf hb (h.out _ (enR hn a))
theorem og{u:FrameMode}(hf:P.funcs[f]? = some fn)(hb:fn.body=some c)(h:GC P n [] c (bodyPost P fn R) (en 0 vs) w)(hn:fn.ntmps=n:=by kernel_rfl)(a:Nat.ble vs.length n=true:=by kernel_rfl):CallsD P f vs.toArray u w fun e u' w'=>u'=u/\R e w' :=
 callsD_of_wp hf hb (h.out _ (enR hn a))
theorem wD{R:Ending → World → Prop}{fv : Fn}{cap b args:Array Value}(hi : (invoke (.fn fv cap) b).run P w = .ok (.enter f args) w)(hc : CallsD P f args .returning w fun e u' w' => u' = .returning ∧ R' e w')(h : ∀ e w', R' e w' → ∃ x v, e = .returned x ∧ (∀ a, Rd n [] l a → (results fn a.tmps).run P w' = .ok v w') ∧ R (.returned v) w') : GE n [⟨.fn fv cap, b⟩] (bodyPostD P fn R) .ret l w := ⟨fun a r => by
  show Leaves P fn a.tmps R a.defers .returning w
  rw[r.dfs];refine⟨by simp,fv,cap,f,args,rfl,hi,hc.mono ?_⟩;rintro e u' w' ⟨rfl,c⟩;obtain⟨x,v,rfl,d,g⟩:= h e w' c
  exact⟨v,d { a with defers:=[] } ⟨r.size,rfl,r.get⟩,g⟩⟩
end
end
end Gl
end Go.Proofs.YtpoifdokmjhclaaGreat
