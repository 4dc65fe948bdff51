/- (its rO) gleanlaw12.QueuePlays returns true for every input, and leaves its arguments as they are. Conditions: none but the form's own. -/
import Derived.Test.YtidnifmehnjipaaGreatLQueuePlays
import Derived.Test.YtidnifmehnjipaaGreatQuAr
import Derived.Test.YtidnifmehnjipaaGreatRows
import Derived.ProofKit
import Derived.ChangeOld
import Derived.Below
import Derived.ChangeSame
import Derived.SizedLaws
set_option maxRecDepth 100000
set_option maxHeartbeats 8000000
namespace Go.Proofs.YtidnifmehnjipaaGreat
namespace queuePlays
open Go.ChangeShapes Go.WideShapes Go.ChangeAt Go.RowKit Qu
theorem own:ownKnob Tryz.prog.godebug=none:=by kernel_rfl
theorem laidOut:laidOutB Tryz.prog=true:=by kernel_rfl
theorem rO (H:Type) (enc:TypeId × Value->H) (W:World) (base:Nat) (args:Array Value) (ds gs:List (DataW H)) (before:List MemPlace)
  (c:∀ (j:Nat) t v,Tryz.f3.params[j]?=some t->args[j]?=some v->Value.okWide Tryz.prog W .any base t v)
  (C:DataW.Whole enc Tryz.prog Tryz.f3.params.toList Rows.queuePlaysSpec.vars false W args.toList ds gs before)
  (hZ:(DataW.weightsEach Tryz.prog (Tryz.f3.params.toList ++ Rows.queuePlaysSpec.plain.varTypes Tryz.prog) (ds ++ gs)).all (· <= reachBytes)=true) :
  Calls Tryz.prog 3 args W fun e W'=>∃ v,e=.returned v/\Rows.queuePlaysSpec.post enc Tryz.prog Tryz.f3 false true false false W args v W':=by
 have a:∀ (j:Nat) t v,Tryz.f3.params[j]?=some t->args[j]?=some v->Value.okWide Tryz.prog W .any base t v:=c
 have l:=C;obtain⟨p,q,f,M,rfl,U,R⟩:=C
 have hA:DataW.TrodAll enc Tryz.prog W 0 (fun _=>true) true Tryz.f3.params.toList args.toList ds p:=f;rw[Tryz.params3] at hA a;obtain⟨v0,J,d0,F,T,Z,u,rfl,rfl,B,r0⟩:=trodAll_cons hA;obtain⟨v1,E,d1,G,p1,q1,rfl,rfl,rfl,O,r1⟩:=trodAll_cons r0;obtain⟨v2,N,d2,L,D,Y,rfl,rfl,rfl,w,S⟩:=trodAll_cons r1;obtain⟨rfl,rfl,rfl⟩:=trodAll_nil S;obtain rfl:args=#[v0,v1,v2]:=by cases args;simp_all
 obtain⟨rfl,rfl⟩:=trodVars_none M;obtain⟨I,rfl⟩:=okWide_int Tryz.underlying22 (a 0 22 v0 rfl rfl);obtain⟨y1,rfl⟩:∃ n,v1=.bool n:=okWide_bool Tryz.underlying4 (a 1 4 v1 rfl rfl);obtain⟨K,d,g,rfl⟩:=okWide_slice Tryz.underlying23 (a 2 23 v2 rfl rfl);have k0:=B
 have i:∀ x∈T,x.block < W.heap.size:=by obtain⟨m,hm⟩:=k0;exact DataW.trod_lt m _ _ _ hm
 have A:=O
 have r:∀ x∈p1,x.block < W.heap.size:=by obtain⟨m,hm⟩:=A;exact DataW.trod_lt m _ _ _ hm
 have y:=w
 have s:∀ x∈D,x.block < W.heap.size:=by obtain⟨m,hm⟩:=y;exact DataW.trod_lt m _ _ _ hm
 obtain⟨X,V,st,Q⟩:∃ b o st,Qu.mJ W K d b o st:=by
  obtain⟨fuel,hf⟩:=w;exact Qu.tZ (cap:=g) (fun _=>rfl) hf
 have u0:Qu.Uq I:=by
  obtain⟨fuel,hf⟩:=B;obtain⟨z,e,_,P⟩:=DataW.trod_int Tryz.underlying22 hf;simp[Value.cells] at e;subst e;exact Pw.jF P
 clear f c;refine(Qu.lC u0 Q).mono fun e W' ⟨he,bel⟩=>?_
 subst he;exact⟨_,rfl,_,_,_,[],_,[],l,trodAll_mk1 (shut_bool Tryz.underlying4 _),(trodAll_cons_mk (Below.trod laidOut (by kernel_rfl) (of_decide_eq_true (by kernel_rfl)) k0 bel i) (trodAll_cons_mk (Below.trod laidOut (by kernel_rfl) (of_decide_eq_true (by kernel_rfl)) A bel r) (trodAll_cons_mk (Below.trod laidOut (by kernel_rfl) (of_decide_eq_true (by kernel_rfl)) y bel s) trodAll_mk0))),rfl,bel.frame _,fun h=>by cases h⟩
theorem lifted (os:Os) (started:os.Started) (H:Type) (enc:TypeId × Value→H) :
    ReturnsInHanded {} Tryz.checked os 3 .any (Rows.queuePlaysSpec.pre6 enc Tryz.prog Tryz.f3 Rows.queuePlaysRow.domain false) (Rows.queuePlaysSpec.post enc Tryz.prog Tryz.f3 false true false false):=by
  refine returnsInHanded_of_change_sized (C:=Tryz.checked) own started (by kernel_rfl) Tryz.func3
    (ChangeSpec.witness6 (enc:=enc) (C:=Tryz.checked) false ⟨#[],#[.int .u64 0,.bool false,.slice none 0 0],[]⟩ 8 (by kernel_rfl) (by kernel_rfl) (by kernel_rfl) (by kernel_rfl)) ?_
  intro W base args d gs before a c _ b _;exact rO H enc W base args d gs before a c b
end queuePlays
end Go.Proofs.YtidnifmehnjipaaGreat
