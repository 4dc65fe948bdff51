/- gleanlaw12.QueueApart returns true for every input, and leaves its arguments as they are. Conditions: none but the form's own. -/
import Derived.Test.YtliajmpchofiiaaGreatLQueueApart
import Derived.Test.YtliajmpchofiiaaGreatQuAr
import Derived.Test.YtliajmpchofiiaaGreatRows
import Derived.WalkKit
import Derived.ProofKit
import Derived.OpenShut
import Derived.ChangeOld
import Derived.Below
import Derived.ChangeSame
import Derived.SizedLaws
import Derived.JoinedOf
set_option maxRecDepth 100000
set_option maxHeartbeats 8000000
namespace Go.Proofs.YtliajmpchofiiaaGreat
namespace queueApart
open Go.ChangeShapes Go.WideShapes Go.ChangeAt Go.RowKit Qu
theorem own:ownKnob Tryz.prog.godebug=none:=by kernel_rfl
theorem laidOut:laidOutB Tryz.prog=true:=by kernel_rfl
theorem lM (H:Type) (enc:TypeId × Value->H) (W:World) (base:Nat) (args:Array Value) (ds gs:List (DataW H)) (before:List MemPlace)
  (hval0:∀ (j:Nat) t v,Tryz.f6.params[j]? = some t->args[j]? = some v->Value.okWide Tryz.prog W .any base t v)
  (hW:DataW.Whole enc Tryz.prog Tryz.f6.params.toList Rows.queueApartSpec.vars false W args.toList ds gs before)
  (hZ:(DataW.weightsEach Tryz.prog (Tryz.f6.params.toList ++ Rows.queueApartSpec.plain.varTypes Tryz.prog) (ds ++ gs)).all (· <= reachBytes)=true) :
  Calls Tryz.prog 6 args W fun e W'=>∃ v,e=.returned v/\Rows.queueApartSpec.post enc Tryz.prog Tryz.f6 false true false false W args v W':=by
 have hval:∀ (j:Nat) t v,Tryz.f6.params[j]? = some t->args[j]? = some v->Value.okWide Tryz.prog W .any base t v:=hval0
 have hW':=hW;obtain⟨p,q,hA0,hV,rfl,hfz,hnd⟩:=hW
 have hA:DataW.TrodAll enc Tryz.prog W 0 (fun _=>true) true Tryz.f6.params.toList args.toList ds p:=hA0;rw[Tryz.params6] at hA hval;obtain⟨v0,vs0,d0,ds0,p0,q0,hargs,rfl,rfl,h0,r0⟩:=trodAll_cons hA;obtain⟨v1,vs1,d1,ds1,p1,q1,rfl,rfl,rfl,h1,r1⟩:=trodAll_cons r0;obtain⟨v2,vs2,d2,ds2,p2,q2,rfl,rfl,rfl,h2,r2⟩:=trodAll_cons r1;obtain⟨v3,vs3,d3,ds3,p3,q3,rfl,rfl,rfl,h3,r3⟩:=trodAll_cons r2;obtain⟨rfl,rfl,rfl⟩:=trodAll_nil r3;obtain rfl:args=#[v0,v1,v2,v3]:=by cases args; simp_all
 obtain⟨rfl,rfl⟩:=trodVars_none hV;obtain⟨a0,len0,cap0,rfl⟩:=okWide_slice Tryz.underlying28 (hval 0 28 v0 rfl rfl);obtain⟨y1,rfl⟩:=okWide_int Tryz.underlying3 (hval 1 3 v1 rfl rfl);obtain⟨y2,rfl⟩:=okWide_int Tryz.underlying27 (hval 2 27 v2 rfl rfl);obtain⟨cs3,rfl,hcs3⟩:=okWide_struct Tryz.underlying49 (hval 3 49 v3 rfl rfl);have k0:=h0
 have lt0:∀ x∈p0,x.block < W.heap.size:=by obtain⟨m,hm⟩:=k0; exact DataW.trod_lt m _ _ _ hm
 have k1:=h1
 have lt1:∀ x∈p1,x.block < W.heap.size:=by obtain⟨m,hm⟩:=k1; exact DataW.trod_lt m _ _ _ hm
 have k2:=h2
 have lt2:∀ x∈p2,x.block < W.heap.size:=by obtain⟨m,hm⟩:=k2; exact DataW.trod_lt m _ _ _ hm
 have k3:=h3
 have lt3:∀ x∈p3,x.block < W.heap.size:=by obtain⟨m,hm⟩:=k3; exact DataW.trod_lt m _ _ _ hm
 obtain⟨pb,po,st,w0⟩:∃ b o st,Qu.gL W a0 len0 b o st:=by
  obtain⟨fuel,hf⟩:=h0;exact Qu.lJ (cap:=cap0) (fun _=>rfl) hf
 have u2:Qu.Uq y2:=by
  obtain⟨fuel,hf⟩:=h2;obtain⟨z,e,_,wz⟩:=DataW.trod_int Tryz.underlying27 hf;simp[Value.cells] at e;subst e;exact Pw.ic wz
 obtain⟨a3,n3,c3,z3,x3,ec3,w3,b3⟩:∃ a n c z V,cs3=#[Value.slice a n c]/\Qu.Nk W (fun b=>W.heap.size<=b) z a n c V/\0<=V:=by
  obtain⟨fuel,hf⟩:=h3;obtain⟨cc,rfl⟩:∃ c,cs3=#[c]:=Qu.yq (hcs3.trans (by kernel_rfl))
  have hf':DataW.trod enc Tryz.prog W 0 (fun _=>true) true fuel 49 [cc]=some _:=hf;obtain⟨ds,kd,hkd,ed,_,hdl,hdf⟩:=DataW.trod_struct Tryz.underlying49 hf';obtain⟨d0,rfl⟩:=Qu.vN (show ds.length=1 from hdl);have f0:=hdf 0 _ rfl
  have qN:Tryz.prog.cellsOf 47=1:=by kernel_rfl
  simp[qN] at f0;obtain⟨a,n,d,z,V,e,h1,h2⟩:=Qu.wT f0 (fun _=>rfl);exact⟨a,n,d,z,V,by rw[e],h1,h2⟩
 subst ec3;clear hA0 hval0;refine(Qu.jU w0 u2 w3 b3).mono fun e W' ⟨he,bel⟩ => ?_
 subst he;exact⟨_,rfl,_,_,_,[],_,[],hW',trodAll_mk1 (shut_bool Tryz.underlying4 _),(trodAll_cons_mk (Below.trod laidOut (by kernel_rfl) (of_decide_eq_true (by kernel_rfl)) k0 bel lt0) (trodAll_cons_mk (Below.trod laidOut (by kernel_rfl) (of_decide_eq_true (by kernel_rfl)) k1 bel lt1) (trodAll_cons_mk (Below.trod laidOut (by kernel_rfl) (of_decide_eq_true (by kernel_rfl)) k2 bel lt2) (trodAll_cons_mk (Below.trod laidOut (by kernel_rfl) (of_decide_eq_true (by kernel_rfl)) k3 bel lt3) trodAll_mk0)))),rfl,bel.frame _,fun h=>by cases h⟩
theorem lifted (os : Os) (started : os.Started) (H : Type) (enc : TypeId × Value → H) :
    ReturnsInHanded {} Tryz.checked os 6 .any (Rows.queueApartSpec.pre6 enc Tryz.prog Tryz.f6 Rows.queueApartRow.domain false) (Rows.queueApartSpec.post enc Tryz.prog Tryz.f6 false true false false) := by
  refine returnsInHanded_of_change_sized (C := Tryz.checked) own started (by kernel_rfl) Tryz.func6
    (ChangeSpec.witness6 (enc := enc) (C := Tryz.checked) false ⟨#[], #[.slice none 0 0, .int .i64 0, .int .u64 0, .agg #[.slice none 0 0]], []⟩ 8 (by kernel_rfl) (by kernel_rfl) (by kernel_rfl) (by kernel_rfl)) ?_
  intro W base args ds gs before hval hW _ hZ _;exact lM H enc W base args ds gs before hval hW hZ
theorem closed:joinedFacts Tryz.prog 6 Tryz.f6 Rows.queueApartSpec Rows.queueApartRow=true:=by
 unfold joinedFacts;simp only[Bool.and_eq_true]
 repeat' refine And.intro ?_ ?_
 all_goals (as_aux_lemma=>kernel_rfl)
end queueApart
theorem queueApart_said : Rows.QueueApartSaid :=
  OpenClaim.holds_of_wide 6 Tryz.f6 rfl rfl rfl rfl rfl rfl rfl ⟨rfl, rfl, rfl, rfl, rfl⟩ rfl rfl rfl rfl rfl (by kernel_rfl) Tryz.func6 queueApart.closed
    (of_decide_eq_true (by kernel_rfl)) (by unfold Func.isWrapper; first | (rw[if_pos (by decide +kernel)]; kernel_rfl) | (rw[if_neg (by decide +kernel)]; exact⟨rfl, rfl⟩))
    (fun os started H enc _ => queueApart.lifted os started H enc)
end Go.Proofs.YtliajmpchofiiaaGreat
