/- gleanlaw9.BankSplit returns true for every input, and leaves its arguments as they are. Conditions: none but the form's own. -/
import Derived.Test.YtfpclhjmfpfhiaaGreatLBankSplit
import Derived.Test.YtfpclhjmfpfhiaaGreatBkJ
import Derived.Test.YtfpclhjmfpfhiaaGreatRows
import Derived.WalkKit
import Derived.ProofKit
import Derived.OpenShut
import Derived.ChangeOld
import Derived.Below
import Derived.ChangeSame
import Derived.SizedLaws
namespace Go.Proofs.YtfpclhjmfpfhiaaGreat
namespace bankSplit
open Go.ChangeShapes Go.WideShapes Go.ChangeAt Go.RowKit Bk
theorem own:ownKnob Tryz.prog.godebug=none:=by kernel_rfl
theorem laidOut:laidOutB Tryz.prog=true:=by kernel_rfl
set_option maxRecDepth 100000 in
theorem contract (H:Type) (enc:TypeId × Value->H) (W:World) (base:Nat) (args:Array Value) (ds gs:List (DataW H)) (before:List MemPlace)
  (hval0:∀ (j:Nat) t v,Tryz.f5.params[j]? = some t->args[j]? = some v->Value.okWide Tryz.prog W .any base t v)
  (hW:DataW.Whole enc Tryz.prog Tryz.f5.params.toList Rows.bankSplitSpec.vars false W args.toList ds gs before)
  (hZ:(DataW.weightsEach Tryz.prog (Tryz.f5.params.toList ++ Rows.bankSplitSpec.plain.varTypes Tryz.prog) (ds ++ gs)).all (· <= reachBytes)=true) :
  Calls Tryz.prog 5 args W fun e W'=>∃ v,e=.returned v/\Rows.bankSplitSpec.post enc Tryz.prog Tryz.f5 false true false false W args v W':=by
 have hval:∀ (j:Nat) t v,Tryz.f5.params[j]? = some t->args[j]? = some v->Value.okWide Tryz.prog W .any base t v:=hval0
 have hW':=hW
 obtain ⟨p,q,hA0,hV,rfl,hfz,hnd⟩:=hW
 have hA:DataW.TrodAll enc Tryz.prog W 0 (fun _=>true) true Tryz.f5.params.toList args.toList ds p:=hA0
 rw [Tryz.params5] at hA hval
 obtain ⟨v0,vs0,d0,ds0,p0,q0,hargs,rfl,rfl,h0,r0⟩:=trodAll_cons hA
 obtain ⟨v1,vs1,d1,ds1,p1,q1,rfl,rfl,rfl,h1,r1⟩:=trodAll_cons r0
 obtain ⟨v2,vs2,d2,ds2,p2,q2,rfl,rfl,rfl,h2,r2⟩:=trodAll_cons r1
 obtain ⟨v3,vs3,d3,ds3,p3,q3,rfl,rfl,rfl,h3,r3⟩:=trodAll_cons r2
 obtain ⟨v4,vs4,d4,ds4,p4,q4,rfl,rfl,rfl,h4,r4⟩:=trodAll_cons r3
 obtain ⟨rfl,rfl,rfl⟩:=trodAll_nil r4
 obtain rfl:args=#[v0,v1,v2,v3,v4]:=by cases args; simp_all
 obtain ⟨rfl,rfl⟩:=trodVars_none hV
 obtain ⟨a0,len0,cap0,rfl⟩:=okWide_slice Tryz.underlying22 (hval 0 22 v0 rfl rfl)
 obtain ⟨y1,rfl⟩:=okWide_int Tryz.underlying31 (hval 1 31 v1 rfl rfl)
 obtain ⟨y2,rfl⟩:=okWide_int Tryz.underlying31 (hval 2 31 v2 rfl rfl)
 obtain ⟨y3,rfl⟩:=okWide_int Tryz.underlying31 (hval 3 31 v3 rfl rfl)
 obtain ⟨y4,rfl⟩:=okWide_int Tryz.underlying31 (hval 4 31 v4 rfl rfl)
 have k0:=h0
 have lt0:∀ x∈p0,x.block < W.heap.size:=by obtain ⟨m,hm⟩:=k0; exact DataW.trod_lt m _ _ _ hm
 have k1:=h1
 have lt1:∀ x∈p1,x.block < W.heap.size:=by obtain ⟨m,hm⟩:=k1; exact DataW.trod_lt m _ _ _ hm
 have k2:=h2
 have lt2:∀ x∈p2,x.block < W.heap.size:=by obtain ⟨m,hm⟩:=k2; exact DataW.trod_lt m _ _ _ hm
 have k3:=h3
 have lt3:∀ x∈p3,x.block < W.heap.size:=by obtain ⟨m,hm⟩:=k3; exact DataW.trod_lt m _ _ _ hm
 have k4:=h4
 have lt4:∀ x∈p4,x.block < W.heap.size:=by obtain ⟨m,hm⟩:=k4; exact DataW.trod_lt m _ _ _ hm
 obtain ⟨pb,po,sw,sa,sb,sn,w0⟩:∃ b o sw sa sb sn,Bk.StpA W a0 len0 b o sw sa sb sn:=by
  obtain ⟨fuel,hf⟩:=h0
  exact Bk.steps_in (cap:=cap0) (fun _=>rfl) hf
 have u1:Bk.U64 y1:=by
  obtain ⟨fuel,hf⟩:=h1
  obtain ⟨z,e,_,wz⟩:=DataW.trod_int Tryz.underlying31 hf
  simp [Value.cells] at e
  subst e
  exact Bk.u64w wz
 have u2:Bk.U64 y2:=by
  obtain ⟨fuel,hf⟩:=h2
  obtain ⟨z,e,_,wz⟩:=DataW.trod_int Tryz.underlying31 hf
  simp [Value.cells] at e
  subst e
  exact Bk.u64w wz
 have u3:Bk.U64 y3:=by
  obtain ⟨fuel,hf⟩:=h3
  obtain ⟨z,e,_,wz⟩:=DataW.trod_int Tryz.underlying31 hf
  simp [Value.cells] at e
  subst e
  exact Bk.u64w wz
 have u4:Bk.U64 y4:=by
  obtain ⟨fuel,hf⟩:=h4
  obtain ⟨z,e,_,wz⟩:=DataW.trod_int Tryz.underlying31 hf
  simp [Value.cells] at e
  subst e
  exact Bk.u64w wz
 clear hA0 hval0
 refine (Bk.bankSplit_walk w0 u1 u2 u3 u4).mono fun e W' ⟨he,bel⟩ => ?_
 subst he
 exact ⟨_,rfl,_,_,_,[],_,[],hW',trodAll_mk1 (shut_bool Tryz.underlying4 _),(trodAll_cons_mk (Below.trod laidOut (by kernel_rfl) (of_decide_eq_true (by kernel_rfl)) k0 bel lt0) (trodAll_cons_mk (Below.trod laidOut (by kernel_rfl) (of_decide_eq_true (by kernel_rfl)) k1 bel lt1) (trodAll_cons_mk (Below.trod laidOut (by kernel_rfl) (of_decide_eq_true (by kernel_rfl)) k2 bel lt2) (trodAll_cons_mk (Below.trod laidOut (by kernel_rfl) (of_decide_eq_true (by kernel_rfl)) k3 bel lt3) (trodAll_cons_mk (Below.trod laidOut (by kernel_rfl) (of_decide_eq_true (by kernel_rfl)) k4 bel lt4) trodAll_mk0))))),rfl,bel.frame _,fun h=>by cases h⟩
set_option maxRecDepth 100000 in
theorem lifted (os : Os) (started : os.Started) (H : Type) (enc : TypeId × Value → H) :
    ReturnsInHanded {} Tryz.checked os 5 .any (Rows.bankSplitSpec.pre6 enc Tryz.prog Tryz.f5 Rows.bankSplitRow.domain false) (Rows.bankSplitSpec.post enc Tryz.prog Tryz.f5 false true false false) := by
  refine returnsInHanded_of_change_sized (C := Tryz.checked) own started (by kernel_rfl) Tryz.func5
    (ChangeSpec.witness6 (enc := enc) (C := Tryz.checked) false ⟨#[], #[.slice none 0 0, .int .u64 0, .int .u64 0, .int .u64 0, .int .u64 0], []⟩ 8 (by kernel_rfl) (by kernel_rfl) (by kernel_rfl) (by kernel_rfl)) ?_
  intro W base args ds gs before hval hW _ hZ _
  exact contract H enc W base args ds gs before hval hW hZ
end bankSplit
theorem bankSplit_said : Rows.BankSplitSaid :=
  OpenClaim.holds_of_wide 5 Tryz.f5 rfl rfl rfl rfl rfl rfl rfl ⟨rfl, rfl, rfl, rfl, rfl⟩ rfl rfl rfl rfl rfl (by kernel_rfl) Tryz.func5 (by kernel_rfl)
    (of_decide_eq_true (by kernel_rfl)) (by unfold Func.isWrapper; first | (rw [if_pos (by decide +kernel)]; kernel_rfl) | (rw [if_neg (by decide +kernel)]; exact ⟨rfl, rfl⟩))
    (fun os started H enc _ => bankSplit.lifted os started H enc)
end Go.Proofs.YtfpclhjmfpfhiaaGreat
