/- gleanlaw19.SoundParams returns true for every input, and leaves its arguments as they are. Conditions: none but the form's own. -/
import Derived.Test.YtopifdikfhffgaaGreatLSoundParams
import Derived.Test.YtopifdikfhffgaaGreatRows
import Derived.WalkKit
import Derived.ProofKit
import Derived.OpenShut
import Derived.ChangeOld
import Derived.Below
import Derived.ChangeSame
import Derived.SizedLaws
import Derived.JoinedOf
set_option maxRecDepth 100000
set_option maxHeartbeats 8000000
namespace Go.Proofs.YtopifdikfhffgaaGreat
namespace soundParams
open Go.ChangeShapes Go.WideShapes Go.ChangeAt Go.RowKit Sd
theorem ten_list {α:Type} {l:List α} (h:l.length=10):∃ a b c d e f g i j k,l=[a,b,c,d,e,f,g,i,j,k]:=by
 match l,h with
 | [a,b,c,d,e,f,g,i,j,k],_=>exact ⟨a,b,c,d,e,f,g,i,j,k,rfl⟩
theorem par_in {H:Type} {enc:TypeId × Value->H} {W:World} {base fuel:Nat} {spare:Nat->Bool} {held:Bool} {cs:List Value} {x:DataW H × List MemPlace} (hlen:cs.length=10) (h:DataW.trod enc Tryz.prog W base spare held fuel 24 cs=some x):∃ x0 x1 x2 x3 x4 x5 x6 x7 x8 x9,cs=[.int .u64 x0,.int .u64 x1,.int .u64 x2,.int .u64 x3,.int .u64 x4,.int .u64 x5,.int .u64 x6,.int .u64 x7,.int .u64 x8,.int .u64 x9]:=by
 obtain ⟨xs,k,hk,rfl,_,hxl,hf⟩:=DataW.trod_struct Tryz.underlying24 h
 obtain ⟨y0,y1,y2,y3,y4,y5,y6,y7,y8,y9,rfl⟩:=ten_list (show xs.length=10 from hxl)
 obtain ⟨v0,v1,v2,v3,v4,v5,v6,v7,v8,v9,rfl⟩:=ten_list hlen
 have g0:=hf 0 _ rfl
 have g1:=hf 1 _ rfl
 have g2:=hf 2 _ rfl
 have g3:=hf 3 _ rfl
 have g4:=hf 4 _ rfl
 have g5:=hf 5 _ rfl
 have g6:=hf 6 _ rfl
 have g7:=hf 7 _ rfl
 have g8:=hf 8 _ rfl
 have g9:=hf 9 _ rfl
 have q28:Tryz.prog.cellsOf 22=1:=by kernel_rfl
 simp [q28] at g0 g1 g2 g3 g4 g5 g6 g7 g8 g9
 obtain ⟨n0,e0,_,w0⟩:=DataW.trod_int Tryz.underlying22 g0
 obtain ⟨n1,e1,_,w1⟩:=DataW.trod_int Tryz.underlying22 g1
 obtain ⟨n2,e2,_,w2⟩:=DataW.trod_int Tryz.underlying22 g2
 obtain ⟨n3,e3,_,w3⟩:=DataW.trod_int Tryz.underlying22 g3
 obtain ⟨n4,e4,_,w4⟩:=DataW.trod_int Tryz.underlying22 g4
 obtain ⟨n5,e5,_,w5⟩:=DataW.trod_int Tryz.underlying22 g5
 obtain ⟨n6,e6,_,w6⟩:=DataW.trod_int Tryz.underlying22 g6
 obtain ⟨n7,e7,_,w7⟩:=DataW.trod_int Tryz.underlying22 g7
 obtain ⟨n8,e8,_,w8⟩:=DataW.trod_int Tryz.underlying22 g8
 obtain ⟨n9,e9,_,w9⟩:=DataW.trod_int Tryz.underlying22 g9
 simp at e0 e1 e2 e3 e4 e5 e6 e7 e8 e9
 subst e0 e1 e2 e3 e4 e5 e6 e7 e8 e9
 exact ⟨n0,n1,n2,n3,n4,n5,n6,n7,n8,n9,rfl⟩
theorem own:ownKnob Tryz.prog.godebug=none:=by kernel_rfl
theorem laidOut:laidOutB Tryz.prog=true:=by kernel_rfl
theorem contract (H:Type) (enc:TypeId × Value->H) (W:World) (base:Nat) (args:Array Value) (ds gs:List (DataW H)) (before:List MemPlace)
  (hval0:∀ (j:Nat) t v,Tryz.f3.params[j]? = some t->args[j]? = some v->Value.okWide Tryz.prog W .any base t v)
  (hW:DataW.Whole enc Tryz.prog Tryz.f3.params.toList Rows.soundParamsSpec.vars false W args.toList ds gs before)
  (hZ:(DataW.weightsEach Tryz.prog (Tryz.f3.params.toList ++ Rows.soundParamsSpec.plain.varTypes Tryz.prog) (ds ++ gs)).all (· <= reachBytes)=true) :
  Calls Tryz.prog 3 args W fun e W'=>∃ v,e=.returned v/\Rows.soundParamsSpec.post enc Tryz.prog Tryz.f3 false true false false W args v W':=by
 have hval:∀ (j:Nat) t v,Tryz.f3.params[j]? = some t->args[j]? = some v->Value.okWide Tryz.prog W .any base t v:=hval0
 have hW':=hW
 obtain ⟨p,q,hA0,hV,rfl,hfz,hnd⟩:=hW
 have hA:DataW.TrodAll enc Tryz.prog W 0 (fun _=>true) true Tryz.f3.params.toList args.toList ds p:=hA0
 rw [Tryz.params3] at hA hval
 obtain ⟨v0,vs0,d0,ds0,p0,q0,hargs,rfl,rfl,h0,r0⟩:=trodAll_cons hA
 obtain ⟨rfl,rfl,rfl⟩:=trodAll_nil r0
 obtain rfl:args=#[v0]:=by cases args; simp_all
 obtain ⟨rfl,rfl⟩:=trodVars_none hV
 obtain ⟨cs0,rfl,hcs0⟩:=okWide_struct Tryz.underlying24 (hval 0 24 v0 rfl rfl)
 have k0:=h0
 have lt0:∀ x∈p0,x.block < W.heap.size:=by obtain ⟨m,hm⟩:=k0; exact DataW.trod_lt m _ _ _ hm
 obtain ⟨x0,x1,x2,x3,x4,x5,x6,x7,x8,x9,ei0⟩:∃ x0 x1 x2 x3 x4 x5 x6 x7 x8 x9,cs0.toList=[.int .u64 x0,.int .u64 x1,.int .u64 x2,.int .u64 x3,.int .u64 x4,.int .u64 x5,.int .u64 x6,.int .u64 x7,.int .u64 x8,.int .u64 x9]:=by
  obtain ⟨fuel,hf⟩:=h0
  exact par_in (by rw [Array.length_toList,hcs0]; kernel_rfl) hf
 obtain rfl:cs0=#[.int .u64 x0,.int .u64 x1,.int .u64 x2,.int .u64 x3,.int .u64 x4,.int .u64 x5,.int .u64 x6,.int .u64 x7,.int .u64 x8,.int .u64 x9]:=by rw [<- Array.toArray_toList (xs:=cs0),ei0]
 clear hA0 hval0
 refine soundParams_walk.mono fun e W' ⟨he,bel⟩ => ?_
 subst he
 exact ⟨_,rfl,_,_,_,[],_,[],hW',trodAll_mk1 (shut_bool Tryz.underlying4 _),(trodAll_cons_mk (Below.trod laidOut (by kernel_rfl) (of_decide_eq_true (by kernel_rfl)) k0 bel lt0) trodAll_mk0),rfl,bel.frame _,fun h=>by cases h⟩
theorem lifted (os : Os) (started : os.Started) (H : Type) (enc : TypeId × Value → H) :
    ReturnsInHanded {} Tryz.checked os 3 .any (Rows.soundParamsSpec.pre6 enc Tryz.prog Tryz.f3 Rows.soundParamsRow.domain false) (Rows.soundParamsSpec.post enc Tryz.prog Tryz.f3 false true false false) := by
  refine returnsInHanded_of_change_sized (C := Tryz.checked) own started (by kernel_rfl) Tryz.func3
    (ChangeSpec.witness6 (enc := enc) (C := Tryz.checked) false ⟨#[], #[.agg #[.int .u64 0, .int .u64 0, .int .u64 0, .int .u64 0, .int .u64 0, .int .u64 0, .int .u64 0, .int .u64 0, .int .u64 0, .int .u64 0]], []⟩ 8 (by kernel_rfl) (by kernel_rfl) (by kernel_rfl) (by kernel_rfl)) ?_
  intro W base args ds gs before hval hW _ hZ _
  exact contract H enc W base args ds gs before hval hW hZ
theorem closed:joinedFacts Tryz.prog 3 Tryz.f3 Rows.soundParamsSpec Rows.soundParamsRow=true:=by
 unfold joinedFacts
 simp only [Bool.and_eq_true]
 repeat' refine And.intro ?_ ?_
 all_goals (as_aux_lemma=>kernel_rfl)
end soundParams
theorem soundParams_said : Rows.SoundParamsSaid :=
  OpenClaim.holds_of_wide 3 Tryz.f3 rfl rfl rfl rfl rfl rfl rfl ⟨rfl, rfl, rfl, rfl, rfl⟩ rfl rfl rfl rfl rfl (by kernel_rfl) Tryz.func3 soundParams.closed
    (of_decide_eq_true (by kernel_rfl)) (by unfold Func.isWrapper; first | (rw [if_pos (by decide +kernel)]; kernel_rfl) | (rw [if_neg (by decide +kernel)]; exact ⟨rfl, rfl⟩))
    (fun os started H enc _ => soundParams.lifted os started H enc)
end Go.Proofs.YtopifdikfhffgaaGreat
