/- gleanlaw21.GenBytes returns true for every input, and leaves its arguments as they are. Conditions: none but the form's own. -/
import Derived.Test.YtpoifdokmjhclaaGreatLGenBytes
import Derived.Test.YtpoifdokmjhclaaGreatGnV
import Derived.Test.YtpoifdokmjhclaaGreatEncH
import Derived.Test.YtpoifdokmjhclaaGreatRows
set_option maxRecDepth 100000
set_option maxHeartbeats 8000000
namespace Go.Proofs.YtpoifdokmjhclaaGreat
namespace genBytes
open Go.ChangeShapes Go.WideShapes Go.ChangeAt Go.RowKit Lim Mg
theorem own:ownKnob Tryz.prog.godebug=none:=by kernel_rfl
theorem laidOut:laidOutB Tryz.prog=true:=by kernel_rfl
theorem As (H:Type) (enc:TypeId × Value->H) (W:World) (base:Nat) (args:Array Value) (ds gs:List (DataW H)) (before:List MemPlace)
  (f:∀ (j:Nat) t v,Tryz.f3.params[j]?=some t->args[j]?=some v->Value.okWide Tryz.prog W .any base t v)
  (hW:DataW.Whole enc Tryz.prog Tryz.f3.params.toList Rows.genBytesSpec.vars false W args.toList ds gs before)
  (hZ:(DataW.weightsEach Tryz.prog (Tryz.f3.params.toList ++ Rows.genBytesSpec.plain.varTypes Tryz.prog) (ds ++ gs)).all (· <= reachBytes)=true) :
  CP 3 args W λe W'=>∃ v,e=.returned v/\Rows.genBytesSpec.post enc Tryz.prog Tryz.f3 false true false false W args v W':=by
 have g:∀ (j:Nat) t v,Tryz.f3.params[j]?=some t->args[j]?=some v->Value.okWide Tryz.prog W .any base t v:=f
 have R:=hW;obtain⟨p,q,u,hV,rfl,hfz,hnd⟩:=hW
 have hA:DataW.TrodAll enc Tryz.prog W 0 (λ_=>true) true Tryz.f3.params.toList args.toList ds p:=u;rw[Tryz.params3] at hA g;obtain⟨v0,vs0,d0,ds0,p0,q0,P,rfl,rfl,Z,r0⟩:=trodAll_cons hA;obtain⟨v1,vs1,d1,ds1,p1,q1,rfl,rfl,rfl,S,r1⟩:=trodAll_cons r0;obtain⟨rfl,rfl,rfl⟩:=trodAll_nil r1;obtain rfl:args=#[v0,v1]:=by cases args;simp_all
 obtain⟨rfl,rfl⟩:=trodVars_none hV
 have z0:∀ k∈d0.weights Tryz.prog 28,k<=reachBytes:=λk hk=>by
  have:=List.all_eq_true.1 hZ k (DataW.weights_mem_each (j:=0) (t:=28) (d:=d0) rfl rfl k hk);simpa using this
 have z1:∀ k∈d1.weights Tryz.prog 29,k<=reachBytes:=λk hk=>by
  have:=List.all_eq_true.1 hZ k (DataW.weights_mem_each (j:=1) (t:=29) (d:=d1) rfl rfl k hk);simpa using this
 obtain⟨o,rfl,z⟩:=okWide_struct Tryz.underlying28 (g 0 28 v0 rfl rfl);have k0:=Z
 have N:∀ x∈p0,x.block < W.heap.size:=by obtain⟨m,hm⟩:=k0;exact DataW.trod_lt m _ _ _ hm
 obtain⟨K,B,J,G,F,L,D,E,u8,M,I,na,c1,C,r,c2,w,U,s,T,A,V,Q,hp,N1,N2,m1,m2⟩:∃ K B J G F L D E u8 M I na c1 C r c2 w U s T A V,o.toList=[.int .u64 K,.int .u64 B,.int .u64 J,.int .u64 G,.int .u64 F,.int .u64 L,.int .u64 D,.int .u64 E,.int .u64 u8,.int .u64 M,.slice I na c1,.slice C r c2]/\(∀ y∈([K,B,J,G,F,L,D,E,u8,M]:List Int),Mg.In8 y)/\Gn.Nl W I na 2 w U A/\Gn.Nl W C r 3 s T V/\na<=9223372036854775807/\r<=9223372036854775807:=by
  obtain⟨fuel,hf⟩:=Z;exact Ga.gen_in (λ_=>rfl) (by rw[Array.length_toList,z];kernel_rfl) (λ_ _ _ h=>Ga.slP_in h) (λ_ _ _ h=>Ga.slF_in h) hf
 obtain rfl:o=#[.int .u64 K,.int .u64 B,.int .u64 J,.int .u64 G,.int .u64 F,.int .u64 L,.int .u64 D,.int .u64 E,.int .u64 u8,.int .u64 M,.slice I na c1,.slice C r c2]:=by rw[<- Array.toArray_toList (xs:=o),Q]
 obtain⟨a1,len1,i,rfl⟩:=okWide_slice Tryz.underlying29 (g 1 29 v1 rfl rfl);have k1:=S
 have O:∀ x∈p1,x.block < W.heap.size:=by obtain⟨m,hm⟩:=k1;exact DataW.trod_lt m _ _ _ hm
 obtain⟨b1,l1,Y⟩:∃ b l,ByA W b a1 len1 i l:=by
  obtain⟨fuel,hf⟩:=S;obtain⟨a,n,m,b,l,e,hY,_⟩:=xE (c:=.slice a1 len1 i) hf (λ_=>rfl) z1
  cases e;exact⟨b,l,hY⟩
 clear u f;refine(Gn.oE hp N1 N2 m1 m2 Y (by obtain⟨_,S,h2,⟨h3,_⟩,_⟩:=Y.ex;omega)).mono λe W' ⟨he,bel⟩=>?_
 subst he;exact⟨_,rfl,_,_,_,[],_,[],R,trodAll_mk1 (shut_bool Tryz.underlying4 _),(trodAll_cons_mk (Below.trod laidOut (by kernel_rfl) (of_decide_eq_true (by kernel_rfl)) k0 bel N) (trodAll_cons_mk (Below.trod laidOut (by kernel_rfl) (of_decide_eq_true (by kernel_rfl)) k1 bel O) trodAll_mk0)),rfl,bel.frame _,λh=>by cases h⟩
theorem lifted (os:Os) (started:os.Started) (H:Type) (enc:TypeId × Value→H) :
    ReturnsInHanded {} Tryz.checked os 3 .any (Rows.genBytesSpec.pre6 enc Tryz.prog Tryz.f3 Rows.genBytesRow.domain false) (Rows.genBytesSpec.post enc Tryz.prog Tryz.f3 false true false false):=by
  refine returnsInHanded_of_change_sized (C:=Tryz.checked) own started (by kernel_rfl) Tryz.func3
    (ChangeSpec.witness6 (enc:=enc) (C:=Tryz.checked) false ⟨#[],#[.agg #[.int .u64 0,.int .u64 0,.int .u64 0,.int .u64 0,.int .u64 0,.int .u64 0,.int .u64 0,.int .u64 0,.int .u64 0,.int .u64 0,.slice none 0 0,.slice none 0 0],.slice none 0 0],[]⟩ 8 (by kernel_rfl) (by kernel_rfl) (by kernel_rfl) (by kernel_rfl)) ?_
  intro W base args d gs before a c _ b _;exact As H enc W base args d gs before a c b
theorem closed:joinedFacts Tryz.prog 3 Tryz.f3 Rows.genBytesSpec Rows.genBytesRow=true:=by
 unfold joinedFacts;simp only[Bool.and_eq_true]
 repeat' refine And.intro ?_ ?_
 all_goals (as_aux_lemma=>kernel_rfl)
end genBytes
theorem genBytes_said:Rows.GenBytesSaid :=
  OpenClaim.holds_of_wide 3 Tryz.f3 rfl rfl rfl rfl rfl rfl rfl ⟨rfl,rfl,rfl,rfl,rfl⟩ rfl rfl rfl rfl rfl (by kernel_rfl) Tryz.func3 genBytes.closed
    (of_decide_eq_true (by kernel_rfl)) (by unfold Func.isWrapper;first | (rw[if_pos (by decide +kernel)];kernel_rfl) | (rw[if_neg (by decide +kernel)];exact⟨rfl,rfl⟩))
    (λos started H enc _=>genBytes.lifted os started H enc)
end Go.Proofs.YtpoifdokmjhclaaGreat
