/- gleanlaw14.DistGive returns true for every input, and leaves its arguments as they are: the card, with the listed tables tied to the program's text. Conditions: none but the card's own (the tables that the row lists start as their initialisers lay them). -/
import Derived.Test.YtgdohcdlkonhiaaGreatDoorDiV
import Derived.Test.YtgdohcdlkonhiaaGreatDoorDiW
import Derived.Test.YtgdohcdlkonhiaaGreatDoorCards
import Derived.Test.YtgdohcdlkonhiaaGreatDoorTie
set_option maxRecDepth 100000
set_option maxHeartbeats 8000000
namespace Go.Proofs.YtgdohcdlkonhiaaGreatDoor
namespace distGive
open Go.ChangeShapes Go.WideShapes Go.ChangeAt Go.RowKit
open Go.ChangeMaps (open_string shut_string)
open Fo
theorem own:ownKnob Tryz.prog.godebug=none:=by kernel_rfl
theorem laidOut:laidOutB Tryz.prog=true:=by kernel_rfl
theorem yH (H:Type) (enc:TypeId × Value->H) (W:World) (base:Nat) (args:Array Value) (ds gs:List (DataW H)) (before:List MemPlace)
  (b:∀ (j:Nat) t v,Tryz.f3.params[j]?=some t->args[j]?=some v->Value.okWide Tryz.prog W .any base t v)
  (L:DataW.Whole enc Tryz.prog Tryz.f3.params.toList Rows.distGiveSpec.vars false W args.toList ds gs before)
  (N:(DataW.weightsEach Tryz.prog (Tryz.f3.params.toList ++ Rows.distGiveSpec.plain.varTypes Tryz.prog) (ds ++ gs)).all (· <= reachBytes)=true) :
  Calls Tryz.prog 3 args W fun e W'=>∃ v,e=.returned v/\Rows.distGiveSpec.post enc Tryz.prog Tryz.f3 false true false false W args v W':=by
 have f:∀ (j:Nat) t v,Tryz.f3.params[j]?=some t->args[j]?=some v->Value.okWide Tryz.prog W .any base t v:=b
 have C:=L;obtain⟨p,q,i,hV,rfl,hfz,hnd⟩:=L
 have hA:DataW.TrodAll enc Tryz.prog W 0 (fun _=>true) true Tryz.f3.params.toList args.toList ds p:=i;rw[Tryz.params3] at hA f;obtain⟨v0,Y,d0,S,O,q0,B,rfl,rfl,K,r0⟩:=trodAll_cons hA;obtain⟨v1,R,d1,ds1,p1,q1,rfl,rfl,rfl,M,r1⟩:=trodAll_cons r0;obtain⟨rfl,rfl,rfl⟩:=trodAll_nil r1;obtain rfl:args=#[v0,v1]:=by cases args;simp_all
 obtain⟨rfl,rfl⟩:=trodVars_none hV
 have z0:∀ k∈d0.weights Tryz.prog 28,k<=reachBytes:=fun k hk=>by
  have:=List.all_eq_true.1 N k (DataW.weights_mem_each (j:=0) (t:=28) (d:=d0) rfl rfl k hk);simpa using this
 obtain⟨g,rfl,u⟩:=okWide_struct Tryz.underlying28 (f 0 28 v0 rfl rfl);have k0:=K
 have w:∀ x∈O,x.block < W.heap.size:=by obtain⟨m,hm⟩:=k0;exact DataW.trod_lt m _ _ _ hm
 have z1:∀ k∈d1.weights Tryz.prog 26,k<=reachBytes:=fun k hk=>by
  have:=List.all_eq_true.1 N k (DataW.weights_mem_each (j:=1) (t:=26) (d:=d1) rfl rfl k hk);simpa using this
 obtain⟨l,rfl,G⟩:=okWide_struct Tryz.underlying26 (f 1 26 v1 rfl rfl);have k1:=M
 have A:∀ x∈p1,x.block < W.heap.size:=by obtain⟨m,hm⟩:=k1;exact DataW.trod_lt m _ _ _ hm
 obtain⟨rt,y,un,E,x0,x1,I,J,F,D,a0,n0,c0,a1,o,c1,a2,r,c2,a3,s,c3,P,z,⟨N0,X⟩,⟨N1,l1⟩,⟨Q,l2⟩,⟨Z,T⟩⟩:=(by
  obtain⟨fuel,hf⟩:=K
  exact val_in (x:=(d0,O)) (fun _=>rfl) (by have:=u;simpa using this.trans (show Tryz.prog.cellsOf 28=10 by kernel_rfl)) hf z0:∃ rt y un E x0 x1 I J F D a0 n0 c0 a1 o c1 a2 r c2 a3 s c3,g.toList=[.int .u64 rt,.int .u64 y,.slice a0 n0 c0,.bool F,.int .u64 un,.bool D,.int .u64 E,.slice a1 o c1,.slice a2 r c2,.slice a3 s c3]/\(0<=rt/\rt < 18446744073709551616)/\(aI W a0 n0 c0 x0/\n0<=17592186044416)/\(aI W a1 o c1 x1/\o<=17592186044416)/\(aI W a2 r c2 I/\r<=17592186044416)/\(aI W a3 s c3 J/\s<=17592186044416))
 obtain⟨a4,n4,c4,x4,e4,N4,U⟩:=(by
  obtain⟨fuel,hf⟩:=M
  exact mj (x:=(d1,p1)) hf (fun _=>rfl) z1:∃ a n c V,l.toList=[.slice a n c]/\aI W a n c V/\n<=17592186044416)
 obtain rfl:g=#[.int .u64 rt,.int .u64 y,.slice a0 n0 c0,.bool F,.int .u64 un,.bool D,.int .u64 E,.slice a1 o c1,.slice a2 r c2,.slice a3 s c3]:=by
  apply Array.toList_inj.1;exact P
 obtain rfl:l=#[.slice a4 n4 c4]:=by
  apply Array.toList_inj.1;exact e4
 clear i b;refine(distGiveL.law N0 X N1 l1 Q l2 Z T N4 U z).mono fun e W' ⟨he,bel⟩=>?_
 subst he;exact⟨_,rfl,_,_,_,[],_,[],C,trodAll_mk1 (shut_bool Tryz.underlying4 _),(trodAll_cons_mk (Below.trod laidOut (by kernel_rfl) (of_decide_eq_true (by kernel_rfl)) k0 bel w) (trodAll_cons_mk (Below.trod laidOut (by kernel_rfl) (of_decide_eq_true (by kernel_rfl)) k1 bel A) trodAll_mk0)),rfl,bel.frame _,fun h=>by cases h⟩
def putCells (h:Array Obj) (k:Nat) (cs:Array Value):Array Obj:=h.modify k fun
 | .cells _ t frozen=>.cells cs t frozen
 | o=>o
noncomputable def laidWorld (os:Os):World :=
 { World.holding Tryz.prog os ⟨#[],#[],[]⟩ with heap:=putCells (putCells (putCells (putCells (putCells (World.holding Tryz.prog os ⟨#[],#[],[]⟩).heap 2 #[.int .u64 1,.int .u64 10,.int .u64 100,.int .u64 1000,.int .u64 10000,.int .u64 100000,.int .u64 1000000,.int .u64 10000000,.int .u64 100000000,.int .u64 1000000000,.int .u64 10000000000,.int .u64 100000000000,.int .u64 1000000000000,.int .u64 10000000000000,.int .u64 100000000000000,.int .u64 1000000000000000,.int .u64 10000000000000000,.int .u64 100000000000000000,.int .u64 1000000000000000000,.int .u64 10000000000000000000]) 6 #[.int .u8 0,.int .u8 1,.int .u8 28,.int .u8 2,.int .u8 29,.int .u8 14,.int .u8 24,.int .u8 3,.int .u8 30,.int .u8 22,.int .u8 20,.int .u8 15,.int .u8 25,.int .u8 17,.int .u8 4,.int .u8 8,.int .u8 31,.int .u8 27,.int .u8 13,.int .u8 23,.int .u8 21,.int .u8 19,.int .u8 16,.int .u8 7,.int .u8 26,.int .u8 12,.int .u8 18,.int .u8 6,.int .u8 11,.int .u8 5,.int .u8 10,.int .u8 9]) 7 #[.int .u8 0,.int .u8 1,.int .u8 56,.int .u8 2,.int .u8 57,.int .u8 49,.int .u8 28,.int .u8 3,.int .u8 61,.int .u8 58,.int .u8 42,.int .u8 50,.int .u8 38,.int .u8 29,.int .u8 17,.int .u8 4,.int .u8 62,.int .u8 47,.int .u8 59,.int .u8 36,.int .u8 45,.int .u8 43,.int .u8 51,.int .u8 22,.int .u8 53,.int .u8 39,.int .u8 33,.int .u8 30,.int .u8 24,.int .u8 18,.int .u8 12,.int .u8 5,.int .u8 63,.int .u8 55,.int .u8 48,.int .u8 27,.int .u8 60,.int .u8 41,.int .u8 37,.int .u8 16,.int .u8 46,.int .u8 35,.int .u8 44,.int .u8 21,.int .u8 52,.int .u8 32,.int .u8 23,.int .u8 11,.int .u8 54,.int .u8 26,.int .u8 40,.int .u8 15,.int .u8 34,.int .u8 20,.int .u8 31,.int .u8 10,.int .u8 25,.int .u8 14,.int .u8 19,.int .u8 9,.int .u8 13,.int .u8 8,.int .u8 7,.int .u8 6]) 5 #[.int .u8 128,.int .u8 191,.int .u8 160,.int .u8 191,.int .u8 128,.int .u8 159,.int .u8 144,.int .u8 191,.int .u8 128,.int .u8 143,.int .u8 0,.int .u8 0,.int .u8 0,.int .u8 0,.int .u8 0,.int .u8 0,.int .u8 0,.int .u8 0,.int .u8 0,.int .u8 0,.int .u8 0,.int .u8 0,.int .u8 0,.int .u8 0,.int .u8 0,.int .u8 0,.int .u8 0,.int .u8 0,.int .u8 0,.int .u8 0,.int .u8 0,.int .u8 0]) 4 (Go.Pinned.utf8FirstZ.map fun n:Nat=>Value.int .u8 (n:Int)).toArray }
theorem zg (os:Os):laidMet Tryz.prog Rows.distGiveRow.laid ((laidWorld os).forCall (fun _ _=>0) ⟨#[],#[.agg #[.int .u64 0,.int .u64 0,.slice none 0 0,.bool false,.int .u64 0,.bool false,.int .u64 0,.slice none 0 0,.slice none 0 0,.slice none 0 0],.agg #[.slice none 0 0]],[]⟩).memory :=
 laidMet_of_run' 8 (by kernel_rfl) (by kernel_rfl)
theorem reads (os:Os) {H:Type} (enc:TypeId × Value->H):∃ places,DataW.whole enc Tryz.prog ((laidWorld os).forCall (fun _ _=>0) ⟨#[],#[.agg #[.int .u64 0,.int .u64 0,.slice none 0 0,.bool false,.int .u64 0,.bool false,.int .u64 0,.slice none 0 0,.slice none 0 0,.slice none 0 0],.agg #[.slice none 0 0]],[]⟩).memory Tryz.f3.params.toList Rows.distGiveSpec.vars false (#[.agg #[.int .u64 0,.int .u64 0,.slice none 0 0,.bool false,.int .u64 0,.bool false,.int .u64 0,.slice none 0 0,.slice none 0 0,.slice none 0 0],.agg #[.slice none 0 0]]:Array Value).toList 8=some ([.agg [.lit (.int .u64 0),.lit (.int .u64 0),.agg [.nil],.lit (.bool false),.lit (.int .u64 0),.lit (.bool false),.lit (.int .u64 0),.agg [.nil],.agg [.nil],.agg [.nil]],.agg [.nil]],[],places) :=
 ⟨[],by kernel_rfl⟩
theorem lifted (os:Os) (started:os.Started) (H:Type) (enc:TypeId × Value→H) (F:Stop.Interp) :
    ReturnsInHanded {} Tryz.checked os 3 .any ((OpenSpec.ofChange Rows.distGiveSpec).preRow enc Tryz.prog Tryz.f3 Rows.distGiveRow.domain false Rows.distGiveRow.laid) (((OpenSpec.ofChange Rows.distGiveSpec).at F).post enc Tryz.prog Tryz.f3 false true false false):=by
  obtain⟨places,hx⟩:= reads os enc;refine returnsInHanded_of_row (C:=Tryz.checked) (s:=OpenSpec.ofChange Rows.distGiveSpec) own started (by kernel_rfl) Tryz.func3
    (witness_row_at (enc := enc) (C := Tryz.checked) false (laidWorld os) #[.agg #[.int .u64 0, .int .u64 0, .slice none 0 0, .bool false, .int .u64 0, .bool false, .int .u64 0, .slice none 0 0, .slice none 0 0, .slice none 0 0], .agg #[.slice none 0 0]] rfl (by kernel_rfl) (by kernel_rfl) (by kernel_rfl)
      (OpenSpec.preRow_of_cond 8 hx (by kernel_rfl) (fun k hk=>by cases hk) (by kernel_rfl) (zg os))) ?_
  intro W base args c gs before a b _ _ d _ _ _;exact yH H enc W base args c gs before a b d
theorem said:Rows.DistGiveSaid :=
  OpenClaim.holds_of_cond 3 Tryz.f3 rfl rfl rfl rfl rfl rfl rfl ⟨rfl,rfl,rfl,rfl,rfl⟩ rfl rfl rfl rfl rfl (by kernel_rfl) Tryz.func3 closed
    (of_decide_eq_true (by kernel_rfl)) (by unfold Func.isWrapper;first | (rw[if_pos (by decide +kernel)];kernel_rfl) | (rw[if_neg (by decide +kernel)];exact⟨rfl,rfl⟩))
    (fun os started H enc _ F=>by rw[OpenClaim.pre_eq_preRow];exact lifted os started H enc F)
theorem plain (f:FuncId) (fn:Func) (hf:Tryz.pinned.checked.prog.funcNamed "glean/gleanlaw14.DistGive" = some f) (a:Tryz.pinned.checked.prog.funcs[f]? = some fn) :
  false=Tryz.pinned.checked.prog.looks []/\∀ (j:Nat) t,fn.params[j]?=some t->Tryz.pinned.checked.prog.wantsStandIn t=false:=by
 obtain rfl:f=3:=Option.some.inj ((show Tryz.prog.funcNamed "glean/gleanlaw14.DistGive" = some 3 by kernel_rfl).symm.trans hf) |>.symm
 obtain rfl:fn=Tryz.f3:=(Option.some.inj (Tryz.func3.symm.trans a)).symm;refine⟨by kernel_rfl,fun j t b=>?_⟩;rw[Tryz.params3] at b;have hm:=Array.mem_of_getElem? b
 have c:t=28\/t=26:=by
  simp only[List.mem_toArray,List.mem_cons,List.not_mem_nil,or_false] at hm;exact hm
 rcases c with rfl | rfl
 ·exact(show Tryz.prog.wantsStandIn 28=false by kernel_rfl)
 ·exact(show Tryz.prog.wantsStandIn 26=false by kernel_rfl)
end distGive
theorem distGive_card:Rows.DistGiveCardSaid :=
 Claim7.holds_tied_plain_at .later [] _ _ _ _ distGive.said (fun _ h=>by cases h) (by kernel_rfl) (fun _ h=>by cases h) distGive_row_tie rfl ⟨rfl,rfl⟩ (by kernel_rfl) rfl distGive.plain (by kernel_rfl)
end Go.Proofs.YtgdohcdlkonhiaaGreatDoor
