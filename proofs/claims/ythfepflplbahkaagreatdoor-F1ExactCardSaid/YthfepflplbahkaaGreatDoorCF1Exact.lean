/- gleanlaw13.F1Exact returns true for every input, and leaves its arguments as they are: the card, with the listed tables tied to the program's text. Conditions: none but the card's own (the tables that the row lists start as their initialisers lay them). -/
import Derived.Test.YthfepflplbahkaaGreatDoorLF1Exact
import Derived.Test.YthfepflplbahkaaGreatDoorCards
import Derived.Test.YthfepflplbahkaaGreatDoorTie
import Derived.WalkKit
import Derived.ProofKit
import Derived.OpenShut
import Derived.ShutString
import Derived.ChangeOld
import Derived.Below
import Derived.Lib.LaidTab
import Derived.ChangeSame
import Derived.Deep.DeepHandedRow
import Derived.Deep.Slices
set_option maxRecDepth 100000
set_option maxHeartbeats 8000000
namespace Go.Proofs.YthfepflplbahkaaGreatDoor
namespace f1Exact
open Go.ChangeShapes Go.WideShapes Go.ChangeAt Go.RowKit
open Go.ChangeMaps (open_string shut_string)
open Fo
section
variable {cs:Array Value}{W w:World}{base:Nat}{spare:Nat->Bool}{held:Bool}{c v:Value}{x:Addr}{V:Nat->Value}
theorem ze(h:cs.size=1):∃ c,cs=#[c]:=by
 match cs,h with
 | ⟨[c]⟩,_=>exact⟨c,rfl⟩
theorem own:ownKnob Tryz.prog.godebug=none:=by kernel_rfl
theorem laidOut:laidOutB Tryz.prog=true:=by kernel_rfl
theorem zm{H:Type}{enc:TypeId × Value->H}{fuel:Nat}{x:DataW H × List MemPlace}(h:DataW.trod enc Tryz.prog W base spare held fuel 30 [c]=some x)(hs:∀ b,spare b=true):∃ a len cap zs,c=.slice a len cap/\mh W a len cap zs:=by
 rcases open_ints Tryz.underlying30 Tryz.underlying22 (by kernel_rfl) h with⟨hc1,_⟩ | ⟨x,l,c1,zs,hc1,_,hl,hm,hz,_,hcell,hwz⟩
 ·exact⟨none,0,0,[],List.cons.inj hc1 |>.1,.inl ⟨rfl,rfl,rfl,rfl⟩⟩
 ·exact⟨some x,l,c1,zs,List.cons.inj hc1 |>.1,.inr ⟨_,rfl,hl,hm,by simpa[hs] using hz,hcell,hwz⟩⟩
theorem wS(hx:w.cell? x=some v):x.spot=none:=by
 simp only[World.cell?] at hx
 cases hh:w.heap[x.block]? with
 | none=>rw[hh] at hx; simp at hx
 | some ob =>
  rw[hh] at hx
  cases ob with
  | cells c e f =>
   simp at hx
   cases hs:x.spot with
   | none=>rfl
   | some s=>rw[hs] at hx; simp at hx
  | _=>simp at hx
theorem Du{H:Type}{enc:TypeId × Value->H}{n:Nat}{len cap m:Nat}{D:Nat->DataW H}{h:Nat->List MemPlace}(hs:∀ b,spare b=true)(g:len<=cap)(hm:cap<=maxLen)(a:m=if spare x.block then cap else len)(hx:∀ i,i < m->W.cell? (x.add i)=some (V i)/\DataW.trod enc Tryz.prog W base spare held n 32 [V i]=some (D i,h i)):mn W (some x) len cap:=by
 refine⟨⟨g,hm⟩,fun i hi => ?_⟩;obtain⟨c,k⟩:=hx i (by rw[a,hs]; simp; omega)
 have d:x.spot=none:=wS (x:=x) (by
  have f:=(hx 0 (by rw[a,hs]; simp; omega)).1
  have e:x.add 0=x:=by unfold Addr.add; simp
  rw[e] at f; exact f)
 obtain⟨y0,m0,_,hlen,hy⟩:=trod_struct1 Tryz.underlying32 k;obtain⟨a0,n0,c0,z0,e,r0⟩:=zm hy hs;rw[e] at c;obtain⟨b,o,s⟩:=x;obtain rfl:s=none:=d
 have j:∀ n,(⟨b,o,none⟩:Addr).add n=⟨b,o + n,none⟩:=fun n=>by
  unfold Addr.add;split
  ·subst n; rfl
  ·rfl
 rw[j] at c;exact⟨b,o,a0,n0,c0,z0,rfl,c,r0⟩
theorem xj(H:Type)(enc:TypeId × Value->H)(W:World)(base:Nat)(args:Array Value)(ds gs:List (DataW H))(before:List MemPlace)(d:∀ (j:Nat) t v,Tryz.f4.params[j]? = some t->args[j]? = some v->Value.okWide Tryz.prog W .any base t v)(F:DataW.Whole enc Tryz.prog Tryz.f4.params.toList Rows.f1ExactSpec.vars false W args.toList ds gs before) :
  Calls Tryz.prog 4 args W fun e W'=>∃ v,e=.returned v/\Rows.f1ExactSpec.post enc Tryz.prog Tryz.f4 false true false false W args v W':=by
 have b:∀ (j:Nat) t v,Tryz.f4.params[j]? = some t->args[j]? = some v->Value.okWide Tryz.prog W .any base t v:=d
 have A:=F;obtain⟨p,q,o,O,rfl,J,Z⟩:=F
 have hA:DataW.TrodAll enc Tryz.prog W 0 (fun _=>true) true Tryz.f4.params.toList args.toList ds p:=o;rw[Tryz.params4] at hA b;obtain⟨v0,X,d0,Q,p0,q0,E,rfl,rfl,M,r0⟩:=trodAll_cons hA;obtain⟨v1,P,d1,K,p1,q1,rfl,rfl,rfl,I,r1⟩:=trodAll_cons r0;obtain⟨v2,R,d2,Y,N,q2,rfl,rfl,rfl,G,S⟩:=trodAll_cons r1;obtain⟨rfl,rfl,rfl⟩:=trodAll_nil S;obtain rfl:args=#[v0,v1,v2]:=by cases args; simp_all
 obtain⟨rfl,rfl⟩:=trodVars_none O;obtain⟨L,rfl,rfl,rfl,y⟩:=open_int Tryz.underlying22 (b 0 22 v0 rfl rfl) M;obtain⟨r,rfl,s⟩:=okWide_struct Tryz.underlying32 (b 1 32 v1 rfl rfl);have k1:=I
 have B:∀ x∈p1,x.block < W.heap.size:=by obtain⟨m,hm⟩:=k1; exact DataW.trod_lt m _ _ _ hm
 obtain⟨a1,z,u,z1,w,U⟩:∃ a len cap zs,r=#[Value.slice a len cap]/\mh W a len cap zs:=by
  obtain⟨fuel,hf⟩:=I;obtain⟨y0,m,_,hlen,hy⟩:=trod_struct1 Tryz.underlying32 hf;obtain⟨c,rfl⟩:∃ c,r=#[c]:=ze (s.trans (by kernel_rfl));rcases open_ints Tryz.underlying30 Tryz.underlying22 (by kernel_rfl) hy with⟨hc1,_⟩ | ⟨x,l,c1,zs,hc1,_,hl,hm,hz,_,hcell,hwz⟩
  ·refine⟨none,0,0,[],?_,.inl ⟨rfl,rfl,rfl,rfl⟩⟩
   have k:[c]=[Value.slice none 0 0]:=hc1;rw[List.cons.inj k |>.1]
  ·refine⟨some x,l,c1,zs,?_,.inr ⟨_,rfl,hl,hm,by simpa using hz,hcell,hwz⟩⟩
   have k:[c]=[Value.slice (some x) l c1]:=hc1;rw[List.cons.inj k |>.1]
 subst w;obtain⟨a2,g,f,rfl⟩:=okWide_slice Tryz.underlying49 (b 2 49 v2 rfl rfl);have k2:=G
 have C:∀ x∈N,x.block < W.heap.size:=by obtain⟨m,hm⟩:=k2; exact DataW.trod_lt m _ _ _ hm
 have T:mn W a2 g f:=by
  obtain⟨fuel,hf⟩:=G;rcases Go.Deep.open_slice1 Tryz.underlying49 (by kernel_rfl) hf with⟨hcs,_⟩ | ⟨x,l,c,m,n,V,D,Pl,hcs,_,hl,hm,hmm,_,hx⟩
  ·simp[Value.cells] at hcs;obtain⟨rfl,rfl,rfl⟩:=hcs;exact⟨⟨Nat.le_refl _,by decide⟩,fun i hi=>absurd hi (Nat.not_lt_zero _)⟩
  ·simp[Value.cells] at hcs;obtain⟨rfl,rfl,rfl⟩:=hcs;exact Du (fun _=>rfl) hl hm hmm hx
 clear o d;refine(walk L a1 z u z1 a2 g f W y U T).mono fun e W' ⟨he,bel⟩ => ?_
 subst he;exact⟨_,rfl,_,_,_,[],_,[],A,trodAll_mk1 (shut_bool Tryz.underlying4 _),(trodAll_cons_mk (shut_int Tryz.underlying22 y) (trodAll_cons_mk (Below.trod laidOut (by kernel_rfl) (of_decide_eq_true (by kernel_rfl)) k1 bel B) (trodAll_cons_mk (Below.trod laidOut (by kernel_rfl) (of_decide_eq_true (by kernel_rfl)) k2 bel C) trodAll_mk0))),rfl,bel.frame _,fun h=>by cases h⟩
def putCells(h:Array Obj)(k:Nat)(cs:Array Value):Array Obj:=h.modify k fun
 | .cells _ t frozen=>.cells cs t frozen
 | o=>o
noncomputable def laidWorld (os:Os):World :=
 { World.holding Tryz.prog os ⟨#[],#[],[]⟩ with heap:=putCells (putCells (putCells (putCells (putCells (World.holding Tryz.prog os ⟨#[],#[],[]⟩).heap 2 #[.int .u64 1,.int .u64 10,.int .u64 100,.int .u64 1000,.int .u64 10000,.int .u64 100000,.int .u64 1000000,.int .u64 10000000,.int .u64 100000000,.int .u64 1000000000,.int .u64 10000000000,.int .u64 100000000000,.int .u64 1000000000000,.int .u64 10000000000000,.int .u64 100000000000000,.int .u64 1000000000000000,.int .u64 10000000000000000,.int .u64 100000000000000000,.int .u64 1000000000000000000,.int .u64 10000000000000000000]) 6 #[.int .u8 0,.int .u8 1,.int .u8 28,.int .u8 2,.int .u8 29,.int .u8 14,.int .u8 24,.int .u8 3,.int .u8 30,.int .u8 22,.int .u8 20,.int .u8 15,.int .u8 25,.int .u8 17,.int .u8 4,.int .u8 8,.int .u8 31,.int .u8 27,.int .u8 13,.int .u8 23,.int .u8 21,.int .u8 19,.int .u8 16,.int .u8 7,.int .u8 26,.int .u8 12,.int .u8 18,.int .u8 6,.int .u8 11,.int .u8 5,.int .u8 10,.int .u8 9]) 7 #[.int .u8 0,.int .u8 1,.int .u8 56,.int .u8 2,.int .u8 57,.int .u8 49,.int .u8 28,.int .u8 3,.int .u8 61,.int .u8 58,.int .u8 42,.int .u8 50,.int .u8 38,.int .u8 29,.int .u8 17,.int .u8 4,.int .u8 62,.int .u8 47,.int .u8 59,.int .u8 36,.int .u8 45,.int .u8 43,.int .u8 51,.int .u8 22,.int .u8 53,.int .u8 39,.int .u8 33,.int .u8 30,.int .u8 24,.int .u8 18,.int .u8 12,.int .u8 5,.int .u8 63,.int .u8 55,.int .u8 48,.int .u8 27,.int .u8 60,.int .u8 41,.int .u8 37,.int .u8 16,.int .u8 46,.int .u8 35,.int .u8 44,.int .u8 21,.int .u8 52,.int .u8 32,.int .u8 23,.int .u8 11,.int .u8 54,.int .u8 26,.int .u8 40,.int .u8 15,.int .u8 34,.int .u8 20,.int .u8 31,.int .u8 10,.int .u8 25,.int .u8 14,.int .u8 19,.int .u8 9,.int .u8 13,.int .u8 8,.int .u8 7,.int .u8 6]) 4 #[.int .u8 128,.int .u8 191,.int .u8 160,.int .u8 191,.int .u8 128,.int .u8 159,.int .u8 144,.int .u8 191,.int .u8 128,.int .u8 143,.int .u8 0,.int .u8 0,.int .u8 0,.int .u8 0,.int .u8 0,.int .u8 0,.int .u8 0,.int .u8 0,.int .u8 0,.int .u8 0,.int .u8 0,.int .u8 0,.int .u8 0,.int .u8 0,.int .u8 0,.int .u8 0,.int .u8 0,.int .u8 0,.int .u8 0,.int .u8 0,.int .u8 0,.int .u8 0]) 3 (Go.Pinned.utf8FirstZ.map fun n:Nat=>Value.int .u8 (n:Int)).toArray }
theorem zo(os:Os):laidMet Tryz.prog Rows.f1ExactRow.laid ((laidWorld os).forCall (fun _ _=>0) ⟨#[],#[.int .u64 0,.agg #[.slice none 0 0],.slice none 0 0],[]⟩).memory :=
 laidMet_of_run' 8 (by kernel_rfl) (by kernel_rfl)
theorem reads(os:Os){H:Type}(enc:TypeId × Value->H):∃ places,DataW.whole enc Tryz.prog ((laidWorld os).forCall (fun _ _=>0) ⟨#[],#[.int .u64 0,.agg #[.slice none 0 0],.slice none 0 0],[]⟩).memory Tryz.f4.params.toList Rows.f1ExactSpec.vars false (#[.int .u64 0,.agg #[.slice none 0 0],.slice none 0 0]:Array Value).toList 8=some ([.lit (.int .u64 0),.agg [.nil],.nil],[],places) :=
 ⟨[],by kernel_rfl⟩
theorem lifted(os : Os)(started : os.Started)(H : Type)(enc : TypeId × Value → H)(F : Stop.Interp) :
    ReturnsInHanded {} Tryz.checked os 4 .any ((OpenSpec.ofChange Rows.f1ExactSpec).preRow enc Tryz.prog Tryz.f4 Rows.f1ExactRow.domain false Rows.f1ExactRow.laid) (((OpenSpec.ofChange Rows.f1ExactSpec).at F).post enc Tryz.prog Tryz.f4 false true false false) := by
  obtain⟨places, hx⟩:= reads os enc;refine returnsInHanded_of_row (C := Tryz.checked) (s := OpenSpec.ofChange Rows.f1ExactSpec) own started (by kernel_rfl) Tryz.func4
    (witness_row_at (enc := enc) (C := Tryz.checked) false (laidWorld os) #[.int .u64 0, .agg #[.slice none 0 0], .slice none 0 0] rfl (by kernel_rfl) (by kernel_rfl) (by kernel_rfl)
      (OpenSpec.preRow_of_cond 8 hx (by kernel_rfl) (fun k b => by cases b) (by kernel_rfl) (zo os))) ?_
  intro W base args c gs before a d _ _ _ _ _ _;exact xj H enc W base args c gs before a d
theorem said : Rows.F1ExactSaid :=
  OpenClaim.holds_of_cond 4 Tryz.f4 rfl rfl rfl rfl rfl rfl rfl ⟨rfl, rfl, rfl, rfl, rfl⟩ rfl rfl rfl rfl rfl (by kernel_rfl) Tryz.func4 (by kernel_rfl)
    (of_decide_eq_true (by kernel_rfl)) (by unfold Func.isWrapper; first | (rw[if_pos (by decide +kernel)]; kernel_rfl) | (rw[if_neg (by decide +kernel)]; exact⟨rfl, rfl⟩))
    (fun os started H enc _ F => by rw[OpenClaim.pre_eq_preRow]; exact lifted os started H enc F)
theorem plain(f:FuncId)(fn:Func)(hf:Tryz.pinned.checked.prog.funcNamed "glean/gleanlaw13.F1Exact" = some f)(a:Tryz.pinned.checked.prog.funcs[f]? = some fn) :
  false=Tryz.pinned.checked.prog.looks []/\∀ (j:Nat) t,fn.params[j]? = some t->Tryz.pinned.checked.prog.wantsStandIn t=false:=by
 obtain rfl:f=4:=Option.some.inj ((show Tryz.prog.funcNamed "glean/gleanlaw13.F1Exact" = some 4 by kernel_rfl).symm.trans hf) |>.symm
 obtain rfl:fn=Tryz.f4:=(Option.some.inj (Tryz.func4.symm.trans a)).symm;refine⟨by kernel_rfl,fun j t b => ?_⟩;rw[Tryz.params4] at b;have hm:=Array.mem_of_getElem? b
 have c:t=22\/t=32\/t=49:=by
  simp only[List.mem_toArray,List.mem_cons,List.not_mem_nil,or_false] at hm;rcases hm with rfl | rfl | rfl<;>simp
 rcases c with rfl | rfl | rfl
 ·exact(show Tryz.prog.wantsStandIn 22=false by kernel_rfl)
 ·exact(show Tryz.prog.wantsStandIn 32=false by kernel_rfl)
 ·exact(show Tryz.prog.wantsStandIn 49=false by kernel_rfl)
end
end f1Exact
theorem f1Exact_card:Rows.F1ExactCardSaid :=
 Claim7.holds_tied_plain_at .later [] _ _ _ _ f1Exact.said (fun _ h=>by cases h) (by kernel_rfl) (fun _ h=>by cases h) f1Exact_row_tie rfl ⟨rfl,rfl⟩ (by kernel_rfl) rfl f1Exact.plain (by kernel_rfl)
end Go.Proofs.YthfepflplbahkaaGreatDoor
