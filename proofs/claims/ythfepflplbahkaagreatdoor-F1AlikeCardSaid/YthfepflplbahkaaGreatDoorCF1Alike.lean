/- gleanlaw13.F1Alike returns true for every input, and leaves its arguments as they are: the card, with the listed tables tied to the program's text. Conditions: none but the card's own (the tables that the row lists start as their initialisers lay them). -/
import Derived.Test.YthfepflplbahkaaGreatDoorLF1Alike
import Derived.Test.YthfepflplbahkaaGreatDoorCards
import Derived.Test.YthfepflplbahkaaGreatDoorTie
import Derived.ProofKit
import Derived.ShutString
import Derived.ChangeOld
import Derived.Below
import Derived.Lib.LaidTab
import Derived.ChangeSame
import Derived.Deep.DeepHandedRow
import Derived.Deep.Slices
set_option maxRecDepth 100000
set_option maxHeartbeats 8000000
namespace Go.Proofs.YthfepflplbahkaaGreatDoor
namespace f1Alike
open Go.ChangeShapes Go.WideShapes Go.ChangeAt Go.RowKit
open Go.ChangeMaps (open_string shut_string)
open Fo
section
variable {W w:World}{base:Nat}{spare:Nat->Bool}{held:Bool}{c v:Value}{x:Addr}{V:Nat->Value}
theorem own:ownKnob Tryz.prog.godebug=none:=by kernel_rfl
theorem laidOut:laidOutB Tryz.prog=true:=by kernel_rfl
theorem yK{H:Type}{enc:TypeId × Value->H}{fuel:Nat}{x:DataW H × List MemPlace}(h:DataW.trod enc Tryz.prog W base spare held fuel 30 [c]=some x)(hs:∀ b,spare b=true):∃ a len cap zs,c=.slice a len cap/\u4 W a len cap zs:=by
 rcases open_ints Tryz.underlying30 Tryz.underlying22 (by kernel_rfl) h with⟨hc1,_⟩ | ⟨x,l,c1,zs,hc1,_,hl,hm,hz,_,hcell,hwz⟩
 ·exact⟨none,0,0,[],List.cons.inj hc1 |>.1,.inl ⟨rfl,rfl,rfl,rfl⟩⟩
 ·exact⟨some x,l,c1,zs,List.cons.inj hc1 |>.1,.inr ⟨_,rfl,hl,hm,by simpa[hs] using hz,hcell,hwz⟩⟩
theorem vU(hx:w.cell? x=some v):x.spot=none:=by
 simp only[World.cell?] at hx
 cases hh:w.heap[x.block]? with
 | none=>rw[hh] at hx;simp at hx
 | some ob =>
  rw[hh] at hx
  cases ob with
  | cells c e f =>
   simp at hx
   cases hs:x.spot with
   | none=>rfl
   | some s=>rw[hs] at hx;simp at hx
  | _=>simp at hx
theorem uQ{H:Type}{enc:TypeId × Value->H}{n:Nat}{len cap m:Nat}{D:Nat->DataW H}{j:Nat->List MemPlace}(hs:∀ b,spare b=true)(g:len<=cap)(hm:cap<=maxLen)(a:m=if spare x.block then cap else len)(hx:∀ i,i < m->W.cell? (x.add i)=some (V i)/\DataW.trod enc Tryz.prog W base spare held n 32 [V i]=some (D i,j i)):iR W (some x) len cap:=by
 refine⟨⟨g,hm⟩,fun i hi=>?_⟩;obtain⟨d,k⟩:=hx i (by rw[a,hs];simp;omega)
 have c:x.spot=none:=vU (x:=x) (by
  have f:=(hx 0 (by rw[a,hs];simp;omega)).1
  have e:x.add 0=x:=by unfold Addr.add;simp
  rw[e] at f;exact f)
 obtain⟨y0,m0,_,hlen,hy⟩:=trod_struct1 Tryz.underlying32 k;obtain⟨a0,n0,c0,z0,e,r0⟩:=yK hy hs;rw[e] at d;obtain⟨b,o,s⟩:=x;obtain rfl:s=none:=c
 have h:∀ n,(⟨b,o,none⟩:Addr).add n=⟨b,o + n,none⟩:=fun n=>by
  unfold Addr.add;split
  ·subst n;rfl
  ·rfl
 rw[h] at d;exact⟨b,o,a0,n0,c0,z0,rfl,d,r0⟩
theorem Ah(H:Type)(enc:TypeId × Value->H)(W:World)(base:Nat)(args:Array Value)(ds gs:List (DataW H))(before:List MemPlace)(b:∀ (j:Nat) t v,Tryz.f7.params[j]?=some t->args[j]?=some v->Value.okWide Tryz.prog W .any base t v)(F:DataW.Whole enc Tryz.prog Tryz.f7.params.toList Rows.f1AlikeSpec.vars false W args.toList ds gs before) :
  Calls Tryz.prog 7 args W fun e W'=>∃ v,e=.returned v/\Rows.f1AlikeSpec.post enc Tryz.prog Tryz.f7 false true false false W args v W':=by
 have a:∀ (j:Nat) t v,Tryz.f7.params[j]?=some t->args[j]?=some v->Value.okWide Tryz.prog W .any base t v:=b
 have y:=F;obtain⟨p,q,o,J,rfl,hfz,Q⟩:=F
 have hA:DataW.TrodAll enc Tryz.prog W 0 (fun _=>true) true Tryz.f7.params.toList args.toList ds p:=o;rw[Tryz.params7] at hA a;obtain⟨v0,X,d0,aa,p0,q0,z,rfl,rfl,h0,r0⟩:=trodAll_cons hA;obtain⟨v1,Z,d1,R,p1,q1,rfl,rfl,rfl,h1,r1⟩:=trodAll_cons r0;obtain⟨v2,vs2,d2,G,p2,q2,rfl,rfl,rfl,C,N⟩:=trodAll_cons r1;obtain⟨v3,I,d3,Y,p3,q3,rfl,rfl,rfl,B,U⟩:=trodAll_cons N;obtain⟨v4,vs4,d4,ds4,M,q4,rfl,rfl,rfl,L,P⟩:=trodAll_cons U;obtain⟨rfl,rfl,rfl⟩:=trodAll_nil P;obtain rfl:args=#[v0,v1,v2,v3,v4]:=by cases args;simp_all
 obtain⟨rfl,rfl⟩:=trodVars_none J;obtain⟨O,rfl,rfl,rfl,r⟩:=open_int Tryz.underlying22 (a 0 22 v0 rfl rfl) h0;obtain⟨S,rfl,rfl,rfl,s⟩:=open_int Tryz.underlying22 (a 1 22 v1 rfl rfl) h1;obtain⟨a2,d,g,rfl⟩:=okWide_slice Tryz.underlying49 (a 2 49 v2 rfl rfl);have k2:=C
 have w:∀ x∈p2,x.block < W.heap.size:=by obtain⟨m,hm⟩:=k2;exact DataW.trod_lt m _ _ _ hm
 have T:iR W a2 d g:=by
  obtain⟨fuel,hf⟩:=C;rcases Go.Deep.open_slice1 Tryz.underlying49 (by kernel_rfl) hf with⟨hcs,_⟩ | ⟨x,l,c,m,n,V,D,Pl,hcs,_,hl,hm,hmm,_,hx⟩
  ·simp[Value.cells] at hcs;obtain⟨rfl,rfl,rfl⟩:=hcs;exact⟨⟨Nat.le_refl _,by decide⟩,fun i hi=>absurd hi (Nat.not_lt_zero _)⟩
  ·simp[Value.cells] at hcs;obtain⟨rfl,rfl,rfl⟩:=hcs;exact uQ (fun _=>rfl) hl hm hmm hx
 obtain⟨a3,f,k,rfl⟩:=okWide_slice Tryz.underlying49 (a 3 49 v3 rfl rfl);have k3:=B
 have A:∀ x∈p3,x.block < W.heap.size:=by obtain⟨m,hm⟩:=k3;exact DataW.trod_lt m _ _ _ hm
 have w3:iR W a3 f k:=by
  obtain⟨fuel,hf⟩:=B;rcases Go.Deep.open_slice1 Tryz.underlying49 (by kernel_rfl) hf with⟨hcs,_⟩ | ⟨x,l,c,m,n,V,D,Pl,hcs,_,hl,hm,hmm,_,hx⟩
  ·simp[Value.cells] at hcs;obtain⟨rfl,rfl,rfl⟩:=hcs;exact⟨⟨Nat.le_refl _,by decide⟩,fun i hi=>absurd hi (Nat.not_lt_zero _)⟩
  ·simp[Value.cells] at hcs;obtain⟨rfl,rfl,rfl⟩:=hcs;exact uQ (fun _=>rfl) hl hm hmm hx
 obtain⟨K,rfl⟩:∃ n,v4=.bool n:=okWide_bool Tryz.underlying4 (a 4 4 v4 rfl rfl);have E:=L
 have u:∀ x∈M,x.block < W.heap.size:=by obtain⟨m,hm⟩:=E;exact DataW.trod_lt m _ _ _ hm
 clear o b;refine(walk O S a2 d g a3 f k K W r s T w3).mono fun e W' ⟨he,bel⟩=>?_
 subst he;exact⟨_,rfl,_,_,_,[],_,[],y,trodAll_mk1 (shut_bool Tryz.underlying4 _),(trodAll_cons_mk (shut_int Tryz.underlying22 r) (trodAll_cons_mk (shut_int Tryz.underlying22 s) (trodAll_cons_mk (Below.trod laidOut (by kernel_rfl) (of_decide_eq_true (by kernel_rfl)) k2 bel w) (trodAll_cons_mk (Below.trod laidOut (by kernel_rfl) (of_decide_eq_true (by kernel_rfl)) k3 bel A) (trodAll_cons_mk (Below.trod laidOut (by kernel_rfl) (of_decide_eq_true (by kernel_rfl)) E bel u) trodAll_mk0))))),rfl,bel.frame _,fun h=>by cases h⟩
def putCells(h:Array Obj)(k:Nat)(cs:Array Value):Array Obj:=h.modify k fun
 | .cells _ t frozen=>.cells cs t frozen
 | o=>o
noncomputable def laidWorld (os:Os):World :=
 { World.holding Tryz.prog os ⟨#[],#[],[]⟩ with heap:=putCells (putCells (putCells (putCells (putCells (World.holding Tryz.prog os ⟨#[],#[],[]⟩).heap 2 #[.int .u64 1,.int .u64 10,.int .u64 100,.int .u64 1000,.int .u64 10000,.int .u64 100000,.int .u64 1000000,.int .u64 10000000,.int .u64 100000000,.int .u64 1000000000,.int .u64 10000000000,.int .u64 100000000000,.int .u64 1000000000000,.int .u64 10000000000000,.int .u64 100000000000000,.int .u64 1000000000000000,.int .u64 10000000000000000,.int .u64 100000000000000000,.int .u64 1000000000000000000,.int .u64 10000000000000000000]) 6 #[.int .u8 0,.int .u8 1,.int .u8 28,.int .u8 2,.int .u8 29,.int .u8 14,.int .u8 24,.int .u8 3,.int .u8 30,.int .u8 22,.int .u8 20,.int .u8 15,.int .u8 25,.int .u8 17,.int .u8 4,.int .u8 8,.int .u8 31,.int .u8 27,.int .u8 13,.int .u8 23,.int .u8 21,.int .u8 19,.int .u8 16,.int .u8 7,.int .u8 26,.int .u8 12,.int .u8 18,.int .u8 6,.int .u8 11,.int .u8 5,.int .u8 10,.int .u8 9]) 7 #[.int .u8 0,.int .u8 1,.int .u8 56,.int .u8 2,.int .u8 57,.int .u8 49,.int .u8 28,.int .u8 3,.int .u8 61,.int .u8 58,.int .u8 42,.int .u8 50,.int .u8 38,.int .u8 29,.int .u8 17,.int .u8 4,.int .u8 62,.int .u8 47,.int .u8 59,.int .u8 36,.int .u8 45,.int .u8 43,.int .u8 51,.int .u8 22,.int .u8 53,.int .u8 39,.int .u8 33,.int .u8 30,.int .u8 24,.int .u8 18,.int .u8 12,.int .u8 5,.int .u8 63,.int .u8 55,.int .u8 48,.int .u8 27,.int .u8 60,.int .u8 41,.int .u8 37,.int .u8 16,.int .u8 46,.int .u8 35,.int .u8 44,.int .u8 21,.int .u8 52,.int .u8 32,.int .u8 23,.int .u8 11,.int .u8 54,.int .u8 26,.int .u8 40,.int .u8 15,.int .u8 34,.int .u8 20,.int .u8 31,.int .u8 10,.int .u8 25,.int .u8 14,.int .u8 19,.int .u8 9,.int .u8 13,.int .u8 8,.int .u8 7,.int .u8 6]) 4 #[.int .u8 128,.int .u8 191,.int .u8 160,.int .u8 191,.int .u8 128,.int .u8 159,.int .u8 144,.int .u8 191,.int .u8 128,.int .u8 143,.int .u8 0,.int .u8 0,.int .u8 0,.int .u8 0,.int .u8 0,.int .u8 0,.int .u8 0,.int .u8 0,.int .u8 0,.int .u8 0,.int .u8 0,.int .u8 0,.int .u8 0,.int .u8 0,.int .u8 0,.int .u8 0,.int .u8 0,.int .u8 0,.int .u8 0,.int .u8 0,.int .u8 0,.int .u8 0]) 3 (Go.Pinned.utf8FirstZ.map fun n:Nat=>Value.int .u8 (n:Int)).toArray }
theorem Aq(os:Os):laidMet Tryz.prog Rows.f1AlikeRow.laid ((laidWorld os).forCall (fun _ _=>0) ⟨#[],#[.int .u64 0,.int .u64 0,.slice none 0 0,.slice none 0 0,.bool false],[]⟩).memory :=
 laidMet_of_run' 8 (by kernel_rfl) (by kernel_rfl)
theorem reads(os:Os){H:Type}(enc:TypeId × Value->H):∃ places,DataW.whole enc Tryz.prog ((laidWorld os).forCall (fun _ _=>0) ⟨#[],#[.int .u64 0,.int .u64 0,.slice none 0 0,.slice none 0 0,.bool false],[]⟩).memory Tryz.f7.params.toList Rows.f1AlikeSpec.vars false (#[.int .u64 0,.int .u64 0,.slice none 0 0,.slice none 0 0,.bool false]:Array Value).toList 8=some ([.lit (.int .u64 0),.lit (.int .u64 0),.nil,.nil,.lit (.bool false)],[],places) :=
 ⟨[],by kernel_rfl⟩
theorem lifted(os:Os)(started:os.Started)(H:Type)(enc:TypeId × Value→H)(F:Stop.Interp) :
    ReturnsInHanded {} Tryz.checked os 7 .any ((OpenSpec.ofChange Rows.f1AlikeSpec).preRow enc Tryz.prog Tryz.f7 Rows.f1AlikeRow.domain false Rows.f1AlikeRow.laid) (((OpenSpec.ofChange Rows.f1AlikeSpec).at F).post enc Tryz.prog Tryz.f7 false true false false):=by
  obtain⟨places,hx⟩:= reads os enc;refine returnsInHanded_of_row (C:=Tryz.checked) (s:=OpenSpec.ofChange Rows.f1AlikeSpec) own started (by kernel_rfl) Tryz.func7
    (witness_row_at (enc := enc) (C := Tryz.checked) false (laidWorld os) #[.int .u64 0, .int .u64 0, .slice none 0 0, .slice none 0 0, .bool false] rfl (by kernel_rfl) (by kernel_rfl) (by kernel_rfl)
      (OpenSpec.preRow_of_cond 8 hx (by kernel_rfl) (fun k d=>by cases d) (by kernel_rfl) (Aq os))) ?_
  intro W base args c gs before a b _ _ _ _ _ _;exact Ah H enc W base args c gs before a b
theorem said:Rows.F1AlikeSaid :=
  OpenClaim.holds_of_cond 7 Tryz.f7 rfl rfl rfl rfl rfl rfl rfl ⟨rfl,rfl,rfl,rfl,rfl⟩ rfl rfl rfl rfl rfl (by kernel_rfl) Tryz.func7 (by kernel_rfl)
    (of_decide_eq_true (by kernel_rfl)) (by unfold Func.isWrapper;first | (rw[if_pos (by decide +kernel)];kernel_rfl) | (rw[if_neg (by decide +kernel)];exact⟨rfl,rfl⟩))
    (fun os started H enc _ F=>by rw[OpenClaim.pre_eq_preRow];exact lifted os started H enc F)
theorem plain(f:FuncId)(fn:Func)(hf:Tryz.pinned.checked.prog.funcNamed "glean/gleanlaw13.F1Alike" = some f)(a:Tryz.pinned.checked.prog.funcs[f]? = some fn) :
  false=Tryz.pinned.checked.prog.looks []/\∀ (j:Nat) t,fn.params[j]?=some t->Tryz.pinned.checked.prog.wantsStandIn t=false:=by
 obtain rfl:f=7:=Option.some.inj ((show Tryz.prog.funcNamed "glean/gleanlaw13.F1Alike" = some 7 by kernel_rfl).symm.trans hf) |>.symm
 obtain rfl:fn=Tryz.f7:=(Option.some.inj (Tryz.func7.symm.trans a)).symm;refine⟨by kernel_rfl,fun j t b=>?_⟩;rw[Tryz.params7] at b;have hm:=Array.mem_of_getElem? b
 have c:t=22\/t=49\/t=4:=by
  simp only[List.mem_toArray,List.mem_cons,List.not_mem_nil,or_false] at hm;rcases hm with rfl | rfl | rfl | rfl | rfl<;>simp
 rcases c with rfl | rfl | rfl
 ·exact(show Tryz.prog.wantsStandIn 22=false by kernel_rfl)
 ·exact(show Tryz.prog.wantsStandIn 49=false by kernel_rfl)
 ·exact(show Tryz.prog.wantsStandIn 4=false by kernel_rfl)
end
end f1Alike
theorem f1Alike_card:Rows.F1AlikeCardSaid :=
 Claim7.holds_tied_plain_at .later [] _ _ _ _ f1Alike.said (fun _ h=>by cases h) (by kernel_rfl) (fun _ h=>by cases h) f1Alike_row_tie rfl ⟨rfl,rfl⟩ (by kernel_rfl) rfl f1Alike.plain (by kernel_rfl)
end Go.Proofs.YthfepflplbahkaaGreatDoor
