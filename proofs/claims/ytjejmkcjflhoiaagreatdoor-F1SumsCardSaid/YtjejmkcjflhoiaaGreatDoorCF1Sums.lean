/- gleanlaw13.F1Sums returns true for every input, and leaves its arguments as they are: the card, with the listed tables tied to the program's text. Conditions: none but the card's own (the tables that the row lists start as their initialisers lay them). -/
import Derived.Test.YtjejmkcjflhoiaaGreatDoorLF1Sums
import Derived.Test.YtjejmkcjflhoiaaGreatDoorCards
import Derived.Test.YtjejmkcjflhoiaaGreatDoorTie
import Derived.ProofKit
import Derived.ShutString
import Derived.ChangeOld
import Derived.Below
import Derived.Lib.LaidTab
import Derived.ChangeSame
import Derived.Deep.DeepHandedRow
import Derived.Deep.Slices
set_option maxRecDepth 100000
set_option maxHeartbeats 8000000
namespace Go.Proofs.YtjejmkcjflhoiaaGreatDoor
namespace f1Sums
open Go.ChangeShapes Go.WideShapes Go.ChangeAt Go.RowKit
open Go.ChangeMaps (open_string shut_string)
open Fo
section
variable {W w:World}{base fuel:Nat}{spare:Nat->Bool}{held:Bool}{c v:Value}{cs:List Value}{a:Option Addr}
theorem own:ownKnob Tryz.prog.godebug=none:=by kernel_rfl
theorem laidOut:laidOutB Tryz.prog=true:=by kernel_rfl
theorem BT{H:Type}{enc:TypeId × Value->H}{x:DataW H × List MemPlace}(h:DataW.trod enc Tryz.prog W base spare held fuel 30 [c]=some x)(hs:∀ b,spare b=true):∃ a len cap zs,c=.slice a len cap/\wV W a len cap zs:=by
 rcases open_ints Tryz.underlying30 Tryz.underlying22 (by kernel_rfl) h with⟨hc1,_⟩ | ⟨x,l,c1,zs,hc1,_,hl,hm,hz,_,hcell,hwz⟩
 ·exact⟨none,0,0,[],List.cons.inj hc1 |>.1,.inl ⟨rfl,rfl,rfl,rfl⟩⟩
 ·exact⟨some x,l,c1,zs,List.cons.inj hc1 |>.1,.inr ⟨_,rfl,hl,hm,by simpa[hs] using hz,hcell,hwz⟩⟩
theorem xE{x:Addr}(hx:w.cell? x=some v):x.spot=none:=by
 simp only[World.cell?] at hx
 cases hh:w.heap[x.block]? with
 | none=>rw[hh] at hx;simp at hx
 | some ob =>
  rw[hh] at hx
  cases ob with
  | cells c e f =>
   simp at hx
   cases hs:x.spot with
   | none=>rfl
   | some s=>rw[hs] at hx;simp at hx
  | _=>simp at hx
theorem addr_add(b o n:Nat):(⟨b,o,none⟩:Addr).add n=⟨b,o+n,none⟩:=by
 unfold Addr.add;split
 ·subst n;rfl
 ·rfl
theorem o8{α:Type}{l:List α}(h:l.length=4):∃ a b c d,l=[a,b,c,d]:=by
 match l,h with
 | [a,b,c,d],_=>exact⟨a,b,c,d,rfl⟩
structure Stq(W:World)(b o:Nat)(s:Int × Int × Int × Option Addr × Nat × Nat × Int):Prop where
 cell:W.cell? ⟨b,o,none⟩=some (.int .i64 s.1)/\W.cell? ⟨b,o+1,none⟩=some (.int .i64 s.2.1)/\W.cell? ⟨b,o+2,none⟩=some (.int .u64 s.2.2.1)/\W.cell? ⟨b,o+3,none⟩=some (.slice s.2.2.2.1 s.2.2.2.2.1 s.2.2.2.2.2.1)
 rng:0<=s.2.2.1/\s.2.2.1 < 18446744073709551616
 nat:aX W s.2.2.2.1 s.2.2.2.2.1 s.2.2.2.2.2.1 s.2.2.2.2.2.2/\s.2.2.2.2.1<=9223372036854775807
theorem E3{H:Type}{enc:TypeId × Value->H}{A:Addr}{x:DataW H × List MemPlace}(hs:∀ b,spare b=true)(hc:W.cells? base A 4=some cs)(h:DataW.trod enc Tryz.prog W base spare held fuel 34 cs=some x):∃ s,A.spot=none/\Stq W A.block A.off s:=by
 obtain⟨_,hlen,a⟩:=World.cells?_some hc;obtain⟨xs,k,B,rfl,_,d,hf⟩:=DataW.trod_struct Tryz.underlying34 h;obtain⟨w,z,D,u,rfl⟩:=o8 (show xs.length=4 from d);obtain⟨v0,v1,v2,v3,rfl⟩:=o8 hlen;have g0:=hf 0 _ rfl;have g1:=hf 1 _ rfl;have g2:=hf 2 _ rfl;have g3:=hf 3 _ rfl
 have n:Tryz.prog.cellsOf 3=1:=by kernel_rfl
 have p:Tryz.prog.cellsOf 22=1:=by kernel_rfl
 have j:Tryz.prog.cellsOf 32=1:=by kernel_rfl
 simp[n,p,j] at g0 g1 g2 g3;obtain⟨n0,e,_,C⟩:=DataW.trod_int Tryz.underlying3 g0;obtain⟨q,e1,_,y⟩:=DataW.trod_int Tryz.underlying3 g1;obtain⟨t,e2,_,r⟩:=DataW.trod_int Tryz.underlying22 g2;obtain⟨z0,m0,_,_,hy⟩:=trod_struct1 Tryz.underlying32 g3;obtain⟨a3,l,c3,v,e3,f⟩:=BT hy hs;obtain⟨g,m,i⟩:=ED f;have c0:=a 0 (by decide);have c1:=a 1 (by decide);have c2:=a 2 (by decide);have c3:=a 3 (by decide)
 have c:A.spot=none:=by
  rw[show A.add 0=A from rfl] at c0;exact xE c0
 obtain⟨b,o,sp⟩:=A;obtain rfl:sp=none:=c;rw[addr_add] at c0 c1 c2 c3;simp at e e1 e2 e3 c0 c1 c2 c3;subst e e1 e2 e3;exact⟨(n0,q,t,a3,l,_,g),rfl,⟨c0,c1,c2,c3⟩,u64r r,m,i⟩
theorem BH{H:Type}{enc:TypeId × Value->H}{len cap:Nat}{x:DataW H × List MemPlace}(hs:∀ b,spare b=true)(h:DataW.trod enc Tryz.prog W base spare held fuel 23 [.slice a len cap]=some x):uN W a len:=by
 have q5:Tryz.prog.cellsOf 34=4:=by kernel_rfl
 rcases Go.Deep.open_slice Tryz.underlying23 h with⟨hcs,_⟩ | ⟨A,l,c,m,n,D,Pl,hcs,_,hl,hm,hmm,rfl,hx⟩
 ·simp at hcs;obtain⟨rfl,rfl,rfl⟩:=hcs
  have no:∀ {q:Nat->Prop} (i:Nat),i < 0->q i:=fun i h=>absurd h (Nat.not_lt_zero i)
  exact⟨0,0,fun _=>0,fun _=>0,fun _=>0,fun _=>none,fun _=>0,fun _=>0,fun _=>0,fun h=>absurd h (Nat.lt_irrefl 0),no,no,no,no,no,no,by decide,no⟩
 ·simp at hcs;obtain⟨rfl,rfl,rfl⟩:=hcs
  have t:m=cap:=by rw[hmm,hs];rfl
  have d:∀ i,i < len->∃ s,(A.add (i * 4)).spot=none/\Stq W (A.add (i * 4)).block (A.add (i * 4)).off s:=fun i hi=>by
   obtain⟨u,p,r⟩:=hx i (by omega);rw[q5] at p;exact E3 hs p r
  have g:0 < len->A.spot=none:=fun h0=>(d 0 h0).elim fun _ k=>k.1
  have each:∀ i,i < len->∃ s,A=⟨A.block,A.off,none⟩/\Stq W A.block (A.off + i * 4) s:=fun i hi=>by
   obtain⟨s,k1,j⟩:=d i hi;have e:=g (by omega);obtain⟨b,o,sp⟩:=A;obtain rfl:sp=none:=e;rw[addr_add] at j;exact⟨s,rfl,j⟩
  obtain⟨f,hf⟩:=Go.Deep.choose_lt each;exact⟨A.block,A.off,fun i=>(f i).1,fun i=>(f i).2.1,fun i=>(f i).2.2.1,fun i=>(f i).2.2.2.1,fun i=>(f i).2.2.2.2.1,fun i=>(f i).2.2.2.2.2.1,fun i=>(f i).2.2.2.2.2.2,fun h0=>congrArg some (hf 0 h0).1,fun i hi=>(hf i hi).2.cell.1,fun i hi=>(hf i hi).2.cell.2.1,fun i hi=>(hf i hi).2.cell.2.2.1,fun i hi=>(hf i hi).2.cell.2.2.2,fun i hi=>(hf i hi).2.rng,fun i hi=>(hf i hi).2.nat.1,by unfold maxLen at hm;omega,fun i hi=>(hf i hi).2.nat.2⟩
theorem zW(H:Type)(enc:TypeId × Value->H)(W:World)(base:Nat)(args:Array Value)(ds gs:List (DataW H))(before:List MemPlace)(a:∀ (j:Nat) t v,Tryz.f4.params[j]?=some t->args[j]?=some v->Value.okWide Tryz.prog W .any base t v)(n:DataW.Whole enc Tryz.prog Tryz.f4.params.toList Rows.f1SumsSpec.vars false W args.toList ds gs before) :
  Calls Tryz.prog 4 args W fun e W'=>∃ v,e=.returned v/\Rows.f1SumsSpec.post enc Tryz.prog Tryz.f4 false true false false W args v W':=by
 have b:∀ (j:Nat) t v,Tryz.f4.params[j]?=some t->args[j]?=some v->Value.okWide Tryz.prog W .any base t v:=a
 have i:=n;obtain⟨p,q,g,y,rfl,C,B⟩:=n
 have hA:DataW.TrodAll enc Tryz.prog W 0 (fun _=>true) true Tryz.f4.params.toList args.toList ds p:=g;rw[Tryz.params4] at hA b;obtain⟨v0,w,d0,s,D,q0,l,rfl,rfl,h0,r0⟩:=trodAll_cons hA;obtain⟨v1,r,d1,u,p1,q1,rfl,rfl,rfl,o,r1⟩:=trodAll_cons r0;obtain⟨rfl,rfl,rfl⟩:=trodAll_nil r1;obtain rfl:args=#[v0,v1]:=by cases args;simp_all
 obtain⟨rfl,rfl⟩:=trodVars_none y;obtain⟨z,rfl,rfl,rfl,f⟩:=open_int Tryz.underlying22 (b 0 22 v0 rfl rfl) h0;obtain⟨a1,d,c,rfl⟩:=okWide_slice Tryz.underlying23 (b 1 23 v1 rfl rfl);have k1:=o
 have k:∀ x∈p1,x.block < W.heap.size:=by obtain⟨m,hm⟩:=k1;exact DataW.trod_lt m _ _ _ hm
 have A:uN W a1 d:=by
  obtain⟨fuel,hf⟩:=o;exact BH (cap:=c) (fun _=>rfl) hf
 clear g a;refine(walk z a1 d c W f A).mono fun e W' ⟨he,bel⟩=>?_
 subst he;exact⟨_,rfl,_,_,_,[],_,[],i,trodAll_mk1 (shut_bool Tryz.underlying4 _),(trodAll_cons_mk (shut_int Tryz.underlying22 f) (trodAll_cons_mk (Below.trod laidOut (by kernel_rfl) (of_decide_eq_true (by kernel_rfl)) k1 bel k) trodAll_mk0)),rfl,bel.frame _,fun h=>by cases h⟩
def putCells(h:Array Obj)(k:Nat)(cs:Array Value):Array Obj:=h.modify k fun
 | .cells _ t frozen=>.cells cs t frozen
 | o=>o
noncomputable def laidWorld (os:Os):World :=
 { World.holding Tryz.prog os ⟨#[],#[],[]⟩ with heap:=putCells (putCells (putCells (putCells (putCells (World.holding Tryz.prog os ⟨#[],#[],[]⟩).heap 2 #[.int .u64 1,.int .u64 10,.int .u64 100,.int .u64 1000,.int .u64 10000,.int .u64 100000,.int .u64 1000000,.int .u64 10000000,.int .u64 100000000,.int .u64 1000000000,.int .u64 10000000000,.int .u64 100000000000,.int .u64 1000000000000,.int .u64 10000000000000,.int .u64 100000000000000,.int .u64 1000000000000000,.int .u64 10000000000000000,.int .u64 100000000000000000,.int .u64 1000000000000000000,.int .u64 10000000000000000000]) 6 #[.int .u8 0,.int .u8 1,.int .u8 28,.int .u8 2,.int .u8 29,.int .u8 14,.int .u8 24,.int .u8 3,.int .u8 30,.int .u8 22,.int .u8 20,.int .u8 15,.int .u8 25,.int .u8 17,.int .u8 4,.int .u8 8,.int .u8 31,.int .u8 27,.int .u8 13,.int .u8 23,.int .u8 21,.int .u8 19,.int .u8 16,.int .u8 7,.int .u8 26,.int .u8 12,.int .u8 18,.int .u8 6,.int .u8 11,.int .u8 5,.int .u8 10,.int .u8 9]) 7 #[.int .u8 0,.int .u8 1,.int .u8 56,.int .u8 2,.int .u8 57,.int .u8 49,.int .u8 28,.int .u8 3,.int .u8 61,.int .u8 58,.int .u8 42,.int .u8 50,.int .u8 38,.int .u8 29,.int .u8 17,.int .u8 4,.int .u8 62,.int .u8 47,.int .u8 59,.int .u8 36,.int .u8 45,.int .u8 43,.int .u8 51,.int .u8 22,.int .u8 53,.int .u8 39,.int .u8 33,.int .u8 30,.int .u8 24,.int .u8 18,.int .u8 12,.int .u8 5,.int .u8 63,.int .u8 55,.int .u8 48,.int .u8 27,.int .u8 60,.int .u8 41,.int .u8 37,.int .u8 16,.int .u8 46,.int .u8 35,.int .u8 44,.int .u8 21,.int .u8 52,.int .u8 32,.int .u8 23,.int .u8 11,.int .u8 54,.int .u8 26,.int .u8 40,.int .u8 15,.int .u8 34,.int .u8 20,.int .u8 31,.int .u8 10,.int .u8 25,.int .u8 14,.int .u8 19,.int .u8 9,.int .u8 13,.int .u8 8,.int .u8 7,.int .u8 6]) 4 #[.int .u8 128,.int .u8 191,.int .u8 160,.int .u8 191,.int .u8 128,.int .u8 159,.int .u8 144,.int .u8 191,.int .u8 128,.int .u8 143,.int .u8 0,.int .u8 0,.int .u8 0,.int .u8 0,.int .u8 0,.int .u8 0,.int .u8 0,.int .u8 0,.int .u8 0,.int .u8 0,.int .u8 0,.int .u8 0,.int .u8 0,.int .u8 0,.int .u8 0,.int .u8 0,.int .u8 0,.int .u8 0,.int .u8 0,.int .u8 0,.int .u8 0,.int .u8 0]) 3 (Go.Pinned.utf8FirstZ.map fun n:Nat=>Value.int .u8 (n:Int)).toArray }
theorem Az(os:Os):laidMet Tryz.prog Rows.f1SumsRow.laid ((laidWorld os).forCall (fun _ _=>0) ⟨#[],#[.int .u64 0,.slice none 0 0],[]⟩).memory :=
 laidMet_of_run' 8 (by kernel_rfl) (by kernel_rfl)
theorem reads(os:Os){H:Type}(enc:TypeId × Value->H):∃ places,DataW.whole enc Tryz.prog ((laidWorld os).forCall (fun _ _=>0) ⟨#[],#[.int .u64 0,.slice none 0 0],[]⟩).memory Tryz.f4.params.toList Rows.f1SumsSpec.vars false (#[.int .u64 0,.slice none 0 0]:Array Value).toList 8=some ([.lit (.int .u64 0),.nil],[],places) :=
 ⟨[],by kernel_rfl⟩
theorem lifted(os:Os)(started:os.Started)(H:Type)(enc:TypeId × Value→H)(F:Stop.Interp) :
    ReturnsInHanded {} Tryz.checked os 4 .any ((OpenSpec.ofChange Rows.f1SumsSpec).preRow enc Tryz.prog Tryz.f4 Rows.f1SumsRow.domain false Rows.f1SumsRow.laid) (((OpenSpec.ofChange Rows.f1SumsSpec).at F).post enc Tryz.prog Tryz.f4 false true false false):=by
  obtain⟨places,hx⟩:= reads os enc;refine returnsInHanded_of_row (C:=Tryz.checked) (s:=OpenSpec.ofChange Rows.f1SumsSpec) own started (by kernel_rfl) Tryz.func4
    (witness_row_at (enc := enc) (C := Tryz.checked) false (laidWorld os) #[.int .u64 0, .slice none 0 0] rfl (by kernel_rfl) (by kernel_rfl) (by kernel_rfl)
      (OpenSpec.preRow_of_cond 8 hx (by kernel_rfl) (fun k b=>by cases b) (by kernel_rfl) (Az os))) ?_
  intro W base args d gs before a c _ _ _ _ _ _;exact zW H enc W base args d gs before a c
theorem said:Rows.F1SumsSaid :=
  OpenClaim.holds_of_cond 4 Tryz.f4 rfl rfl rfl rfl rfl rfl rfl ⟨rfl,rfl,rfl,rfl,rfl⟩ rfl rfl rfl rfl rfl (by kernel_rfl) Tryz.func4 (by kernel_rfl)
    (of_decide_eq_true (by kernel_rfl)) (by unfold Func.isWrapper;first | (rw[if_pos (by decide +kernel)];kernel_rfl) | (rw[if_neg (by decide +kernel)];exact⟨rfl,rfl⟩))
    (fun os started H enc _ F=>by rw[OpenClaim.pre_eq_preRow];exact lifted os started H enc F)
theorem plain(f:FuncId)(fn:Func)(hf:Tryz.pinned.checked.prog.funcNamed "glean/gleanlaw13.F1Sums" = some f)(a:Tryz.pinned.checked.prog.funcs[f]? = some fn) :
  false=Tryz.pinned.checked.prog.looks []/\∀ (j:Nat) t,fn.params[j]?=some t->Tryz.pinned.checked.prog.wantsStandIn t=false:=by
 obtain rfl:f=4:=Option.some.inj ((show Tryz.prog.funcNamed "glean/gleanlaw13.F1Sums" = some 4 by kernel_rfl).symm.trans hf) |>.symm
 obtain rfl:fn=Tryz.f4:=(Option.some.inj (Tryz.func4.symm.trans a)).symm;refine⟨by kernel_rfl,fun j t b=>?_⟩;rw[Tryz.params4] at b;have hm:=Array.mem_of_getElem? b
 have c:t=22\/t=23:=by
  simp only[List.mem_toArray,List.mem_cons,List.not_mem_nil,or_false] at hm;rcases hm with rfl | rfl<;>simp
 rcases c with rfl | rfl
 ·exact(show Tryz.prog.wantsStandIn 22=false by kernel_rfl)
 ·exact(show Tryz.prog.wantsStandIn 23=false by kernel_rfl)
end
end f1Sums
theorem f1Sums_card:Rows.F1SumsCardSaid :=
 Claim7.holds_tied_plain_at .later [] _ _ _ _ f1Sums.said (fun _ h=>by cases h) (by kernel_rfl) (fun _ h=>by cases h) f1Sums_row_tie rfl ⟨rfl,rfl⟩ (by kernel_rfl) rfl f1Sums.plain (by kernel_rfl)
end Go.Proofs.YtjejmkcjflhoiaaGreatDoor
