/- gleanlaw24.LedgerPlays returns true for every input, and leaves its arguments as they are: the card, with the listed tables tied to the program's text. Conditions: none but the card's own (the tables that the row lists start as their initialisers lay them). -/
import Derived.Test.YtlbndpkdkdgggaaGreatDoorLLedgerPlays
import Derived.Test.YtlbndpkdkdgggaaGreatDoorCards
import Derived.Test.YtlbndpkdkdgggaaGreatDoorTie
import Derived.WalkKit
import Derived.ProofKit
import Derived.OpenShut
import Derived.ShutString
import Derived.ChangeOld
import Derived.Below
import Derived.Lib.LaidTab
import Derived.ChangeSame
import Derived.Deep.DeepHandedRow
import Derived.Deep.Slices
set_option maxRecDepth 100000
set_option maxHeartbeats 8000000
namespace Go.Proofs.YtlbndpkdkdgggaaGreatDoor
namespace ledgerPlays
open Go.ChangeShapes Go.WideShapes Go.ChangeAt Go.RowKit
open Go.ChangeMaps (open_string shut_string)
open Lg
theorem own:ownKnob Tryz.prog.godebug=none:=by kernel_rfl
theorem laidOut:laidOutB Tryz.prog=true:=by kernel_rfl
theorem nat_cell {H:Type} {enc:TypeId × Value->H} {W:World} {base fuel:Nat} {spare:Nat->Bool} {held:Bool} {c:Value} {x:DataW H × List MemPlace} (h:DataW.trod enc Tryz.prog W base spare held fuel 33 [c]=some x) (hs:∀ b,spare b=true):∃ a len cap zs,c=.slice a len cap/\IsRow W a len cap zs:=by
 rcases open_ints Tryz.underlying33 Tryz.underlying31 (by kernel_rfl) h with ⟨hc1,_⟩ | ⟨x,l,c1,zs,hc1,_,hl,hm,hz,_,hcell,hwz⟩
 ·exact ⟨none,0,0,[],List.cons.inj hc1 |>.1,.inl ⟨rfl,rfl,rfl,rfl⟩⟩
 ·exact ⟨some x,l,c1,zs,List.cons.inj hc1 |>.1,.inr ⟨_,rfl,hl,hm,by simpa [hs] using hz,hcell,hwz⟩⟩
theorem spot_none {w:World} {x:Addr} {v:Value} (hx:w.cell? x=some v):x.spot=none:=by
 simp only [World.cell?] at hx
 cases hh:w.heap[x.block]? with
 | none=>rw [hh] at hx; simp at hx
 | some ob =>
  rw [hh] at hx
  cases ob with
  | cells c e f =>
   simp at hx
   cases hs:x.spot with
   | none=>rfl
   | some s=>rw [hs] at hx; simp at hx
  | _=>simp at hx
theorem addr_add (b o n:Nat):(⟨b,o,none⟩:Addr).add n=⟨b,o + n,none⟩:=by
 unfold Addr.add
 split
 ·subst n; rfl
 ·rfl
theorem seven_list {α:Type} {l:List α} (h:l.length=7):∃ a b c d e f g,l=[a,b,c,d,e,f,g]:=by
 match l,h with
 | [a,b,c,d,e,f,g],_=>exact ⟨a,b,c,d,e,f,g,rfl⟩
theorem step_in {H:Type} {enc:TypeId × Value->H} {W:World} {base fuel:Nat} {spare:Nat->Bool} {held:Bool} {A:Addr} {cs:List Value} {x:DataW H × List MemPlace} (hs:∀ b,spare b=true)
  (hc:W.cells? base A 7=some cs) (h:DataW.trod enc Tryz.prog W base spare held fuel 37 cs=some x):∃ s,A.spot=none/\A7 W A.block A.off s:=by
 obtain ⟨_,hlen,hcell⟩:=World.cells?_some hc
 obtain ⟨xs,k,hk,rfl,_,hxl,hf⟩:=DataW.trod_struct Tryz.underlying37 h
 obtain ⟨y0,y1,y2,y3,y4,y5,y6,rfl⟩:=seven_list (show xs.length=7 from hxl)
 obtain ⟨v0,v1,v2,v3,v4,v5,v6,rfl⟩:=seven_list hlen
 have g0:=hf 0 _ rfl
 have g1:=hf 1 _ rfl
 have g2:=hf 2 _ rfl
 have g3:=hf 3 _ rfl
 have g4:=hf 4 _ rfl
 have g5:=hf 5 _ rfl
 have g6:=hf 6 _ rfl
 have qi:Tryz.prog.cellsOf 3=1:=by kernel_rfl
 have qu:Tryz.prog.cellsOf 31=1:=by kernel_rfl
 have qd:Tryz.prog.cellsOf 35=1:=by kernel_rfl
 simp [qi,qu,qd] at g0 g1 g2 g3 g4 g5 g6
 obtain ⟨n0,e0,_,w0⟩:=DataW.trod_int Tryz.underlying3 g0
 obtain ⟨n1,e1,_,w1⟩:=DataW.trod_int Tryz.underlying31 g1
 obtain ⟨n2,e2,_,w2⟩:=DataW.trod_int Tryz.underlying31 g2
 obtain ⟨n3,e3,_,w3⟩:=DataW.trod_int Tryz.underlying31 g3
 obtain ⟨n4,e4,_,w4⟩:=DataW.trod_int Tryz.underlying31 g4
 obtain ⟨z5,m5,_,_,hy5⟩:=trod_struct1 Tryz.underlying35 g5
 obtain ⟨a5,k5,c5',l5,e5,r5⟩:=nat_cell hy5 hs
 obtain ⟨x5,N5,L5⟩:=row_nat r5
 obtain ⟨z6,m6,_,_,hy6⟩:=trod_struct1 Tryz.underlying35 g6
 obtain ⟨a6,k6,c6',l6,e6,r6⟩:=nat_cell hy6 hs
 obtain ⟨x6,N6,L6⟩:=row_nat r6
 have c0:=hcell 0 (by decide)
 have c1:=hcell 1 (by decide)
 have c2:=hcell 2 (by decide)
 have c3:=hcell 3 (by decide)
 have c4:=hcell 4 (by decide)
 have c5:=hcell 5 (by decide)
 have c6:=hcell 6 (by decide)
 have hsp:A.spot=none:=by
  rw [show A.add 0=A from rfl] at c0
  exact spot_none c0
 obtain ⟨b,o,sp⟩:=A
 obtain rfl:sp=none:=hsp
 rw [addr_add] at c0 c1 c2 c3 c4 c5 c6
 simp at e0 e1 e2 e3 e4 e5 e6 c0 c1 c2 c3 c4 c5 c6
 subst e0 e1 e2 e3 e4 e5 e6
 exact ⟨⟨n0,n1,n2,n3,n4,(a5,k5,c5'),(a6,k6,c6'),x5,x6⟩,rfl,⟨c0,c1,c2,c3,c4,c5,c6⟩,u64r w1,u64r w2,u64r w3,u64r w4,N5,N6,L5,L6⟩
theorem steps_in {H:Type} {enc:TypeId × Value->H} {W:World} {base fuel:Nat} {spare:Nat->Bool} {held:Bool} {a:Option Addr} {len cap:Nat} {x:DataW H × List MemPlace} (hs:∀ b,spare b=true)
  (h:DataW.trod enc Tryz.prog W base spare held fuel 22 [.slice a len cap]=some x):StpsIn W a len:=by
 have q5:Tryz.prog.cellsOf 37=7:=by kernel_rfl
 rcases Go.Deep.open_slice Tryz.underlying22 h with ⟨hcs,_⟩ | ⟨A,l,c,m,n,D,Pl,hcs,_,hl,hm,hmm,rfl,hx⟩
 ·simp at hcs
  obtain ⟨rfl,rfl,rfl⟩:=hcs
  exact ⟨0,0,fun _=>⟨0,0,0,0,0,(none,0,0),(none,0,0),0,0⟩,fun h=>absurd h (Nat.lt_irrefl 0),fun i h=>absurd h (Nat.not_lt_zero i),by decide⟩
 ·simp at hcs
  obtain ⟨rfl,rfl,rfl⟩:=hcs
  have hmc:m=cap:=by rw [hmm,hs]; rfl
  have each0:∀ i,i < len->∃ s,(A.add (i * 7)).spot=none/\A7 W (A.add (i * 7)).block (A.add (i * 7)).off s:=fun i hi=>by
   obtain ⟨cs',h1,h2⟩:=hx i (by omega)
   rw [q5] at h1
   exact step_in hs h1 h2
  have hsp:0 < len->A.spot=none:=fun h0=>(each0 0 h0).elim fun _ k=>k.1
  have each:∀ i,i < len->∃ s,A=⟨A.block,A.off,none⟩/\A7 W A.block (A.off + i * 7) s:=fun i hi=>by
   obtain ⟨s,k1,k2⟩:=each0 i hi
   have e:=hsp (by omega)
   obtain ⟨b,o,sp⟩:=A
   obtain rfl:sp=none:=e
   rw [addr_add] at k2
   exact ⟨s,rfl,k2⟩
  haveI:Inhabited E7:=⟨⟨0,0,0,0,0,(none,0,0),(none,0,0),0,0⟩⟩
  obtain ⟨f,hf⟩:=Go.Deep.choose_lt each
  exact ⟨A.block,A.off,f,fun h0=>congrArg some (hf 0 h0).1,fun i hi=>(hf i hi).2,by unfold maxLen at hm; omega⟩
theorem contract (H:Type) (enc:TypeId × Value->H) (W:World) (base:Nat) (args:Array Value) (ds gs:List (DataW H)) (before:List MemPlace)
  (hval0:∀ (j:Nat) t v,Tryz.f3.params[j]? = some t->args[j]? = some v->Value.okWide Tryz.prog W .any base t v)
  (hW:DataW.Whole enc Tryz.prog Tryz.f3.params.toList Rows.ledgerPlaysSpec.vars false W args.toList ds gs before) :
  Calls Tryz.prog 3 args W fun e W'=>∃ v,e=.returned v/\Rows.ledgerPlaysSpec.post enc Tryz.prog Tryz.f3 false true false false W args v W':=by
 have hval:∀ (j:Nat) t v,Tryz.f3.params[j]? = some t->args[j]? = some v->Value.okWide Tryz.prog W .any base t v:=hval0
 have hW':=hW
 obtain ⟨p,q,hA0,hV,rfl,hfz,hnd⟩:=hW
 have hA:DataW.TrodAll enc Tryz.prog W 0 (fun _=>true) true Tryz.f3.params.toList args.toList ds p:=hA0
 rw [Tryz.params3] at hA hval
 obtain ⟨v0,vs0,d0,ds0,p0,q0,hargs,rfl,rfl,h0,r0⟩:=trodAll_cons hA
 obtain ⟨rfl,rfl,rfl⟩:=trodAll_nil r0
 obtain rfl:args=#[v0]:=by cases args; simp_all
 obtain ⟨rfl,rfl⟩:=trodVars_none hV
 obtain ⟨a0,len0,cap0,rfl⟩:=okWide_slice Tryz.underlying22 (hval 0 22 v0 rfl rfl)
 have k0:=h0
 have lt0:∀ x∈p0,x.block < W.heap.size:=by obtain ⟨m,hm⟩:=k0; exact DataW.trod_lt m _ _ _ hm
 have w0:StpsIn W a0 len0:=by
  obtain ⟨fuel,hf⟩:=h0
  exact steps_in (cap:=cap0) (fun _=>rfl) hf
 clear hA0 hval0
 refine (walk a0 len0 cap0 W w0).mono fun e W' ⟨he,bel⟩ => ?_
 subst he
 exact ⟨_,rfl,_,_,_,[],_,[],hW',trodAll_mk1 (shut_bool Tryz.underlying4 _),(trodAll_cons_mk (Below.trod laidOut (by kernel_rfl) (of_decide_eq_true (by kernel_rfl)) k0 bel lt0) trodAll_mk0),rfl,bel.frame _,fun h=>by cases h⟩
def putCells (h:Array Obj) (k:Nat) (cs:Array Value):Array Obj:=h.modify k fun
 | .cells _ t frozen=>.cells cs t frozen
 | o=>o
noncomputable def laidWorld (os:Os):World :=
 { World.holding Tryz.prog os ⟨#[],#[],[]⟩ with heap:=putCells (putCells ((World.holding Tryz.prog os ⟨#[],#[],[]⟩).heap) 4 #[.int .u8 128,.int .u8 191,.int .u8 160,.int .u8 191,.int .u8 128,.int .u8 159,.int .u8 144,.int .u8 191,.int .u8 128,.int .u8 143,.int .u8 0,.int .u8 0,.int .u8 0,.int .u8 0,.int .u8 0,.int .u8 0,.int .u8 0,.int .u8 0,.int .u8 0,.int .u8 0,.int .u8 0,.int .u8 0,.int .u8 0,.int .u8 0,.int .u8 0,.int .u8 0,.int .u8 0,.int .u8 0,.int .u8 0,.int .u8 0,.int .u8 0,.int .u8 0]) 3 (Go.Pinned.utf8FirstZ.map fun n:Nat=>Value.int .u8 (n:Int)).toArray }
theorem laid_met (os:Os):laidMet Tryz.prog Rows.ledgerPlaysRow.laid ((laidWorld os).forCall (fun _ _=>0) ⟨#[],#[.slice none 0 0],[]⟩).memory :=
 laidMet_of_run' 8 (by kernel_rfl) (by kernel_rfl)
theorem reads (os:Os) {H:Type} (enc:TypeId × Value->H):∃ places,DataW.whole enc Tryz.prog ((laidWorld os).forCall (fun _ _=>0) ⟨#[],#[.slice none 0 0],[]⟩).memory Tryz.f3.params.toList Rows.ledgerPlaysSpec.vars false (#[.slice none 0 0]:Array Value).toList 8=some ([.nil],[],places) :=
 ⟨[],by kernel_rfl⟩
theorem lifted (os : Os) (started : os.Started) (H : Type) (enc : TypeId × Value → H) (F : Stop.Interp) :
    ReturnsInHanded {} Tryz.checked os 3 .any ((OpenSpec.ofChange Rows.ledgerPlaysSpec).preRow enc Tryz.prog Tryz.f3 Rows.ledgerPlaysRow.domain false Rows.ledgerPlaysRow.laid) (((OpenSpec.ofChange Rows.ledgerPlaysSpec).at F).post enc Tryz.prog Tryz.f3 false true false false) := by
  obtain ⟨places, hx⟩ := reads os enc
  refine returnsInHanded_of_row (C := Tryz.checked) (s := OpenSpec.ofChange Rows.ledgerPlaysSpec) own started (by kernel_rfl) Tryz.func3
    (witness_row_at (enc := enc) (C := Tryz.checked) false (laidWorld os) #[.slice none 0 0] rfl (by kernel_rfl) (by kernel_rfl) (by kernel_rfl)
      (OpenSpec.preRow_of_cond 8 hx (by kernel_rfl) (fun k hk => by cases hk) (by kernel_rfl) (laid_met os))) ?_
  intro W base args ds gs before hval hW _ _ _ _ _ _
  exact contract H enc W base args ds gs before hval hW
theorem said : Rows.LedgerPlaysSaid :=
  OpenClaim.holds_of_cond 3 Tryz.f3 rfl rfl rfl rfl rfl rfl rfl ⟨rfl, rfl, rfl, rfl, rfl⟩ rfl rfl rfl rfl rfl (by kernel_rfl) Tryz.func3 (by kernel_rfl)
    (of_decide_eq_true (by kernel_rfl)) (by unfold Func.isWrapper; first | (rw [if_pos (by decide +kernel)]; kernel_rfl) | (rw [if_neg (by decide +kernel)]; exact ⟨rfl, rfl⟩))
    (fun os started H enc _ F => by rw [OpenClaim.pre_eq_preRow]; exact lifted os started H enc F)
theorem plain (f:FuncId) (fn:Func) (hf:Tryz.pinned.checked.prog.funcNamed "glean/gleanlaw24.LedgerPlays" = some f) (hfn:Tryz.pinned.checked.prog.funcs[f]? = some fn) :
  false=Tryz.pinned.checked.prog.looks []/\∀ (j:Nat) t,fn.params[j]? = some t->Tryz.pinned.checked.prog.wantsStandIn t=false:=by
 obtain rfl:f=3:=Option.some.inj ((show Tryz.prog.funcNamed "glean/gleanlaw24.LedgerPlays" = some 3 by kernel_rfl).symm.trans hf) |>.symm
 obtain rfl:fn=Tryz.f3:=(Option.some.inj (Tryz.func3.symm.trans hfn)).symm
 refine ⟨by kernel_rfl,fun j t ht => ?_⟩
 rw [Tryz.params3] at ht
 have hm:=Array.mem_of_getElem? ht
 obtain rfl:t=22:=by simpa using hm
 exact (show Tryz.prog.wantsStandIn 22=false by kernel_rfl)
end ledgerPlays
theorem ledgerPlays_card:Rows.LedgerPlaysCardSaid :=
 Claim7.holds_tied_plain_at .later [] _ _ _ _ ledgerPlays.said (fun _ h=>by cases h) (by kernel_rfl) (fun _ h=>by cases h) ledgerPlays_row_tie rfl ⟨rfl,rfl⟩ (by kernel_rfl) rfl ledgerPlays.plain (by kernel_rfl)
end Go.Proofs.YtlbndpkdkdgggaaGreatDoor
