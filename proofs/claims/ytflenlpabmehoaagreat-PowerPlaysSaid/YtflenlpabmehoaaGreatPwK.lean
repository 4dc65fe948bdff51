/- A script of power's as an argument: its steps in memory. -/
import Derived.Test.YtflenlpabmehoaaGreatJap
import Derived.Test.YtflenlpabmehoaaGreatJai
import Derived.Deep.Slices
import Derived.ChangeSlices
import Derived.OpenShut
namespace Go.Proofs.YtflenlpabmehoaaGreat
namespace Pw
open Go.RowKit Lim Go.ChangeShapes Go.WideShapes
theorem spot_n {w:World} {x:Addr} {v:Value} (hx:w.cell? x=some v):x.spot=none:=by
 simp only [World.cell?] at hx
 cases hh:w.heap[x.block]? with
 | none=>rw [hh] at hx; simp at hx
 | some ob =>
  rw [hh] at hx
  cases ob with
  | cells c e f =>
   simp at hx
   cases hs:x.spot with
   | none=>rfl
   | some s=>rw [hs] at hx; simp at hx
  | _=>simp at hx
theorem four_list {α:Type} {l:List α} (h:l.length=4):∃ a b c d,l=[a,b,c,d]:=by
 match l,h with
 | [a,b,c,d],_=>exact ⟨a,b,c,d,rfl⟩
structure Stq (W:World) (b o:Nat) (s:Int × Int × Int × Int):Prop where
 cell:W.cell? ⟨b,o,none⟩=some (.int .i64 s.1)/\W.cell? ⟨b,o + 1,none⟩=some (.int .i64 s.2.1)/\W.cell? ⟨b,o + 2,none⟩=some (.int .u64 s.2.2.1)/\W.cell? ⟨b,o + 3,none⟩=some (.int .u64 s.2.2.2)
 rng:(0<=s.2.2.1/\s.2.2.1 < 18446744073709551616)/\(0<=s.2.2.2/\s.2.2.2 < 18446744073709551616)
theorem u64w {v:Int} (b:(Lit.int .u64 v).wf=true):0<=v/\v < 18446744073709551616:=by
 have:=bounds_u64 b
 omega
set_option maxRecDepth 100000 in
theorem step_in {H:Type} {enc:TypeId × Value->H} {W:World} {base fuel:Nat} {spare:Nat->Bool} {held:Bool} {A:Addr} {cs:List Value} {x:DataW H × List MemPlace}
  (hc:W.cells? base A 4=some cs) (h:DataW.trod enc Tryz.prog W base spare held fuel 33 cs=some x):∃ s,A.spot=none/\Stq W A.block A.off s:=by
 obtain ⟨_,hlen,hcell⟩:=World.cells?_some hc
 obtain ⟨xs,k,hk,rfl,_,hxl,hf⟩:=DataW.trod_struct Tryz.underlying33 h
 obtain ⟨y0,y1,y2,y3,rfl⟩:=four_list (show xs.length=4 from hxl)
 obtain ⟨v0,v1,v2,v3,rfl⟩:=four_list hlen
 have g0:=hf 0 _ rfl
 have g1:=hf 1 _ rfl
 have g2:=hf 2 _ rfl
 have g3:=hf 3 _ rfl
 have q3:Tryz.prog.cellsOf 3=1:=by kernel_rfl
 have q28:Tryz.prog.cellsOf 31=1:=by kernel_rfl
 simp [q3,q28] at g0 g1 g2 g3
 obtain ⟨n0,e0,_,w0⟩:=DataW.trod_int Tryz.underlying3 g0
 obtain ⟨n1,e1,_,w1⟩:=DataW.trod_int Tryz.underlying3 g1
 obtain ⟨n2,e2,_,w2⟩:=DataW.trod_int Tryz.underlying31 g2
 obtain ⟨n3,e3,_,w3⟩:=DataW.trod_int Tryz.underlying31 g3
 have c0:=hcell 0 (by decide)
 have c1:=hcell 1 (by decide)
 have c2:=hcell 2 (by decide)
 have c3:=hcell 3 (by decide)
 have hsp:A.spot=none:=by
  rw [show A.add 0=A from rfl] at c0
  exact spot_n c0
 obtain ⟨b,o,sp⟩:=A
 obtain rfl:sp=none:=hsp
 rw [addr_add] at c0 c1 c2 c3
 simp at e0 e1 e2 e3 c0 c1 c2 c3
 subst e0 e1 e2 e3
 exact ⟨(n0,n1,n2,n3),rfl,⟨c0,c1,c2,c3⟩,u64w w2,u64w w3⟩
theorem steps_in {H:Type} {enc:TypeId × Value->H} {W:World} {base fuel:Nat} {spare:Nat->Bool} {held:Bool} {a:Option Addr} {len cap:Nat} {x:DataW H × List MemPlace} (hs:∀ b,spare b=true)
  (h:DataW.trod enc Tryz.prog W base spare held fuel 22 [.slice a len cap]=some x):∃ b o sw sm sv st,StpP W a len b o sw sm sv st:=by
 have q5:Tryz.prog.cellsOf 33=4:=by kernel_rfl
 rcases Go.Deep.open_slice Tryz.underlying22 h with ⟨hcs,_⟩ | ⟨A,l,c,m,n,D,Pl,hcs,_,hl,hm,hmm,rfl,hx⟩
 ·simp at hcs
  obtain ⟨rfl,rfl,rfl⟩:=hcs
  exact ⟨0,0,fun _=>0,fun _=>0,fun _=>0,fun _=>0,fun h=>absurd h (by decide),fun i h=>absurd h (by omega),fun i h=>absurd h (by omega),by decide⟩
 ·simp at hcs
  obtain ⟨rfl,rfl,rfl⟩:=hcs
  have hmc:m=cap:=by rw [hmm,hs]; rfl
  have each0:∀ i,i < len->∃ s,(A.add (i * 4)).spot=none/\Stq W (A.add (i * 4)).block (A.add (i * 4)).off s:=fun i hi=>by
   obtain ⟨cs',h1,h2⟩:=hx i (by omega)
   rw [q5] at h1
   exact step_in h1 h2
  have hsp:0 < len->A.spot=none:=fun h0=>by
   obtain ⟨s,k1,_⟩:=each0 0 h0
   exact k1
  have each:∀ i,i < len->∃ s,A=⟨A.block,A.off,none⟩/\Stq W A.block (A.off + i * 4) s:=fun i hi=>by
   obtain ⟨s,k1,k2⟩:=each0 i hi
   have e:=hsp (by omega)
   obtain ⟨b,o,sp⟩:=A
   obtain rfl:sp=none:=e
   rw [addr_add] at k2
   exact ⟨s,rfl,k2⟩
  obtain ⟨f,hf⟩:=Go.Deep.choose_lt each
  refine ⟨A.block,A.off,fun i=>(f i).1,fun i=>(f i).2.1,fun i=>(f i).2.2.1,fun i=>(f i).2.2.2,fun h0=>congrArg some (hf 0 h0).1,fun i hi=>(hf i hi).2.cell,fun i hi=>(hf i hi).2.rng,by unfold maxLen at hm; omega⟩
end Pw
end Go.Proofs.YtflenlpabmehoaaGreat
