/- A Validator, a Dec as arguments. -/
import Derived.Test.YtgdohcdlkonhiaaGreatDoorLDistGive
set_option maxRecDepth 100000
set_option maxHeartbeats 8000000
namespace Go.Proofs.YtgdohcdlkonhiaaGreatDoor
namespace Fo
open Go.RowKit Go.Lib Pg Lim Go.ChangeShapes Go.WideShapes
set_option linter.unusedVariables false
section
variable {H:Type} {enc:TypeId × Value->H} {W:World} {base fuel:Nat} {spare:Nat->Bool} {held:Bool} {cs:List Value} {x:DataW H × List MemPlace}
theorem cI {t T:TypeId} {fs:Array Field} {f:Field} (i o n:Nat) (ht:Tryz.prog.underlying t=some (.struct fs)) (hf:fs[i]?=some f) (c:f.type=T) (ho:f.offset=o) (hn:Tryz.prog.cellsOf T=n) (h:DataW.trod enc Tryz.prog W base spare held fuel t cs=some x) (hw:∀ k∈x.1.weights Tryz.prog t,k<=reachBytes) :
  ∃ y m,DataW.trod enc Tryz.prog W base spare held m T ((cs.drop o).take n)=some y/\∀ k∈y.1.weights Tryz.prog T,k<=reachBytes:=by
 obtain⟨xs,m,_,rfl,_,g,hx⟩:=DataW.trod_struct ht h;have e:=hx i f hf
 have a:i < xs.length:=by
  have:=(Array.getElem?_eq_some_iff.1 hf).1;omega
 have b:xs[i]?=some xs[i]:=List.getElem?_eq_getElem a;rw[b,c,ho,hn] at e;refine⟨xs[i],m,e,fun k hk=>hw k ?_⟩;simp only[DataW.weights,ht];refine DataW.weights_mem_each (j:=i) (t:=T) (d:=xs[i].1) ?_ ?_ k hk
 ·rw[List.getElem?_map,Array.getElem?_toList,hf,<- c];rfl
 ·rw[List.getElem?_map,b];rfl
theorem u64b {v:Int} (b:(Lit.int .u64 v).wf=true):0<=v/\v < 18446744073709551616:=by
 have:=bounds_u64 b;omega
theorem ow {o:Nat} {v:Value} (h:(cs.drop o).take 1=[v]):cs[o]?=some v:=by
 have:=congrArg (·[0]?) h;simpa[List.getElem?_take,List.getElem?_drop] using this
end
theorem Dw {H:Type} {enc:TypeId × Value->H} {W:World} {base fuel:Nat} {spare:Nat->Bool} {held:Bool} {c:Value} {x:DataW H × List MemPlace} (h:DataW.trod enc Tryz.prog W base spare held fuel 24 [c]=some x) (g:∀ b,spare b=true) (hw:∀ k∈x.1.weights Tryz.prog 24,k<=reachBytes):∃ a n m V,c=.slice a n m/\aI W a n m V/\n<=17592186044416:=by
 rcases open_ints Tryz.underlying24 Tryz.underlying22 (by kernel_rfl) h with⟨hc1,_⟩ | ⟨x,l,c1,zs,hc1,_,hl,hm,hz,rfl,hcell,hwz⟩
 ·exact⟨none,0,0,0,List.cons.inj hc1 |>.1,(sB W).a,by decide⟩
 ·have d:AN W (some x) l c1 zs:=.inr ⟨_,rfl,hl,hm,by simpa[g] using hz,hcell,hwz⟩;obtain⟨b,o,ls,p,i,_,j,q⟩:=d.open;refine⟨some x,l,c1,_,List.cons.inj hc1 |>.1,⟨b,o,ls,p,i,j,q,rfl⟩,?_⟩
  have e:=hw ((l + (c1 - l)) * 8) (by
   simp only[DataW.weights,Tryz.underlying24];refine List.mem_cons.2 (.inl ?_)
   have e8:Tryz.prog.bytesOf 22=8:=by kernel_rfl
   have f:zs.length=c1:=by simpa[g] using hz
   simp only[lits,List.length_map,List.length_take,List.length_drop,e8,f]
   rw[Nat.min_eq_left hl])
  unfold reachBytes at e;omega
section
variable {H:Type} {enc:TypeId × Value->H} {W:World} {base fuel:Nat} {spare:Nat->Bool} {held:Bool} {cs:List Value} {x:DataW H × List MemPlace}
theorem yw (h:DataW.trod enc Tryz.prog W base spare held fuel 4 cs=some x):∃ b,cs=[.bool b]/\True:=by
 obtain⟨b,e,_⟩:=DataW.trod_bool Tryz.underlying4 h;exact⟨b,e,trivial⟩
theorem mj (h:DataW.trod enc Tryz.prog W base spare held fuel 26 cs=some x) (p:∀ b,spare b=true) (hw:∀ k∈x.1.weights Tryz.prog 26,k<=reachBytes):∃ a n c V,cs=[.slice a n c]/\aI W a n c V/\n<=17592186044416:=by
 have i:Tryz.prog.cellsOf 24=1:=by kernel_rfl
 obtain⟨y,m,g,o⟩:=cI 0 0 1 Tryz.underlying26 rfl rfl rfl i h hw;obtain⟨xs,k,hk,rfl,j,f,hf⟩:=DataW.trod_struct Tryz.underlying26 h
 have hlen:cs.length=1:=j.trans (by kernel_rfl);obtain⟨c,rfl⟩:∃ c,cs=[c]:=by
  match cs,hlen with
  | [c],_=>exact⟨c,rfl⟩
 obtain⟨a,n,d,V,e,N,l⟩:=Dw (c:=c) g p o;exact⟨a,n,d,V,by rw[e],N,l⟩
theorem val_in (f:∀ b,spare b=true) (hlen:cs.length=10) (h:DataW.trod enc Tryz.prog W base spare held fuel 28 cs=some x) (hw:∀ k∈x.1.weights Tryz.prog 28,k<=reachBytes):∃ rt tk un pe x0 x1 x2 x3 jl bo a0 n0 c0 a1 n1 c1 a2 n2 c2 a3 n3 c3,cs=[.int .u64 rt,.int .u64 tk,.slice a0 n0 c0,.bool jl,.int .u64 un,.bool bo,.int .u64 pe,.slice a1 n1 c1,.slice a2 n2 c2,.slice a3 n3 c3]/\(0<=rt/\rt < 18446744073709551616)/\(aI W a0 n0 c0 x0/\n0<=17592186044416)/\(aI W a1 n1 c1 x1/\n1<=17592186044416)/\(aI W a2 n2 c2 x2/\n2<=17592186044416)/\(aI W a3 n3 c3 x3/\n3<=17592186044416):=by
 have g:Tryz.prog.cellsOf 22=1:=by kernel_rfl
 have d:Tryz.prog.cellsOf 26=1:=by kernel_rfl
 have o:Tryz.prog.cellsOf 4=1:=by kernel_rfl
 obtain⟨c,m1,g1,-⟩:=cI 0 0 1 Tryz.underlying28 rfl rfl rfl g h hw;obtain⟨rt,e,_,b0⟩:=DataW.trod_int Tryz.underlying22 g1;have q0:=ow e;clear g1 e;obtain⟨c,m1,g1,-⟩:=cI 1 1 1 Tryz.underlying28 rfl rfl rfl g h hw;obtain⟨tk,e,_,b1⟩:=DataW.trod_int Tryz.underlying22 g1;have q1:=ow e;clear g1 e;obtain⟨c,m1,g1,a⟩:=cI 2 2 1 Tryz.underlying28 rfl rfl rfl d h hw;obtain⟨a0,n0,c0,x0,e,w,v⟩:=mj g1 f a;have n:=ow e;clear g1 a e;obtain⟨c,m1,g1,-⟩:=cI 3 3 1 Tryz.underlying28 rfl rfl rfl o h hw;obtain⟨jl,e,-⟩:=yw g1;have j:=ow e;clear g1 e;obtain⟨c,m1,g1,-⟩:=cI 4 4 1 Tryz.underlying28 rfl rfl rfl g h hw;obtain⟨un,e,_,B⟩:=DataW.trod_int Tryz.underlying22 g1;have r:=ow e;clear g1 e;obtain⟨c,m1,g1,-⟩:=cI 5 5 1 Tryz.underlying28 rfl rfl rfl o h hw;obtain⟨bo,e,-⟩:=yw g1;have l:=ow e;clear g1 e;obtain⟨c,m1,g1,-⟩:=cI 6 6 1 Tryz.underlying28 rfl rfl rfl g h hw;obtain⟨pe,e,_,A⟩:=DataW.trod_int Tryz.underlying22 g1;have q:=ow e;clear g1 e;obtain⟨c,m1,g1,a⟩:=cI 7 7 1 Tryz.underlying28 rfl rfl rfl d h hw;obtain⟨a1,n1,c1,x1,e,t,l1⟩:=mj g1 f a;have p:=ow e;clear g1 a e;obtain⟨c,m1,g1,a⟩:=cI 8 8 1 Tryz.underlying28 rfl rfl rfl d h hw;obtain⟨a2,n2,c2,x2,e,s,z⟩:=mj g1 f a;have m:=ow e;clear g1 a e;obtain⟨c,m1,g1,a⟩:=cI 9 9 1 Tryz.underlying28 rfl rfl rfl d h hw;obtain⟨a3,n3,c3,x3,e,y,u⟩:=mj g1 f a;have i:=ow e;clear g1 a e;refine⟨rt,tk,un,pe,x0,x1,x2,x3,jl,bo,a0,n0,c0,a1,n1,c1,a2,n2,c2,a3,n3,c3,?_,u64b b0,⟨w,v⟩,⟨t,l1⟩,⟨s,z⟩,⟨y,u⟩⟩
 match cs,hlen with
 | [v0,v1,v2,v3,v4,v5,v6,v7,v8,v9],_ =>
  simp at q0 q1 n j r l q p m i;rw[q0,q1,n,j,r,l,q,p,m,i]
end
end Fo
end Go.Proofs.YtgdohcdlkonhiaaGreatDoor
