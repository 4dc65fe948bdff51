/- A script as an argument: its steps in memory. -/
import Derived.Test.YtpoifdokmjhclaaGreatSmallB
import Derived.Deep.Slices
set_option maxRecDepth 100000
set_option maxHeartbeats 8000000
namespace Go.Proofs.YtpoifdokmjhclaaGreat
open Go.RowKit Lim Go.ChangeShapes Go.WideShapes
theorem xE {H:Type} {enc:TypeId × Value->H} {W:World} {base fuel:Nat} {spare:Nat->Bool} {held:Bool} {c:Value} {x:DataW H × List MemPlace} (h:DataW.trod enc Tryz.prog W base spare held fuel 29 [c]=some x) (hs:∀ b,spare b=true) (hw:∀ k∈x.1.weights Tryz.prog 29,k<=reachBytes):∃ a n m b l,c=.slice a n m/\ByA W b a n m l/\n<=140737488355328:=by
 rcases open_ints Tryz.underlying29 Tryz.underlying5 (by kernel_rfl) h with⟨hc1,_⟩ | ⟨x,l,c1,zs,hc1,_,hl,hm,hz,rfl,hcell,hwz⟩
 ·exact⟨none,0,0,0,[],List.cons.inj hc1 |>.1,⟨0,rfl,Nat.le_refl _,⟨by decide,λ_=>rfl⟩,λx hx=>by simp at hx,.inl rfl,λi hi=>by simp at hi⟩,by decide⟩
 have d:vI W (some x) l c1 zs:=.inr ⟨_,rfl,hl,hm,by simpa[hs] using hz,hcell,hwz⟩;obtain⟨b,o,ls,p,g,r,j,q⟩:=d.open;refine⟨some x,l,c1,b,ls,List.cons.inj hc1 |>.1,⟨o,p,g,⟨by unfold maxLen at hm;omega,λe=>by cases e⟩,j,q⟩,?_⟩
 have e:=hw ((l + (c1 - l)) * 1) (by
  simp only[DataW.weights,Tryz.underlying29];refine List.mem_cons.2 (.inl ?_)
  have e8:Tryz.prog.bytesOf 5=1:=by kernel_rfl
  have f:zs.length=c1:=by simpa[hs] using hz
  simp only[lits,List.length_map,List.length_take,List.length_drop,e8,f]
  rw[Nat.min_eq_left hl])
 unfold reachBytes at e;omega
end Go.Proofs.YtpoifdokmjhclaaGreat
