/- Several texts, joined: RcU. -/
import Derived.Test.YtfpclhjmfpfhiaaGreatJpg
import Derived.Test.YtfpclhjmfpfhiaaGreatJph
namespace Go.Proofs.YtfpclhjmfpfhiaaGreat
namespace Rc
open Go.RowKit Go.Lib Pg Lim Gl
theorem mine0 {B:Nat} (w:World):MineB w B (.slice none 0 0) []:=World.ownsRow_nil _ _ _ _
theorem len_0:([]:List Int).length<=0:=Nat.le_refl 0
theorem len_app {L X:List Int} {a b:Nat} (h:L.length<=a) (h':X.length<=b):(L ++ X).length<=a + b:=by rw [List.length_append]; omega
theorem len_u8 (xs:List Int):(xs.flatMap (be 8)).length<=8 * xs.length:=by
 induction xs with
 | nil=>exact Nat.le_refl _
 | cons x r ih=>rw [List.flatMap_cons,List.length_append,be_length,List.length_cons]; omega
set_option maxHeartbeats 2000000 in
set_option maxRecDepth 100000 in
theorem rPutAccount {w:World} {x0:Int} {x1:Int}  :
  Calls Tryz.prog 53 #[.agg #[.int .u64 x0,.int .u64 x1]] w fun e w'=>∃ v,e=.returned v/\MineB w' w.heap.size v (thr (pnx (fun o=>([x0,x1]:List Int).getD o 0)) [(0,0),(0,1)] [])/\Below w.heap.size w w':=by
 have BB:=Below.refl w.heap.size w
 refine gc_enter (n:=9) Tryz.func53 rfl (by kernel_rfl) (by kernel_rfl) ?_
 refine gc_seq ?_
 refine gc_reg ?_
 refine ta 1 [.int .u64 x0,.int .u64 x1] 42 (pg) ?_
 intro v1 g2 Xg2 hg2 B
 replace BB:=joinB BB B
 clear B
 refine t 2 (.slice none 0 0) ?_
 refine gl_nil ?_
 refine ge_then ?_
 refine gc_seq ?_
 refine gc_reg ?_
 refine t 3 (pg g2) ?_
 refine tl 4 (.int .u64 x0) Xg2 0 ?_
 refine t 5 (pq g2 1) ?_
 refine tl 6 (.int .u64 x1) Xg2 1 ?_
 refine ta 7 [.int .u64 x0,.int .u64 x1] 31 (sg 2) ?_
 intro v3 g4 Xg4 hg4 B
 replace BB:=joinB BB B
 replace Xg2:=Xg2.keep B
 clear B
 refine tc 8 82 #[.slice none 0 0,sg 2 g4] (ru8 (xs:=[x0,x1]) (mine0 _) BB.size Xg4 (Nat.le_trans len_0 (Nat.le_of_ble_eq_true rfl)) (Nat.le_of_ble_eq_true rfl)) ?_
 rintro _ v6 ⟨Vm5,rfl,m5,Y⟩
 refine ⟨_,rfl,?_⟩
 replace BB:=Byt.below Y BB (Nat.le_refl _) (Nat.le_refl _)
 replace Xg2:=Blk.byt Xg2 Y (by decide)
 replace Xg4:=Blk.byt Xg4 Y (by decide)
 clear Y
 have bm5:=len_app len_0 (len_u8 [x0,x1])
 refine t 2 (Vm5) ?_
 refine gl_nil ?_
 refine ge_then ?_
 refine gc_ret ?_
 refine ge_ret (Vm5) (rs1 2 (by kernel_rfl) (by kernel_rfl)) ?_
 exact ⟨_,rfl,by simpa [thr,pnx,enc1] using m5,BB⟩
end Rc
end Go.Proofs.YtfpclhjmfpfhiaaGreat
