import Derived.Test.YtjejmkcjflhoiaaGreatDoorJai
import Derived.Laws.Rows
import Derived.Laws.ResultCell
import Derived.Deep.WholeRow
import Derived.Laws.Bits64
import Derived.Laws.MakeOwn
import Derived.Laws.BitsLemmas
set_option maxRecDepth 100000
set_option maxHeartbeats 8000000
namespace Go.Proofs.YtjejmkcjflhoiaaGreatDoor
section
namespace Ky
open Go.RowKit Go.Lib Pg
attribute [local go_sem] Oper.semAt_some
def frms:List (Int × Int × Int):=[(0,0,0),(1,112,0),(1,99,0),(1,109,0),(9,97,0),(10,118,48),(18,118,100),(18,118,104),(18,118,115),(9,116,0),(17,105,0),(9,98,0),(9,117,0),(9,114,0),(17,113,0),(17,101,0),(17,110,0),(17,107,0)]
def frm (k:Int):Int × Int × Int:=if 0<=k/\k < 18 then frms.getD k.toNat (0,0,0) else (0,0,0)
def fv (f:Int × Int × Int):Value:=.agg #[.int .i64 f.1,.int .u8 f.2.1,.int .u8 f.2.2]
def gY:List Value:=[.int .i64 0,.int .u8 0,.int .u8 0,.int .i64 1,.int .u8 112,.int .u8 0,.int .i64 1,.int .u8 99,.int .u8 0,.int .i64 1,.int .u8 109,.int .u8 0,.int .i64 9,.int .u8 97,.int .u8 0,.int .i64 10,.int .u8 118,.int .u8 48,.int .i64 18,.int .u8 118,.int .u8 100,.int .i64 18,.int .u8 118,.int .u8 104,.int .i64 18,.int .u8 118,.int .u8 115,.int .i64 9,.int .u8 116,.int .u8 0,.int .i64 17,.int .u8 105,.int .u8 0,.int .i64 9,.int .u8 98,.int .u8 0,.int .i64 9,.int .u8 117,.int .u8 0,.int .i64 9,.int .u8 114,.int .u8 0,.int .i64 17,.int .u8 113,.int .u8 0,.int .i64 17,.int .u8 101,.int .u8 0,.int .i64 17,.int .u8 110,.int .u8 0,.int .i64 17,.int .u8 107,.int .u8 0]
section
variable {ops:Array Oper} {rest:List Oper} {o:Oper} {a:Act} {w w1:World} {Q:Exit->Act->World->Prop}
section
variable {c c':Array Value}
theorem ry(d:Option Tmp)(v:Value)(b:o.guard=none)(hd:o.dst=d)(hrun:(execOp a.eval o).run Tryz.prog w=.ok (.value v) w1)(h:wpList Tryz.prog ops Q rest (a.put d v) w1):wpList Tryz.prog ops Q (o :: rest) a w :=
 wpList_plain b fun K c=>by
  unfold Oper.wp;rw[hrun];subst hd;exact c _ _ h
theorem bB(d:Option Tmp)(v:Value)(b:o.guard=none)(hd:o.dst=d)(hrun:(execOp a.eval o).run Tryz.prog w=.ok (.value v) w)(h:wpList Tryz.prog ops Q rest (a.put d v) w):wpList Tryz.prog ops Q (o :: rest) a w:=ry d v b hd hrun h
theorem xe(b:o.guard=none)(hd:o.dst=none)(hrun:(execOp a.eval o).run Tryz.prog w=.ok .skip w1)(h:wpList Tryz.prog ops Q rest (a.put none undef) w1):wpList Tryz.prog ops Q (o :: rest) a w :=
 wpList_plain b fun K c=>by
  unfold Oper.wp;rw[hrun]
  show K (a.put o.dst undef) w1
  rw[hd];exact c _ _ h
theorem pD{t:TypeId}{k q:Nat}(d:o.op=.store t (.tmp k) (.tmp q))(b:a.eval (.tmp k)=.pointer (some ⟨w.heap.size,0,none⟩))(e:a.eval (.tmp q)=.agg c')(hi:(Tryz.prog.info? t).map (·.size)=some c'.size)(hs:c.size=c'.size)(f:c'.all (·.oneCell')=true):(execOp a.eval o).run Tryz.prog (w.alloc (.cells c t))=.ok .skip (w.alloc (.cells c' t)):=by
 simp only[execOp,d,b,e,Sem.run_bind,run_storeAt_new w t c c' hi hs f,Result.andThen_ok,Sem.run_pure]
end
end
theorem pC {w:World}:Calls Tryz.prog 172 #[] w fun e w'=>e=.returned (.agg #[.int .i64 0,.int .u8 0,.int .u8 0,.int .i64 1,.int .u8 112,.int .u8 0,.int .i64 1,.int .u8 99,.int .u8 0,.int .i64 1,.int .u8 109,.int .u8 0,.int .i64 9,.int .u8 97,.int .u8 0,.int .i64 10,.int .u8 118,.int .u8 48,.int .i64 18,.int .u8 118,.int .u8 100,.int .i64 18,.int .u8 118,.int .u8 104,.int .i64 18,.int .u8 118,.int .u8 115,.int .i64 9,.int .u8 116,.int .u8 0,.int .i64 17,.int .u8 105,.int .u8 0,.int .i64 9,.int .u8 98,.int .u8 0,.int .i64 9,.int .u8 117,.int .u8 0,.int .i64 9,.int .u8 114,.int .u8 0,.int .i64 17,.int .u8 113,.int .u8 0,.int .i64 17,.int .u8 101,.int .u8 0,.int .i64 17,.int .u8 110,.int .u8 0,.int .i64 17,.int .u8 107,.int .u8 0])/\Below w.heap.size w w':=by
 go_enter Tryz.func172,Tryz.ntmps172;refine wp_seq ?_
 refine wp_region_lit ?_
 refine ry (some 0) (.pointer (some ⟨w.heap.size,0,none⟩)) rfl rfl (w1:=w.alloc (.cells #[.int .i64 0,.int .u8 0,.int .u8 0,.int .i64 0,.int .u8 0,.int .u8 0,.int .i64 0,.int .u8 0,.int .u8 0,.int .i64 0,.int .u8 0,.int .u8 0,.int .i64 0,.int .u8 0,.int .u8 0,.int .i64 0,.int .u8 0,.int .u8 0,.int .i64 0,.int .u8 0,.int .u8 0,.int .i64 0,.int .u8 0,.int .u8 0,.int .i64 0,.int .u8 0,.int .u8 0,.int .i64 0,.int .u8 0,.int .u8 0,.int .i64 0,.int .u8 0,.int .u8 0,.int .i64 0,.int .u8 0,.int .u8 0,.int .i64 0,.int .u8 0,.int .u8 0,.int .i64 0,.int .u8 0,.int .u8 0,.int .i64 0,.int .u8 0,.int .u8 0,.int .i64 0,.int .u8 0,.int .u8 0,.int .i64 0,.int .u8 0,.int .u8 0,.int .i64 0,.int .u8 0,.int .u8 0] 252)) (by kernel_rfl) ?_
 refine wpList_nil ?_
 refine wp_seq (x:=Code.region 1 _ false) ?_
 refine wp_region_lit ?_
 refine bB (some 1) (.agg #[.int .u8 112,.int .u8 0]) rfl rfl (by kernel_rfl) ?_
 refine bB (some 2) (.agg #[.int .i64 1,.int .u8 112,.int .u8 0]) rfl rfl (by kernel_rfl) ?_
 refine bB (some 3) (.agg #[.int .u8 99,.int .u8 0]) rfl rfl (by kernel_rfl) ?_
 refine bB (some 4) (.agg #[.int .i64 1,.int .u8 99,.int .u8 0]) rfl rfl (by kernel_rfl) ?_
 refine bB (some 5) (.agg #[.int .u8 109,.int .u8 0]) rfl rfl (by kernel_rfl) ?_
 refine bB (some 6) (.agg #[.int .i64 1,.int .u8 109,.int .u8 0]) rfl rfl (by kernel_rfl) ?_
 refine bB (some 7) (.agg #[.int .u8 97,.int .u8 0]) rfl rfl (by kernel_rfl) ?_
 refine bB (some 8) (.agg #[.int .i64 9,.int .u8 97,.int .u8 0]) rfl rfl (by kernel_rfl) ?_
 refine bB (some 9) (.agg #[.int .u8 118,.int .u8 48]) rfl rfl (by kernel_rfl) ?_
 refine bB (some 10) (.agg #[.int .i64 10,.int .u8 118,.int .u8 48]) rfl rfl (by kernel_rfl) ?_
 refine bB (some 11) (.agg #[.int .u8 118,.int .u8 100]) rfl rfl (by kernel_rfl) ?_
 refine bB (some 12) (.agg #[.int .i64 18,.int .u8 118,.int .u8 100]) rfl rfl (by kernel_rfl) ?_
 refine bB (some 13) (.agg #[.int .u8 118,.int .u8 104]) rfl rfl (by kernel_rfl) ?_
 refine bB (some 14) (.agg #[.int .i64 18,.int .u8 118,.int .u8 104]) rfl rfl (by kernel_rfl) ?_
 refine bB (some 15) (.agg #[.int .u8 118,.int .u8 115]) rfl rfl (by kernel_rfl) ?_
 refine bB (some 16) (.agg #[.int .i64 18,.int .u8 118,.int .u8 115]) rfl rfl (by kernel_rfl) ?_
 refine bB (some 17) (.agg #[.int .u8 116,.int .u8 0]) rfl rfl (by kernel_rfl) ?_
 refine bB (some 18) (.agg #[.int .i64 9,.int .u8 116,.int .u8 0]) rfl rfl (by kernel_rfl) ?_
 refine bB (some 19) (.agg #[.int .u8 105,.int .u8 0]) rfl rfl (by kernel_rfl) ?_
 refine bB (some 20) (.agg #[.int .i64 17,.int .u8 105,.int .u8 0]) rfl rfl (by kernel_rfl) ?_
 refine bB (some 21) (.agg #[.int .u8 98,.int .u8 0]) rfl rfl (by kernel_rfl) ?_
 refine bB (some 22) (.agg #[.int .i64 9,.int .u8 98,.int .u8 0]) rfl rfl (by kernel_rfl) ?_
 refine bB (some 23) (.agg #[.int .u8 117,.int .u8 0]) rfl rfl (by kernel_rfl) ?_
 refine bB (some 24) (.agg #[.int .i64 9,.int .u8 117,.int .u8 0]) rfl rfl (by kernel_rfl) ?_
 refine bB (some 25) (.agg #[.int .u8 114,.int .u8 0]) rfl rfl (by kernel_rfl) ?_
 refine bB (some 26) (.agg #[.int .i64 9,.int .u8 114,.int .u8 0]) rfl rfl (by kernel_rfl) ?_
 refine bB (some 27) (.agg #[.int .u8 113,.int .u8 0]) rfl rfl (by kernel_rfl) ?_
 refine bB (some 28) (.agg #[.int .i64 17,.int .u8 113,.int .u8 0]) rfl rfl (by kernel_rfl) ?_
 refine bB (some 29) (.agg #[.int .u8 101,.int .u8 0]) rfl rfl (by kernel_rfl) ?_
 refine bB (some 30) (.agg #[.int .i64 17,.int .u8 101,.int .u8 0]) rfl rfl (by kernel_rfl) ?_
 refine bB (some 31) (.agg #[.int .u8 110,.int .u8 0]) rfl rfl (by kernel_rfl) ?_
 refine bB (some 32) (.agg #[.int .i64 17,.int .u8 110,.int .u8 0]) rfl rfl (by kernel_rfl) ?_
 refine bB (some 33) (.agg #[.int .u8 107,.int .u8 0]) rfl rfl (by kernel_rfl) ?_
 refine bB (some 34) (.agg #[.int .i64 17,.int .u8 107,.int .u8 0]) rfl rfl (by kernel_rfl) ?_
 refine bB (some 35) (.agg #[.int .i64 0,.int .u8 0,.int .u8 0,.int .i64 1,.int .u8 112,.int .u8 0,.int .i64 1,.int .u8 99,.int .u8 0,.int .i64 1,.int .u8 109,.int .u8 0,.int .i64 9,.int .u8 97,.int .u8 0,.int .i64 10,.int .u8 118,.int .u8 48,.int .i64 18,.int .u8 118,.int .u8 100,.int .i64 18,.int .u8 118,.int .u8 104,.int .i64 18,.int .u8 118,.int .u8 115,.int .i64 9,.int .u8 116,.int .u8 0,.int .i64 17,.int .u8 105,.int .u8 0,.int .i64 9,.int .u8 98,.int .u8 0,.int .i64 9,.int .u8 117,.int .u8 0,.int .i64 9,.int .u8 114,.int .u8 0,.int .i64 17,.int .u8 113,.int .u8 0,.int .i64 17,.int .u8 101,.int .u8 0,.int .i64 17,.int .u8 110,.int .u8 0,.int .i64 17,.int .u8 107,.int .u8 0]) rfl rfl (by kernel_rfl) ?_
 refine xe rfl rfl (pD (k:=0) (q:=35) (c':=#[.int .i64 0,.int .u8 0,.int .u8 0,.int .i64 1,.int .u8 112,.int .u8 0,.int .i64 1,.int .u8 99,.int .u8 0,.int .i64 1,.int .u8 109,.int .u8 0,.int .i64 9,.int .u8 97,.int .u8 0,.int .i64 10,.int .u8 118,.int .u8 48,.int .i64 18,.int .u8 118,.int .u8 100,.int .i64 18,.int .u8 118,.int .u8 104,.int .i64 18,.int .u8 118,.int .u8 115,.int .i64 9,.int .u8 116,.int .u8 0,.int .i64 17,.int .u8 105,.int .u8 0,.int .i64 9,.int .u8 98,.int .u8 0,.int .i64 9,.int .u8 117,.int .u8 0,.int .i64 9,.int .u8 114,.int .u8 0,.int .i64 17,.int .u8 113,.int .u8 0,.int .i64 17,.int .u8 101,.int .u8 0,.int .i64 17,.int .u8 110,.int .u8 0,.int .i64 17,.int .u8 107,.int .u8 0]) (by kernel_rfl) (by kernel_rfl) (by kernel_rfl) (by kernel_rfl) rfl (by kernel_rfl)) ?_
 refine wpList_nil ?_
 refine wp_ret ?_
 refine bodyPost_ret (results_cell_row rfl _ _ w.heap.size 252 _ _ (.array 18 201) (by kernel_rfl) (heap_alloc_new _ _) (by kernel_rfl) rfl (by kernel_rfl)) rfl ?_
 exact⟨rfl,ae _ _⟩
end Ky
end
section
namespace Ky
open Go.RowKit Go.Lib Pg
attribute [local go_sem] Oper.semAt_some
section
variable {ops:Array Oper} {rest:List Oper} {o:Oper} {a:Act} {w w1:World} {Q:Exit->Act->World->Prop}
theorem Ea (d:Option Tmp) (f:FuncId) (args:Array Value) (c:o.guard=none) (hd:o.dst=d) (hrun:(execOp a.eval o).run Tryz.prog w=.ok (.enter f args) w) {b:Ending->World->Prop} (hc:Calls Tryz.prog f args w b) (h:∀ e w',b e w'->∃ v,e=.returned v/\wpList Tryz.prog ops Q rest (a.put d v) w'):wpList Tryz.prog ops Q (o :: rest) a w :=
 wpList_plain c fun K i=>by
  unfold Oper.wp;rw[hrun,Oper.upon_enter];refine hc.mono ?_
  intro e w' g;obtain⟨v,rfl,hv⟩:=h e w' g;subst hd;exact i _ _ hv
end
section
variable {w:World}{g:Nat}{tmps:Array Value}{v:Value}
theorem bp{p:Prop}(h:p):Hid p:=h
theorem nB:gY.toArray=#[.int .i64 0,.int .u8 0,.int .u8 0,.int .i64 1,.int .u8 112,.int .u8 0,.int .i64 1,.int .u8 99,.int .u8 0,.int .i64 1,.int .u8 109,.int .u8 0,.int .i64 9,.int .u8 97,.int .u8 0,.int .i64 10,.int .u8 118,.int .u8 48,.int .i64 18,.int .u8 118,.int .u8 100,.int .i64 18,.int .u8 118,.int .u8 104,.int .i64 18,.int .u8 118,.int .u8 115,.int .i64 9,.int .u8 116,.int .u8 0,.int .i64 17,.int .u8 105,.int .u8 0,.int .i64 9,.int .u8 98,.int .u8 0,.int .i64 9,.int .u8 117,.int .u8 0,.int .i64 9,.int .u8 114,.int .u8 0,.int .i64 17,.int .u8 113,.int .u8 0,.int .i64 17,.int .u8 101,.int .u8 0,.int .i64 17,.int .u8 110,.int .u8 0,.int .i64 17,.int .u8 107,.int .u8 0]:=rfl
theorem sJ:∀ k:Nat,k < 18->gY[k * 3]?=some (.int .i64 (frm k).1)/\gY[k * 3+1]?=some (.int .u8 (frm k).2.1)/\gY[k * 3+2]?=some (.int .u8 (frm k).2.2):=by
 intro k a
 match k,a with
 | 0,_=>exact⟨rfl,rfl,rfl⟩
 | 1,_=>exact⟨rfl,rfl,rfl⟩
 | 2,_=>exact⟨rfl,rfl,rfl⟩
 | 3,_=>exact⟨rfl,rfl,rfl⟩
 | 4,_=>exact⟨rfl,rfl,rfl⟩
 | 5,_=>exact⟨rfl,rfl,rfl⟩
 | 6,_=>exact⟨rfl,rfl,rfl⟩
 | 7,_=>exact⟨rfl,rfl,rfl⟩
 | 8,_=>exact⟨rfl,rfl,rfl⟩
 | 9,_=>exact⟨rfl,rfl,rfl⟩
 | 10,_=>exact⟨rfl,rfl,rfl⟩
 | 11,_=>exact⟨rfl,rfl,rfl⟩
 | 12,_=>exact⟨rfl,rfl,rfl⟩
 | 13,_=>exact⟨rfl,rfl,rfl⟩
 | 14,_=>exact⟨rfl,rfl,rfl⟩
 | 15,_=>exact⟨rfl,rfl,rfl⟩
 | 16,_=>exact⟨rfl,rfl,rfl⟩
 | 17,_=>exact⟨rfl,rfl,rfl⟩
 | n+18,h=>omega
theorem AA{k:Nat}(hb:Blk w g gY 252)(h:k < 18):w.cell? ⟨g,k * 3,none⟩=some (.int .i64 (frm k).1)/\w.cell? ⟨g,k * 3+1,none⟩=some (.int .u8 (frm k).2.1)/\w.cell? ⟨g,k * 3+2,none⟩=some (.int .u8 (frm k).2.2):=by
 obtain⟨a,b,c⟩:=sJ k h;exact⟨hb.cell a,hb.cell b,hb.cell c⟩
theorem xu{x0 x1 x2:Value}{t:TypeId}(h:Blk w g [x0,x1,x2] t)(a b c:Value):Blk (((w.setCell ⟨g,0,none⟩ a).setCell ⟨g,1,none⟩ b).setCell ⟨g,2,none⟩ c) g [a,b,c] t:=((h.setCell (i:=0) a).setCell (i:=1) b).setCell (i:=2) c
theorem oK{x y z:Value}(h:Blk w g [x,y,z] 201):(loadVar 201 ⟨g,0,none⟩).run Tryz.prog w=.ok (.agg #[x,y,z]) w:=by
 have c0:=h.cell (i:=0) rfl;have c1:=h.cell (i:=1) rfl;have c2:=h.cell (i:=2) rfl;go_simp
theorem eK{fn:Func}{p:Tmp}{ty:TypeId}(h:fn.results=#[.cell p ty])(b:tmps.getD p undef=.pointer (some ⟨g,0,none⟩))(c:(loadVar ty ⟨g,0,none⟩).run Tryz.prog w=.ok v w):(results fn tmps).run Tryz.prog w=.ok v w:=by
 have a:tmps[p]?.getD undef=.pointer (some ⟨g,0,none⟩):=by simpa using b
 simp[results,h,a,asAddr,c]
theorem kO{W:World}{r:Nat}(h:Below r w W)(x y z:Value):Below r w (((W.setCell ⟨r,0,none⟩ x).setCell ⟨r,1,none⟩ y).setCell ⟨r,2,none⟩ z) :=
 ((h.setCell (Nat.le_refl _) _).setCell (Nat.le_refl _) _).setCell (Nat.le_refl _) _
theorem nA{k:Int}:Calls Tryz.prog 149 #[.int .i64 k] w fun e w'=>e=.returned (fv (frm k))/\Below w.heap.size w w':=by
 go_enter Tryz.func149,Tryz.ntmps149;refine wp_seq ?_
 refine wp_region_lit ?_
 refine ry (some 2) (.pointer (some ⟨w.heap.size,0,none⟩)) rfl rfl (w1:=w.alloc (.cells #[.int .i64 0,.int .u8 0,.int .u8 0] 201)) (by kernel_rfl) ?_
 refine wpList_nil ?_
 refine wp_seq (x:=Code.region 1 _ false) ?_
 refine wp_region_lit ?_
 refine Ea (some 4) 172 #[] rfl rfl (by kernel_rfl) pC ?_
 rintro e w1 ⟨rfl,f⟩;refine⟨_,rfl,?_⟩;refine ry (some 3) (.pointer (some ⟨w1.heap.size,0,none⟩)) rfl rfl (w1:=w1.alloc (.cells #[.int .i64 0,.int .u8 0,.int .u8 0,.int .i64 0,.int .u8 0,.int .u8 0,.int .i64 0,.int .u8 0,.int .u8 0,.int .i64 0,.int .u8 0,.int .u8 0,.int .i64 0,.int .u8 0,.int .u8 0,.int .i64 0,.int .u8 0,.int .u8 0,.int .i64 0,.int .u8 0,.int .u8 0,.int .i64 0,.int .u8 0,.int .u8 0,.int .i64 0,.int .u8 0,.int .u8 0,.int .i64 0,.int .u8 0,.int .u8 0,.int .i64 0,.int .u8 0,.int .u8 0,.int .i64 0,.int .u8 0,.int .u8 0,.int .i64 0,.int .u8 0,.int .u8 0,.int .i64 0,.int .u8 0,.int .u8 0,.int .i64 0,.int .u8 0,.int .u8 0,.int .i64 0,.int .u8 0,.int .u8 0,.int .i64 0,.int .u8 0,.int .u8 0,.int .i64 0,.int .u8 0,.int .u8 0] 252)) (by kernel_rfl) ?_
 refine xe rfl rfl (pD (k:=3) (q:=4) (c':=#[.int .i64 0,.int .u8 0,.int .u8 0,.int .i64 1,.int .u8 112,.int .u8 0,.int .i64 1,.int .u8 99,.int .u8 0,.int .i64 1,.int .u8 109,.int .u8 0,.int .i64 9,.int .u8 97,.int .u8 0,.int .i64 10,.int .u8 118,.int .u8 48,.int .i64 18,.int .u8 118,.int .u8 100,.int .i64 18,.int .u8 118,.int .u8 104,.int .i64 18,.int .u8 118,.int .u8 115,.int .i64 9,.int .u8 116,.int .u8 0,.int .i64 17,.int .u8 105,.int .u8 0,.int .i64 9,.int .u8 98,.int .u8 0,.int .i64 9,.int .u8 117,.int .u8 0,.int .i64 9,.int .u8 114,.int .u8 0,.int .i64 17,.int .u8 113,.int .u8 0,.int .i64 17,.int .u8 101,.int .u8 0,.int .i64 17,.int .u8 110,.int .u8 0,.int .i64 17,.int .u8 107,.int .u8 0]) (by kernel_rfl) (by kernel_rfl) (by kernel_rfl) (by kernel_rfl) rfl (by kernel_rfl)) ?_
 refine wpList_nil ?_
 rw[<- nB];have l:=aE w [.int .i64 0,.int .u8 0,.int .u8 0] 201;have c0:=ae w (.cells #[.int .i64 0,.int .u8 0,.int .u8 0] 201);have o:=aE w1 gY 252;have c2:=ae w1 (.cells gY.toArray 252);have m:=aB (aB c0 f) c2;have b:=(l.keep f).keep c2;obtain⟨r,c⟩:∃ r,Hid (w.heap.size=r):=⟨_,rfl⟩
 generalize w1.alloc (.cells gY.toArray 252)=W at *;generalize hg:w1.heap.size=g at *;generalize Value.agg gY.toArray=s;rw[c.out] at b ⊢;simp only[Act.put,List.setIfInBounds_toArray,List.set_cons_zero,List.set_cons_succ];have r0:=b.cell (i:=0) rfl;have r1:=b.cell (i:=1) rfl;have v:=b.cell (i:=2) rfl;have f0:=b.free 0;have f1:=b.free 1;have f2:=b.free 2;have H1:=bp b;have j:=bp m;have p:=bp o;clear l c0 f c2 hg b m o;refine(show Code.wp _ _ _ _ _ from ?_);by_cases h0:k < 0
 ·have d:frm k=(0,0,0):=if_neg (by omega);rw[d];go_wp2;refine bodyPost_ret (eK rfl rfl (oK (xu H1.out _ _ _))) rfl ?_
  exact⟨rfl,kO (by have:=j.out;rw[c.out] at this;exact this) _ _ _⟩
 ·by_cases u:k < 18
  ·obtain⟨n,rfl⟩:∃ n:Nat,k=n:=⟨k.toNat,by omega⟩
   obtain⟨q0,q1,t⟩:=AA p.out (k:=n) (by omega);go_wp2;refine bodyPost_ret (eK rfl rfl (oK (xu H1.out _ _ _))) rfl ?_
   exact⟨rfl,kO (by have:=j.out;rw[c.out] at this;exact this) _ _ _⟩
  ·have d:frm k=(0,0,0):=if_neg (by omega);rw[d];go_wp2;refine bodyPost_ret (eK rfl rfl (oK (xu H1.out _ _ _))) rfl ?_
   exact⟨rfl,kO (by have:=j.out;rw[c.out] at this;exact this) _ _ _⟩
end
end Ky
end
section
namespace Ky
open Kv (eh)
open Go.RowKit Go.Lib Pg
attribute [local go_sem] Oper.semAt_some
section
variable {w:World}{D:Nat->Prop}{v:Value}{l L:List Int}{x a n y:Int}
def be:Nat->Int->List Int
 | 0,_=>[]
 | n+1,x=>x / 256 ^ n % 256 :: be n x
theorem aT:∀ (n:Nat) (x:Int),(be n x).length=n
 | 0,_=>rfl
 | n+1,x=>by rw[be,List.length_cons,aT n x]
theorem fw:∀ (n:Nat) (x:Int),Oct (be n x)
 | 0,_=>fun _ h=>by simp[be] at h
 | n + 1,x=>fun y h=>by
  rw[be,List.mem_cons] at h;rcases h with rfl | h
  ·exact⟨Int.emod_nonneg _ (by decide),Int.emod_lt_of_pos _ (by decide)⟩
  ·exact fw n x y h
theorem iT:∀ (n j:Nat) (x:Int),j < n->(be n x).take (j+1)=(be n x).take j ++ [x / 256 ^ (n - 1 - j) % 256]
 | 0,j,x,h=>by omega
 | n+1,0,x,h=>by simp[be]
 | n + 1,j + 1,x,h=>by
  have ih:=iT n j x (by omega);rw[be,List.take_succ_cons,List.take_succ_cons,ih,List.cons_append]
  have e:n+1 - 1 - (j+1)=n - 1 - j:=by omega
  rw[e]
theorem pow8(h:Nat):(256:Int) ^ h=2 ^ (8 * h):=by rw[Int.pow_mul];rfl
theorem OB.sh(h:OB w D v l):∃ ao c,v=.slice ao l.length c:=by
 rcases h.ex with⟨rfl,rfl⟩ | ⟨b,c,rfl,_⟩
 ·exact⟨none,0,rfl⟩
 ·exact⟨_,c,rfl⟩
theorem dy{B:Nat}(d:OB w (B <= ·) v L)(r:B<=w.heap.size)(hL:L.length<=100000) :
  Calls Tryz.prog 151 #[v,.int .u64 x] w fun e w'=>∃ v',e=.returned v'/\OB w' (B <= ·) v' (L ++ be 8 x)/\Below B w w':=by
 have s:=bp d;have o:=bp r;clear d r;go_enter Tryz.func151,Tryz.ntmps151;go_wp2_with fail;go_loopw [0,6] (fun t n wr=>∃ j:Nat,j<=8/\n=.int .i64 j/\Hid (OB wr (B <= ·) t (L ++ (be 8 x).take j))/\Hid (Below B w wr)) (fun _ n _=>8 - (intOf n).toNat)
 case atStart=>exact⟨0,Nat.zero_le _,rfl,by rw[List.take_zero,List.append_nil];exact s,Below.refl _ _⟩
 case round =>
  obtain⟨j,E,rfl,b,c⟩:=hrel;by_cases l:j < 8
  ·obtain⟨h,G⟩:∃ h:Nat,(7:Int) - j=h:=⟨7 - j,by omega⟩
   have g:8 - 1 - j=h:=by omega
   have u:h < 8:=by omega
   have C:Hid ((be 8 x).take (j+1)=(be 8 x).take j ++ [x / 2 ^ (8 * h) % 256]):=by
    show _=_
    rw[iT 8 j x l,g,pow8]
   have hle:(L ++ (be 8 x).take j).length<=1000000000:=by rw[List.length_append,List.length_take,aT];omega
   obtain⟨v1,F,f,i,hS⟩:=eh (x:=x / 2 ^ (8 * h) % 256) b.out (Nat.le_trans o.out c.out.size) hle ⟨Int.emod_nonneg _ (by decide),Int.emod_lt_of_pos _ (by decide)⟩;obtain⟨H,D,rfl⟩:=OB.sh b.out;obtain⟨a1,c1,rfl⟩:=OB.sh i;generalize d:L ++ (be 8 x).take j=M at *;generalize hq:M.length=q at *;have z:=bp i;have A:=bp hS;have y:=bp f;have m:=bp d;clear i hS f hle d hq g;have f:=y.out;go_wp2_with (at_builtin;refine Lib.wpList_append_run _ rfl _ _ _ _ rfl _ _ rfl rfl _ _ f ?_;clear f);go_roundw
   case rel =>
    refine⟨j+1,by omega,by go_num,?_,c.out.trans A.out⟩;rw[C.out,<- List.append_assoc,m.out];have p:=z.out;rw[show (M ++ [x / 2 ^ (8 * h) % 256]).length=M.length+1 by simp] at p;exact p
   case measure=>simp[intOf];omega
  ·obtain rfl:j=8:=by omega
   rw[List.take_of_length_le (by rw[aT];omega)] at b;go_wp2;go_ret;exact⟨_,rfl,b.out,c.out⟩
theorem not64(n:Nat)(h:n < 2 ^ 64):(2 ^ 64 - 1) ^^^ n=2 ^ 64 - (n+1):=by
 apply Nat.eq_of_testBit_eq;intro i;rw[Nat.testBit_xor,Nat.testBit_two_pow_sub_one,Nat.testBit_two_pow_sub_succ h];by_cases hi:i < 64
 ·simp[hi]
 ·have:n.testBit i=false:=Nat.testBit_lt_two_pow (Nat.lt_of_lt_of_le h (Nat.pow_le_pow_right (by decide) (by omega)));simp[hi,this]
theorem not64i(h0:0<=a)(b:a < 18446744073709551616):bits .xor .u64 IntKind.u64.max a=18446744073709551615 - a:=by
 obtain⟨n,rfl⟩:=Int.eq_ofNat_of_zero_le h0
 have e:IntKind.u64.max=((18446744073709551615:Nat):Int):=by kernel_rfl
 rw[e,bits_xor_u64_nat _ _ (by omega) (by omega)];have:=not64 n (by omega);rw[show (18446744073709551615:Nat)=2 ^ 64 - 1 by decide,this];omega
theorem ic{k:Int}(h0:0<=a)(b:a < 18446744073709551616):Calls Tryz.prog 126 #[.int .i64 k,.int .u64 a] w fun e w'=>e=.returned (.int .u64 (if k=10 then 18446744073709551615 - a else a))/\w'=w:=by
 by_cases h:k=10
 ·subst h;rw[if_pos rfl];go_enter Tryz.func126,Tryz.ntmps126;go_wp2;go_ret;refine⟨?_,rfl⟩
  show Ending.returned (.int .u64 (bits .xor .u64 IntKind.u64.max a))=_
  rw[not64i h0 b]
 ·rw[if_neg h];go_enter Tryz.func126,Tryz.ntmps126;go_wp2;go_ret;exact⟨rfl,rfl⟩
theorem fK:Calls Tryz.prog 125 #[.agg #[.int .i64 n,.int .u8 x,.int .u8 y]] w fun e w'=>e=.returned (.bool (decide (8 < n)))/\Below w.heap.size w w':=by
 go_enter Tryz.func125,Tryz.ntmps125;go_wp2;go_ret;exact⟨rfl,ae _ _⟩
theorem gG:Calls Tryz.prog 128 #[.agg #[.int .i64 n,.int .u8 x,.int .u8 y]] w fun e w'=>e=.returned (.bool (decide (16 < n)))/\Below w.heap.size w w':=by
 go_enter Tryz.func128,Tryz.ntmps128;go_wp2;go_ret;exact⟨rfl,ae _ _⟩
end
end Ky
end
section
namespace Ky
open Kv (j9 vD eh)
open Go.RowKit Go.Lib Pg
attribute [local go_sem] Oper.semAt_some
section
variable {w:World}{a:Act}{o:Oper}{x n g:Nat}{v:Int}
theorem cC(w:World):Below w.heap.size w w.drew:=⟨rfl,rfl,rfl,Nat.le_refl _,fun _ _=>rfl⟩
theorem vN(n:Nat)(hn:n<=1000):∃ w',(Instr.makeSlice 87 (.int .i64 0) (.int .i64 n)).run Tryz.prog w=.ok (.slice (some ⟨w.heap.size,0,none⟩) 0 n) w'/\OB w' (w.heap.size <= ·) (.slice (some ⟨w.heap.size,0,none⟩) 0 n) []/\Below w.heap.size w w':=by
 obtain⟨i,hi,b,hs,c⟩:=info_parts KB.inf;have a:=run_make (P:=Tryz.prog) w 87 5 i (.int .u8 0) KB.und hi b .i64 .i64 0 (n:Int) (by omega) (by omega) (by rw[c];omega) (by omega);refine⟨_,by simpa using a,⟨fun _ h=>by simp at h,.inr ⟨_,n,rfl,Nat.le_refl _,⟨(madeCells (Value.int .u8 0).cells (n * i.size)).toList,?_,rfl,?_,Nat.zero_le _,by simp only[maxLen];omega⟩⟩⟩,ae w _⟩
 ·exact⟨by simp only[List.map_nil,List.nil_append,Array.toArray_toList];exact heap_alloc_new _ _⟩
 ·simp[size_madeCells,hs]
theorem vY{w':World}{v:Value}(b:o.op=.makeSlice 87 (.const (.int .i64 0)) (.tmp x))(hx:a.eval (.tmp x)=.int .i64 n)(c:(Instr.makeSlice 87 (.int .i64 0) (.int .i64 n)).run Tryz.prog w=.ok v w'):(execOp a.eval o).run Tryz.prog w=.ok (.value v) w':=by
 have h0:a.eval (.const (.int .i64 0))=.int .i64 0:=rfl;simp only[execOp,b,hx,h0];simp[c,Result.andThen]
theorem AQ{m:Int}(c:o.op=.buildSlice 87 1 #[(0,.tmp x)])(hx:a.eval (.tmp x)=.int .u8 m):(execOp a.eval o).run Tryz.prog w=.ok (.value (.slice (some ⟨w.heap.size,0,none⟩) 1 1)) (w.alloc (.cells #[.int .u8 m] 5)):=by
 have b:a.tmps[x]?.getD undef=.int .u8 m:=by simpa[Act.eval] using hx
 simp only[execOp,c];go_simp
theorem iH{o:Nat}(c:w.cell? ⟨g,o,none⟩=some (.int .i64 v)):(loadVar 3 ⟨g,o,none⟩).run Tryz.prog w=.ok (.int .i64 v) w:=by go_simp
theorem ld_u8{o:Nat}(c:w.cell? ⟨g,o,none⟩=some (.int .u8 v)):(loadVar 5 ⟨g,o,none⟩).run Tryz.prog w=.ok (.int .u8 v) w:=by go_simp
def mkb(f:Int × Int × Int)(a:Int):List Int:=[f.2.1] ++ (if 8 < f.1 then be 8 a else []) ++ (if f.2.2=0 then [] else [f.2.2])
theorem pB{m0 m1 a:Int}(hn:n<=1000)(h0:0<=m0/\m0 < 256)(h1:0<=m1/\m1 < 256) :
  Calls Tryz.prog 150 #[.agg #[.int .i64 n,.int .u8 m0,.int .u8 m1],.int .u64 a] w fun e w'=>∃ v,e=.returned v/\OB w' (w.heap.size <= ·) v (mkb (n,m0,m1) a)/\Below w.heap.size w w':=by
 have H0:=bp h0;have H1:=bp h1;clear h0 h1;go_enter Tryz.func150,Tryz.ntmps150;go_wp2_with fail;have kq:=aE w [.int .i64 n,.int .u8 m0,.int .u8 m1] 201;have bq:=ae w (.cells #[.int .i64 n,.int .u8 m0,.int .u8 m1] 201)
 have J:(w.alloc (.cells #[.int .i64 n,.int .u8 m0,.int .u8 m1] 201)).heap.size=w.heap.size+1:=by simp
 generalize w.alloc (.cells #[.int .i64 n,.int .u8 m0,.int .u8 m1] 201)=X at *;generalize hq:w.heap.size=q at *;have hS:=kq.drew;refine bT (S:=fun w'=>Blk w' q [.int .i64 n,.int .u8 m0,.int .u8 m1] 201) (by kernel_rfl) hS ?_
 refine ai 0 (some 6) (.pointer (some ⟨q,0,none⟩)) (by kernel_rfl) (fun _ _=>by kernel_rfl) (fun _ _ _ h=>h) hS ?_
 refine aU 1 (some 7) (.int .i64 n) 3 6 q 0 (by kernel_rfl) (by kernel_rfl) (by kernel_rfl) (fun w' h=>iH (h.cell (i:=0) rfl)) (fun _ _ _ h=>h) hS ?_
 refine ai 3 (some 9) (.pointer (some ⟨q,1,none⟩)) (by kernel_rfl) (fun _ _=>by kernel_rfl) (fun _ _ _ h=>h) hS ?_
 refine ai 4 (some 10) (.pointer (some ⟨q,1,none⟩)) (by kernel_rfl) (fun _ _=>by kernel_rfl) (fun _ _ _ h=>h) hS ?_
 refine aU 5 (some 11) (.int .u8 m0) 5 10 q 1 (by kernel_rfl) (by kernel_rfl) (by kernel_rfl) (fun w' h=>ld_u8 (h.cell (i:=1) rfl)) (fun _ _ _ h=>h) hS ?_
 have Xd:X.drew.heap.size=q+1:=J;obtain⟨Y,R,O3,b3⟩:=vN (w:=X.drew) n hn;have b4:=ae Y (.cells #[.int .u8 m0] 5);obtain⟨v5,w5,U,O5,B5⟩:=vD (B:=q+1) (p:=Y.heap.size) (x:=m0) ((O3.mono (D':=(q+1 <= ·)) (fun b _ h=>by omega)).keep b4) (by have:=b3.size;have:=b4.size;omega) (by simp) H0.out ((aE Y [.int .u8 m0] 5).cell (i:=0) rfl);obtain⟨a5,c5,rfl⟩:=OB.sh O5;have k3:=hS.keep b3;have k4:=k3.keep b4;have k5:=k4.lQ B5 (by omega)
 have d5:Below (q+1) X w5:=((cC X).mono (Nat.le_of_eq J.symm)).trans (((aB b3 b4).mono (Nat.le_of_eq Xd.symm)).trans B5);have c:=ae X.drew (.cells #[.int .u8 m0] 5);obtain⟨w7,N,O7,Z⟩:=vN (w:=X.drew.alloc (.cells #[.int .u8 m0] 5)) n hn;obtain⟨v8,w8,O,O8,B8⟩:=vD (B:=q+1) (p:=X.drew.heap.size) (x:=m0) (O7.mono (D':=(q+1 <= ·)) (fun b _ h=>by have:=c.size;omega)) (by have:=c.size;have:=Z.size;omega) (by simp) H0.out (((aE X.drew [.int .u8 m0] 5).keep Z).cell (i:=0) rfl);obtain⟨a8,c8,rfl⟩:=OB.sh O8;have k6:=hS.keep c;have k7:=k6.keep Z;have k8:=k7.lQ B8 (by omega)
 have d8:Below (q+1) X w8:=((cC X).mono (Nat.le_of_eq J.symm)).trans (((aB c Z).mono (Nat.le_of_eq Xd.symm)).trans B8);refine aN [2,6] (by kernel_rfl) (by simp) (bH 2 (some 8) (.slice (some ⟨X.drew.heap.size,0,none⟩) 0 n) Y (by kernel_rfl) (vY (x:=7) (by kernel_rfl) (by kernel_rfl) R) k3 ?_ (bH 6 (some 12) (.slice (some ⟨X.drew.heap.size,0,none⟩) 1 1) (X.drew.alloc (.cells #[.int .u8 m0] 5)) (by kernel_rfl) (AQ (x:=11) (by kernel_rfl) (by kernel_rfl)) k6 ?_ bj))
 ·refine aN [6] (by kernel_rfl) (by simp) (bH 6 (some 12) (.slice (some ⟨Y.heap.size,0,none⟩) 1 1) (Y.alloc (.cells #[.int .u8 m0] 5)) (by kernel_rfl) (AQ (x:=11) (by kernel_rfl) (by kernel_rfl)) k4 ?_ bj);refine aN [7] (by kernel_rfl) (by simp) (bH 7 (some 13) (.slice a5 ([] ++ [m0]).length c5) w5 (by kernel_rfl) (j9 (x:=8) (y:=12) rfl (by kernel_rfl) (by kernel_rfl) (by kernel_rfl) U) k5 ?_ bj);refine ai 8 (some 5) (.slice a5 ([] ++ [m0]).length c5) (by kernel_rfl) (fun _ _=>by kernel_rfl) (fun _ _ _ h=>h) k5 ?_
  refine bQ (by kernel_rfl) ?_
  simp only[Act.put,List.setIfInBounds_toArray,List.set_cons_zero,List.set_cons_succ];have H:=bp O5;have C:=bp k5;have I:=bp d5
  have f:q+1<=w5.heap.size:=by have:=d5.size;omega
  have r:=bp hq;have o:=bp bq;have HXS:=bp J;clear hS Xd R O3 b3 b4 U O5 B5 k3 k4 k5 d5 c N O7 Z O O8 B8 k6 k7 k8 d8 kq bq hq J;have q0:=C.out.cell (i:=0) rfl;have q1:=C.out.cell (i:=1) rfl;have q2:=C.out.cell (i:=2) rfl;have s:=fK (w:=w5) (n:=n) (x:=m0) (y:=m1);by_cases h8:8 < n
  ·by_cases hm:m1=0
   ·have u:Hid (mkb ((n:Int),m0,m1) a=([] ++ [m0]) ++ be 8 a):=by have l:((8:Int) < n):=(by omega); show _=_; simp[mkb,l,hm]
    have h8:(8:Int) < n:=by omega
    rw[decide_eq_true h8] at s;subst hm;go_wp2_with first
     | (go_at_call 125;refine s.mono ?_;rintro e A ⟨rfl,c⟩;have j:=C.out.keep c;have W:=j.cell (i:=0) rfl;have p1:=j.cell (i:=1) rfl;have K:=j.cell (i:=2) rfl;have E:=I.out.trans (c.mono f);have D:=H.out.keep c;have t:q+1<=A.heap.size:=Nat.le_trans f c.size)
     | (go_at_call 151;refine(dy (x:=a) D t (by simp)).mono ?_;rintro e T ⟨v9,rfl,G,z⟩;obtain⟨a9,c9,rfl⟩:=OB.sh G;have z9:=j.lQ z (Nat.lt_succ_self q);have r1:=z9.cell (i:=1) rfl;have r2:=z9.cell (i:=2) rfl;have Q:=E.trans z;have s9:q+1<=T.heap.size:=Nat.le_trans t z.size)
    go_ret;exact⟨_,rfl,by rw[u.out];exact G.mono (fun b _ h=>by have:=r.out;omega),by have F:=Q;rw[r.out];exact o.out.trans (F.mono (Nat.le_succ q))⟩
   ·have u:Hid (mkb ((n:Int),m0,m1) a=([] ++ [m0]) ++ be 8 a ++ [m1]):=by have l:((8:Int) < n):=(by omega); show _=_; simp[mkb,l,hm]
    have h8:(8:Int) < n:=by omega
    rw[decide_eq_true h8] at s
    have P:m1≠0:=hm;go_wp2_with first
     | (go_at_call 125;refine s.mono ?_;rintro e A ⟨rfl,c⟩;have j:=C.out.keep c;have W:=j.cell (i:=0) rfl;have p1:=j.cell (i:=1) rfl;have K:=j.cell (i:=2) rfl;have E:=I.out.trans (c.mono f);have D:=H.out.keep c;have t:q+1<=A.heap.size:=Nat.le_trans f c.size)
     | (go_at_call 151;refine(dy (x:=a) D t (by simp)).mono ?_;rintro e T ⟨v9,rfl,G,z⟩;obtain⟨a9,c9,rfl⟩:=OB.sh G;have z9:=j.lQ z (Nat.lt_succ_self q);have r1:=z9.cell (i:=1) rfl;have r2:=z9.cell (i:=2) rfl;have Q:=E.trans z;have s9:q+1<=T.heap.size:=Nat.le_trans t z.size;obtain⟨v10,V,g,d,m⟩:=eh (x:=m1) G s9 (by simp[aT]) H1.out;obtain⟨L,M,rfl⟩:=OB.sh d;replace d:=bp d;replace m:=bp m)
     | (at_builtin;refine Lib.wpList_append_run _ rfl _ _ _ _ rfl _ _ rfl rfl _ _ g ?_;clear g)
    go_ret;exact⟨_,rfl,by rw[u.out];exact d.out.mono (fun b _ h=>by have:=r.out;omega),by have F:=Q.trans m.out;rw[r.out];exact o.out.trans (F.mono (Nat.le_succ q))⟩
  ·by_cases hm:m1=0
   ·have u:Hid (mkb ((n:Int),m0,m1) a=([] ++ [m0])):=by have l:¬ ((8:Int) < n):=(by omega); show _=_; simp[mkb,l,hm]
    have h8:¬ ((8:Int) < n):=by omega
    rw[decide_eq_false h8] at s;subst hm;go_wp2_with first
     | (go_at_call 125;refine s.mono ?_;rintro e A ⟨rfl,c⟩;have j:=C.out.keep c;have W:=j.cell (i:=0) rfl;have p1:=j.cell (i:=1) rfl;have K:=j.cell (i:=2) rfl;have E:=I.out.trans (c.mono f);have D:=H.out.keep c;have t:q+1<=A.heap.size:=Nat.le_trans f c.size)
    go_ret;exact⟨_,rfl,by rw[u.out];exact D.mono (fun b _ h=>by have:=r.out;omega),by have F:=E;rw[r.out];exact o.out.trans (F.mono (Nat.le_succ q))⟩
   ·have u:Hid (mkb ((n:Int),m0,m1) a=([] ++ [m0]) ++ [m1]):=by have l:¬ ((8:Int) < n):=(by omega); show _=_; simp[mkb,l,hm]
    have h8:¬ ((8:Int) < n):=by omega
    rw[decide_eq_false h8] at s
    have P:m1≠0:=hm;go_wp2_with first
     | (go_at_call 125;refine s.mono ?_;rintro e A ⟨rfl,c⟩;have j:=C.out.keep c;have W:=j.cell (i:=0) rfl;have p1:=j.cell (i:=1) rfl;have K:=j.cell (i:=2) rfl;have E:=I.out.trans (c.mono f);have D:=H.out.keep c;have t:q+1<=A.heap.size:=Nat.le_trans f c.size;obtain⟨v10,V,g,d,m⟩:=eh (x:=m1) D t (by simp) H1.out;obtain⟨L,M,rfl⟩:=OB.sh d;replace d:=bp d;replace m:=bp m)
     | (at_builtin;refine Lib.wpList_append_run _ rfl _ _ _ _ rfl _ _ rfl rfl _ _ g ?_;clear g)
    go_ret;exact⟨_,rfl,by rw[u.out];exact d.out.mono (fun b _ h=>by have:=r.out;omega),by have F:=E.trans m.out;rw[r.out];exact o.out.trans (F.mono (Nat.le_succ q))⟩
 ·refine aN [2] (by kernel_rfl) (by simp) (bH 2 (some 8) (.slice (some ⟨(X.drew.alloc (.cells #[.int .u8 m0] 5)).heap.size,0,none⟩) 0 n) w7 (by kernel_rfl) (vY (x:=7) (by kernel_rfl) (by kernel_rfl) N) k7 ?_ bj);refine aN [7] (by kernel_rfl) (by simp) (bH 7 (some 13) (.slice a8 ([] ++ [m0]).length c8) w8 (by kernel_rfl) (j9 (x:=8) (y:=12) rfl (by kernel_rfl) (by kernel_rfl) (by kernel_rfl) O) k8 ?_ bj);refine ai 8 (some 5) (.slice a8 ([] ++ [m0]).length c8) (by kernel_rfl) (fun _ _=>by kernel_rfl) (fun _ _ _ h=>h) k8 ?_
  refine bQ (by kernel_rfl) ?_
  simp only[Act.put,List.setIfInBounds_toArray,List.set_cons_zero,List.set_cons_succ];have H:=bp O8;have C:=bp k8;have I:=bp d8
  have f:q+1<=w8.heap.size:=by have:=d8.size;omega
  have r:=bp hq;have o:=bp bq;have HXS:=bp J;clear hS Xd R O3 b3 b4 U O5 B5 k3 k4 k5 d5 c N O7 Z O O8 B8 k6 k7 k8 d8 kq bq hq J;have q0:=C.out.cell (i:=0) rfl;have q1:=C.out.cell (i:=1) rfl;have q2:=C.out.cell (i:=2) rfl;have s:=fK (w:=w8) (n:=n) (x:=m0) (y:=m1);by_cases h8:8 < n
  ·by_cases hm:m1=0
   ·have u:Hid (mkb ((n:Int),m0,m1) a=([] ++ [m0]) ++ be 8 a):=by have l:((8:Int) < n):=(by omega); show _=_; simp[mkb,l,hm]
    have h8:(8:Int) < n:=by omega
    rw[decide_eq_true h8] at s;subst hm;go_wp2_with first
     | (go_at_call 125;refine s.mono ?_;rintro e A ⟨rfl,c⟩;have j:=C.out.keep c;have W:=j.cell (i:=0) rfl;have p1:=j.cell (i:=1) rfl;have K:=j.cell (i:=2) rfl;have E:=I.out.trans (c.mono f);have D:=H.out.keep c;have t:q+1<=A.heap.size:=Nat.le_trans f c.size)
     | (go_at_call 151;refine(dy (x:=a) D t (by simp)).mono ?_;rintro e T ⟨v9,rfl,G,z⟩;obtain⟨a9,c9,rfl⟩:=OB.sh G;have z9:=j.lQ z (Nat.lt_succ_self q);have r1:=z9.cell (i:=1) rfl;have r2:=z9.cell (i:=2) rfl;have Q:=E.trans z;have s9:q+1<=T.heap.size:=Nat.le_trans t z.size)
    go_ret;exact⟨_,rfl,by rw[u.out];exact G.mono (fun b _ h=>by have:=r.out;omega),by have F:=Q;rw[r.out];exact o.out.trans (F.mono (Nat.le_succ q))⟩
   ·have u:Hid (mkb ((n:Int),m0,m1) a=([] ++ [m0]) ++ be 8 a ++ [m1]):=by have l:((8:Int) < n):=(by omega); show _=_; simp[mkb,l,hm]
    have h8:(8:Int) < n:=by omega
    rw[decide_eq_true h8] at s
    have P:m1≠0:=hm;go_wp2_with first
     | (go_at_call 125;refine s.mono ?_;rintro e A ⟨rfl,c⟩;have j:=C.out.keep c;have W:=j.cell (i:=0) rfl;have p1:=j.cell (i:=1) rfl;have K:=j.cell (i:=2) rfl;have E:=I.out.trans (c.mono f);have D:=H.out.keep c;have t:q+1<=A.heap.size:=Nat.le_trans f c.size)
     | (go_at_call 151;refine(dy (x:=a) D t (by simp)).mono ?_;rintro e T ⟨v9,rfl,G,z⟩;obtain⟨a9,c9,rfl⟩:=OB.sh G;have z9:=j.lQ z (Nat.lt_succ_self q);have r1:=z9.cell (i:=1) rfl;have r2:=z9.cell (i:=2) rfl;have Q:=E.trans z;have s9:q+1<=T.heap.size:=Nat.le_trans t z.size;obtain⟨v10,V,g,d,m⟩:=eh (x:=m1) G s9 (by simp[aT]) H1.out;obtain⟨L,M,rfl⟩:=OB.sh d;replace d:=bp d;replace m:=bp m)
     | (at_builtin;refine Lib.wpList_append_run _ rfl _ _ _ _ rfl _ _ rfl rfl _ _ g ?_;clear g)
    go_ret;exact⟨_,rfl,by rw[u.out];exact d.out.mono (fun b _ h=>by have:=r.out;omega),by have F:=Q.trans m.out;rw[r.out];exact o.out.trans (F.mono (Nat.le_succ q))⟩
  ·by_cases hm:m1=0
   ·have u:Hid (mkb ((n:Int),m0,m1) a=([] ++ [m0])):=by have l:¬ ((8:Int) < n):=(by omega); show _=_; simp[mkb,l,hm]
    have h8:¬ ((8:Int) < n):=by omega
    rw[decide_eq_false h8] at s;subst hm;go_wp2_with first
     | (go_at_call 125;refine s.mono ?_;rintro e A ⟨rfl,c⟩;have j:=C.out.keep c;have W:=j.cell (i:=0) rfl;have p1:=j.cell (i:=1) rfl;have K:=j.cell (i:=2) rfl;have E:=I.out.trans (c.mono f);have D:=H.out.keep c;have t:q+1<=A.heap.size:=Nat.le_trans f c.size)
    go_ret;exact⟨_,rfl,by rw[u.out];exact D.mono (fun b _ h=>by have:=r.out;omega),by have F:=E;rw[r.out];exact o.out.trans (F.mono (Nat.le_succ q))⟩
   ·have u:Hid (mkb ((n:Int),m0,m1) a=([] ++ [m0]) ++ [m1]):=by have l:¬ ((8:Int) < n):=(by omega); show _=_; simp[mkb,l,hm]
    have h8:¬ ((8:Int) < n):=by omega
    rw[decide_eq_false h8] at s
    have P:m1≠0:=hm;go_wp2_with first
     | (go_at_call 125;refine s.mono ?_;rintro e A ⟨rfl,c⟩;have j:=C.out.keep c;have W:=j.cell (i:=0) rfl;have p1:=j.cell (i:=1) rfl;have K:=j.cell (i:=2) rfl;have E:=I.out.trans (c.mono f);have D:=H.out.keep c;have t:q+1<=A.heap.size:=Nat.le_trans f c.size;obtain⟨v10,V,g,d,m⟩:=eh (x:=m1) D t (by simp) H1.out;obtain⟨L,M,rfl⟩:=OB.sh d;replace d:=bp d;replace m:=bp m)
     | (at_builtin;refine Lib.wpList_append_run _ rfl _ _ _ _ rfl _ _ rfl rfl _ _ g ?_;clear g)
    go_ret;exact⟨_,rfl,by rw[u.out];exact d.out.mono (fun b _ h=>by have:=r.out;omega),by have F:=E.trans m.out;rw[r.out];exact o.out.trans (F.mono (Nat.le_succ q))⟩
end
end Ky
end
section
namespace Ky
open Go.RowKit Go.Lib Pg
attribute [local go_sem] Oper.semAt_some
theorem qS (a b c d:Int) (w:World):(Op.equalIn 9999 163 (.agg #[.int .u8 a,.int .u8 b]) (.agg #[.int .u8 c,.int .u8 d])).run Tryz.prog w=.ok (a == c && b == d) w:=by
 rw[show (9999:Nat)=9998+1 from rfl,Op.equalIn];simp only[Sem.run_bind,run_underlying Tryz.underlying163,Result.andThen_ok];simp only[Std.Legacy.Range.forIn_eq_forIn_range',Std.Legacy.Range.size,Nat.sub_zero,Nat.add_sub_cancel,Nat.div_one,List.range'_succ,List.range'_zero,List.forIn_cons,List.forIn_nil];go_simp;by_cases g:a=c<;>by_cases f:b=d<;>simp[g,f]
attribute [local go_sem] qS
theorem pO (k:Int):∃ (n:Nat) (m0 m1:Int),frm k=((n:Int),m0,m1)/\n<=18/\(0<=m0/\m0 < 256)/\(0<=m1/\m1 < 256)/\(n=0->m0=0/\m1=0):=by
 by_cases h:0<=k/\k < 18
 ·obtain⟨j,rfl⟩:=Int.eq_ofNat_of_zero_le h.1
  have a:j < 18:=by omega
  match j,a with
  | 0,_=>exact⟨0,0,0,rfl,by decide,by decide,by decide,fun _=>⟨rfl,rfl⟩⟩
  | 1,_=>exact⟨1,112,0,rfl,by decide,by decide,by decide,fun h=>by omega⟩
  | 2,_=>exact⟨1,99,0,rfl,by decide,by decide,by decide,fun h=>by omega⟩
  | 3,_=>exact⟨1,109,0,rfl,by decide,by decide,by decide,fun h=>by omega⟩
  | 4,_=>exact⟨9,97,0,rfl,by decide,by decide,by decide,fun h=>by omega⟩
  | 5,_=>exact⟨10,118,48,rfl,by decide,by decide,by decide,fun h=>by omega⟩
  | 6,_=>exact⟨18,118,100,rfl,by decide,by decide,by decide,fun h=>by omega⟩
  | 7,_=>exact⟨18,118,104,rfl,by decide,by decide,by decide,fun h=>by omega⟩
  | 8,_=>exact⟨18,118,115,rfl,by decide,by decide,by decide,fun h=>by omega⟩
  | 9,_=>exact⟨9,116,0,rfl,by decide,by decide,by decide,fun h=>by omega⟩
  | 10,_=>exact⟨17,105,0,rfl,by decide,by decide,by decide,fun h=>by omega⟩
  | 11,_=>exact⟨9,98,0,rfl,by decide,by decide,by decide,fun h=>by omega⟩
  | 12,_=>exact⟨9,117,0,rfl,by decide,by decide,by decide,fun h=>by omega⟩
  | 13,_=>exact⟨9,114,0,rfl,by decide,by decide,by decide,fun h=>by omega⟩
  | 14,_=>exact⟨17,113,0,rfl,by decide,by decide,by decide,fun h=>by omega⟩
  | 15,_=>exact⟨17,101,0,rfl,by decide,by decide,by decide,fun h=>by omega⟩
  | 16,_=>exact⟨17,110,0,rfl,by decide,by decide,by decide,fun h=>by omega⟩
  | 17,_=>exact⟨17,107,0,rfl,by decide,by decide,by decide,fun h=>by omega⟩
  | j+18,h=>omega
 ·exact⟨0,0,0,if_neg h,by decide,by decide,by decide,fun _=>⟨rfl,rfl⟩⟩
def tn (k a:Int):Int:=if k=10 then 18446744073709551615 - a else a
def mkE (k a b:Int):Bool:=decide ((frm k).1=0) || (decide (a≠0) && decide ((frm k).1<=8)) || (decide (b≠0) && decide ((frm k).1<=16))
def mk (k a b:Int):List Int:=mkb (frm k) (tn k a) ++ (if 16 < (frm k).1 then be 8 b else [])
theorem mC (f:Int × Int × Int) (a:Int):(mkb f a).length<=10:=by
 unfold mkb;split<;>split<;>simp[aT]
end Ky
end
section
namespace Ky
open Go.RowKit Go.Lib Pg
attribute [local go_sem] Oper.semAt_some qS
theorem qX (w:World) (D:Nat->Prop):OB w D (.slice none 0 0) []:=⟨fun _ h=>by simp at h,.inl ⟨rfl,rfl⟩⟩
theorem xN {w:World} {k a:Int} (h0:0<=a) (u:a < 18446744073709551616):Calls Tryz.prog 111 #[.int .i64 k,.int .u64 a] w fun e w'=>∃ v,e=.returned (.tuple #[v,.int .i64 (if 16 < (frm k).1 then 0 else 70)])/\OB w' (w.heap.size <= ·) v (if 16 < (frm k).1 then mkb (frm k) (tn k a) else [])/\Below w.heap.size w w':=by
 obtain⟨n,m0,m1,hf,hn,g,i,A⟩:=pO k;have j:=fun w=>nA (w:=w) (k:=k)
 rw[hf] at j;simp only[fv] at j;rw[hf];simp only;have r:=bp (And.intro h0 u);have o:=bp g;have q:=bp i;have B:=bp hn;have m:=fun w=>gG (w:=w) (n:=n) (x:=m0) (y:=m1)
 clear hf g i A h0 u;by_cases c:16 < (n:Int)
 ·rw[decide_eq_true c] at m;rw[if_pos c,if_pos c];go_enter Tryz.func111,Tryz.ntmps111;go_wp2_with first
   | (go_at_call 149;refine(j _).mono ?_;rintro e f ⟨rfl,p⟩)
   | (go_at_call 128;refine(m _).mono ?_;rintro e F ⟨rfl,l⟩)
  have E:=(aE f [.int .i64 (n:Int),.int .u8 m0,.int .u8 m1] 201).keep l;have t:=aB p (aB (ae f (.cells #[.int .i64 (n:Int),.int .u8 m0,.int .u8 m1] 201)) l);have hS:=E.drew;refine bT (S:=fun w'=>Blk w' f.heap.size [.int .i64 (n:Int),.int .u8 m0,.int .u8 m1] 201) (by kernel_rfl) hS ?_
  refine aU 0 (some 12) (.agg #[.int .i64 (n:Int),.int .u8 m0,.int .u8 m1]) 201 6 f.heap.size 0 (by kernel_rfl) (by kernel_rfl) (by kernel_rfl) (fun w' h=>oK h) (fun _ _ _ h=>h) hS ?_
  refine ai 1 (some 13) (.int .i64 k) (by kernel_rfl) (fun _ _=>by kernel_rfl) (fun _ _ _ h=>h) hS ?_
  refine ai 2 (some 14) (.int .u64 a) (by kernel_rfl) (fun _ _=>by kernel_rfl) (fun _ _ _ h=>h) hS ?_
  refine bS 3 (some 15) 126 #[.int .i64 k,.int .u64 a] (by kernel_rfl) (by kernel_rfl) (ic r.out.1 r.out.2) ?_
  rintro C G ⟨rfl,rfl⟩;refine⟨.int .u64 (tn k a),rfl,hS,?_⟩;refine bS 4 (some 16) 150 #[.agg #[.int .i64 (n:Int),.int .u8 m0,.int .u8 m1],.int .u64 (tn k a)] (by kernel_rfl) (by kernel_rfl) (pB (n:=n) (a:=tn k a) (Nat.le_trans B.out (by decide)) o.out q.out) ?_
  rintro C H ⟨v5,rfl,z,s⟩;obtain⟨a5,D,rfl⟩:=OB.sh z;have d:=hS.keep s;refine⟨_,rfl,d,?_⟩;refine ai 5 (some 4) (.slice a5 (mkb ((n:Int),m0,m1) (tn k a)).length D) (by kernel_rfl) (fun _ _=>by kernel_rfl) (fun _ _ _ h=>h) d ?_
  refine ai 6 (some 5) (.int .i64 0) (by kernel_rfl) (fun _ _=>by kernel_rfl) (fun _ _ _ h=>h) d ?_
  refine bQ (by kernel_rfl) ?_
  simp only[Act.put,List.setIfInBounds_toArray,List.set_cons_zero,List.set_cons_succ];go_wp2;go_ret2;exact⟨_,rfl,z.mono (fun b _ h=>Nat.le_trans t.size h),aB t (aB (cC _) s)⟩
 ·rw[decide_eq_false c] at m;rw[if_neg c,if_neg c];go_enter Tryz.func111,Tryz.ntmps111;go_wp2_with first
   | (go_at_call 149;refine(j _).mono ?_;rintro e f ⟨rfl,p⟩)
   | (go_at_call 128;refine(m _).mono ?_;rintro e F ⟨rfl,l⟩)
  go_ret2;exact⟨_,rfl,qX _ _,aB p (aB (ae _ _) l)⟩
end Ky
end
section
namespace Ky
open Go.RowKit Go.Lib Pg
attribute [local go_sem] Oper.semAt_some qS
section
variable {w:World}{ao:Option Addr}{n c:Nat}{l:List Int}
def bv(l:List Int):Int:=l.foldl (fun n d=>n * 256+d) 0
theorem qE(l:List Int)(x:Int):bv (l ++ [x])=bv l * 256+x:=by simp[bv]
theorem jP:∀ (n:Nat) (l:List Int),Oct l->l.length=n->0<=bv l/\bv l < 256 ^ n
 | 0,l,_,h=>by
  have:l=[]:=List.eq_nil_of_length_eq_zero h;subst this;simp[bv]
 | n + 1,l,ho,h=>by
  obtain⟨b,x,rfl⟩:∃ b x,l=b ++ [x]:=by
   have a:l≠[]:=fun e=>by subst e;simp at h
   exact⟨l.dropLast,l.getLast a,(List.dropLast_concat_getLast a).symm⟩
  rw[qE];have c:=jP n b (fun y hy=>ho y (List.mem_append_left _ hy)) (by simpa using h);have hx:=ho x (by simp);rw[Int.pow_succ];omega
theorem or64(a b:Int)(h0:0<=a)(d:a < 72057594037927936)(c:0<=b)(f:b < 256):bits .or .u64 (IntKind.u64.wrap (a * 256)) b=a * 256+b:=by
 have e:IntKind.u64.wrap (a * 256)=a * 256:=by rw[IntKind.wrap_u64];omega
 rw[e];exact bits_join .u64 64 (by decide) (fun n h0 d=>by rw[IntKind.wrap_u64];omega) 8 (a * 256) b (by omega) (by omega) (by omega) c (by omega) (by omega)
theorem gR(h:By w (.slice ao n c) l)(m:l.length=n)(hn:8<=n)(hc:n<=c) :
  Calls Tryz.prog 127 #[.slice ao n c] w fun e w'=>e=.returned (.int .u64 (bv (l.take 8)))/\w'=w:=by
 have u:=bp h;have p:=bp m
 have z:(8:Int)<=c:=by omega
 have j:Oct l:=h.oct;obtain⟨B,f⟩:∃ x,l[0]?=some x:=⟨l[0]'(by omega),List.getElem?_eq_getElem _⟩
 obtain⟨b,o,rfl,_⟩:=By.at h f;clear h m f;go_enter Tryz.func127,Tryz.ntmps127;go_wp2_with fail;go_loopw [3,9] (fun q i wr=>∃ k:Nat,k<=8/\i=.int .i64 k/\q=.int .u64 (bv (l.take k))/\wr=w) (fun _ i _=>8 - (intOf i).toNat)
 case atStart=>exact⟨0,Nat.zero_le _,rfl,rfl,rfl⟩
 case round =>
  obtain⟨k,D,rfl,rfl,rfl⟩:=hrel;by_cases s:k < 8
  ·obtain⟨x,hx⟩:∃ x,l[k]?=some x:=⟨l[k]'(by have:=p.out;omega),List.getElem?_eq_getElem _⟩
   obtain⟨C,E,e,A⟩:=By.at u.out hx
   cases e;have d:=j x (List.mem_of_getElem? hx)
   have r:Hid (bv (l.take (k+1))=bv (l.take k) * 256+x):=by
    show _=_
    rw[List.take_add_one,hx];exact qE _ _
   have hb:=jP k (l.take k) (fun y hy=>j y (List.mem_of_mem_take hy)) (by rw[List.length_take];have:=p.out;omega)
   have g:bv (l.take k) < 72057594037927936:=by
    have F:(256:Int) ^ k<=256 ^ 7:=by
     have:(256:Nat) ^ k<=256 ^ 7:=Nat.pow_le_pow_right (by decide) (by omega);exact_mod_cast this
    have:(256:Int) ^ 7=72057594037927936:=by decide
    omega
   have v:=or64 (bv (l.take k)) x hb.1 g d.1 d.2;generalize bv (l.take k)=V at *
   have t:(k:Int) < 8:=by omega
   clear hb g hx;go_wp2;go_roundw
   case rel =>
    refine⟨k+1,by omega,by go_num,?_,trivial⟩;rw[r.out]
   case measure=>simp[intOf];omega
  ·obtain rfl:k=8:=by omega
   go_wp2;go_ret;exact⟨rfl,rfl⟩
def fIn(l:List Int):Int × Int × Int:=((l.length:Int),(l[0]?).getD 0,if 9 < l.length/\l.length % 8=2 then (l[9]?).getD 0 else 0)
theorem uQ(h:By w (.slice ao n c) l)(i:l.length=n)(t:n<=1000000000) :
  Calls Tryz.prog 123 #[.slice ao n c] w fun e w'=>e=.returned (fv (fIn l))/\Below w.heap.size w w':=by
 have B:=bp i;by_cases h0:n=0
 ·have f:fIn l=(0,0,0):=by
   have:l=[]:=List.eq_nil_of_length_eq_zero (by omega);subst this;simp[fIn]
  rw[f];subst h0;clear h i;go_enter Tryz.func123,Tryz.ntmps123;go_wp2;refine bodyPost_ret (eK rfl rfl (oK ((aE w [.int .i64 0,.int .u8 0,.int .u8 0] 201).keep (ae _ _)))) rfl ?_
  exact⟨rfl,aB (ae _ _) (ae _ _)⟩
 ·obtain⟨j,d⟩:∃ x,l[0]?=some x:=⟨l[0]'(by omega),List.getElem?_eq_getElem _⟩
  obtain⟨b,o,rfl,c0⟩:=By.at h d
  have z:(0:Int) < n:=by omega
  have u:=aL c0;rw[Nat.add_zero] at c0;by_cases m:9 < n/\n % 8=2
  ·obtain⟨q,g⟩:∃ x,l[9]?=some x:=⟨l[9]'(by omega),List.getElem?_eq_getElem _⟩
   obtain⟨C,D,e,A⟩:=By.at h g
   cases e
   have f:fIn l=((n:Int),j,q):=by rw[fIn,i,if_pos m,d,g];rfl
   rw[f]
   have p:(9:Int) < n:=by omega
   have s:Int.tmod (n:Int) 8=2:=by rw[Int.tmod_eq_emod_of_nonneg (by omega)];omega
   clear h i d g f m;go_enter Tryz.func123,Tryz.ntmps123;go_wp2;refine bodyPost_ret (eK rfl rfl (oK ((aE w [.int .i64 (n:Int),.int .u8 j,.int .u8 q] 201).keep (ae _ _)))) rfl ?_
   exact⟨rfl,aB (ae _ _) (ae _ _)⟩
  ·have f:fIn l=((n:Int),j,0):=by rw[fIn,i,if_neg m,d]; rfl
   rw[f];clear h i d f;by_cases y:9 < n
   ·have p:(9:Int) < n:=by omega
    obtain⟨r,s⟩:∃ r,Int.tmod (n:Int) 8=r:=⟨_,rfl⟩
    have v:¬ r=2:=by rw[<- s,Int.tmod_eq_emod_of_nonneg (by omega)];omega
    clear m;go_enter Tryz.func123,Tryz.ntmps123;go_wp2;refine bodyPost_ret (eK rfl rfl (oK ((aE w [.int .i64 (n:Int),.int .u8 j,.int .u8 0] 201).keep (ae _ _)))) rfl ?_
    exact⟨rfl,aB (ae _ _) (ae _ _)⟩
   ·have p:¬ ((9:Int) < n):=by omega
    clear m;go_enter Tryz.func123,Tryz.ntmps123;go_wp2;refine bodyPost_ret (eK rfl rfl (oK ((aE w [.int .i64 (n:Int),.int .u8 j,.int .u8 0] 201).keep (ae _ _)))) rfl ?_
    exact⟨rfl,aB (ae _ _) (ae _ _)⟩
end
end Ky
end
section
namespace Ky
open Go.RowKit Go.Lib Pg
attribute [local go_sem] Oper.semAt_some qS
theorem yq:∀ k:Nat,k < 18->∀ w,(Instr.index 252 (.agg #[.int .i64 0,.int .u8 0,.int .u8 0,.int .i64 1,.int .u8 112,.int .u8 0,.int .i64 1,.int .u8 99,.int .u8 0,.int .i64 1,.int .u8 109,.int .u8 0,.int .i64 9,.int .u8 97,.int .u8 0,.int .i64 10,.int .u8 118,.int .u8 48,.int .i64 18,.int .u8 118,.int .u8 100,.int .i64 18,.int .u8 118,.int .u8 104,.int .i64 18,.int .u8 118,.int .u8 115,.int .i64 9,.int .u8 116,.int .u8 0,.int .i64 17,.int .u8 105,.int .u8 0,.int .i64 9,.int .u8 98,.int .u8 0,.int .i64 9,.int .u8 117,.int .u8 0,.int .i64 9,.int .u8 114,.int .u8 0,.int .i64 17,.int .u8 113,.int .u8 0,.int .i64 17,.int .u8 101,.int .u8 0,.int .i64 17,.int .u8 110,.int .u8 0,.int .i64 17,.int .u8 107,.int .u8 0]) (.int .i64 k)).run Tryz.prog w=.ok (.agg #[.int .i64 (frm k).1,.int .u8 (frm k).2.1,.int .u8 (frm k).2.2]) w:=by
 intro k a w;rcases(by omega:k=0\/k=1\/k=2\/k=3\/k=4\/k=5\/k=6\/k=7\/k=8\/k=9\/k=10\/k=11\/k=12\/k=13\/k=14\/k=15\/k=16\/k=17) with rfl | rfl | rfl | rfl | rfl | rfl | rfl | rfl | rfl | rfl | rfl | rfl | rfl | rfl | rfl | rfl | rfl | rfl
 all_goals kernel_rfl
theorem uI {w:World}:Calls Tryz.prog 172 #[] w fun e w'=>∃ FA:Array Value,e=.returned (.agg FA)/\Hid (∀ k:Nat,k < 18->∀ w,(Instr.index 252 (.agg FA) (.int .i64 k)).run Tryz.prog w=.ok (.agg #[.int .i64 (frm k).1,.int .u8 (frm k).2.1,.int .u8 (frm k).2.2]) w)/\Below w.heap.size w w' :=
 pC.mono fun _ _ h=>⟨_,h.1,yq,h.2⟩
theorem uY {w:World} {f0 f1 f2:Int}:Calls Tryz.prog 124 #[.agg #[.int .i64 f0,.int .u8 f1,.int .u8 f2]] w fun e w'=>(∃ r:Nat,e=.returned (.int .i64 r)/\((r < 18/\frm r=(f0,f1,f2))\/(r=0/\∀ j:Nat,j < 18->frm j≠(f0,f1,f2))))/\Below w.heap.size w w':=by
 go_enter Tryz.func124,Tryz.ntmps124;go_wp2_with (go_at_call 172;refine uI.mono ?_;rintro e y ⟨F,rfl,E,t⟩);have c:=(aE w [.int .i64 f0,.int .u8 f1,.int .u8 f2] 201).keep t;have x:=aB (ae w (.cells #[.int .i64 f0,.int .u8 f1,.int .u8 f2] 201)) t;have z:=bp c;have b:=bp x;obtain⟨q,C⟩:∃ q,Hid (w.heap.size=q):=⟨_,rfl⟩
 rw[C.out] at z ⊢;clear c x t;go_loopw [6] (fun u wr=>∃ k:Nat,k<=18/\u=.int .i64 k/\Hid (∀ j:Nat,j < k->frm j≠(f0,f1,f2))/\Hid (Below y.heap.size y wr)) (fun u _=>18 - (intOf u).toNat)
 case atStart=>exact⟨0,Nat.zero_le _,rfl,fun j h=>by omega,Below.refl _ _⟩
 case round =>
  obtain⟨k,H,rfl,s,d⟩:=hrel;by_cases g:k < 18
  ·have hi:=E.out k g
   have D:(k:Int) < 18:=by omega
   have c:=z.out.keep d.out;have q0:=c.cell (i:=0) rfl;have q1:=c.cell (i:=1) rfl;have G:=c.cell (i:=2) rfl;have B:=c.lt;obtain⟨⟨v,p1,A⟩,l⟩:∃ p,Hid (frm k=p):=⟨_,rfl⟩
   rw[l.out] at hi;simp only at hi;clear c;by_cases n:v=f0
   ·by_cases e1:p1=f1
    ·by_cases e2:A=f2
     ·subst n e1 e2;go_wp2;go_ret;refine⟨⟨k,rfl,.inl ⟨g,l.out⟩⟩,?_⟩;exact b.out.trans ((aB d.out (ae _ _)).mono b.out.size)
     ·subst n e1
      have f:Hid (frm k≠(v,p1,f2)):=by show _≠_;rw[l.out];intro e;cases e;exact e2 rfl
      go_wp2;go_roundw
      case rel =>
       refine⟨k+1,by omega,by go_num,fun j o=>?_,aB d.out (ae _ _)⟩;by_cases m:j=k
       ·subst m;exact f.out
       ·exact s.out j (by omega)
      case measure=>simp[intOf];omega
    ·subst n
     have f:Hid (frm k≠(v,f1,f2)):=by show _≠_;rw[l.out];intro e;cases e;exact e1 rfl
     go_wp2;go_roundw
     case rel =>
      refine⟨k+1,by omega,by go_num,fun j o=>?_,aB d.out (ae _ _)⟩;by_cases m:j=k
      ·subst m;exact f.out
      ·exact s.out j (by omega)
     case measure=>simp[intOf];omega
   ·have f:Hid (frm k≠(f0,f1,f2)):=by show _≠_; rw[l.out]; intro e; cases e; exact n rfl
    go_wp2;go_roundw
    case rel =>
     refine⟨k+1,by omega,by go_num,fun j o=>?_,aB d.out (ae _ _)⟩;by_cases m:j=k
     ·subst m;exact f.out
     ·exact s.out j (by omega)
    case measure=>simp[intOf];omega
  ·obtain rfl:k=18:=by omega
   go_wp2;go_ret;refine⟨⟨0,rfl,.inr ⟨rfl,fun j o=>s.out j o⟩⟩,?_⟩;exact b.out.trans (d.out.mono b.out.size)
end Ky
end
section
namespace Ky
open Go.RowKit Go.Lib Pg
attribute [local go_sem] Oper.semAt_some qS
section
variable {w:World}{ao:Option Addr}{n c b o r g:Nat}{l:List Int}{a:Act}{x u:Value}{tmps:Array Value}
theorem By.lens(h:By w (.slice ao n c) l):l.length=n/\n<=c/\c<=9223372036854775807:=by
 obtain⟨ao',c',e,h2,h3,_⟩:=h.ex
 cases e;exact⟨rfl,h2,h3⟩
theorem By.drop(h:By w (.slice (some ⟨b,o,none⟩) n c) l)(j:Nat)(v:j<=n):By w (.slice (some ⟨b,o+j,none⟩) (n - j) (c - j)) (l.drop j):=by
 obtain⟨s,hc,hm⟩:=By.lens h;obtain⟨k,p,e,m,t,r,f,g⟩:=h.ex
 cases e;refine⟨some ⟨b,o+j,none⟩,c - j,by rw[List.length_drop],by rw[List.length_drop];omega,by omega,(fun e=>by cases e),fun x hx=>f x (List.mem_of_mem_drop hx),?_⟩;rcases g with rfl | ⟨q,u,e,d,a⟩
 ·exact .inl (by simp)
 ·cases e;refine .inr ⟨b,o+j,rfl,d,fun i x hi=>?_⟩;rw[List.getElem?_drop] at hi;have:=a (j+i) x hi;rw[show o+(j+i)=o+j+i by omega] at this;exact this
theorem o6{op:Oper}{x:Nat}(f:op.op=.slice 87 (.tmp x) (some (.const (.int .i64 1))) none none)(hx:a.eval (.tmp x)=.slice (some ⟨b,o,none⟩) n c)(hn:1<=n)(hc:2<=c)(g:n<=c):(execOp a.eval op).run Tryz.prog w=.ok (.value (.slice (some ⟨b,o+1,none⟩) (n - 1) (c - 1))) w:=by
 have r:¬ ((n:Int) < 1):=by omega
 have l:(1:Int)<=n:=by omega
 have m:¬ (c - 1=0):=by omega
 have q:(n:Int)<=c:=by omega
 have s:¬ (c<=1):=by omega
 have p:¬ ((c:Int)=1):=by omega
 have h7:¬ (c=1):=by omega
 obtain⟨i0,hi,i,j,d⟩:=info_parts (P:=Tryz.prog) KB.inf;simp only[execOp,f,hx];go_simp
def rdA(r:Nat)(l:List Int):Int:=if 8 < l.length then tn r (bv ((l.drop 1).take 8)) else 0
def rdB(l:List Int):Int:=if 16 < l.length then bv (l.drop (l.length - 8)) else 0
theorem xj:∀ i:Nat,i < 18->∀ j:Nat,j < 18->frm i=frm j->i=j:=by decide +kernel
theorem ue{f0 f1 f2:Int}(a:r < 18)(h:frm r=(f0,f1,f2)):Calls Tryz.prog 124 #[.agg #[.int .i64 f0,.int .u8 f1,.int .u8 f2]] w fun e w'=>e=.returned (.int .i64 r)/\Below w.heap.size w w':=by
 refine uY.mono ?_
 rintro e w' ⟨⟨b,rfl,c⟩,hb⟩;rcases c with⟨h1,h2⟩ | ⟨rfl,h2⟩
 ·have:=xj b h1 r a (h2.trans h.symm);subst this;exact⟨rfl,hb⟩
 ·exact absurd h (h2 r a)
theorem uo{y z:Value}(h:Blk w g [x,y,z] 139):(loadVar 139 ⟨g,0,none⟩).run Tryz.prog w=.ok (.agg #[x,y,z]) w:=by
 have c0:=h.cell (i:=0) rfl;have c1:=h.cell (i:=1) rfl;have c2:=h.cell (i:=2) rfl;go_simp
theorem gV{fn:Func}{p u:Tmp}{ty:TypeId}(h:fn.results=#[.cell p ty,.tmp u]){v:Value}(a:tmps.getD p undef=.pointer (some ⟨g,0,none⟩))(hu:tmps.getD u undef=x)(b:(loadVar ty ⟨g,0,none⟩).run Tryz.prog w=.ok v w):(results fn tmps).run Tryz.prog w=.ok (.tuple #[v,x]) w:=by
 rw[results_cell_tmp h,a,hu];simp[asAddr,b]
theorem EW:∀ r:Nat,r < 18->0 < r->0 < (frm r).1:=by decide +kernel
theorem rF{o:Oper}(k q:Nat){off:Nat}{x:Int}(c:o.op=.store 22 (.tmp k) (.tmp q))(b:a.eval (.tmp k)=.pointer (some ⟨g,off,none⟩))(d:a.eval (.tmp q)=.int .u64 x)(hc:w.cell? ⟨g,off,none⟩=some u)(hf:w.frozen? ⟨g,off,none⟩=false) :
  (execOp a.eval o).run Tryz.prog w=.ok .skip (w.setCell ⟨g,off,none⟩ (.int .u64 x)):=by
 simp only[execOp,c,b,d];go_simp
theorem Cr(h:By w (.slice ao n c) l)(hbig:n<=1000000000)(hr:r < 18)(hr0:0 < r)(L:frm r=fIn l) :
  Calls Tryz.prog 76 #[.slice ao n c] w fun e w'=>e=.returned (.tuple #[.agg #[.int .i64 (r:Int),.int .u64 (rdA r l),.int .u64 (rdB l)],.int .i64 0])/\Below w.heap.size w w':=by
 obtain⟨hl,hnc,hcm⟩:=By.lens h;have u1:=fun w' (hB:Below w.heap.size w w')=>uQ (h.keep hB) hl hbig
 have ah:=EW r hr hr0;obtain⟨⟨f0,f1,f2⟩,hf⟩:∃ f,Hid (fIn l=f):=⟨_,rfl⟩
 have hf0:f0=(n:Int):=by have:=hf.out;rw[fIn,hl] at this;cases this;rfl
 subst hf0;rw[hf.out] at u1 L;rw[L] at ah;simp only[fv] at u1 ah;have u2:=fun w'=>ue (w:=w') hr L
 obtain⟨x0,hx0⟩:∃ x,l[0]?=some x:=⟨l[0]'(by omega),List.getElem?_eq_getElem _⟩
 obtain⟨b,o,rfl,_⟩:=By.at h hx0;have HB:=bp h
 have nr:¬ ((r:Int)=0):=by omega
 clear h L hx0;by_cases h8:8 < n
 ·by_cases h16:16 < n
  ·have g8:((8:Int) < n):=by omega
   have P:=fun w=>fK (w:=w) (n:=n) (x:=f1) (y:=f2)
   rw[decide_eq_true g8] at P
   have g16:((16:Int) < n):=by omega
   have R:=fun w=>gG (w:=w) (n:=n) (x:=f1) (y:=f2)
   rw[decide_eq_true g16] at R
   have mA:True:=trivial
   have mB:True:=trivial
   have K:Hid (rdA r l=tn r (bv ((l.drop 1).take 8))):=by show _=_;rw[rdA,if_pos (by omega)]
   have J:Hid (rdB l=bv ((l.drop (n - 8)).take 8)):=by show _=_;rw[rdB,if_pos (by omega)];rw[hl,List.take_of_length_le (by rw[List.length_drop];omega)]
   rw[K.out,J.out];go_enter Tryz.func76,Tryz.ntmps76;go_wp2_with first
    | (go_at_call 123;refine(u1 _ (ae _ _)).mono ?_;rintro e G ⟨rfl,F⟩)
    | (go_at_call 124;refine(u2 _).mono ?_;rintro e s ⟨rfl,H⟩;have al:=ae s (.cells #[.int .i64 (r:Int),.int .u64 0,.int .u64 0] 139);have bf:=aB (ae G (.cells #[.int .i64 (n:Int),.int .u8 f1,.int .u8 f2] 201)) H;have kq2:=(((aE w [.int .i64 0,.int .u64 0,.int .u64 0] 139).keep F).keep bf).keep al;have m:=((aE G [.int .i64 (n:Int),.int .u8 f1,.int .u8 f2] 201).keep H).keep al;have g:=aE s [.int .i64 (r:Int),.int .u64 0,.int .u64 0] 139;have B:=aB (aB (aB (ae w (.cells #[.int .i64 0,.int .u64 0,.int .u64 0] 139)) F) bf) al;have lt1:w.heap.size < G.heap.size:=Nat.lt_of_lt_of_le (by simp) F.size;have lt2:G.heap.size < s.heap.size:=Nat.lt_of_lt_of_le (by simp) H.size;have an:=g.cell (i:=0) rfl;have p1_2:=g.cell (i:=1) rfl;have Z:=g.cell (i:=2) rfl;have g0_2:=m.cell (i:=0) rfl;have T:=m.cell (i:=1) rfl;have g2_2:=m.cell (i:=2) rfl;have ad:=kq2.cell (i:=0) rfl;have Y:=kq2.cell (i:=1) rfl;have ab:=kq2.cell (i:=2) rfl;have aq:=kq2.free 0;have N:=kq2.free 1;have y2_2:=kq2.free 2;have x0_2:=g.free 0;have U:=g.free 1;have x2_2:=g.free 2;replace g:=bp g;replace m:=bp m;replace kq2:=bp kq2;replace B:=bp B;clear F H bf al)
    | (go_at_call 125;have gate:=mA;clear gate;go_must (refine(P _).mono ?_);clear mA;rintro e I ⟨rfl,C⟩;have d:=g.out.keep C;have q:=m.out.keep C;have kq3:=kq2.out.keep C;have v:=aB B.out C;have M:=d.cell (i:=0) rfl;have p1_3:=d.cell (i:=1) rfl;have p2_3:=d.cell (i:=2) rfl;have ap:=q.cell (i:=0) rfl;have g1_3:=q.cell (i:=1) rfl;have ag:=q.cell (i:=2) rfl;have q0_3:=kq3.cell (i:=0) rfl;have aj:=kq3.cell (i:=1) rfl;have q2_3:=kq3.cell (i:=2) rfl;have y0_3:=kq3.free 0;have am:=kq3.free 1;have y2_3:=kq3.free 2;have O:=d.free 0;have X:=d.free 1;have x2_3:=d.free 2;replace d:=bp d;replace q:=bp q;replace kq3:=bp kq3;replace v:=bp v;clear C)
   have hS:I.drew.cell? ⟨s.heap.size,0,none⟩=some (.int .i64 (r:Int)):=d.out.drew.cell rfl;have BY:=(HB.out.keep v.out).drew;have bb:=jP 8 ((l.drop 1).take 8) (fun y hy=>HB.out.oct y (List.mem_of_mem_drop (List.mem_of_mem_take hy))) (by rw[List.length_take,List.length_drop];omega);rw[show (256:Int) ^ 8=18446744073709551616 by decide] at bb;refine bT (S:=fun w'=>w'.cell? ⟨s.heap.size,0,none⟩=some (.int .i64 (r:Int))) (by kernel_rfl) hS ?_
   refine ai 0 (some 17) (.pointer (some ⟨s.heap.size,0,none⟩)) (by kernel_rfl) (fun _ _=>by kernel_rfl) (fun _ _ _ h=>h) hS ?_
   refine aU 1 (some 18) (.int .i64 (r:Int)) 3 17 s.heap.size 0 (by kernel_rfl) (by kernel_rfl) (by kernel_rfl) (fun w' h=>iH h) (fun _ _ _ h=>h) hS ?_
   refine ai 2 (some 19) (.slice (some ⟨b,o,none⟩) n c) (by kernel_rfl) (fun _ _=>by kernel_rfl) (fun _ _ _ h=>h) hS ?_
   refine ai 3 (some 20) (.slice (some ⟨b,o+1,none⟩) (n - 1) (c - 1)) (by kernel_rfl) (fun _ _=>o6 (x:=19) (by kernel_rfl) (by kernel_rfl) (by omega) (by omega) hnc) (fun _ _ _ h=>h) hS ?_
   refine bS 4 (some 21) 127 #[.slice (some ⟨b,o+1,none⟩) (n - 1) (c - 1)] (by kernel_rfl) (by kernel_rfl) (gR (By.drop BY 1 (by omega)) (by rw[List.length_drop];omega) (by omega) (by omega)) ?_
   rintro e' w4 ⟨rfl,rfl⟩;refine⟨_,rfl,hS,?_⟩;refine bS 5 (some 22) 126 #[.int .i64 (r:Int),.int .u64 (bv ((l.drop 1).take 8))] (by kernel_rfl) (by kernel_rfl) (ic bb.1 bb.2) ?_
   rintro e' w5 ⟨rfl,rfl⟩;refine⟨.int .u64 (tn r (bv ((l.drop 1).take 8))),rfl,hS,?_⟩;refine ai 6 (some 23) (.pointer (some ⟨s.heap.size,1,none⟩)) (by kernel_rfl) (fun _ _=>by kernel_rfl) (fun _ _ _ h=>h) hS ?_
   refine aN [7] (by kernel_rfl) (by simp) (dD 7 (I.drew.setCell ⟨s.heap.size,1,none⟩ (.int .u64 (tn r (bv ((l.drop 1).take 8))))) (by kernel_rfl) (rF 23 22 (by kernel_rfl) (by kernel_rfl) (by kernel_rfl) (d.out.drew.cell (i:=1) rfl) (d.out.drew.free 1)) ((d.out.drew.setCell (i:=1) _).cell (i:=0) rfl) ?_ bj);refine bQ (by kernel_rfl) ?_
   simp only[Act.put,List.setIfInBounds_toArray,List.set_cons_zero,List.set_cons_succ]
   have t:Blk (I.drew.setCell ⟨s.heap.size,1,none⟩ (.int .u64 (tn r (bv ((l.drop 1).take 8))))) s.heap.size [.int .i64 (r:Int),.int .u64 (tn r (bv ((l.drop 1).take 8))),.int .u64 0] 139:=d.out.drew.setCell (i:=1) _;have z:=q.out.drew.off (g':=s.heap.size) (by omega) (i:=1) (.int .u64 (tn r (bv ((l.drop 1).take 8))));have kq5:=kq3.out.drew.off (g':=s.heap.size) (by omega) (i:=1) (.int .u64 (tn r (bv ((l.drop 1).take 8))));have E:=(aB v.out (cC I)).setCell (p:=⟨s.heap.size,1,none⟩) (show w.heap.size<=s.heap.size by omega) (.int .u64 (tn r (bv ((l.drop 1).take 8))));generalize hX5:I.drew.setCell ⟨s.heap.size,1,none⟩ (.int .u64 (tn r (bv ((l.drop 1).take 8))))=X5 at *;clear hX5;generalize hAV:tn r (bv ((l.drop 1).take 8))=AV at *;have HAV:=bp hAV;clear hAV;have p0_5:=t.cell (i:=0) rfl;have p1_5:=t.cell (i:=1) rfl;have p2_5:=t.cell (i:=2) rfl;have g0_5:=z.cell (i:=0) rfl;have g1_5:=z.cell (i:=1) rfl;have g2_5:=z.cell (i:=2) rfl;have q0_5:=kq5.cell (i:=0) rfl;have q1_5:=kq5.cell (i:=1) rfl;have q2_5:=kq5.cell (i:=2) rfl;have y0_5:=kq5.free 0;have y1_5:=kq5.free 1;have y2_5:=kq5.free 2;have x0_5:=t.free 0;have x1_5:=t.free 1;have x2_5:=t.free 2;replace t:=bp t;replace z:=bp z;replace kq5:=bp kq5;replace E:=bp E;clear BY bb hS;have HB8:=bp HB.out;go_wp2_with first
    | (go_at_call 128;have gate:=mB;clear gate;go_must (refine(R _).mono ?_);clear mB;rintro e w6 ⟨rfl,D⟩;have j:=t.out.keep D;have u:=z.out.keep D;have kq6:=kq5.out.keep D;have A:=aB E.out D;have p0_6:=j.cell (i:=0) rfl;have p1_6:=j.cell (i:=1) rfl;have ac:=j.cell (i:=2) rfl;have V:=u.cell (i:=0) rfl;have W:=u.cell (i:=1) rfl;have Q:=u.cell (i:=2) rfl;have ak:=kq6.cell (i:=0) rfl;have q1_6:=kq6.cell (i:=1) rfl;have q2_6:=kq6.cell (i:=2) rfl;have y0_6:=kq6.free 0;have y1_6:=kq6.free 1;have aa:=kq6.free 2;have x0_6:=j.free 0;have x1_6:=j.free 1;have af:=j.free 2;replace j:=bp j;replace u:=bp u;replace kq6:=bp kq6;replace A:=bp A;clear D)
    | (go_at_call 127;refine(gR (By.drop (HB8.out.keep A.out) (n - 8) (by omega)) (by rw[List.length_drop];omega) (by omega) (by omega)).mono ?_;rintro e w7 ⟨rfl,rfl⟩)
   refine bodyPost_ret (gV rfl rfl rfl (uo (xu (kq6.out.off (g':=s.heap.size) (by omega) (i:=2) _) _ _ _))) rfl ?_
   refine⟨?_,kO (A.out.setCell (p:=⟨s.heap.size,2,none⟩) (show w.heap.size<=s.heap.size by omega) _) _ _ _⟩
   show Ending.returned (.tuple #[.agg #[.int .i64 (r:Int),.int .u64 AV,.int .u64 (bv ((l.drop (n - 8)).take 8))],.int .i64 0])=_
   rw[<- HAV.out]
  ·have g8:((8:Int) < n):=by omega
   have P:=fun w=>fK (w:=w) (n:=n) (x:=f1) (y:=f2)
   rw[decide_eq_true g8] at P
   have g16:¬ ((16:Int) < n):=by omega
   have R:=fun w=>gG (w:=w) (n:=n) (x:=f1) (y:=f2)
   rw[decide_eq_false g16] at R
   have mA:True:=trivial
   have mB:True:=trivial
   have K:Hid (rdA r l=tn r (bv ((l.drop 1).take 8))):=by show _=_;rw[rdA,if_pos (by omega)]
   have J:Hid (rdB l=0):=by show _=_;rw[rdB,if_neg (by omega)]
   rw[K.out,J.out];go_enter Tryz.func76,Tryz.ntmps76;go_wp2_with first
    | (go_at_call 123;refine(u1 _ (ae _ _)).mono ?_;rintro e G ⟨rfl,F⟩)
    | (go_at_call 124;refine(u2 _).mono ?_;rintro e s ⟨rfl,H⟩;have al:=ae s (.cells #[.int .i64 (r:Int),.int .u64 0,.int .u64 0] 139);have bf:=aB (ae G (.cells #[.int .i64 (n:Int),.int .u8 f1,.int .u8 f2] 201)) H;have kq2:=(((aE w [.int .i64 0,.int .u64 0,.int .u64 0] 139).keep F).keep bf).keep al;have m:=((aE G [.int .i64 (n:Int),.int .u8 f1,.int .u8 f2] 201).keep H).keep al;have g:=aE s [.int .i64 (r:Int),.int .u64 0,.int .u64 0] 139;have B:=aB (aB (aB (ae w (.cells #[.int .i64 0,.int .u64 0,.int .u64 0] 139)) F) bf) al;have lt1:w.heap.size < G.heap.size:=Nat.lt_of_lt_of_le (by simp) F.size;have lt2:G.heap.size < s.heap.size:=Nat.lt_of_lt_of_le (by simp) H.size;have an:=g.cell (i:=0) rfl;have p1_2:=g.cell (i:=1) rfl;have Z:=g.cell (i:=2) rfl;have g0_2:=m.cell (i:=0) rfl;have T:=m.cell (i:=1) rfl;have g2_2:=m.cell (i:=2) rfl;have ad:=kq2.cell (i:=0) rfl;have Y:=kq2.cell (i:=1) rfl;have ab:=kq2.cell (i:=2) rfl;have aq:=kq2.free 0;have N:=kq2.free 1;have y2_2:=kq2.free 2;have x0_2:=g.free 0;have U:=g.free 1;have x2_2:=g.free 2;replace g:=bp g;replace m:=bp m;replace kq2:=bp kq2;replace B:=bp B;clear F H bf al)
    | (go_at_call 125;have gate:=mA;clear gate;go_must (refine(P _).mono ?_);clear mA;rintro e I ⟨rfl,C⟩;have d:=g.out.keep C;have q:=m.out.keep C;have kq3:=kq2.out.keep C;have v:=aB B.out C;have M:=d.cell (i:=0) rfl;have p1_3:=d.cell (i:=1) rfl;have p2_3:=d.cell (i:=2) rfl;have ap:=q.cell (i:=0) rfl;have g1_3:=q.cell (i:=1) rfl;have ag:=q.cell (i:=2) rfl;have q0_3:=kq3.cell (i:=0) rfl;have aj:=kq3.cell (i:=1) rfl;have q2_3:=kq3.cell (i:=2) rfl;have y0_3:=kq3.free 0;have am:=kq3.free 1;have y2_3:=kq3.free 2;have O:=d.free 0;have X:=d.free 1;have x2_3:=d.free 2;replace d:=bp d;replace q:=bp q;replace kq3:=bp kq3;replace v:=bp v;clear C)
   have hS:I.drew.cell? ⟨s.heap.size,0,none⟩=some (.int .i64 (r:Int)):=d.out.drew.cell rfl;have BY:=(HB.out.keep v.out).drew;have bb:=jP 8 ((l.drop 1).take 8) (fun y hy=>HB.out.oct y (List.mem_of_mem_drop (List.mem_of_mem_take hy))) (by rw[List.length_take,List.length_drop];omega);rw[show (256:Int) ^ 8=18446744073709551616 by decide] at bb;refine bT (S:=fun w'=>w'.cell? ⟨s.heap.size,0,none⟩=some (.int .i64 (r:Int))) (by kernel_rfl) hS ?_
   refine ai 0 (some 17) (.pointer (some ⟨s.heap.size,0,none⟩)) (by kernel_rfl) (fun _ _=>by kernel_rfl) (fun _ _ _ h=>h) hS ?_
   refine aU 1 (some 18) (.int .i64 (r:Int)) 3 17 s.heap.size 0 (by kernel_rfl) (by kernel_rfl) (by kernel_rfl) (fun w' h=>iH h) (fun _ _ _ h=>h) hS ?_
   refine ai 2 (some 19) (.slice (some ⟨b,o,none⟩) n c) (by kernel_rfl) (fun _ _=>by kernel_rfl) (fun _ _ _ h=>h) hS ?_
   refine ai 3 (some 20) (.slice (some ⟨b,o+1,none⟩) (n - 1) (c - 1)) (by kernel_rfl) (fun _ _=>o6 (x:=19) (by kernel_rfl) (by kernel_rfl) (by omega) (by omega) hnc) (fun _ _ _ h=>h) hS ?_
   refine bS 4 (some 21) 127 #[.slice (some ⟨b,o+1,none⟩) (n - 1) (c - 1)] (by kernel_rfl) (by kernel_rfl) (gR (By.drop BY 1 (by omega)) (by rw[List.length_drop];omega) (by omega) (by omega)) ?_
   rintro e' w4 ⟨rfl,rfl⟩;refine⟨_,rfl,hS,?_⟩;refine bS 5 (some 22) 126 #[.int .i64 (r:Int),.int .u64 (bv ((l.drop 1).take 8))] (by kernel_rfl) (by kernel_rfl) (ic bb.1 bb.2) ?_
   rintro e' w5 ⟨rfl,rfl⟩;refine⟨.int .u64 (tn r (bv ((l.drop 1).take 8))),rfl,hS,?_⟩;refine ai 6 (some 23) (.pointer (some ⟨s.heap.size,1,none⟩)) (by kernel_rfl) (fun _ _=>by kernel_rfl) (fun _ _ _ h=>h) hS ?_
   refine aN [7] (by kernel_rfl) (by simp) (dD 7 (I.drew.setCell ⟨s.heap.size,1,none⟩ (.int .u64 (tn r (bv ((l.drop 1).take 8))))) (by kernel_rfl) (rF 23 22 (by kernel_rfl) (by kernel_rfl) (by kernel_rfl) (d.out.drew.cell (i:=1) rfl) (d.out.drew.free 1)) ((d.out.drew.setCell (i:=1) _).cell (i:=0) rfl) ?_ bj);refine bQ (by kernel_rfl) ?_
   simp only[Act.put,List.setIfInBounds_toArray,List.set_cons_zero,List.set_cons_succ]
   have t:Blk (I.drew.setCell ⟨s.heap.size,1,none⟩ (.int .u64 (tn r (bv ((l.drop 1).take 8))))) s.heap.size [.int .i64 (r:Int),.int .u64 (tn r (bv ((l.drop 1).take 8))),.int .u64 0] 139:=d.out.drew.setCell (i:=1) _;have z:=q.out.drew.off (g':=s.heap.size) (by omega) (i:=1) (.int .u64 (tn r (bv ((l.drop 1).take 8))));have kq5:=kq3.out.drew.off (g':=s.heap.size) (by omega) (i:=1) (.int .u64 (tn r (bv ((l.drop 1).take 8))));have E:=(aB v.out (cC I)).setCell (p:=⟨s.heap.size,1,none⟩) (show w.heap.size<=s.heap.size by omega) (.int .u64 (tn r (bv ((l.drop 1).take 8))));generalize hX5:I.drew.setCell ⟨s.heap.size,1,none⟩ (.int .u64 (tn r (bv ((l.drop 1).take 8))))=X5 at *;clear hX5;generalize hAV:tn r (bv ((l.drop 1).take 8))=AV at *;have HAV:=bp hAV;clear hAV;have p0_5:=t.cell (i:=0) rfl;have p1_5:=t.cell (i:=1) rfl;have p2_5:=t.cell (i:=2) rfl;have g0_5:=z.cell (i:=0) rfl;have g1_5:=z.cell (i:=1) rfl;have g2_5:=z.cell (i:=2) rfl;have q0_5:=kq5.cell (i:=0) rfl;have q1_5:=kq5.cell (i:=1) rfl;have q2_5:=kq5.cell (i:=2) rfl;have y0_5:=kq5.free 0;have y1_5:=kq5.free 1;have y2_5:=kq5.free 2;have x0_5:=t.free 0;have x1_5:=t.free 1;have x2_5:=t.free 2;replace t:=bp t;replace z:=bp z;replace kq5:=bp kq5;replace E:=bp E;clear BY bb hS;go_wp2_with (go_at_call 128;have gate:=mB;clear gate;go_must (refine(R _).mono ?_);clear mB;rintro e w6 ⟨rfl,D⟩;have j:=t.out.keep D;have u:=z.out.keep D;have kq6:=kq5.out.keep D;have A:=aB E.out D;have p0_6:=j.cell (i:=0) rfl;have p1_6:=j.cell (i:=1) rfl;have ac:=j.cell (i:=2) rfl;have V:=u.cell (i:=0) rfl;have W:=u.cell (i:=1) rfl;have Q:=u.cell (i:=2) rfl;have ak:=kq6.cell (i:=0) rfl;have q1_6:=kq6.cell (i:=1) rfl;have q2_6:=kq6.cell (i:=2) rfl;have y0_6:=kq6.free 0;have y1_6:=kq6.free 1;have aa:=kq6.free 2;have x0_6:=j.free 0;have x1_6:=j.free 1;have af:=j.free 2;replace j:=bp j;replace u:=bp u;replace kq6:=bp kq6;replace A:=bp A;clear D);refine bodyPost_ret (gV rfl rfl rfl (uo (xu kq6.out _ _ _))) rfl ?_
   refine⟨?_,kO A.out _ _ _⟩
   show Ending.returned (.tuple #[.agg #[.int .i64 (r:Int),.int .u64 AV,.int .u64 0],.int .i64 0])=_
   rw[<- HAV.out]
 ·have g8:¬ ((8:Int) < n):=by omega
  have P:=fun w=>fK (w:=w) (n:=n) (x:=f1) (y:=f2)
  rw[decide_eq_false g8] at P
  have g16:¬ ((16:Int) < n):=by omega
  have R:=fun w=>gG (w:=w) (n:=n) (x:=f1) (y:=f2)
  rw[decide_eq_false g16] at R
  have mA:True:=trivial
  have mB:True:=trivial
  have K:Hid (rdA r l=0):=by show _=_;rw[rdA,if_neg (by omega)]
  have J:Hid (rdB l=0):=by show _=_;rw[rdB,if_neg (by omega)]
  rw[K.out,J.out];go_enter Tryz.func76,Tryz.ntmps76;go_wp2_with first
   | (go_at_call 123;refine(u1 _ (ae _ _)).mono ?_;rintro e G ⟨rfl,F⟩)
   | (go_at_call 124;refine(u2 _).mono ?_;rintro e s ⟨rfl,H⟩;have al:=ae s (.cells #[.int .i64 (r:Int),.int .u64 0,.int .u64 0] 139);have bf:=aB (ae G (.cells #[.int .i64 (n:Int),.int .u8 f1,.int .u8 f2] 201)) H;have kq2:=(((aE w [.int .i64 0,.int .u64 0,.int .u64 0] 139).keep F).keep bf).keep al;have m:=((aE G [.int .i64 (n:Int),.int .u8 f1,.int .u8 f2] 201).keep H).keep al;have g:=aE s [.int .i64 (r:Int),.int .u64 0,.int .u64 0] 139;have B:=aB (aB (aB (ae w (.cells #[.int .i64 0,.int .u64 0,.int .u64 0] 139)) F) bf) al;have lt1:w.heap.size < G.heap.size:=Nat.lt_of_lt_of_le (by simp) F.size;have lt2:G.heap.size < s.heap.size:=Nat.lt_of_lt_of_le (by simp) H.size;have an:=g.cell (i:=0) rfl;have p1_2:=g.cell (i:=1) rfl;have Z:=g.cell (i:=2) rfl;have g0_2:=m.cell (i:=0) rfl;have T:=m.cell (i:=1) rfl;have g2_2:=m.cell (i:=2) rfl;have ad:=kq2.cell (i:=0) rfl;have Y:=kq2.cell (i:=1) rfl;have ab:=kq2.cell (i:=2) rfl;have aq:=kq2.free 0;have N:=kq2.free 1;have y2_2:=kq2.free 2;have x0_2:=g.free 0;have U:=g.free 1;have x2_2:=g.free 2;replace g:=bp g;replace m:=bp m;replace kq2:=bp kq2;replace B:=bp B;clear F H bf al)
   | (go_at_call 125;have gate:=mA;clear gate;go_must (refine(P _).mono ?_);clear mA;rintro e I ⟨rfl,C⟩;have d:=g.out.keep C;have q:=m.out.keep C;have kq3:=kq2.out.keep C;have v:=aB B.out C;have M:=d.cell (i:=0) rfl;have p1_3:=d.cell (i:=1) rfl;have p2_3:=d.cell (i:=2) rfl;have ap:=q.cell (i:=0) rfl;have g1_3:=q.cell (i:=1) rfl;have ag:=q.cell (i:=2) rfl;have q0_3:=kq3.cell (i:=0) rfl;have aj:=kq3.cell (i:=1) rfl;have q2_3:=kq3.cell (i:=2) rfl;have y0_3:=kq3.free 0;have am:=kq3.free 1;have y2_3:=kq3.free 2;have O:=d.free 0;have X:=d.free 1;have x2_3:=d.free 2;replace d:=bp d;replace q:=bp q;replace kq3:=bp kq3;replace v:=bp v;clear C)
   | (go_at_call 128;have gate:=mB;clear gate;go_must (refine(R _).mono ?_);clear mB;rintro e w6 ⟨rfl,D⟩;have j:=d.out.keep D;have u:=q.out.keep D;have kq6:=kq3.out.keep D;have A:=aB v.out D;have p0_6:=j.cell (i:=0) rfl;have p1_6:=j.cell (i:=1) rfl;have ac:=j.cell (i:=2) rfl;have V:=u.cell (i:=0) rfl;have W:=u.cell (i:=1) rfl;have Q:=u.cell (i:=2) rfl;have ak:=kq6.cell (i:=0) rfl;have q1_6:=kq6.cell (i:=1) rfl;have q2_6:=kq6.cell (i:=2) rfl;have y0_6:=kq6.free 0;have y1_6:=kq6.free 1;have aa:=kq6.free 2;have x0_6:=j.free 0;have x1_6:=j.free 1;have af:=j.free 2;replace j:=bp j;replace u:=bp u;replace kq6:=bp kq6;replace A:=bp A;clear D)
  refine bodyPost_ret (gV rfl rfl rfl (uo (xu kq6.out _ _ _))) rfl ?_
  refine⟨?_,kO A.out _ _ _⟩;rfl
end
end Ky
end
end Go.Proofs.YtjejmkcjflhoiaaGreatDoor
