import Derived.Test.YtjejmkcjflhoiaaGreatDoorJai
import Derived.Test.YtjejmkcjflhoiaaGreatDoorJag
import Derived.Laws.Rows
import Derived.Laws.ResultCell
import Derived.Deep.WholeRow
import Derived.Laws.Bits64
import Derived.Test.YtjejmkcjflhoiaaGreatDoorJaf
import Derived.Laws.MakeOwn
import Derived.Laws.BitsLemmas
set_option maxRecDepth 100000
set_option maxHeartbeats 8000000
namespace Go.Proofs.YtjejmkcjflhoiaaGreatDoor
section
namespace Ky
open Go.RowKit Go.Lib Pg
attribute [local go_sem] Oper.semAt_some
def frms:List (Int × Int × Int):=[(0,0,0),(1,112,0),(1,99,0),(1,109,0),(9,97,0),(10,118,48),(18,118,100),(18,118,104),(18,118,115),(9,116,0),(17,105,0),(9,98,0),(9,117,0),(9,114,0),(17,113,0),(17,101,0),(17,110,0),(17,107,0)]
def frm (k:Int):Int × Int × Int:=if 0<=k/\k < 18 then frms.getD k.toNat (0,0,0) else (0,0,0)
def fv (f:Int × Int × Int):Value:=.agg #[.int .i64 f.1,.int .u8 f.2.1,.int .u8 f.2.2]
def gJ:List Value:=[.int .i64 0,.int .u8 0,.int .u8 0,.int .i64 1,.int .u8 112,.int .u8 0,.int .i64 1,.int .u8 99,.int .u8 0,.int .i64 1,.int .u8 109,.int .u8 0,.int .i64 9,.int .u8 97,.int .u8 0,.int .i64 10,.int .u8 118,.int .u8 48,.int .i64 18,.int .u8 118,.int .u8 100,.int .i64 18,.int .u8 118,.int .u8 104,.int .i64 18,.int .u8 118,.int .u8 115,.int .i64 9,.int .u8 116,.int .u8 0,.int .i64 17,.int .u8 105,.int .u8 0,.int .i64 9,.int .u8 98,.int .u8 0,.int .i64 9,.int .u8 117,.int .u8 0,.int .i64 9,.int .u8 114,.int .u8 0,.int .i64 17,.int .u8 113,.int .u8 0,.int .i64 17,.int .u8 101,.int .u8 0,.int .i64 17,.int .u8 110,.int .u8 0,.int .i64 17,.int .u8 107,.int .u8 0]
section
variable {ops:Array Oper} {rest:List Oper} {o:Oper} {a:Act} {w w1:World} {Q:Exit->Act->World->Prop}
section
variable {c c':Array Value}
theorem qR(d:Option Tmp)(v:Value)(b:o.guard=none)(hd:o.dst=d)(hrun:(execOp a.eval o).run Tryz.prog w=.ok (.value v) w1)(h:wpList Tryz.prog ops Q rest (a.put d v) w1):wpList Tryz.prog ops Q (o :: rest) a w :=
 wpList_plain b fun K c=>by
  unfold Oper.wp;rw[hrun];subst hd;exact c _ _ h
theorem bh(d:Option Tmp)(v:Value)(b:o.guard=none)(hd:o.dst=d)(hrun:(execOp a.eval o).run Tryz.prog w=.ok (.value v) w)(h:wpList Tryz.prog ops Q rest (a.put d v) w):wpList Tryz.prog ops Q (o :: rest) a w:=qR d v b hd hrun h
theorem wJ(b:o.guard=none)(hd:o.dst=none)(hrun:(execOp a.eval o).run Tryz.prog w=.ok .skip w1)(h:wpList Tryz.prog ops Q rest (a.put none undef) w1):wpList Tryz.prog ops Q (o :: rest) a w :=
 wpList_plain b fun K c=>by
  unfold Oper.wp;rw[hrun]
  show K (a.put o.dst undef) w1
  rw[hd];exact c _ _ h
theorem oG{t:TypeId}{k q:Nat}(f:o.op=.store t (.tmp k) (.tmp q))(e:a.eval (.tmp k)=.pointer (some ⟨w.heap.size,0,none⟩))(d:a.eval (.tmp q)=.agg c')(hi:(Tryz.prog.info? t).map (·.size)=some c'.size)(hs:c.size=c'.size)(b:c'.all (·.oneCell')=true):(execOp a.eval o).run Tryz.prog (w.alloc (.cells c t))=.ok .skip (w.alloc (.cells c' t)):=by
 simp only[execOp,f,e,d,Sem.run_bind,run_storeAt_new w t c c' hi hs b,Result.andThen_ok,Sem.run_pure]
end
end
theorem pr {w:World}:Calls Tryz.prog 172 #[] w fun e w'=>e=.returned (.agg #[.int .i64 0,.int .u8 0,.int .u8 0,.int .i64 1,.int .u8 112,.int .u8 0,.int .i64 1,.int .u8 99,.int .u8 0,.int .i64 1,.int .u8 109,.int .u8 0,.int .i64 9,.int .u8 97,.int .u8 0,.int .i64 10,.int .u8 118,.int .u8 48,.int .i64 18,.int .u8 118,.int .u8 100,.int .i64 18,.int .u8 118,.int .u8 104,.int .i64 18,.int .u8 118,.int .u8 115,.int .i64 9,.int .u8 116,.int .u8 0,.int .i64 17,.int .u8 105,.int .u8 0,.int .i64 9,.int .u8 98,.int .u8 0,.int .i64 9,.int .u8 117,.int .u8 0,.int .i64 9,.int .u8 114,.int .u8 0,.int .i64 17,.int .u8 113,.int .u8 0,.int .i64 17,.int .u8 101,.int .u8 0,.int .i64 17,.int .u8 110,.int .u8 0,.int .i64 17,.int .u8 107,.int .u8 0])/\Below w.heap.size w w':=by
 go_enter Tryz.func172,Tryz.ntmps172;refine wp_seq ?_
 refine wp_region_lit ?_
 refine qR (some 0) (.pointer (some ⟨w.heap.size,0,none⟩)) rfl rfl (w1:=w.alloc (.cells #[.int .i64 0,.int .u8 0,.int .u8 0,.int .i64 0,.int .u8 0,.int .u8 0,.int .i64 0,.int .u8 0,.int .u8 0,.int .i64 0,.int .u8 0,.int .u8 0,.int .i64 0,.int .u8 0,.int .u8 0,.int .i64 0,.int .u8 0,.int .u8 0,.int .i64 0,.int .u8 0,.int .u8 0,.int .i64 0,.int .u8 0,.int .u8 0,.int .i64 0,.int .u8 0,.int .u8 0,.int .i64 0,.int .u8 0,.int .u8 0,.int .i64 0,.int .u8 0,.int .u8 0,.int .i64 0,.int .u8 0,.int .u8 0,.int .i64 0,.int .u8 0,.int .u8 0,.int .i64 0,.int .u8 0,.int .u8 0,.int .i64 0,.int .u8 0,.int .u8 0,.int .i64 0,.int .u8 0,.int .u8 0,.int .i64 0,.int .u8 0,.int .u8 0,.int .i64 0,.int .u8 0,.int .u8 0] 252)) (by kernel_rfl) ?_
 refine wpList_nil ?_
 refine wp_seq (x:=Code.region 1 _ false) ?_
 refine wp_region_lit ?_
 refine bh (some 1) (.agg #[.int .u8 112,.int .u8 0]) rfl rfl (by kernel_rfl) ?_
 refine bh (some 2) (.agg #[.int .i64 1,.int .u8 112,.int .u8 0]) rfl rfl (by kernel_rfl) ?_
 refine bh (some 3) (.agg #[.int .u8 99,.int .u8 0]) rfl rfl (by kernel_rfl) ?_
 refine bh (some 4) (.agg #[.int .i64 1,.int .u8 99,.int .u8 0]) rfl rfl (by kernel_rfl) ?_
 refine bh (some 5) (.agg #[.int .u8 109,.int .u8 0]) rfl rfl (by kernel_rfl) ?_
 refine bh (some 6) (.agg #[.int .i64 1,.int .u8 109,.int .u8 0]) rfl rfl (by kernel_rfl) ?_
 refine bh (some 7) (.agg #[.int .u8 97,.int .u8 0]) rfl rfl (by kernel_rfl) ?_
 refine bh (some 8) (.agg #[.int .i64 9,.int .u8 97,.int .u8 0]) rfl rfl (by kernel_rfl) ?_
 refine bh (some 9) (.agg #[.int .u8 118,.int .u8 48]) rfl rfl (by kernel_rfl) ?_
 refine bh (some 10) (.agg #[.int .i64 10,.int .u8 118,.int .u8 48]) rfl rfl (by kernel_rfl) ?_
 refine bh (some 11) (.agg #[.int .u8 118,.int .u8 100]) rfl rfl (by kernel_rfl) ?_
 refine bh (some 12) (.agg #[.int .i64 18,.int .u8 118,.int .u8 100]) rfl rfl (by kernel_rfl) ?_
 refine bh (some 13) (.agg #[.int .u8 118,.int .u8 104]) rfl rfl (by kernel_rfl) ?_
 refine bh (some 14) (.agg #[.int .i64 18,.int .u8 118,.int .u8 104]) rfl rfl (by kernel_rfl) ?_
 refine bh (some 15) (.agg #[.int .u8 118,.int .u8 115]) rfl rfl (by kernel_rfl) ?_
 refine bh (some 16) (.agg #[.int .i64 18,.int .u8 118,.int .u8 115]) rfl rfl (by kernel_rfl) ?_
 refine bh (some 17) (.agg #[.int .u8 116,.int .u8 0]) rfl rfl (by kernel_rfl) ?_
 refine bh (some 18) (.agg #[.int .i64 9,.int .u8 116,.int .u8 0]) rfl rfl (by kernel_rfl) ?_
 refine bh (some 19) (.agg #[.int .u8 105,.int .u8 0]) rfl rfl (by kernel_rfl) ?_
 refine bh (some 20) (.agg #[.int .i64 17,.int .u8 105,.int .u8 0]) rfl rfl (by kernel_rfl) ?_
 refine bh (some 21) (.agg #[.int .u8 98,.int .u8 0]) rfl rfl (by kernel_rfl) ?_
 refine bh (some 22) (.agg #[.int .i64 9,.int .u8 98,.int .u8 0]) rfl rfl (by kernel_rfl) ?_
 refine bh (some 23) (.agg #[.int .u8 117,.int .u8 0]) rfl rfl (by kernel_rfl) ?_
 refine bh (some 24) (.agg #[.int .i64 9,.int .u8 117,.int .u8 0]) rfl rfl (by kernel_rfl) ?_
 refine bh (some 25) (.agg #[.int .u8 114,.int .u8 0]) rfl rfl (by kernel_rfl) ?_
 refine bh (some 26) (.agg #[.int .i64 9,.int .u8 114,.int .u8 0]) rfl rfl (by kernel_rfl) ?_
 refine bh (some 27) (.agg #[.int .u8 113,.int .u8 0]) rfl rfl (by kernel_rfl) ?_
 refine bh (some 28) (.agg #[.int .i64 17,.int .u8 113,.int .u8 0]) rfl rfl (by kernel_rfl) ?_
 refine bh (some 29) (.agg #[.int .u8 101,.int .u8 0]) rfl rfl (by kernel_rfl) ?_
 refine bh (some 30) (.agg #[.int .i64 17,.int .u8 101,.int .u8 0]) rfl rfl (by kernel_rfl) ?_
 refine bh (some 31) (.agg #[.int .u8 110,.int .u8 0]) rfl rfl (by kernel_rfl) ?_
 refine bh (some 32) (.agg #[.int .i64 17,.int .u8 110,.int .u8 0]) rfl rfl (by kernel_rfl) ?_
 refine bh (some 33) (.agg #[.int .u8 107,.int .u8 0]) rfl rfl (by kernel_rfl) ?_
 refine bh (some 34) (.agg #[.int .i64 17,.int .u8 107,.int .u8 0]) rfl rfl (by kernel_rfl) ?_
 refine bh (some 35) (.agg #[.int .i64 0,.int .u8 0,.int .u8 0,.int .i64 1,.int .u8 112,.int .u8 0,.int .i64 1,.int .u8 99,.int .u8 0,.int .i64 1,.int .u8 109,.int .u8 0,.int .i64 9,.int .u8 97,.int .u8 0,.int .i64 10,.int .u8 118,.int .u8 48,.int .i64 18,.int .u8 118,.int .u8 100,.int .i64 18,.int .u8 118,.int .u8 104,.int .i64 18,.int .u8 118,.int .u8 115,.int .i64 9,.int .u8 116,.int .u8 0,.int .i64 17,.int .u8 105,.int .u8 0,.int .i64 9,.int .u8 98,.int .u8 0,.int .i64 9,.int .u8 117,.int .u8 0,.int .i64 9,.int .u8 114,.int .u8 0,.int .i64 17,.int .u8 113,.int .u8 0,.int .i64 17,.int .u8 101,.int .u8 0,.int .i64 17,.int .u8 110,.int .u8 0,.int .i64 17,.int .u8 107,.int .u8 0]) rfl rfl (by kernel_rfl) ?_
 refine wJ rfl rfl (oG (k:=0) (q:=35) (c':=#[.int .i64 0,.int .u8 0,.int .u8 0,.int .i64 1,.int .u8 112,.int .u8 0,.int .i64 1,.int .u8 99,.int .u8 0,.int .i64 1,.int .u8 109,.int .u8 0,.int .i64 9,.int .u8 97,.int .u8 0,.int .i64 10,.int .u8 118,.int .u8 48,.int .i64 18,.int .u8 118,.int .u8 100,.int .i64 18,.int .u8 118,.int .u8 104,.int .i64 18,.int .u8 118,.int .u8 115,.int .i64 9,.int .u8 116,.int .u8 0,.int .i64 17,.int .u8 105,.int .u8 0,.int .i64 9,.int .u8 98,.int .u8 0,.int .i64 9,.int .u8 117,.int .u8 0,.int .i64 9,.int .u8 114,.int .u8 0,.int .i64 17,.int .u8 113,.int .u8 0,.int .i64 17,.int .u8 101,.int .u8 0,.int .i64 17,.int .u8 110,.int .u8 0,.int .i64 17,.int .u8 107,.int .u8 0]) (by kernel_rfl) (by kernel_rfl) (by kernel_rfl) (by kernel_rfl) rfl (by kernel_rfl)) ?_
 refine wpList_nil ?_
 refine wp_ret ?_
 refine bodyPost_ret (results_cell_row rfl _ _ w.heap.size 252 _ _ (.array 18 201) (by kernel_rfl) (heap_alloc_new _ _) (by kernel_rfl) rfl (by kernel_rfl)) rfl ?_
 exact⟨rfl,ae _ _⟩
end Ky
end
section
namespace Ky
open Go.RowKit Go.Lib Pg
attribute [local go_sem] Oper.semAt_some
section
variable {ops:Array Oper} {rest:List Oper} {o:Oper} {a:Act} {w w1:World} {Q:Exit->Act->World->Prop}
theorem Ee (d:Option Tmp) (f:FuncId) (args:Array Value) (g:o.guard=none) (hd:o.dst=d) (hrun:(execOp a.eval o).run Tryz.prog w=.ok (.enter f args) w) {b:Ending->World->Prop} (hc:Calls Tryz.prog f args w b) (h:∀ e w',b e w'->∃ v,e=.returned v/\wpList Tryz.prog ops Q rest (a.put d v) w'):wpList Tryz.prog ops Q (o :: rest) a w :=
 wpList_plain g fun K i=>by
  unfold Oper.wp;rw[hrun,Oper.upon_enter];refine hc.mono ?_
  intro e w' c;obtain⟨v,rfl,hv⟩:=h e w' c;subst hd;exact i _ _ hv
end
section
variable {w:World}{g:Nat}{tmps:Array Value}{v:Value}
theorem ba{p:Prop}(h:p):Hid p:=h
theorem mE:gJ.toArray=#[.int .i64 0,.int .u8 0,.int .u8 0,.int .i64 1,.int .u8 112,.int .u8 0,.int .i64 1,.int .u8 99,.int .u8 0,.int .i64 1,.int .u8 109,.int .u8 0,.int .i64 9,.int .u8 97,.int .u8 0,.int .i64 10,.int .u8 118,.int .u8 48,.int .i64 18,.int .u8 118,.int .u8 100,.int .i64 18,.int .u8 118,.int .u8 104,.int .i64 18,.int .u8 118,.int .u8 115,.int .i64 9,.int .u8 116,.int .u8 0,.int .i64 17,.int .u8 105,.int .u8 0,.int .i64 9,.int .u8 98,.int .u8 0,.int .i64 9,.int .u8 117,.int .u8 0,.int .i64 9,.int .u8 114,.int .u8 0,.int .i64 17,.int .u8 113,.int .u8 0,.int .i64 17,.int .u8 101,.int .u8 0,.int .i64 17,.int .u8 110,.int .u8 0,.int .i64 17,.int .u8 107,.int .u8 0]:=rfl
theorem rM:∀ k:Nat,k < 18->gJ[k * 3]?=some (.int .i64 (frm k).1)/\gJ[k * 3+1]?=some (.int .u8 (frm k).2.1)/\gJ[k * 3+2]?=some (.int .u8 (frm k).2.2):=by
 intro k a
 match k,a with
 | 0,_=>exact⟨rfl,rfl,rfl⟩
 | 1,_=>exact⟨rfl,rfl,rfl⟩
 | 2,_=>exact⟨rfl,rfl,rfl⟩
 | 3,_=>exact⟨rfl,rfl,rfl⟩
 | 4,_=>exact⟨rfl,rfl,rfl⟩
 | 5,_=>exact⟨rfl,rfl,rfl⟩
 | 6,_=>exact⟨rfl,rfl,rfl⟩
 | 7,_=>exact⟨rfl,rfl,rfl⟩
 | 8,_=>exact⟨rfl,rfl,rfl⟩
 | 9,_=>exact⟨rfl,rfl,rfl⟩
 | 10,_=>exact⟨rfl,rfl,rfl⟩
 | 11,_=>exact⟨rfl,rfl,rfl⟩
 | 12,_=>exact⟨rfl,rfl,rfl⟩
 | 13,_=>exact⟨rfl,rfl,rfl⟩
 | 14,_=>exact⟨rfl,rfl,rfl⟩
 | 15,_=>exact⟨rfl,rfl,rfl⟩
 | 16,_=>exact⟨rfl,rfl,rfl⟩
 | 17,_=>exact⟨rfl,rfl,rfl⟩
 | n+18,h=>omega
theorem Bi{k:Nat}(hb:Blk w g gJ 252)(h:k < 18):w.cell? ⟨g,k * 3,none⟩=some (.int .i64 (frm k).1)/\w.cell? ⟨g,k * 3+1,none⟩=some (.int .u8 (frm k).2.1)/\w.cell? ⟨g,k * 3+2,none⟩=some (.int .u8 (frm k).2.2):=by
 obtain⟨a,b,c⟩:=rM k h;exact⟨hb.cell a,hb.cell b,hb.cell c⟩
theorem yz{x0 x1 x2:Value}{t:TypeId}(h:Blk w g [x0,x1,x2] t)(c b a:Value):Blk (((w.setCell ⟨g,0,none⟩ c).setCell ⟨g,1,none⟩ b).setCell ⟨g,2,none⟩ a) g [c,b,a] t:=((h.setCell (i:=0) c).setCell (i:=1) b).setCell (i:=2) a
theorem ow{x y z:Value}(h:Blk w g [x,y,z] 201):(loadVar 201 ⟨g,0,none⟩).run Tryz.prog w=.ok (.agg #[x,y,z]) w:=by
 have c0:=h.cell (i:=0) rfl;have c1:=h.cell (i:=1) rfl;have c2:=h.cell (i:=2) rfl;go_simp
theorem eH{fn:Func}{p:Tmp}{ty:TypeId}(h:fn.results=#[.cell p ty])(c:tmps.getD p undef=.pointer (some ⟨g,0,none⟩))(b:(loadVar ty ⟨g,0,none⟩).run Tryz.prog w=.ok v w):(results fn tmps).run Tryz.prog w=.ok v w:=by
 have a:tmps[p]?.getD undef=.pointer (some ⟨g,0,none⟩):=by simpa using c
 simp[results,h,a,asAddr,b]
theorem kJ{W:World}{r:Nat}(h:Below r w W)(x y z:Value):Below r w (((W.setCell ⟨r,0,none⟩ x).setCell ⟨r,1,none⟩ y).setCell ⟨r,2,none⟩ z) :=
 ((h.setCell (Nat.le_refl _) _).setCell (Nat.le_refl _) _).setCell (Nat.le_refl _) _
theorem og{k:Int}:Calls Tryz.prog 149 #[.int .i64 k] w fun e w'=>e=.returned (fv (frm k))/\Below w.heap.size w w':=by
 go_enter Tryz.func149,Tryz.ntmps149;refine wp_seq ?_
 refine wp_region_lit ?_
 refine qR (some 2) (.pointer (some ⟨w.heap.size,0,none⟩)) rfl rfl (w1:=w.alloc (.cells #[.int .i64 0,.int .u8 0,.int .u8 0] 201)) (by kernel_rfl) ?_
 refine wpList_nil ?_
 refine wp_seq (x:=Code.region 1 _ false) ?_
 refine wp_region_lit ?_
 refine Ee (some 4) 172 #[] rfl rfl (by kernel_rfl) pr ?_
 rintro e w1 ⟨rfl,d⟩;refine⟨_,rfl,?_⟩;refine qR (some 3) (.pointer (some ⟨w1.heap.size,0,none⟩)) rfl rfl (w1:=w1.alloc (.cells #[.int .i64 0,.int .u8 0,.int .u8 0,.int .i64 0,.int .u8 0,.int .u8 0,.int .i64 0,.int .u8 0,.int .u8 0,.int .i64 0,.int .u8 0,.int .u8 0,.int .i64 0,.int .u8 0,.int .u8 0,.int .i64 0,.int .u8 0,.int .u8 0,.int .i64 0,.int .u8 0,.int .u8 0,.int .i64 0,.int .u8 0,.int .u8 0,.int .i64 0,.int .u8 0,.int .u8 0,.int .i64 0,.int .u8 0,.int .u8 0,.int .i64 0,.int .u8 0,.int .u8 0,.int .i64 0,.int .u8 0,.int .u8 0,.int .i64 0,.int .u8 0,.int .u8 0,.int .i64 0,.int .u8 0,.int .u8 0,.int .i64 0,.int .u8 0,.int .u8 0,.int .i64 0,.int .u8 0,.int .u8 0,.int .i64 0,.int .u8 0,.int .u8 0,.int .i64 0,.int .u8 0,.int .u8 0] 252)) (by kernel_rfl) ?_
 refine wJ rfl rfl (oG (k:=3) (q:=4) (c':=#[.int .i64 0,.int .u8 0,.int .u8 0,.int .i64 1,.int .u8 112,.int .u8 0,.int .i64 1,.int .u8 99,.int .u8 0,.int .i64 1,.int .u8 109,.int .u8 0,.int .i64 9,.int .u8 97,.int .u8 0,.int .i64 10,.int .u8 118,.int .u8 48,.int .i64 18,.int .u8 118,.int .u8 100,.int .i64 18,.int .u8 118,.int .u8 104,.int .i64 18,.int .u8 118,.int .u8 115,.int .i64 9,.int .u8 116,.int .u8 0,.int .i64 17,.int .u8 105,.int .u8 0,.int .i64 9,.int .u8 98,.int .u8 0,.int .i64 9,.int .u8 117,.int .u8 0,.int .i64 9,.int .u8 114,.int .u8 0,.int .i64 17,.int .u8 113,.int .u8 0,.int .i64 17,.int .u8 101,.int .u8 0,.int .i64 17,.int .u8 110,.int .u8 0,.int .i64 17,.int .u8 107,.int .u8 0]) (by kernel_rfl) (by kernel_rfl) (by kernel_rfl) (by kernel_rfl) rfl (by kernel_rfl)) ?_
 refine wpList_nil ?_
 rw[<- mE];have m:=aD w [.int .i64 0,.int .u8 0,.int .u8 0] 201;have c0:=ae w (.cells #[.int .i64 0,.int .u8 0,.int .u8 0] 201);have l:=aD w1 gJ 252;have c2:=ae w1 (.cells gJ.toArray 252);have o:=aA (aA c0 d) c2;have b:=(m.keep d).keep c2;obtain⟨r,c⟩:∃ r,Hid (w.heap.size=r):=⟨_,rfl⟩
 generalize w1.alloc (.cells gJ.toArray 252)=W at *;generalize hg:w1.heap.size=g at *;generalize Value.agg gJ.toArray=y;rw[c.out] at b ⊢;simp only[Act.put,List.setIfInBounds_toArray,List.set_cons_zero,List.set_cons_succ];have r0:=b.cell (i:=0) rfl;have r1:=b.cell (i:=1) rfl;have u:=b.cell (i:=2) rfl;have f0:=b.free 0;have f1:=b.free 1;have f2:=b.free 2;have H1:=ba b;have f:=ba o;have p:=ba l;clear m c0 d c2 hg b o l;refine(show Code.wp _ _ _ _ _ from ?_);by_cases s:k < 0
 ·have j:frm k=(0,0,0):=if_neg (by omega);rw[j];go_wp2;refine bodyPost_ret (eH rfl rfl (ow (yz H1.out _ _ _))) rfl ?_
  exact⟨rfl,kJ (by have:=f.out;rw[c.out] at this;exact this) _ _ _⟩
 ·by_cases t:k < 18
  ·obtain⟨n,rfl⟩:∃ n:Nat,k=n:=⟨k.toNat,by omega⟩
   obtain⟨q0,q1,v⟩:=Bi p.out (k:=n) (by omega);go_wp2;refine bodyPost_ret (eH rfl rfl (ow (yz H1.out _ _ _))) rfl ?_
   exact⟨rfl,kJ (by have:=f.out;rw[c.out] at this;exact this) _ _ _⟩
  ·have j:frm k=(0,0,0):=if_neg (by omega);rw[j];go_wp2;refine bodyPost_ret (eH rfl rfl (ow (yz H1.out _ _ _))) rfl ?_
   exact⟨rfl,kJ (by have:=f.out;rw[c.out] at this;exact this) _ _ _⟩
end
end Ky
end
section
namespace Ky
open Kv (ep)
open Go.RowKit Go.Lib Pg
attribute [local go_sem] Oper.semAt_some
section
variable {w:World}{D:Nat->Prop}{v:Value}{l L:List Int}{x a n y:Int}
def be:Nat->Int->List Int
 | 0,_=>[]
 | n+1,x=>x / 256 ^ n % 256 :: be n x
theorem aP:∀ (n:Nat) (x:Int),(be n x).length=n
 | 0,_=>rfl
 | n+1,x=>by rw[be,List.length_cons,aP n x]
theorem fk:∀ (n:Nat) (x:Int),Oct (be n x)
 | 0,_=>fun _ h=>by simp[be] at h
 | n + 1,x=>fun y h=>by
  rw[be,List.mem_cons] at h;rcases h with rfl | h
  ·exact⟨Int.emod_nonneg _ (by decide),Int.emod_lt_of_pos _ (by decide)⟩
  ·exact fk n x y h
theorem iV:∀ (n j:Nat) (x:Int),j < n->(be n x).take (j+1)=(be n x).take j ++ [x / 256 ^ (n - 1 - j) % 256]
 | 0,j,x,h=>by omega
 | n+1,0,x,h=>by simp[be]
 | n + 1,j + 1,x,h=>by
  have ih:=iV n j x (by omega);rw[be,List.take_succ_cons,List.take_succ_cons,ih,List.cons_append]
  have e:n+1 - 1 - (j+1)=n - 1 - j:=by omega
  rw[e]
theorem pow8(h:Nat):(256:Int) ^ h=2 ^ (8 * h):=by rw[Int.pow_mul];rfl
theorem OB.sh(h:OB w D v l):∃ ao c,v=.slice ao l.length c:=by
 rcases h.ex with⟨rfl,rfl⟩ | ⟨b,c,rfl,_⟩
 ·exact⟨none,0,rfl⟩
 ·exact⟨_,c,rfl⟩
theorem dr{B:Nat}(g:OB w (B <= ·) v L)(r:B<=w.heap.size)(hL:L.length<=100000) :
  Calls Tryz.prog 151 #[v,.int .u64 x] w fun e w'=>∃ v',e=.returned v'/\OB w' (B <= ·) v' (L ++ be 8 x)/\Below B w w':=by
 have u:=ba g;have i:=ba r;clear g r;go_enter Tryz.func151,Tryz.ntmps151;go_wp2_with fail;go_loopw [0,6] (fun A n wr=>∃ j:Nat,j<=8/\n=.int .i64 j/\Hid (OB wr (B <= ·) A (L ++ (be 8 x).take j))/\Hid (Below B w wr)) (fun _ n _=>8 - (intOf n).toNat)
 case atStart=>exact⟨0,Nat.zero_le _,rfl,by rw[List.take_zero,List.append_nil];exact u,Below.refl _ _⟩
 case round =>
  obtain⟨j,D,rfl,b,c⟩:=hrel;by_cases m:j < 8
  ·obtain⟨h,F⟩:∃ h:Nat,(7:Int) - j=h:=⟨7 - j,by omega⟩
   have d:8 - 1 - j=h:=by omega
   have s:h < 8:=by omega
   have t:Hid ((be 8 x).take (j+1)=(be 8 x).take j ++ [x / 2 ^ (8 * h) % 256]):=by
    show _=_
    rw[iV 8 j x m,d,pow8]
   have hle:(L ++ (be 8 x).take j).length<=1000000000:=by rw[List.length_append,List.length_take,aP];omega
   obtain⟨v1,G,f,l,hS⟩:=ep (x:=x / 2 ^ (8 * h) % 256) b.out (Nat.le_trans i.out c.out.size) hle ⟨Int.emod_nonneg _ (by decide),Int.emod_lt_of_pos _ (by decide)⟩;obtain⟨H,E,rfl⟩:=OB.sh b.out;obtain⟨a1,c1,rfl⟩:=OB.sh l;generalize g:L ++ (be 8 x).take j=M at *;generalize hq:M.length=q at *;have y:=ba l;have z:=ba hS;have C:=ba f;have o:=ba g;clear l hS f hle g hq d;have f:=C.out;go_wp2_with (at_builtin;refine Lib.wpList_append_run _ rfl _ _ _ _ rfl _ _ rfl rfl _ _ f ?_;clear f);go_roundw
   case rel =>
    refine⟨j+1,by omega,by go_num,?_,c.out.trans z.out⟩;rw[t.out,<- List.append_assoc,o.out];have p:=y.out;rw[show (M ++ [x / 2 ^ (8 * h) % 256]).length=M.length+1 by simp] at p;exact p
   case measure=>simp[intOf];omega
  ·obtain rfl:j=8:=by omega
   rw[List.take_of_length_le (by rw[aP];omega)] at b;go_wp2;go_ret;exact⟨_,rfl,b.out,c.out⟩
theorem not64(n:Nat)(h:n < 2 ^ 64):(2 ^ 64 - 1) ^^^ n=2 ^ 64 - (n+1):=by
 apply Nat.eq_of_testBit_eq;intro i;rw[Nat.testBit_xor,Nat.testBit_two_pow_sub_one,Nat.testBit_two_pow_sub_succ h];by_cases hi:i < 64
 ·simp[hi]
 ·have:n.testBit i=false:=Nat.testBit_lt_two_pow (Nat.lt_of_lt_of_le h (Nat.pow_le_pow_right (by decide) (by omega)));simp[hi,this]
theorem not64i(b:0<=a)(c:a < 18446744073709551616):bits .xor .u64 IntKind.u64.max a=18446744073709551615 - a:=by
 obtain⟨n,rfl⟩:=Int.eq_ofNat_of_zero_le b
 have e:IntKind.u64.max=((18446744073709551615:Nat):Int):=by kernel_rfl
 rw[e,bits_xor_u64_nat _ _ (by omega) (by omega)];have:=not64 n (by omega);rw[show (18446744073709551615:Nat)=2 ^ 64 - 1 by decide,this];omega
theorem gI{k:Int}(c:0<=a)(b:a < 18446744073709551616):Calls Tryz.prog 126 #[.int .i64 k,.int .u64 a] w fun e w'=>e=.returned (.int .u64 (if k=10 then 18446744073709551615 - a else a))/\w'=w:=by
 by_cases h:k=10
 ·subst h;rw[if_pos rfl];go_enter Tryz.func126,Tryz.ntmps126;go_wp2;go_ret;refine⟨?_,rfl⟩
  show Ending.returned (.int .u64 (bits .xor .u64 IntKind.u64.max a))=_
  rw[not64i c b]
 ·rw[if_neg h];go_enter Tryz.func126,Tryz.ntmps126;go_wp2;go_ret;exact⟨rfl,rfl⟩
theorem fE:Calls Tryz.prog 125 #[.agg #[.int .i64 n,.int .u8 x,.int .u8 y]] w fun e w'=>e=.returned (.bool (decide (8 < n)))/\Below w.heap.size w w':=by
 go_enter Tryz.func125,Tryz.ntmps125;go_wp2;go_ret;exact⟨rfl,ae _ _⟩
theorem gx:Calls Tryz.prog 128 #[.agg #[.int .i64 n,.int .u8 x,.int .u8 y]] w fun e w'=>e=.returned (.bool (decide (16 < n)))/\Below w.heap.size w w':=by
 go_enter Tryz.func128,Tryz.ntmps128;go_wp2;go_ret;exact⟨rfl,ae _ _⟩
end
end Ky
end
section
namespace Ky
open Kv (vm ep)
open Go.RowKit Go.Lib Pg
attribute [local go_sem] Oper.semAt_some
section
variable {w w':World}{a:Act}{o:Oper}{x n g:Nat}{v:Value}
theorem cy(w:World):Below w.heap.size w w.drew:=⟨rfl,rfl,rfl,Nat.le_refl _,fun _ _=>rfl⟩
theorem vD(n:Nat)(hn:n<=1000):∃ w',(Instr.makeSlice 87 (.int .i64 0) (.int .i64 n)).run Tryz.prog w=.ok (.slice (some ⟨w.heap.size,0,none⟩) 0 n) w'/\OB w' (w.heap.size <= ·) (.slice (some ⟨w.heap.size,0,none⟩) 0 n) []/\Below w.heap.size w w':=by
 obtain⟨i,hi,c,hs,b⟩:=info_parts KB.inf;have a:=run_make (P:=Tryz.prog) w 87 5 i (.int .u8 0) KB.und hi c .i64 .i64 0 (n:Int) (by omega) (by omega) (by rw[b];omega) (by omega);refine⟨_,by simpa using a,⟨fun _ h=>by simp at h,.inr ⟨_,n,rfl,Nat.le_refl _,⟨(madeCells (Value.int .u8 0).cells (n * i.size)).toList,?_,rfl,?_,Nat.zero_le _,by simp only[maxLen];omega⟩⟩⟩,ae w _⟩
 ·exact⟨by simp only[List.map_nil,List.nil_append,Array.toArray_toList];exact heap_alloc_new _ _⟩
 ·simp[size_madeCells,hs]
theorem vF(d:o.op=.makeSlice 87 (.const (.int .i64 0)) (.tmp x))(hx:a.eval (.tmp x)=.int .i64 n)(b:(Instr.makeSlice 87 (.int .i64 0) (.int .i64 n)).run Tryz.prog w=.ok v w'):(execOp a.eval o).run Tryz.prog w=.ok (.value v) w':=by
 have c:a.eval (.const (.int .i64 0))=.int .i64 0:=rfl;simp only[execOp,d,hx,c];simp[b,Result.andThen]
theorem yS{m:Int}(c:o.op=.buildSlice 87 1 #[(0,.tmp x)])(hx:a.eval (.tmp x)=.int .u8 m):(execOp a.eval o).run Tryz.prog w=.ok (.value (.slice (some ⟨w.heap.size,0,none⟩) 1 1)) (w.alloc (.cells #[.int .u8 m] 5)):=by
 have b:a.tmps[x]?.getD undef=.int .u8 m:=by simpa[Act.eval] using hx
 simp only[execOp,c];go_simp
theorem j0{y:Nat}{T ty:TypeId}{u r:Value}(b:o.type=ty)(d:o.op=.call { callee:=.builtin .append,args:=#[.tmp x,.tmp y],argTypes:=#[T,T] })(hx:a.eval (.tmp x)=u)(hy:a.eval (.tmp y)=v)(c:(Builtin.append_ #[T,T] ty #[u,v]).run Tryz.prog w=.ok r w') :
  (execOp a.eval o).run Tryz.prog w=.ok (.value r) w':=by
 subst b;unfold execOp;simp only[d,resolve,invoke,builtin,Sem.run_bind,Sem.run_pure,Result.andThen_ok,List.map_toArray,List.map_cons,List.map_nil,hx,hy,c]
theorem ic{o:Nat}{v:Int}(c:w.cell? ⟨g,o,none⟩=some (.int .i64 v)):(loadVar 3 ⟨g,o,none⟩).run Tryz.prog w=.ok (.int .i64 v) w:=by go_simp
theorem ld_u8{o:Nat}{v:Int}(c:w.cell? ⟨g,o,none⟩=some (.int .u8 v)):(loadVar 5 ⟨g,o,none⟩).run Tryz.prog w=.ok (.int .u8 v) w:=by go_simp
def mkb(f:Int × Int × Int)(a:Int):List Int:=[f.2.1] ++ (if 8 < f.1 then be 8 a else []) ++ (if f.2.2=0 then [] else [f.2.2])
theorem ph{m0 m1 a:Int}(hn:n<=1000)(h0:0<=m0/\m0 < 256)(h1:0<=m1/\m1 < 256) :
  Calls Tryz.prog 150 #[.agg #[.int .i64 n,.int .u8 m0,.int .u8 m1],.int .u64 a] w fun e w'=>∃ v,e=.returned v/\OB w' (w.heap.size <= ·) v (mkb (n,m0,m1) a)/\Below w.heap.size w w':=by
 have H0:=ba h0;have H1:=ba h1;clear h0 h1;go_enter Tryz.func150,Tryz.ntmps150;go_wp2_with fail;have kq:=aD w [.int .i64 n,.int .u8 m0,.int .u8 m1] 201;have bq:=ae w (.cells #[.int .i64 n,.int .u8 m0,.int .u8 m1] 201)
 have N:(w.alloc (.cells #[.int .i64 n,.int .u8 m0,.int .u8 m1] 201)).heap.size=w.heap.size+1:=by simp
 generalize w.alloc (.cells #[.int .i64 n,.int .u8 m0,.int .u8 m1] 201)=X at *;generalize hq:w.heap.size=q at *;have hS:=kq.drew;refine bR (S:=fun w'=>Blk w' q [.int .i64 n,.int .u8 m0,.int .u8 m1] 201) (by kernel_rfl) hS ?_
 refine ay 0 (some 6) (.pointer (some ⟨q,0,none⟩)) (by kernel_rfl) (fun _ _=>by kernel_rfl) (fun _ _ _ h=>h) hS ?_
 refine aQ 1 (some 7) (.int .i64 n) 3 6 q 0 (by kernel_rfl) (by kernel_rfl) (by kernel_rfl) (fun w' h=>ic (h.cell (i:=0) rfl)) (fun _ _ _ h=>h) hS ?_
 refine ay 3 (some 9) (.pointer (some ⟨q,1,none⟩)) (by kernel_rfl) (fun _ _=>by kernel_rfl) (fun _ _ _ h=>h) hS ?_
 refine ay 4 (some 10) (.pointer (some ⟨q,1,none⟩)) (by kernel_rfl) (fun _ _=>by kernel_rfl) (fun _ _ _ h=>h) hS ?_
 refine aQ 5 (some 11) (.int .u8 m0) 5 10 q 1 (by kernel_rfl) (by kernel_rfl) (by kernel_rfl) (fun w' h=>ld_u8 (h.cell (i:=1) rfl)) (fun _ _ _ h=>h) hS ?_
 have Xd:X.drew.heap.size=q+1:=N;obtain⟨Y,V,O3,b3⟩:=vD (w:=X.drew) n hn;have Z:=ae Y (.cells #[.int .u8 m0] 5);obtain⟨v5,w5,P,O5,B5⟩:=vm (B:=q+1) (p:=Y.heap.size) (x:=m0) ((O3.mono (D':=(q+1 <= ·)) (fun b _ h=>by omega)).keep Z) (by have:=b3.size;have:=Z.size;omega) (by simp) H0.out ((aD Y [.int .u8 m0] 5).cell (i:=0) rfl);obtain⟨a5,c5,rfl⟩:=OB.sh O5;have k3:=hS.keep b3;have k4:=k3.keep Z;have k5:=k4.lH B5 (by omega)
 have d5:Below (q+1) X w5:=((cy X).mono (Nat.le_of_eq N.symm)).trans (((aA b3 Z).mono (Nat.le_of_eq Xd.symm)).trans B5);have c:=ae X.drew (.cells #[.int .u8 m0] 5);obtain⟨w7,M,O7,b7⟩:=vD (w:=X.drew.alloc (.cells #[.int .u8 m0] 5)) n hn;obtain⟨v8,w8,J,O8,B8⟩:=vm (B:=q+1) (p:=X.drew.heap.size) (x:=m0) (O7.mono (D':=(q+1 <= ·)) (fun b _ h=>by have:=c.size;omega)) (by have:=c.size;have:=b7.size;omega) (by simp) H0.out (((aD X.drew [.int .u8 m0] 5).keep b7).cell (i:=0) rfl);obtain⟨a8,c8,rfl⟩:=OB.sh O8;have k6:=hS.keep c;have k7:=k6.keep b7;have k8:=k7.lH B8 (by omega)
 have d8:Below (q+1) X w8:=((cy X).mono (Nat.le_of_eq N.symm)).trans (((aA c b7).mono (Nat.le_of_eq Xd.symm)).trans B8);refine aM [2,6] (by kernel_rfl) (by simp) (bG 2 (some 8) (.slice (some ⟨X.drew.heap.size,0,none⟩) 0 n) Y (by kernel_rfl) (vF (x:=7) (by kernel_rfl) (by kernel_rfl) V) k3 ?_ (bG 6 (some 12) (.slice (some ⟨X.drew.heap.size,0,none⟩) 1 1) (X.drew.alloc (.cells #[.int .u8 m0] 5)) (by kernel_rfl) (yS (x:=11) (by kernel_rfl) (by kernel_rfl)) k6 ?_ aZ))
 ·refine aM [6] (by kernel_rfl) (by simp) (bG 6 (some 12) (.slice (some ⟨Y.heap.size,0,none⟩) 1 1) (Y.alloc (.cells #[.int .u8 m0] 5)) (by kernel_rfl) (yS (x:=11) (by kernel_rfl) (by kernel_rfl)) k4 ?_ aZ);refine aM [7] (by kernel_rfl) (by simp) (bG 7 (some 13) (.slice a5 ([] ++ [m0]).length c5) w5 (by kernel_rfl) (j0 (x:=8) (y:=12) rfl (by kernel_rfl) (by kernel_rfl) (by kernel_rfl) P) k5 ?_ aZ);refine ay 8 (some 5) (.slice a5 ([] ++ [m0]).length c5) (by kernel_rfl) (fun _ _=>by kernel_rfl) (fun _ _ _ h=>h) k5 ?_
  refine bM (by kernel_rfl) ?_
  simp only[Act.put,List.setIfInBounds_toArray,List.set_cons_zero,List.set_cons_succ];have I:=ba O5;have A:=ba k5;have H:=ba d5
  have f:q+1<=w5.heap.size:=by have:=d5.size;omega
  have r:=ba hq;have o:=ba bq;have HXS:=ba N;clear hS Xd V O3 b3 Z P O5 B5 k3 k4 k5 d5 c M O7 b7 J O8 B8 k6 k7 k8 d8 kq bq hq N;have q0:=A.out.cell (i:=0) rfl;have q1:=A.out.cell (i:=1) rfl;have q2:=A.out.cell (i:=2) rfl;have t:=fE (w:=w5) (n:=n) (x:=m0) (y:=m1);by_cases h8:8 < n
  ·by_cases hm:m1=0
   ·have u:Hid (mkb ((n:Int),m0,m1) a=([] ++ [m0]) ++ be 8 a):=by have m:((8:Int) < n):=(by omega); show _=_; simp[mkb,m,hm]
    have h8:(8:Int) < n:=by omega
    rw[decide_eq_true h8] at t;subst hm;go_wp2_with first
     | (go_at_call 125;refine t.mono ?_;rintro e C ⟨rfl,c⟩;have g:=A.out.keep c;have T:=g.cell (i:=0) rfl;have p1:=g.cell (i:=1) rfl;have O:=g.cell (i:=2) rfl;have F:=H.out.trans (c.mono f);have E:=I.out.keep c;have s:q+1<=C.heap.size:=Nat.le_trans f c.size)
     | (go_at_call 151;refine(dr (x:=a) E s (by simp)).mono ?_;rintro e R ⟨v9,rfl,G,z⟩;obtain⟨a9,c9,rfl⟩:=OB.sh G;have z9:=g.lH z (Nat.lt_succ_self q);have r1:=z9.cell (i:=1) rfl;have r2:=z9.cell (i:=2) rfl;have U:=F.trans z;have s9:q+1<=R.heap.size:=Nat.le_trans s z.size)
    go_ret;exact⟨_,rfl,by rw[u.out];exact G.mono (fun b _ h=>by have:=r.out;omega),by have D:=U;rw[r.out];exact o.out.trans (D.mono (Nat.le_succ q))⟩
   ·have u:Hid (mkb ((n:Int),m0,m1) a=([] ++ [m0]) ++ be 8 a ++ [m1]):=by have m:((8:Int) < n):=(by omega); show _=_; simp[mkb,m,hm]
    have h8:(8:Int) < n:=by omega
    rw[decide_eq_true h8] at t
    have W:m1≠0:=hm;go_wp2_with first
     | (go_at_call 125;refine t.mono ?_;rintro e C ⟨rfl,c⟩;have g:=A.out.keep c;have T:=g.cell (i:=0) rfl;have p1:=g.cell (i:=1) rfl;have O:=g.cell (i:=2) rfl;have F:=H.out.trans (c.mono f);have E:=I.out.keep c;have s:q+1<=C.heap.size:=Nat.le_trans f c.size)
     | (go_at_call 151;refine(dr (x:=a) E s (by simp)).mono ?_;rintro e R ⟨v9,rfl,G,z⟩;obtain⟨a9,c9,rfl⟩:=OB.sh G;have z9:=g.lH z (Nat.lt_succ_self q);have r1:=z9.cell (i:=1) rfl;have r2:=z9.cell (i:=2) rfl;have U:=F.trans z;have s9:q+1<=R.heap.size:=Nat.le_trans s z.size;obtain⟨v10,K,j,d,l⟩:=ep (x:=m1) G s9 (by simp[aP]) H1.out;obtain⟨Q,L,rfl⟩:=OB.sh d;replace d:=ba d;replace l:=ba l)
     | (at_builtin;refine Lib.wpList_append_run _ rfl _ _ _ _ rfl _ _ rfl rfl _ _ j ?_;clear j)
    go_ret;exact⟨_,rfl,by rw[u.out];exact d.out.mono (fun b _ h=>by have:=r.out;omega),by have D:=U.trans l.out;rw[r.out];exact o.out.trans (D.mono (Nat.le_succ q))⟩
  ·by_cases hm:m1=0
   ·have u:Hid (mkb ((n:Int),m0,m1) a=([] ++ [m0])):=by have m:¬ ((8:Int) < n):=(by omega); show _=_; simp[mkb,m,hm]
    have h8:¬ ((8:Int) < n):=by omega
    rw[decide_eq_false h8] at t;subst hm;go_wp2_with first
     | (go_at_call 125;refine t.mono ?_;rintro e C ⟨rfl,c⟩;have g:=A.out.keep c;have T:=g.cell (i:=0) rfl;have p1:=g.cell (i:=1) rfl;have O:=g.cell (i:=2) rfl;have F:=H.out.trans (c.mono f);have E:=I.out.keep c;have s:q+1<=C.heap.size:=Nat.le_trans f c.size)
    go_ret;exact⟨_,rfl,by rw[u.out];exact E.mono (fun b _ h=>by have:=r.out;omega),by have D:=F;rw[r.out];exact o.out.trans (D.mono (Nat.le_succ q))⟩
   ·have u:Hid (mkb ((n:Int),m0,m1) a=([] ++ [m0]) ++ [m1]):=by have m:¬ ((8:Int) < n):=(by omega); show _=_; simp[mkb,m,hm]
    have h8:¬ ((8:Int) < n):=by omega
    rw[decide_eq_false h8] at t
    have W:m1≠0:=hm;go_wp2_with first
     | (go_at_call 125;refine t.mono ?_;rintro e C ⟨rfl,c⟩;have g:=A.out.keep c;have T:=g.cell (i:=0) rfl;have p1:=g.cell (i:=1) rfl;have O:=g.cell (i:=2) rfl;have F:=H.out.trans (c.mono f);have E:=I.out.keep c;have s:q+1<=C.heap.size:=Nat.le_trans f c.size;obtain⟨v10,K,j,d,l⟩:=ep (x:=m1) E s (by simp) H1.out;obtain⟨Q,L,rfl⟩:=OB.sh d;replace d:=ba d;replace l:=ba l)
     | (at_builtin;refine Lib.wpList_append_run _ rfl _ _ _ _ rfl _ _ rfl rfl _ _ j ?_;clear j)
    go_ret;exact⟨_,rfl,by rw[u.out];exact d.out.mono (fun b _ h=>by have:=r.out;omega),by have D:=F.trans l.out;rw[r.out];exact o.out.trans (D.mono (Nat.le_succ q))⟩
 ·refine aM [2] (by kernel_rfl) (by simp) (bG 2 (some 8) (.slice (some ⟨(X.drew.alloc (.cells #[.int .u8 m0] 5)).heap.size,0,none⟩) 0 n) w7 (by kernel_rfl) (vF (x:=7) (by kernel_rfl) (by kernel_rfl) M) k7 ?_ aZ);refine aM [7] (by kernel_rfl) (by simp) (bG 7 (some 13) (.slice a8 ([] ++ [m0]).length c8) w8 (by kernel_rfl) (j0 (x:=8) (y:=12) rfl (by kernel_rfl) (by kernel_rfl) (by kernel_rfl) J) k8 ?_ aZ);refine ay 8 (some 5) (.slice a8 ([] ++ [m0]).length c8) (by kernel_rfl) (fun _ _=>by kernel_rfl) (fun _ _ _ h=>h) k8 ?_
  refine bM (by kernel_rfl) ?_
  simp only[Act.put,List.setIfInBounds_toArray,List.set_cons_zero,List.set_cons_succ];have I:=ba O8;have A:=ba k8;have H:=ba d8
  have f:q+1<=w8.heap.size:=by have:=d8.size;omega
  have r:=ba hq;have o:=ba bq;have HXS:=ba N;clear hS Xd V O3 b3 Z P O5 B5 k3 k4 k5 d5 c M O7 b7 J O8 B8 k6 k7 k8 d8 kq bq hq N;have q0:=A.out.cell (i:=0) rfl;have q1:=A.out.cell (i:=1) rfl;have q2:=A.out.cell (i:=2) rfl;have t:=fE (w:=w8) (n:=n) (x:=m0) (y:=m1);by_cases h8:8 < n
  ·by_cases hm:m1=0
   ·have u:Hid (mkb ((n:Int),m0,m1) a=([] ++ [m0]) ++ be 8 a):=by have m:((8:Int) < n):=(by omega); show _=_; simp[mkb,m,hm]
    have h8:(8:Int) < n:=by omega
    rw[decide_eq_true h8] at t;subst hm;go_wp2_with first
     | (go_at_call 125;refine t.mono ?_;rintro e C ⟨rfl,c⟩;have g:=A.out.keep c;have T:=g.cell (i:=0) rfl;have p1:=g.cell (i:=1) rfl;have O:=g.cell (i:=2) rfl;have F:=H.out.trans (c.mono f);have E:=I.out.keep c;have s:q+1<=C.heap.size:=Nat.le_trans f c.size)
     | (go_at_call 151;refine(dr (x:=a) E s (by simp)).mono ?_;rintro e R ⟨v9,rfl,G,z⟩;obtain⟨a9,c9,rfl⟩:=OB.sh G;have z9:=g.lH z (Nat.lt_succ_self q);have r1:=z9.cell (i:=1) rfl;have r2:=z9.cell (i:=2) rfl;have U:=F.trans z;have s9:q+1<=R.heap.size:=Nat.le_trans s z.size)
    go_ret;exact⟨_,rfl,by rw[u.out];exact G.mono (fun b _ h=>by have:=r.out;omega),by have D:=U;rw[r.out];exact o.out.trans (D.mono (Nat.le_succ q))⟩
   ·have u:Hid (mkb ((n:Int),m0,m1) a=([] ++ [m0]) ++ be 8 a ++ [m1]):=by have m:((8:Int) < n):=(by omega); show _=_; simp[mkb,m,hm]
    have h8:(8:Int) < n:=by omega
    rw[decide_eq_true h8] at t
    have W:m1≠0:=hm;go_wp2_with first
     | (go_at_call 125;refine t.mono ?_;rintro e C ⟨rfl,c⟩;have g:=A.out.keep c;have T:=g.cell (i:=0) rfl;have p1:=g.cell (i:=1) rfl;have O:=g.cell (i:=2) rfl;have F:=H.out.trans (c.mono f);have E:=I.out.keep c;have s:q+1<=C.heap.size:=Nat.le_trans f c.size)
     | (go_at_call 151;refine(dr (x:=a) E s (by simp)).mono ?_;rintro e R ⟨v9,rfl,G,z⟩;obtain⟨a9,c9,rfl⟩:=OB.sh G;have z9:=g.lH z (Nat.lt_succ_self q);have r1:=z9.cell (i:=1) rfl;have r2:=z9.cell (i:=2) rfl;have U:=F.trans z;have s9:q+1<=R.heap.size:=Nat.le_trans s z.size;obtain⟨v10,K,j,d,l⟩:=ep (x:=m1) G s9 (by simp[aP]) H1.out;obtain⟨Q,L,rfl⟩:=OB.sh d;replace d:=ba d;replace l:=ba l)
     | (at_builtin;refine Lib.wpList_append_run _ rfl _ _ _ _ rfl _ _ rfl rfl _ _ j ?_;clear j)
    go_ret;exact⟨_,rfl,by rw[u.out];exact d.out.mono (fun b _ h=>by have:=r.out;omega),by have D:=U.trans l.out;rw[r.out];exact o.out.trans (D.mono (Nat.le_succ q))⟩
  ·by_cases hm:m1=0
   ·have u:Hid (mkb ((n:Int),m0,m1) a=([] ++ [m0])):=by have m:¬ ((8:Int) < n):=(by omega); show _=_; simp[mkb,m,hm]
    have h8:¬ ((8:Int) < n):=by omega
    rw[decide_eq_false h8] at t;subst hm;go_wp2_with first
     | (go_at_call 125;refine t.mono ?_;rintro e C ⟨rfl,c⟩;have g:=A.out.keep c;have T:=g.cell (i:=0) rfl;have p1:=g.cell (i:=1) rfl;have O:=g.cell (i:=2) rfl;have F:=H.out.trans (c.mono f);have E:=I.out.keep c;have s:q+1<=C.heap.size:=Nat.le_trans f c.size)
    go_ret;exact⟨_,rfl,by rw[u.out];exact E.mono (fun b _ h=>by have:=r.out;omega),by have D:=F;rw[r.out];exact o.out.trans (D.mono (Nat.le_succ q))⟩
   ·have u:Hid (mkb ((n:Int),m0,m1) a=([] ++ [m0]) ++ [m1]):=by have m:¬ ((8:Int) < n):=(by omega); show _=_; simp[mkb,m,hm]
    have h8:¬ ((8:Int) < n):=by omega
    rw[decide_eq_false h8] at t
    have W:m1≠0:=hm;go_wp2_with first
     | (go_at_call 125;refine t.mono ?_;rintro e C ⟨rfl,c⟩;have g:=A.out.keep c;have T:=g.cell (i:=0) rfl;have p1:=g.cell (i:=1) rfl;have O:=g.cell (i:=2) rfl;have F:=H.out.trans (c.mono f);have E:=I.out.keep c;have s:q+1<=C.heap.size:=Nat.le_trans f c.size;obtain⟨v10,K,j,d,l⟩:=ep (x:=m1) E s (by simp) H1.out;obtain⟨Q,L,rfl⟩:=OB.sh d;replace d:=ba d;replace l:=ba l)
     | (at_builtin;refine Lib.wpList_append_run _ rfl _ _ _ _ rfl _ _ rfl rfl _ _ j ?_;clear j)
    go_ret;exact⟨_,rfl,by rw[u.out];exact d.out.mono (fun b _ h=>by have:=r.out;omega),by have D:=F.trans l.out;rw[r.out];exact o.out.trans (D.mono (Nat.le_succ q))⟩
end
end Ky
end
section
namespace Ky
open Go.RowKit Go.Lib Pg
attribute [local go_sem] Oper.semAt_some
theorem pQ (a b c d:Int) (w:World):(Op.equalIn 9999 163 (.agg #[.int .u8 a,.int .u8 b]) (.agg #[.int .u8 c,.int .u8 d])).run Tryz.prog w=.ok (a == c && b == d) w:=by
 rw[show (9999:Nat)=9998+1 from rfl,Op.equalIn];simp only[Sem.run_bind,run_underlying Tryz.underlying163,Result.andThen_ok];simp only[Std.Legacy.Range.forIn_eq_forIn_range',Std.Legacy.Range.size,Nat.sub_zero,Nat.add_sub_cancel,Nat.div_one,List.range'_succ,List.range'_zero,List.forIn_cons,List.forIn_nil];go_simp;by_cases f:a=c<;>by_cases g:b=d<;>simp[f,g]
attribute [local go_sem] pQ
theorem oP (k:Int):∃ (n:Nat) (m0 m1:Int),frm k=((n:Int),m0,m1)/\n<=18/\(0<=m0/\m0 < 256)/\(0<=m1/\m1 < 256)/\(n=0->m0=0/\m1=0):=by
 by_cases h:0<=k/\k < 18
 ·obtain⟨j,rfl⟩:=Int.eq_ofNat_of_zero_le h.1
  have a:j < 18:=by omega
  match j,a with
  | 0,_=>exact⟨0,0,0,rfl,by decide,by decide,by decide,fun _=>⟨rfl,rfl⟩⟩
  | 1,_=>exact⟨1,112,0,rfl,by decide,by decide,by decide,fun h=>by omega⟩
  | 2,_=>exact⟨1,99,0,rfl,by decide,by decide,by decide,fun h=>by omega⟩
  | 3,_=>exact⟨1,109,0,rfl,by decide,by decide,by decide,fun h=>by omega⟩
  | 4,_=>exact⟨9,97,0,rfl,by decide,by decide,by decide,fun h=>by omega⟩
  | 5,_=>exact⟨10,118,48,rfl,by decide,by decide,by decide,fun h=>by omega⟩
  | 6,_=>exact⟨18,118,100,rfl,by decide,by decide,by decide,fun h=>by omega⟩
  | 7,_=>exact⟨18,118,104,rfl,by decide,by decide,by decide,fun h=>by omega⟩
  | 8,_=>exact⟨18,118,115,rfl,by decide,by decide,by decide,fun h=>by omega⟩
  | 9,_=>exact⟨9,116,0,rfl,by decide,by decide,by decide,fun h=>by omega⟩
  | 10,_=>exact⟨17,105,0,rfl,by decide,by decide,by decide,fun h=>by omega⟩
  | 11,_=>exact⟨9,98,0,rfl,by decide,by decide,by decide,fun h=>by omega⟩
  | 12,_=>exact⟨9,117,0,rfl,by decide,by decide,by decide,fun h=>by omega⟩
  | 13,_=>exact⟨9,114,0,rfl,by decide,by decide,by decide,fun h=>by omega⟩
  | 14,_=>exact⟨17,113,0,rfl,by decide,by decide,by decide,fun h=>by omega⟩
  | 15,_=>exact⟨17,101,0,rfl,by decide,by decide,by decide,fun h=>by omega⟩
  | 16,_=>exact⟨17,110,0,rfl,by decide,by decide,by decide,fun h=>by omega⟩
  | 17,_=>exact⟨17,107,0,rfl,by decide,by decide,by decide,fun h=>by omega⟩
  | j+18,h=>omega
 ·exact⟨0,0,0,if_neg h,by decide,by decide,by decide,fun _=>⟨rfl,rfl⟩⟩
def tn (k a:Int):Int:=if k=10 then 18446744073709551615 - a else a
def mkE (k a b:Int):Bool:=decide ((frm k).1=0) || (decide (a≠0) && decide ((frm k).1<=8)) || (decide (b≠0) && decide ((frm k).1<=16))
def mk (k a b:Int):List Int:=mkb (frm k) (tn k a) ++ (if 16 < (frm k).1 then be 8 b else [])
theorem l4 (f:Int × Int × Int) (a:Int):(mkb f a).length<=10:=by
 unfold mkb;split<;>split<;>simp[aP]
end Ky
end
section
namespace Ky
open Go.RowKit Go.Lib Pg
attribute [local go_sem] Oper.semAt_some pQ
theorem q8 (w:World) (D:Nat->Prop):OB w D (.slice none 0 0) []:=⟨fun _ h=>by simp at h,.inl ⟨rfl,rfl⟩⟩
theorem xn {w:World} {k a:Int} (u:0<=a) (z:a < 18446744073709551616):Calls Tryz.prog 111 #[.int .i64 k,.int .u64 a] w fun e w'=>∃ v,e=.returned (.tuple #[v,.int .i64 (if 16 < (frm k).1 then 0 else 70)])/\OB w' (w.heap.size <= ·) v (if 16 < (frm k).1 then mkb (frm k) (tn k a) else [])/\Below w.heap.size w w':=by
 obtain⟨n,m0,m1,hf,hn,i,f,F⟩:=oP k;have j:=fun w=>og (w:=w) (k:=k)
 rw[hf] at j;simp only[fv] at j;rw[hf];simp only;have A:=ba (And.intro u z);have o:=ba i;have q:=ba f;have C:=ba hn;have m:=fun w=>gx (w:=w) (n:=n) (x:=m0) (y:=m1)
 clear hf i f F u z;by_cases c:16 < (n:Int)
 ·rw[decide_eq_true c] at m;rw[if_pos c,if_pos c];go_enter Tryz.func111,Tryz.ntmps111;go_wp2_with first
   | (go_at_call 149;refine(j _).mono ?_;rintro e g ⟨rfl,p⟩)
   | (go_at_call 128;refine(m _).mono ?_;rintro e G ⟨rfl,l⟩)
  have B:=(aD g [.int .i64 (n:Int),.int .u8 m0,.int .u8 m1] 201).keep l;have s:=aA p (aA (ae g (.cells #[.int .i64 (n:Int),.int .u8 m0,.int .u8 m1] 201)) l);have hS:=B.drew;refine bR (S:=fun w'=>Blk w' g.heap.size [.int .i64 (n:Int),.int .u8 m0,.int .u8 m1] 201) (by kernel_rfl) hS ?_
  refine aQ 0 (some 12) (.agg #[.int .i64 (n:Int),.int .u8 m0,.int .u8 m1]) 201 6 g.heap.size 0 (by kernel_rfl) (by kernel_rfl) (by kernel_rfl) (fun w' h=>ow h) (fun _ _ _ h=>h) hS ?_
  refine ay 1 (some 13) (.int .i64 k) (by kernel_rfl) (fun _ _=>by kernel_rfl) (fun _ _ _ h=>h) hS ?_
  refine ay 2 (some 14) (.int .u64 a) (by kernel_rfl) (fun _ _=>by kernel_rfl) (fun _ _ _ h=>h) hS ?_
  refine bQ 3 (some 15) 126 #[.int .i64 k,.int .u64 a] (by kernel_rfl) (by kernel_rfl) (gI A.out.1 A.out.2) ?_
  rintro E H ⟨rfl,rfl⟩;refine⟨.int .u64 (tn k a),rfl,hS,?_⟩;refine bQ 4 (some 16) 150 #[.agg #[.int .i64 (n:Int),.int .u8 m0,.int .u8 m1],.int .u64 (tn k a)] (by kernel_rfl) (by kernel_rfl) (ph (n:=n) (a:=tn k a) (Nat.le_trans C.out (by decide)) o.out q.out) ?_
  rintro E I ⟨v5,rfl,r,t⟩;obtain⟨a5,D,rfl⟩:=OB.sh r;have d:=hS.keep t;refine⟨_,rfl,d,?_⟩;refine ay 5 (some 4) (.slice a5 (mkb ((n:Int),m0,m1) (tn k a)).length D) (by kernel_rfl) (fun _ _=>by kernel_rfl) (fun _ _ _ h=>h) d ?_
  refine ay 6 (some 5) (.int .i64 0) (by kernel_rfl) (fun _ _=>by kernel_rfl) (fun _ _ _ h=>h) d ?_
  refine bM (by kernel_rfl) ?_
  simp only[Act.put,List.setIfInBounds_toArray,List.set_cons_zero,List.set_cons_succ];go_wp2;go_ret2;exact⟨_,rfl,r.mono (fun b _ h=>Nat.le_trans s.size h),aA s (aA (cy _) t)⟩
 ·rw[decide_eq_false c] at m;rw[if_neg c,if_neg c];go_enter Tryz.func111,Tryz.ntmps111;go_wp2_with first
   | (go_at_call 149;refine(j _).mono ?_;rintro e g ⟨rfl,p⟩)
   | (go_at_call 128;refine(m _).mono ?_;rintro e G ⟨rfl,l⟩)
  go_ret2;exact⟨_,rfl,q8 _ _,aA p (aA (ae _ _) l)⟩
end Ky
end
section
namespace Ky
open Go.RowKit Go.Lib Pg
attribute [local go_sem] Oper.semAt_some pQ
section
variable {w:World}{ao:Option Addr}{n c:Nat}{l:List Int}
def bv(l:List Int):Int:=l.foldl (fun n d=>n * 256+d) 0
theorem qW(l:List Int)(x:Int):bv (l ++ [x])=bv l * 256+x:=by simp[bv]
theorem kt:∀ (n:Nat) (l:List Int),Oct l->l.length=n->0<=bv l/\bv l < 256 ^ n
 | 0,l,_,h=>by
  have:l=[]:=List.eq_nil_of_length_eq_zero h;subst this;simp[bv]
 | n + 1,l,ho,h=>by
  obtain⟨b,x,rfl⟩:∃ b x,l=b ++ [x]:=by
   have a:l≠[]:=fun e=>by subst e;simp at h
   exact⟨l.dropLast,l.getLast a,(List.dropLast_concat_getLast a).symm⟩
  rw[qW];have c:=kt n b (fun y hy=>ho y (List.mem_append_left _ hy)) (by simpa using h);have hx:=ho x (by simp);rw[Int.pow_succ];omega
theorem or64(a b:Int)(f:0<=a)(c:a < 72057594037927936)(d:0<=b)(g:b < 256):bits .or .u64 (IntKind.u64.wrap (a * 256)) b=a * 256+b:=by
 have e:IntKind.u64.wrap (a * 256)=a * 256:=by rw[IntKind.wrap_u64];omega
 rw[e];exact bits_join .u64 64 (by decide) (fun n f c=>by rw[IntKind.wrap_u64];omega) 8 (a * 256) b (by omega) (by omega) (by omega) d (by omega) (by omega)
theorem gW(h:By w (.slice ao n c) l)(m:l.length=n)(hn:8<=n)(hc:n<=c) :
  Calls Tryz.prog 127 #[.slice ao n c] w fun e w'=>e=.returned (.int .u64 (bv (l.take 8)))/\w'=w:=by
 have r:=ba h;have p:=ba m
 have q:(8:Int)<=c:=by omega
 have j:Oct l:=h.oct;obtain⟨B,f⟩:∃ x,l[0]?=some x:=⟨l[0]'(by omega),List.getElem?_eq_getElem _⟩
 obtain⟨b,o,rfl,_⟩:=By.at h f;clear h m f;go_enter Tryz.func127,Tryz.ntmps127;go_wp2_with fail;go_loopw [3,9] (fun u i wr=>∃ k:Nat,k<=8/\i=.int .i64 k/\u=.int .u64 (bv (l.take k))/\wr=w) (fun _ i _=>8 - (intOf i).toNat)
 case atStart=>exact⟨0,Nat.zero_le _,rfl,rfl,rfl⟩
 case round =>
  obtain⟨k,F,rfl,rfl,rfl⟩:=hrel;by_cases t:k < 8
  ·obtain⟨x,hx⟩:∃ x,l[k]?=some x:=⟨l[k]'(by have:=p.out;omega),List.getElem?_eq_getElem _⟩
   obtain⟨E,A,e,C⟩:=By.at r.out hx
   cases e;have d:=j x (List.mem_of_getElem? hx)
   have s:Hid (bv (l.take (k+1))=bv (l.take k) * 256+x):=by
    show _=_
    rw[List.take_add_one,hx];exact qW _ _
   have hb:=kt k (l.take k) (fun y hy=>j y (List.mem_of_mem_take hy)) (by rw[List.length_take];have:=p.out;omega)
   have g:bv (l.take k) < 72057594037927936:=by
    have D:(256:Int) ^ k<=256 ^ 7:=by
     have:(256:Nat) ^ k<=256 ^ 7:=Nat.pow_le_pow_right (by decide) (by omega);exact_mod_cast this
    have:(256:Int) ^ 7=72057594037927936:=by decide
    omega
   have z:=or64 (bv (l.take k)) x hb.1 g d.1 d.2;generalize bv (l.take k)=V at *
   have v:(k:Int) < 8:=by omega
   clear hb g hx;go_wp2;go_roundw
   case rel =>
    refine⟨k+1,by omega,by go_num,?_,trivial⟩;rw[s.out]
   case measure=>simp[intOf];omega
  ·obtain rfl:k=8:=by omega
   go_wp2;go_ret;exact⟨rfl,rfl⟩
def fIn(l:List Int):Int × Int × Int:=((l.length:Int),(l[0]?).getD 0,if 9 < l.length/\l.length % 8=2 then (l[9]?).getD 0 else 0)
theorem ue(h:By w (.slice ao n c) l)(i:l.length=n)(q:n<=1000000000) :
  Calls Tryz.prog 123 #[.slice ao n c] w fun e w'=>e=.returned (fv (fIn l))/\Below w.heap.size w w':=by
 have E:=ba i;by_cases u:n=0
 ·have f:fIn l=(0,0,0):=by
   have:l=[]:=List.eq_nil_of_length_eq_zero (by omega);subst this;simp[fIn]
  rw[f];subst u;clear h i;go_enter Tryz.func123,Tryz.ntmps123;go_wp2;refine bodyPost_ret (eH rfl rfl (ow ((aD w [.int .i64 0,.int .u8 0,.int .u8 0] 201).keep (ae _ _)))) rfl ?_
  exact⟨rfl,aA (ae _ _) (ae _ _)⟩
 ·obtain⟨m,d⟩:∃ x,l[0]?=some x:=⟨l[0]'(by omega),List.getElem?_eq_getElem _⟩
  obtain⟨b,o,rfl,c0⟩:=By.at h d
  have A:(0:Int) < n:=by omega
  have v:=aK c0;rw[Nat.add_zero] at c0;by_cases p:9 < n/\n % 8=2
  ·obtain⟨t,g⟩:∃ x,l[9]?=some x:=⟨l[9]'(by omega),List.getElem?_eq_getElem _⟩
   obtain⟨D,B,e,C⟩:=By.at h g
   cases e
   have f:fIn l=((n:Int),m,t):=by rw[fIn,i,if_pos p,d,g];rfl
   rw[f]
   have j:(9:Int) < n:=by omega
   have s:Int.tmod (n:Int) 8=2:=by rw[Int.tmod_eq_emod_of_nonneg (by omega)];omega
   clear h i d g f p;go_enter Tryz.func123,Tryz.ntmps123;go_wp2;refine bodyPost_ret (eH rfl rfl (ow ((aD w [.int .i64 (n:Int),.int .u8 m,.int .u8 t] 201).keep (ae _ _)))) rfl ?_
   exact⟨rfl,aA (ae _ _) (ae _ _)⟩
  ·have f:fIn l=((n:Int),m,0):=by rw[fIn,i,if_neg p,d]; rfl
   rw[f];clear h i d f;by_cases y:9 < n
   ·have j:(9:Int) < n:=by omega
    obtain⟨r,s⟩:∃ r,Int.tmod (n:Int) 8=r:=⟨_,rfl⟩
    have z:¬ r=2:=by rw[<- s,Int.tmod_eq_emod_of_nonneg (by omega)];omega
    clear p;go_enter Tryz.func123,Tryz.ntmps123;go_wp2;refine bodyPost_ret (eH rfl rfl (ow ((aD w [.int .i64 (n:Int),.int .u8 m,.int .u8 0] 201).keep (ae _ _)))) rfl ?_
    exact⟨rfl,aA (ae _ _) (ae _ _)⟩
   ·have j:¬ ((9:Int) < n):=by omega
    clear p;go_enter Tryz.func123,Tryz.ntmps123;go_wp2;refine bodyPost_ret (eH rfl rfl (ow ((aD w [.int .i64 (n:Int),.int .u8 m,.int .u8 0] 201).keep (ae _ _)))) rfl ?_
    exact⟨rfl,aA (ae _ _) (ae _ _)⟩
end
end Ky
end
section
namespace Ky
open Go.RowKit Go.Lib Pg
attribute [local go_sem] Oper.semAt_some pQ
theorem wX:∀ k:Nat,k < 18->∀ w,(Instr.index 252 (.agg #[.int .i64 0,.int .u8 0,.int .u8 0,.int .i64 1,.int .u8 112,.int .u8 0,.int .i64 1,.int .u8 99,.int .u8 0,.int .i64 1,.int .u8 109,.int .u8 0,.int .i64 9,.int .u8 97,.int .u8 0,.int .i64 10,.int .u8 118,.int .u8 48,.int .i64 18,.int .u8 118,.int .u8 100,.int .i64 18,.int .u8 118,.int .u8 104,.int .i64 18,.int .u8 118,.int .u8 115,.int .i64 9,.int .u8 116,.int .u8 0,.int .i64 17,.int .u8 105,.int .u8 0,.int .i64 9,.int .u8 98,.int .u8 0,.int .i64 9,.int .u8 117,.int .u8 0,.int .i64 9,.int .u8 114,.int .u8 0,.int .i64 17,.int .u8 113,.int .u8 0,.int .i64 17,.int .u8 101,.int .u8 0,.int .i64 17,.int .u8 110,.int .u8 0,.int .i64 17,.int .u8 107,.int .u8 0]) (.int .i64 k)).run Tryz.prog w=.ok (.agg #[.int .i64 (frm k).1,.int .u8 (frm k).2.1,.int .u8 (frm k).2.2]) w:=by
 intro k a w;rcases(by omega:k=0\/k=1\/k=2\/k=3\/k=4\/k=5\/k=6\/k=7\/k=8\/k=9\/k=10\/k=11\/k=12\/k=13\/k=14\/k=15\/k=16\/k=17) with rfl | rfl | rfl | rfl | rfl | rfl | rfl | rfl | rfl | rfl | rfl | rfl | rfl | rfl | rfl | rfl | rfl | rfl
 all_goals kernel_rfl
theorem uk {w:World}:Calls Tryz.prog 172 #[] w fun e w'=>∃ FA:Array Value,e=.returned (.agg FA)/\Hid (∀ k:Nat,k < 18->∀ w,(Instr.index 252 (.agg FA) (.int .i64 k)).run Tryz.prog w=.ok (.agg #[.int .i64 (frm k).1,.int .u8 (frm k).2.1,.int .u8 (frm k).2.2]) w)/\Below w.heap.size w w' :=
 pr.mono fun _ _ h=>⟨_,h.1,wX,h.2⟩
theorem uM {w:World} {f0 f1 f2:Int}:Calls Tryz.prog 124 #[.agg #[.int .i64 f0,.int .u8 f1,.int .u8 f2]] w fun e w'=>(∃ r:Nat,e=.returned (.int .i64 r)/\((r < 18/\frm r=(f0,f1,f2))\/(r=0/\∀ j:Nat,j < 18->frm j≠(f0,f1,f2))))/\Below w.heap.size w w':=by
 go_enter Tryz.func124,Tryz.ntmps124;go_wp2_with (go_at_call 172;refine uk.mono ?_;rintro e y ⟨H,rfl,B,t⟩);have c:=(aD w [.int .i64 f0,.int .u8 f1,.int .u8 f2] 201).keep t;have x:=aA (ae w (.cells #[.int .i64 f0,.int .u8 f1,.int .u8 f2] 201)) t;have z:=ba c;have b:=ba x;obtain⟨q,A⟩:∃ q,Hid (w.heap.size=q):=⟨_,rfl⟩
 rw[A.out] at z ⊢;clear c x t;go_loopw [6] (fun v wr=>∃ k:Nat,k<=18/\v=.int .i64 k/\Hid (∀ j:Nat,j < k->frm j≠(f0,f1,f2))/\Hid (Below y.heap.size y wr)) (fun v _=>18 - (intOf v).toNat)
 case atStart=>exact⟨0,Nat.zero_le _,rfl,fun j h=>by omega,Below.refl _ _⟩
 case round =>
  obtain⟨k,F,rfl,o,d⟩:=hrel;by_cases l:k < 18
  ·have hi:=B.out k l
   have C:(k:Int) < 18:=by omega
   have c:=z.out.keep d.out;have q0:=c.cell (i:=0) rfl;have q1:=c.cell (i:=1) rfl;have G:=c.cell (i:=2) rfl;have E:=c.lt;obtain⟨⟨u,p1,D⟩,m⟩:∃ p,Hid (frm k=p):=⟨_,rfl⟩
   rw[m.out] at hi;simp only at hi;clear c;by_cases s:u=f0
   ·by_cases e1:p1=f1
    ·by_cases e2:D=f2
     ·subst s e1 e2;go_wp2;go_ret;refine⟨⟨k,rfl,.inl ⟨l,m.out⟩⟩,?_⟩;exact b.out.trans ((aA d.out (ae _ _)).mono b.out.size)
     ·subst s e1
      have g:Hid (frm k≠(u,p1,f2)):=by show _≠_;rw[m.out];intro e;cases e;exact e2 rfl
      go_wp2;go_roundw
      case rel =>
       refine⟨k+1,by omega,by go_num,fun j n=>?_,aA d.out (ae _ _)⟩;by_cases f:j=k
       ·subst f;exact g.out
       ·exact o.out j (by omega)
      case measure=>simp[intOf];omega
    ·subst s
     have g:Hid (frm k≠(u,f1,f2)):=by show _≠_;rw[m.out];intro e;cases e;exact e1 rfl
     go_wp2;go_roundw
     case rel =>
      refine⟨k+1,by omega,by go_num,fun j n=>?_,aA d.out (ae _ _)⟩;by_cases f:j=k
      ·subst f;exact g.out
      ·exact o.out j (by omega)
     case measure=>simp[intOf];omega
   ·have g:Hid (frm k≠(f0,f1,f2)):=by show _≠_; rw[m.out]; intro e; cases e; exact s rfl
    go_wp2;go_roundw
    case rel =>
     refine⟨k+1,by omega,by go_num,fun j n=>?_,aA d.out (ae _ _)⟩;by_cases f:j=k
     ·subst f;exact g.out
     ·exact o.out j (by omega)
    case measure=>simp[intOf];omega
  ·obtain rfl:k=18:=by omega
   go_wp2;go_ret;refine⟨⟨0,rfl,.inr ⟨rfl,fun j n=>o.out j n⟩⟩,?_⟩;exact b.out.trans (d.out.mono b.out.size)
end Ky
end
section
namespace Ky
open Go.RowKit Go.Lib Pg
attribute [local go_sem] Oper.semAt_some pQ
section
variable {w:World}{ao:Option Addr}{n c b o r g:Nat}{l:List Int}{a:Act}{x u:Value}{tmps:Array Value}
theorem By.lens(h:By w (.slice ao n c) l):l.length=n/\n<=c/\c<=9223372036854775807:=by
 obtain⟨ao',c',e,h2,h3,_⟩:=h.ex
 cases e;exact⟨rfl,h2,h3⟩
theorem By.drop(h:By w (.slice (some ⟨b,o,none⟩) n c) l)(j:Nat)(u:j<=n):By w (.slice (some ⟨b,o+j,none⟩) (n - j) (c - j)) (l.drop j):=by
 obtain⟨r,hc,hm⟩:=By.lens h;obtain⟨f,t,e,s,v,q,g,k⟩:=h.ex
 cases e;refine⟨some ⟨b,o+j,none⟩,c - j,by rw[List.length_drop],by rw[List.length_drop];omega,by omega,(fun e=>by cases e),fun x hx=>g x (List.mem_of_mem_drop hx),?_⟩;rcases k with rfl | ⟨m,p,e,d,a⟩
 ·exact .inl (by simp)
 ·cases e;refine .inr ⟨b,o+j,rfl,d,fun i x hi=>?_⟩;rw[List.getElem?_drop] at hi;have:=a (j+i) x hi;rw[show o+(j+i)=o+j+i by omega] at this;exact this
theorem o7{op:Oper}{x:Nat}(g:op.op=.slice 87 (.tmp x) (some (.const (.int .i64 1))) none none)(hx:a.eval (.tmp x)=.slice (some ⟨b,o,none⟩) n c)(hn:1<=n)(hc:2<=c)(j:n<=c):(execOp a.eval op).run Tryz.prog w=.ok (.value (.slice (some ⟨b,o+1,none⟩) (n - 1) (c - 1))) w:=by
 have l:¬ ((n:Int) < 1):=by omega
 have q:(1:Int)<=n:=by omega
 have s:¬ (c - 1=0):=by omega
 have r:(n:Int)<=c:=by omega
 have m:¬ (c<=1):=by omega
 have p:¬ ((c:Int)=1):=by omega
 have h7:¬ (c=1):=by omega
 obtain⟨i0,hi,i,d,f⟩:=info_parts (P:=Tryz.prog) KB.inf;simp only[execOp,g,hx];go_simp
def rdA(r:Nat)(l:List Int):Int:=if 8 < l.length then tn r (bv ((l.drop 1).take 8)) else 0
def rdB(l:List Int):Int:=if 16 < l.length then bv (l.drop (l.length - 8)) else 0
theorem vE:∀ i:Nat,i < 18->∀ j:Nat,j < 18->frm i=frm j->i=j:=by decide +kernel
theorem sZ{f0 f1 f2:Int}(a:r < 18)(h:frm r=(f0,f1,f2)):Calls Tryz.prog 124 #[.agg #[.int .i64 f0,.int .u8 f1,.int .u8 f2]] w fun e w'=>e=.returned (.int .i64 r)/\Below w.heap.size w w':=by
 refine uM.mono ?_
 rintro e w' ⟨⟨c,rfl,b⟩,hb⟩;rcases b with⟨h1,h2⟩ | ⟨rfl,h2⟩
 ·have:=vE c h1 r a (h2.trans h.symm);subst this;exact⟨rfl,hb⟩
 ·exact absurd h (h2 r a)
theorem vq{y z:Value}(h:Blk w g [x,y,z] 139):(loadVar 139 ⟨g,0,none⟩).run Tryz.prog w=.ok (.agg #[x,y,z]) w:=by
 have c0:=h.cell (i:=0) rfl;have c1:=h.cell (i:=1) rfl;have c2:=h.cell (i:=2) rfl;go_simp
theorem gS{fn:Func}{p u:Tmp}{ty:TypeId}(h:fn.results=#[.cell p ty,.tmp u]){v:Value}(a:tmps.getD p undef=.pointer (some ⟨g,0,none⟩))(hu:tmps.getD u undef=x)(b:(loadVar ty ⟨g,0,none⟩).run Tryz.prog w=.ok v w):(results fn tmps).run Tryz.prog w=.ok (.tuple #[v,x]) w:=by
 rw[results_cell_tmp h,a,hu];simp[asAddr,b]
theorem De:∀ r:Nat,r < 18->0 < r->0 < (frm r).1:=by decide +kernel
theorem rn{o:Oper}(k q:Nat){off:Nat}{x:Int}(c:o.op=.store 22 (.tmp k) (.tmp q))(b:a.eval (.tmp k)=.pointer (some ⟨g,off,none⟩))(d:a.eval (.tmp q)=.int .u64 x)(hc:w.cell? ⟨g,off,none⟩=some u)(hf:w.frozen? ⟨g,off,none⟩=false) :
  (execOp a.eval o).run Tryz.prog w=.ok .skip (w.setCell ⟨g,off,none⟩ (.int .u64 x)):=by
 simp only[execOp,c,b,d];go_simp
theorem yK(h:By w (.slice ao n c) l)(hbig:n<=1000000000)(hr:r < 18)(hr0:0 < r)(L:frm r=fIn l) :
  Calls Tryz.prog 76 #[.slice ao n c] w fun e w'=>e=.returned (.tuple #[.agg #[.int .i64 (r:Int),.int .u64 (rdA r l),.int .u64 (rdB l)],.int .i64 0])/\Below w.heap.size w w':=by
 obtain⟨hl,hnc,hcm⟩:=By.lens h;have u1:=fun w' (hB:Below w.heap.size w w')=>ue (h.keep hB) hl hbig
 have Y:=De r hr hr0;obtain⟨⟨f0,f1,f2⟩,hf⟩:∃ f,Hid (fIn l=f):=⟨_,rfl⟩
 have hf0:f0=(n:Int):=by have:=hf.out;rw[fIn,hl] at this;cases this;rfl
 subst hf0;rw[hf.out] at u1 L;rw[L] at Y;simp only[fv] at u1 Y;have u2:=fun w'=>sZ (w:=w') hr L
 obtain⟨x0,hx0⟩:∃ x,l[0]?=some x:=⟨l[0]'(by omega),List.getElem?_eq_getElem _⟩
 obtain⟨b,o,rfl,_⟩:=By.at h hx0;have HB:=ba h
 have nr:¬ ((r:Int)=0):=by omega
 clear h L hx0;by_cases h8:8 < n
 ·by_cases h16:16 < n
  ·have g8:((8:Int) < n):=by omega
   have vA:=fun w=>fE (w:=w) (n:=n) (x:=f1) (y:=f2)
   rw[decide_eq_true g8] at vA
   have g16:((16:Int) < n):=by omega
   have Q:=fun w=>gx (w:=w) (n:=n) (x:=f1) (y:=f2)
   rw[decide_eq_true g16] at Q
   have U:True:=trivial
   have mB:True:=trivial
   have K:Hid (rdA r l=tn r (bv ((l.drop 1).take 8))):=by show _=_;rw[rdA,if_pos (by omega)]
   have J:Hid (rdB l=bv ((l.drop (n - 8)).take 8)):=by show _=_;rw[rdB,if_pos (by omega)];rw[hl,List.take_of_length_le (by rw[List.length_drop];omega)]
   rw[K.out,J.out];go_enter Tryz.func76,Tryz.ntmps76;go_wp2_with first
    | (go_at_call 123;refine(u1 _ (ae _ _)).mono ?_;rintro e H ⟨rfl,G⟩)
    | (go_at_call 124;refine(u2 _).mono ?_;rintro e s ⟨rfl,F⟩;have al:=ae s (.cells #[.int .i64 (r:Int),.int .u64 0,.int .u64 0] 139);have bf:=aA (ae H (.cells #[.int .i64 (n:Int),.int .u8 f1,.int .u8 f2] 201)) F;have kq2:=(((aD w [.int .i64 0,.int .u64 0,.int .u64 0] 139).keep G).keep bf).keep al;have m:=((aD H [.int .i64 (n:Int),.int .u8 f1,.int .u8 f2] 201).keep F).keep al;have g:=aD s [.int .i64 (r:Int),.int .u64 0,.int .u64 0] 139;have B:=aA (aA (aA (ae w (.cells #[.int .i64 0,.int .u64 0,.int .u64 0] 139)) G) bf) al;have lt1:w.heap.size < H.heap.size:=Nat.lt_of_lt_of_le (by simp) G.size;have lt2:H.heap.size < s.heap.size:=Nat.lt_of_lt_of_le (by simp) F.size;have p0_2:=g.cell (i:=0) rfl;have p1_2:=g.cell (i:=1) rfl;have O:=g.cell (i:=2) rfl;have g0_2:=m.cell (i:=0) rfl;have g1_2:=m.cell (i:=1) rfl;have R:=m.cell (i:=2) rfl;have W:=kq2.cell (i:=0) rfl;have q1_2:=kq2.cell (i:=1) rfl;have q2_2:=kq2.cell (i:=2) rfl;have y0_2:=kq2.free 0;have y1_2:=kq2.free 1;have y2_2:=kq2.free 2;have x0_2:=g.free 0;have N:=g.free 1;have V:=g.free 2;replace g:=ba g;replace m:=ba m;replace kq2:=ba kq2;replace B:=ba B;clear G F bf al)
    | (go_at_call 125;have gate:=U;clear gate;go_must (refine(vA _).mono ?_);clear U;rintro e I ⟨rfl,D⟩;have d:=g.out.keep D;have q:=m.out.keep D;have kq3:=kq2.out.keep D;have z:=aA B.out D;have p0_3:=d.cell (i:=0) rfl;have p1_3:=d.cell (i:=1) rfl;have P:=d.cell (i:=2) rfl;have g0_3:=q.cell (i:=0) rfl;have g1_3:=q.cell (i:=1) rfl;have g2_3:=q.cell (i:=2) rfl;have q0_3:=kq3.cell (i:=0) rfl;have q1_3:=kq3.cell (i:=1) rfl;have q2_3:=kq3.cell (i:=2) rfl;have y0_3:=kq3.free 0;have y1_3:=kq3.free 1;have y2_3:=kq3.free 2;have Z:=d.free 0;have x1_3:=d.free 1;have x2_3:=d.free 2;replace d:=ba d;replace q:=ba q;replace kq3:=ba kq3;replace z:=ba z;clear D)
   have hS:I.drew.cell? ⟨s.heap.size,0,none⟩=some (.int .i64 (r:Int)):=d.out.drew.cell rfl;have BY:=(HB.out.keep z.out).drew;have bb:=kt 8 ((l.drop 1).take 8) (fun y hy=>HB.out.oct y (List.mem_of_mem_drop (List.mem_of_mem_take hy))) (by rw[List.length_take,List.length_drop];omega);rw[show (256:Int) ^ 8=18446744073709551616 by decide] at bb;refine bR (S:=fun w'=>w'.cell? ⟨s.heap.size,0,none⟩=some (.int .i64 (r:Int))) (by kernel_rfl) hS ?_
   refine ay 0 (some 17) (.pointer (some ⟨s.heap.size,0,none⟩)) (by kernel_rfl) (fun _ _=>by kernel_rfl) (fun _ _ _ h=>h) hS ?_
   refine aQ 1 (some 18) (.int .i64 (r:Int)) 3 17 s.heap.size 0 (by kernel_rfl) (by kernel_rfl) (by kernel_rfl) (fun w' h=>ic h) (fun _ _ _ h=>h) hS ?_
   refine ay 2 (some 19) (.slice (some ⟨b,o,none⟩) n c) (by kernel_rfl) (fun _ _=>by kernel_rfl) (fun _ _ _ h=>h) hS ?_
   refine ay 3 (some 20) (.slice (some ⟨b,o+1,none⟩) (n - 1) (c - 1)) (by kernel_rfl) (fun _ _=>o7 (x:=19) (by kernel_rfl) (by kernel_rfl) (by omega) (by omega) hnc) (fun _ _ _ h=>h) hS ?_
   refine bQ 4 (some 21) 127 #[.slice (some ⟨b,o+1,none⟩) (n - 1) (c - 1)] (by kernel_rfl) (by kernel_rfl) (gW (By.drop BY 1 (by omega)) (by rw[List.length_drop];omega) (by omega) (by omega)) ?_
   rintro e' w4 ⟨rfl,rfl⟩;refine⟨_,rfl,hS,?_⟩;refine bQ 5 (some 22) 126 #[.int .i64 (r:Int),.int .u64 (bv ((l.drop 1).take 8))] (by kernel_rfl) (by kernel_rfl) (gI bb.1 bb.2) ?_
   rintro e' w5 ⟨rfl,rfl⟩;refine⟨.int .u64 (tn r (bv ((l.drop 1).take 8))),rfl,hS,?_⟩;refine ay 6 (some 23) (.pointer (some ⟨s.heap.size,1,none⟩)) (by kernel_rfl) (fun _ _=>by kernel_rfl) (fun _ _ _ h=>h) hS ?_
   refine aM [7] (by kernel_rfl) (by simp) (dw 7 (I.drew.setCell ⟨s.heap.size,1,none⟩ (.int .u64 (tn r (bv ((l.drop 1).take 8))))) (by kernel_rfl) (rn 23 22 (by kernel_rfl) (by kernel_rfl) (by kernel_rfl) (d.out.drew.cell (i:=1) rfl) (d.out.drew.free 1)) ((d.out.drew.setCell (i:=1) _).cell (i:=0) rfl) ?_ aZ);refine bM (by kernel_rfl) ?_
   simp only[Act.put,List.setIfInBounds_toArray,List.set_cons_zero,List.set_cons_succ]
   have t:Blk (I.drew.setCell ⟨s.heap.size,1,none⟩ (.int .u64 (tn r (bv ((l.drop 1).take 8))))) s.heap.size [.int .i64 (r:Int),.int .u64 (tn r (bv ((l.drop 1).take 8))),.int .u64 0] 139:=d.out.drew.setCell (i:=1) _;have v:=q.out.drew.off (g':=s.heap.size) (by omega) (i:=1) (.int .u64 (tn r (bv ((l.drop 1).take 8))));have kq5:=kq3.out.drew.off (g':=s.heap.size) (by omega) (i:=1) (.int .u64 (tn r (bv ((l.drop 1).take 8))));have E:=(aA z.out (cy I)).setCell (p:=⟨s.heap.size,1,none⟩) (show w.heap.size<=s.heap.size by omega) (.int .u64 (tn r (bv ((l.drop 1).take 8))));generalize hX5:I.drew.setCell ⟨s.heap.size,1,none⟩ (.int .u64 (tn r (bv ((l.drop 1).take 8))))=X5 at *;clear hX5;generalize hAV:tn r (bv ((l.drop 1).take 8))=AV at *;have HAV:=ba hAV;clear hAV;have p0_5:=t.cell (i:=0) rfl;have p1_5:=t.cell (i:=1) rfl;have p2_5:=t.cell (i:=2) rfl;have g0_5:=v.cell (i:=0) rfl;have g1_5:=v.cell (i:=1) rfl;have g2_5:=v.cell (i:=2) rfl;have q0_5:=kq5.cell (i:=0) rfl;have q1_5:=kq5.cell (i:=1) rfl;have q2_5:=kq5.cell (i:=2) rfl;have y0_5:=kq5.free 0;have y1_5:=kq5.free 1;have y2_5:=kq5.free 2;have x0_5:=t.free 0;have x1_5:=t.free 1;have x2_5:=t.free 2;replace t:=ba t;replace v:=ba v;replace kq5:=ba kq5;replace E:=ba E;clear BY bb hS;have HB8:=ba HB.out;go_wp2_with first
    | (go_at_call 128;have gate:=mB;clear gate;go_must (refine(Q _).mono ?_);clear mB;rintro e w6 ⟨rfl,C⟩;have j:=t.out.keep C;have u:=v.out.keep C;have kq6:=kq5.out.keep C;have A:=aA E.out C;have M:=j.cell (i:=0) rfl;have p1_6:=j.cell (i:=1) rfl;have p2_6:=j.cell (i:=2) rfl;have g0_6:=u.cell (i:=0) rfl;have g1_6:=u.cell (i:=1) rfl;have T:=u.cell (i:=2) rfl;have q0_6:=kq6.cell (i:=0) rfl;have q1_6:=kq6.cell (i:=1) rfl;have q2_6:=kq6.cell (i:=2) rfl;have X:=kq6.free 0;have y1_6:=kq6.free 1;have y2_6:=kq6.free 2;have x0_6:=j.free 0;have x1_6:=j.free 1;have x2_6:=j.free 2;replace j:=ba j;replace u:=ba u;replace kq6:=ba kq6;replace A:=ba A;clear C)
    | (go_at_call 127;refine(gW (By.drop (HB8.out.keep A.out) (n - 8) (by omega)) (by rw[List.length_drop];omega) (by omega) (by omega)).mono ?_;rintro e w7 ⟨rfl,rfl⟩)
   refine bodyPost_ret (gS rfl rfl rfl (vq (yz (kq6.out.off (g':=s.heap.size) (by omega) (i:=2) _) _ _ _))) rfl ?_
   refine⟨?_,kJ (A.out.setCell (p:=⟨s.heap.size,2,none⟩) (show w.heap.size<=s.heap.size by omega) _) _ _ _⟩
   show Ending.returned (.tuple #[.agg #[.int .i64 (r:Int),.int .u64 AV,.int .u64 (bv ((l.drop (n - 8)).take 8))],.int .i64 0])=_
   rw[<- HAV.out]
  ·have g8:((8:Int) < n):=by omega
   have vA:=fun w=>fE (w:=w) (n:=n) (x:=f1) (y:=f2)
   rw[decide_eq_true g8] at vA
   have g16:¬ ((16:Int) < n):=by omega
   have Q:=fun w=>gx (w:=w) (n:=n) (x:=f1) (y:=f2)
   rw[decide_eq_false g16] at Q
   have U:True:=trivial
   have mB:True:=trivial
   have K:Hid (rdA r l=tn r (bv ((l.drop 1).take 8))):=by show _=_;rw[rdA,if_pos (by omega)]
   have J:Hid (rdB l=0):=by show _=_;rw[rdB,if_neg (by omega)]
   rw[K.out,J.out];go_enter Tryz.func76,Tryz.ntmps76;go_wp2_with first
    | (go_at_call 123;refine(u1 _ (ae _ _)).mono ?_;rintro e H ⟨rfl,G⟩)
    | (go_at_call 124;refine(u2 _).mono ?_;rintro e s ⟨rfl,F⟩;have al:=ae s (.cells #[.int .i64 (r:Int),.int .u64 0,.int .u64 0] 139);have bf:=aA (ae H (.cells #[.int .i64 (n:Int),.int .u8 f1,.int .u8 f2] 201)) F;have kq2:=(((aD w [.int .i64 0,.int .u64 0,.int .u64 0] 139).keep G).keep bf).keep al;have m:=((aD H [.int .i64 (n:Int),.int .u8 f1,.int .u8 f2] 201).keep F).keep al;have g:=aD s [.int .i64 (r:Int),.int .u64 0,.int .u64 0] 139;have B:=aA (aA (aA (ae w (.cells #[.int .i64 0,.int .u64 0,.int .u64 0] 139)) G) bf) al;have lt1:w.heap.size < H.heap.size:=Nat.lt_of_lt_of_le (by simp) G.size;have lt2:H.heap.size < s.heap.size:=Nat.lt_of_lt_of_le (by simp) F.size;have p0_2:=g.cell (i:=0) rfl;have p1_2:=g.cell (i:=1) rfl;have O:=g.cell (i:=2) rfl;have g0_2:=m.cell (i:=0) rfl;have g1_2:=m.cell (i:=1) rfl;have R:=m.cell (i:=2) rfl;have W:=kq2.cell (i:=0) rfl;have q1_2:=kq2.cell (i:=1) rfl;have q2_2:=kq2.cell (i:=2) rfl;have y0_2:=kq2.free 0;have y1_2:=kq2.free 1;have y2_2:=kq2.free 2;have x0_2:=g.free 0;have N:=g.free 1;have V:=g.free 2;replace g:=ba g;replace m:=ba m;replace kq2:=ba kq2;replace B:=ba B;clear G F bf al)
    | (go_at_call 125;have gate:=U;clear gate;go_must (refine(vA _).mono ?_);clear U;rintro e I ⟨rfl,D⟩;have d:=g.out.keep D;have q:=m.out.keep D;have kq3:=kq2.out.keep D;have z:=aA B.out D;have p0_3:=d.cell (i:=0) rfl;have p1_3:=d.cell (i:=1) rfl;have P:=d.cell (i:=2) rfl;have g0_3:=q.cell (i:=0) rfl;have g1_3:=q.cell (i:=1) rfl;have g2_3:=q.cell (i:=2) rfl;have q0_3:=kq3.cell (i:=0) rfl;have q1_3:=kq3.cell (i:=1) rfl;have q2_3:=kq3.cell (i:=2) rfl;have y0_3:=kq3.free 0;have y1_3:=kq3.free 1;have y2_3:=kq3.free 2;have Z:=d.free 0;have x1_3:=d.free 1;have x2_3:=d.free 2;replace d:=ba d;replace q:=ba q;replace kq3:=ba kq3;replace z:=ba z;clear D)
   have hS:I.drew.cell? ⟨s.heap.size,0,none⟩=some (.int .i64 (r:Int)):=d.out.drew.cell rfl;have BY:=(HB.out.keep z.out).drew;have bb:=kt 8 ((l.drop 1).take 8) (fun y hy=>HB.out.oct y (List.mem_of_mem_drop (List.mem_of_mem_take hy))) (by rw[List.length_take,List.length_drop];omega);rw[show (256:Int) ^ 8=18446744073709551616 by decide] at bb;refine bR (S:=fun w'=>w'.cell? ⟨s.heap.size,0,none⟩=some (.int .i64 (r:Int))) (by kernel_rfl) hS ?_
   refine ay 0 (some 17) (.pointer (some ⟨s.heap.size,0,none⟩)) (by kernel_rfl) (fun _ _=>by kernel_rfl) (fun _ _ _ h=>h) hS ?_
   refine aQ 1 (some 18) (.int .i64 (r:Int)) 3 17 s.heap.size 0 (by kernel_rfl) (by kernel_rfl) (by kernel_rfl) (fun w' h=>ic h) (fun _ _ _ h=>h) hS ?_
   refine ay 2 (some 19) (.slice (some ⟨b,o,none⟩) n c) (by kernel_rfl) (fun _ _=>by kernel_rfl) (fun _ _ _ h=>h) hS ?_
   refine ay 3 (some 20) (.slice (some ⟨b,o+1,none⟩) (n - 1) (c - 1)) (by kernel_rfl) (fun _ _=>o7 (x:=19) (by kernel_rfl) (by kernel_rfl) (by omega) (by omega) hnc) (fun _ _ _ h=>h) hS ?_
   refine bQ 4 (some 21) 127 #[.slice (some ⟨b,o+1,none⟩) (n - 1) (c - 1)] (by kernel_rfl) (by kernel_rfl) (gW (By.drop BY 1 (by omega)) (by rw[List.length_drop];omega) (by omega) (by omega)) ?_
   rintro e' w4 ⟨rfl,rfl⟩;refine⟨_,rfl,hS,?_⟩;refine bQ 5 (some 22) 126 #[.int .i64 (r:Int),.int .u64 (bv ((l.drop 1).take 8))] (by kernel_rfl) (by kernel_rfl) (gI bb.1 bb.2) ?_
   rintro e' w5 ⟨rfl,rfl⟩;refine⟨.int .u64 (tn r (bv ((l.drop 1).take 8))),rfl,hS,?_⟩;refine ay 6 (some 23) (.pointer (some ⟨s.heap.size,1,none⟩)) (by kernel_rfl) (fun _ _=>by kernel_rfl) (fun _ _ _ h=>h) hS ?_
   refine aM [7] (by kernel_rfl) (by simp) (dw 7 (I.drew.setCell ⟨s.heap.size,1,none⟩ (.int .u64 (tn r (bv ((l.drop 1).take 8))))) (by kernel_rfl) (rn 23 22 (by kernel_rfl) (by kernel_rfl) (by kernel_rfl) (d.out.drew.cell (i:=1) rfl) (d.out.drew.free 1)) ((d.out.drew.setCell (i:=1) _).cell (i:=0) rfl) ?_ aZ);refine bM (by kernel_rfl) ?_
   simp only[Act.put,List.setIfInBounds_toArray,List.set_cons_zero,List.set_cons_succ]
   have t:Blk (I.drew.setCell ⟨s.heap.size,1,none⟩ (.int .u64 (tn r (bv ((l.drop 1).take 8))))) s.heap.size [.int .i64 (r:Int),.int .u64 (tn r (bv ((l.drop 1).take 8))),.int .u64 0] 139:=d.out.drew.setCell (i:=1) _;have v:=q.out.drew.off (g':=s.heap.size) (by omega) (i:=1) (.int .u64 (tn r (bv ((l.drop 1).take 8))));have kq5:=kq3.out.drew.off (g':=s.heap.size) (by omega) (i:=1) (.int .u64 (tn r (bv ((l.drop 1).take 8))));have E:=(aA z.out (cy I)).setCell (p:=⟨s.heap.size,1,none⟩) (show w.heap.size<=s.heap.size by omega) (.int .u64 (tn r (bv ((l.drop 1).take 8))));generalize hX5:I.drew.setCell ⟨s.heap.size,1,none⟩ (.int .u64 (tn r (bv ((l.drop 1).take 8))))=X5 at *;clear hX5;generalize hAV:tn r (bv ((l.drop 1).take 8))=AV at *;have HAV:=ba hAV;clear hAV;have p0_5:=t.cell (i:=0) rfl;have p1_5:=t.cell (i:=1) rfl;have p2_5:=t.cell (i:=2) rfl;have g0_5:=v.cell (i:=0) rfl;have g1_5:=v.cell (i:=1) rfl;have g2_5:=v.cell (i:=2) rfl;have q0_5:=kq5.cell (i:=0) rfl;have q1_5:=kq5.cell (i:=1) rfl;have q2_5:=kq5.cell (i:=2) rfl;have y0_5:=kq5.free 0;have y1_5:=kq5.free 1;have y2_5:=kq5.free 2;have x0_5:=t.free 0;have x1_5:=t.free 1;have x2_5:=t.free 2;replace t:=ba t;replace v:=ba v;replace kq5:=ba kq5;replace E:=ba E;clear BY bb hS;go_wp2_with (go_at_call 128;have gate:=mB;clear gate;go_must (refine(Q _).mono ?_);clear mB;rintro e w6 ⟨rfl,C⟩;have j:=t.out.keep C;have u:=v.out.keep C;have kq6:=kq5.out.keep C;have A:=aA E.out C;have M:=j.cell (i:=0) rfl;have p1_6:=j.cell (i:=1) rfl;have p2_6:=j.cell (i:=2) rfl;have g0_6:=u.cell (i:=0) rfl;have g1_6:=u.cell (i:=1) rfl;have T:=u.cell (i:=2) rfl;have q0_6:=kq6.cell (i:=0) rfl;have q1_6:=kq6.cell (i:=1) rfl;have q2_6:=kq6.cell (i:=2) rfl;have X:=kq6.free 0;have y1_6:=kq6.free 1;have y2_6:=kq6.free 2;have x0_6:=j.free 0;have x1_6:=j.free 1;have x2_6:=j.free 2;replace j:=ba j;replace u:=ba u;replace kq6:=ba kq6;replace A:=ba A;clear C);refine bodyPost_ret (gS rfl rfl rfl (vq (yz kq6.out _ _ _))) rfl ?_
   refine⟨?_,kJ A.out _ _ _⟩
   show Ending.returned (.tuple #[.agg #[.int .i64 (r:Int),.int .u64 AV,.int .u64 0],.int .i64 0])=_
   rw[<- HAV.out]
 ·have g8:¬ ((8:Int) < n):=by omega
  have vA:=fun w=>fE (w:=w) (n:=n) (x:=f1) (y:=f2)
  rw[decide_eq_false g8] at vA
  have g16:¬ ((16:Int) < n):=by omega
  have Q:=fun w=>gx (w:=w) (n:=n) (x:=f1) (y:=f2)
  rw[decide_eq_false g16] at Q
  have U:True:=trivial
  have mB:True:=trivial
  have K:Hid (rdA r l=0):=by show _=_;rw[rdA,if_neg (by omega)]
  have J:Hid (rdB l=0):=by show _=_;rw[rdB,if_neg (by omega)]
  rw[K.out,J.out];go_enter Tryz.func76,Tryz.ntmps76;go_wp2_with first
   | (go_at_call 123;refine(u1 _ (ae _ _)).mono ?_;rintro e H ⟨rfl,G⟩)
   | (go_at_call 124;refine(u2 _).mono ?_;rintro e s ⟨rfl,F⟩;have al:=ae s (.cells #[.int .i64 (r:Int),.int .u64 0,.int .u64 0] 139);have bf:=aA (ae H (.cells #[.int .i64 (n:Int),.int .u8 f1,.int .u8 f2] 201)) F;have kq2:=(((aD w [.int .i64 0,.int .u64 0,.int .u64 0] 139).keep G).keep bf).keep al;have m:=((aD H [.int .i64 (n:Int),.int .u8 f1,.int .u8 f2] 201).keep F).keep al;have g:=aD s [.int .i64 (r:Int),.int .u64 0,.int .u64 0] 139;have B:=aA (aA (aA (ae w (.cells #[.int .i64 0,.int .u64 0,.int .u64 0] 139)) G) bf) al;have lt1:w.heap.size < H.heap.size:=Nat.lt_of_lt_of_le (by simp) G.size;have lt2:H.heap.size < s.heap.size:=Nat.lt_of_lt_of_le (by simp) F.size;have p0_2:=g.cell (i:=0) rfl;have p1_2:=g.cell (i:=1) rfl;have O:=g.cell (i:=2) rfl;have g0_2:=m.cell (i:=0) rfl;have g1_2:=m.cell (i:=1) rfl;have R:=m.cell (i:=2) rfl;have W:=kq2.cell (i:=0) rfl;have q1_2:=kq2.cell (i:=1) rfl;have q2_2:=kq2.cell (i:=2) rfl;have y0_2:=kq2.free 0;have y1_2:=kq2.free 1;have y2_2:=kq2.free 2;have x0_2:=g.free 0;have N:=g.free 1;have V:=g.free 2;replace g:=ba g;replace m:=ba m;replace kq2:=ba kq2;replace B:=ba B;clear G F bf al)
   | (go_at_call 125;have gate:=U;clear gate;go_must (refine(vA _).mono ?_);clear U;rintro e I ⟨rfl,D⟩;have d:=g.out.keep D;have q:=m.out.keep D;have kq3:=kq2.out.keep D;have z:=aA B.out D;have p0_3:=d.cell (i:=0) rfl;have p1_3:=d.cell (i:=1) rfl;have P:=d.cell (i:=2) rfl;have g0_3:=q.cell (i:=0) rfl;have g1_3:=q.cell (i:=1) rfl;have g2_3:=q.cell (i:=2) rfl;have q0_3:=kq3.cell (i:=0) rfl;have q1_3:=kq3.cell (i:=1) rfl;have q2_3:=kq3.cell (i:=2) rfl;have y0_3:=kq3.free 0;have y1_3:=kq3.free 1;have y2_3:=kq3.free 2;have Z:=d.free 0;have x1_3:=d.free 1;have x2_3:=d.free 2;replace d:=ba d;replace q:=ba q;replace kq3:=ba kq3;replace z:=ba z;clear D)
   | (go_at_call 128;have gate:=mB;clear gate;go_must (refine(Q _).mono ?_);clear mB;rintro e w6 ⟨rfl,C⟩;have j:=d.out.keep C;have u:=q.out.keep C;have kq6:=kq3.out.keep C;have A:=aA z.out C;have M:=j.cell (i:=0) rfl;have p1_6:=j.cell (i:=1) rfl;have p2_6:=j.cell (i:=2) rfl;have g0_6:=u.cell (i:=0) rfl;have g1_6:=u.cell (i:=1) rfl;have T:=u.cell (i:=2) rfl;have q0_6:=kq6.cell (i:=0) rfl;have q1_6:=kq6.cell (i:=1) rfl;have q2_6:=kq6.cell (i:=2) rfl;have X:=kq6.free 0;have y1_6:=kq6.free 1;have y2_6:=kq6.free 2;have x0_6:=j.free 0;have x1_6:=j.free 1;have x2_6:=j.free 2;replace j:=ba j;replace u:=ba u;replace kq6:=ba kq6;replace A:=ba A;clear C)
  refine bodyPost_ret (gS rfl rfl rfl (vq (yz kq6.out _ _ _))) rfl ?_
  refine⟨?_,kJ A.out _ _ _⟩;rfl
end
end Ky
end
end Go.Proofs.YtjejmkcjflhoiaaGreatDoor
