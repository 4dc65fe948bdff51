import Derived.Test.YthfepflplbahkaaGreatDoorJag
import Derived.Laws.Rows
import Derived.Laws.ResultCell
import Derived.Deep.WholeRow
import Derived.Laws.Bits64
import Derived.Laws.MakeOwn
import Derived.Laws.BitsLemmas
set_option maxRecDepth 100000
set_option maxHeartbeats 8000000
namespace Go.Proofs.YthfepflplbahkaaGreatDoor
section
namespace Ky
open Go.RowKit Go.Lib Pg
attribute [local go_sem] Oper.semAt_some
def frms:List (Int × Int × Int):=[(0,0,0),(1,112,0),(1,99,0),(1,109,0),(9,97,0),(10,118,48),(18,118,100),(18,118,104),(18,118,115),(9,116,0),(17,105,0),(9,98,0),(9,117,0),(9,114,0),(17,113,0),(17,101,0),(17,110,0),(17,107,0)]
def frm (k:Int):Int × Int × Int:=if 0<=k/\k < 18 then frms.getD k.toNat (0,0,0) else (0,0,0)
def fv (f:Int × Int × Int):Value:=.agg #[.int .i64 f.1,.int .u8 f.2.1,.int .u8 f.2.2]
def gk:List Value:=[.int .i64 0,.int .u8 0,.int .u8 0,.int .i64 1,.int .u8 112,.int .u8 0,.int .i64 1,.int .u8 99,.int .u8 0,.int .i64 1,.int .u8 109,.int .u8 0,.int .i64 9,.int .u8 97,.int .u8 0,.int .i64 10,.int .u8 118,.int .u8 48,.int .i64 18,.int .u8 118,.int .u8 100,.int .i64 18,.int .u8 118,.int .u8 104,.int .i64 18,.int .u8 118,.int .u8 115,.int .i64 9,.int .u8 116,.int .u8 0,.int .i64 17,.int .u8 105,.int .u8 0,.int .i64 9,.int .u8 98,.int .u8 0,.int .i64 9,.int .u8 117,.int .u8 0,.int .i64 9,.int .u8 114,.int .u8 0,.int .i64 17,.int .u8 113,.int .u8 0,.int .i64 17,.int .u8 101,.int .u8 0,.int .i64 17,.int .u8 110,.int .u8 0,.int .i64 17,.int .u8 107,.int .u8 0]
section
variable {ops:Array Oper} {rest:List Oper} {o:Oper} {a:Act} {w w1:World} {Q:Exit->Act->World->Prop}
section
variable {c c':Array Value}
theorem ql(d:Option Tmp)(v:Value)(f:o.guard=none)(c:o.dst=d)(b:(execOp a.eval o).run Tryz.prog w=.ok (.value v) w1)(h:wpList Tryz.prog ops Q rest (a.put d v) w1):wpList Tryz.prog ops Q (o :: rest) a w :=
 wpList_plain f fun K e=>by
  unfold Oper.wp;rw[b];subst c;exact e _ _ h
theorem aY(d:Option Tmp)(v:Value)(e:o.guard=none)(c:o.dst=d)(b:(execOp a.eval o).run Tryz.prog w=.ok (.value v) w)(h:wpList Tryz.prog ops Q rest (a.put d v) w):wpList Tryz.prog ops Q (o :: rest) a w:=ql d v e c b h
theorem vq(e:o.guard=none)(c:o.dst=none)(b:(execOp a.eval o).run Tryz.prog w=.ok .skip w1)(h:wpList Tryz.prog ops Q rest (a.put none undef) w1):wpList Tryz.prog ops Q (o :: rest) a w :=
 wpList_plain e fun K d=>by
  unfold Oper.wp;rw[b]
  show K (a.put o.dst undef) w1
  rw[c];exact d _ _ h
theorem oO{t:TypeId}{k q:Nat}(b:o.op=.store t (.tmp k) (.tmp q))(f:a.eval (.tmp k)=.pointer (some ⟨w.heap.size,0,none⟩))(d:a.eval (.tmp q)=.agg c')(hi:(Tryz.prog.info? t).map (·.size)=some c'.size)(hs:c.size=c'.size)(e:c'.all (·.oneCell')=true):(execOp a.eval o).run Tryz.prog (w.alloc (.cells c t))=.ok .skip (w.alloc (.cells c' t)):=by
 simp only[execOp,b,f,d,Sem.run_bind,run_storeAt_new w t c c' hi hs e,Result.andThen_ok,Sem.run_pure]
end
end
theorem og {w:World}:Calls Tryz.prog 177 #[] w fun e w'=>e=.returned (.agg #[.int .i64 0,.int .u8 0,.int .u8 0,.int .i64 1,.int .u8 112,.int .u8 0,.int .i64 1,.int .u8 99,.int .u8 0,.int .i64 1,.int .u8 109,.int .u8 0,.int .i64 9,.int .u8 97,.int .u8 0,.int .i64 10,.int .u8 118,.int .u8 48,.int .i64 18,.int .u8 118,.int .u8 100,.int .i64 18,.int .u8 118,.int .u8 104,.int .i64 18,.int .u8 118,.int .u8 115,.int .i64 9,.int .u8 116,.int .u8 0,.int .i64 17,.int .u8 105,.int .u8 0,.int .i64 9,.int .u8 98,.int .u8 0,.int .i64 9,.int .u8 117,.int .u8 0,.int .i64 9,.int .u8 114,.int .u8 0,.int .i64 17,.int .u8 113,.int .u8 0,.int .i64 17,.int .u8 101,.int .u8 0,.int .i64 17,.int .u8 110,.int .u8 0,.int .i64 17,.int .u8 107,.int .u8 0])/\Below w.heap.size w w':=by
 go_enter Tryz.func177,Tryz.ntmps177;refine wp_seq ?_
 refine wp_region_lit ?_
 refine ql (some 0) (.pointer (some ⟨w.heap.size,0,none⟩)) rfl rfl (w1:=w.alloc (.cells #[.int .i64 0,.int .u8 0,.int .u8 0,.int .i64 0,.int .u8 0,.int .u8 0,.int .i64 0,.int .u8 0,.int .u8 0,.int .i64 0,.int .u8 0,.int .u8 0,.int .i64 0,.int .u8 0,.int .u8 0,.int .i64 0,.int .u8 0,.int .u8 0,.int .i64 0,.int .u8 0,.int .u8 0,.int .i64 0,.int .u8 0,.int .u8 0,.int .i64 0,.int .u8 0,.int .u8 0,.int .i64 0,.int .u8 0,.int .u8 0,.int .i64 0,.int .u8 0,.int .u8 0,.int .i64 0,.int .u8 0,.int .u8 0,.int .i64 0,.int .u8 0,.int .u8 0,.int .i64 0,.int .u8 0,.int .u8 0,.int .i64 0,.int .u8 0,.int .u8 0,.int .i64 0,.int .u8 0,.int .u8 0,.int .i64 0,.int .u8 0,.int .u8 0,.int .i64 0,.int .u8 0,.int .u8 0] 258)) (by kernel_rfl) ?_
 refine wpList_nil ?_
 refine wp_seq (x:=Code.region 1 _ false) ?_
 refine wp_region_lit ?_
 refine aY (some 1) (.agg #[.int .u8 112,.int .u8 0]) rfl rfl (by kernel_rfl) ?_
 refine aY (some 2) (.agg #[.int .i64 1,.int .u8 112,.int .u8 0]) rfl rfl (by kernel_rfl) ?_
 refine aY (some 3) (.agg #[.int .u8 99,.int .u8 0]) rfl rfl (by kernel_rfl) ?_
 refine aY (some 4) (.agg #[.int .i64 1,.int .u8 99,.int .u8 0]) rfl rfl (by kernel_rfl) ?_
 refine aY (some 5) (.agg #[.int .u8 109,.int .u8 0]) rfl rfl (by kernel_rfl) ?_
 refine aY (some 6) (.agg #[.int .i64 1,.int .u8 109,.int .u8 0]) rfl rfl (by kernel_rfl) ?_
 refine aY (some 7) (.agg #[.int .u8 97,.int .u8 0]) rfl rfl (by kernel_rfl) ?_
 refine aY (some 8) (.agg #[.int .i64 9,.int .u8 97,.int .u8 0]) rfl rfl (by kernel_rfl) ?_
 refine aY (some 9) (.agg #[.int .u8 118,.int .u8 48]) rfl rfl (by kernel_rfl) ?_
 refine aY (some 10) (.agg #[.int .i64 10,.int .u8 118,.int .u8 48]) rfl rfl (by kernel_rfl) ?_
 refine aY (some 11) (.agg #[.int .u8 118,.int .u8 100]) rfl rfl (by kernel_rfl) ?_
 refine aY (some 12) (.agg #[.int .i64 18,.int .u8 118,.int .u8 100]) rfl rfl (by kernel_rfl) ?_
 refine aY (some 13) (.agg #[.int .u8 118,.int .u8 104]) rfl rfl (by kernel_rfl) ?_
 refine aY (some 14) (.agg #[.int .i64 18,.int .u8 118,.int .u8 104]) rfl rfl (by kernel_rfl) ?_
 refine aY (some 15) (.agg #[.int .u8 118,.int .u8 115]) rfl rfl (by kernel_rfl) ?_
 refine aY (some 16) (.agg #[.int .i64 18,.int .u8 118,.int .u8 115]) rfl rfl (by kernel_rfl) ?_
 refine aY (some 17) (.agg #[.int .u8 116,.int .u8 0]) rfl rfl (by kernel_rfl) ?_
 refine aY (some 18) (.agg #[.int .i64 9,.int .u8 116,.int .u8 0]) rfl rfl (by kernel_rfl) ?_
 refine aY (some 19) (.agg #[.int .u8 105,.int .u8 0]) rfl rfl (by kernel_rfl) ?_
 refine aY (some 20) (.agg #[.int .i64 17,.int .u8 105,.int .u8 0]) rfl rfl (by kernel_rfl) ?_
 refine aY (some 21) (.agg #[.int .u8 98,.int .u8 0]) rfl rfl (by kernel_rfl) ?_
 refine aY (some 22) (.agg #[.int .i64 9,.int .u8 98,.int .u8 0]) rfl rfl (by kernel_rfl) ?_
 refine aY (some 23) (.agg #[.int .u8 117,.int .u8 0]) rfl rfl (by kernel_rfl) ?_
 refine aY (some 24) (.agg #[.int .i64 9,.int .u8 117,.int .u8 0]) rfl rfl (by kernel_rfl) ?_
 refine aY (some 25) (.agg #[.int .u8 114,.int .u8 0]) rfl rfl (by kernel_rfl) ?_
 refine aY (some 26) (.agg #[.int .i64 9,.int .u8 114,.int .u8 0]) rfl rfl (by kernel_rfl) ?_
 refine aY (some 27) (.agg #[.int .u8 113,.int .u8 0]) rfl rfl (by kernel_rfl) ?_
 refine aY (some 28) (.agg #[.int .i64 17,.int .u8 113,.int .u8 0]) rfl rfl (by kernel_rfl) ?_
 refine aY (some 29) (.agg #[.int .u8 101,.int .u8 0]) rfl rfl (by kernel_rfl) ?_
 refine aY (some 30) (.agg #[.int .i64 17,.int .u8 101,.int .u8 0]) rfl rfl (by kernel_rfl) ?_
 refine aY (some 31) (.agg #[.int .u8 110,.int .u8 0]) rfl rfl (by kernel_rfl) ?_
 refine aY (some 32) (.agg #[.int .i64 17,.int .u8 110,.int .u8 0]) rfl rfl (by kernel_rfl) ?_
 refine aY (some 33) (.agg #[.int .u8 107,.int .u8 0]) rfl rfl (by kernel_rfl) ?_
 refine aY (some 34) (.agg #[.int .i64 17,.int .u8 107,.int .u8 0]) rfl rfl (by kernel_rfl) ?_
 refine aY (some 35) (.agg #[.int .i64 0,.int .u8 0,.int .u8 0,.int .i64 1,.int .u8 112,.int .u8 0,.int .i64 1,.int .u8 99,.int .u8 0,.int .i64 1,.int .u8 109,.int .u8 0,.int .i64 9,.int .u8 97,.int .u8 0,.int .i64 10,.int .u8 118,.int .u8 48,.int .i64 18,.int .u8 118,.int .u8 100,.int .i64 18,.int .u8 118,.int .u8 104,.int .i64 18,.int .u8 118,.int .u8 115,.int .i64 9,.int .u8 116,.int .u8 0,.int .i64 17,.int .u8 105,.int .u8 0,.int .i64 9,.int .u8 98,.int .u8 0,.int .i64 9,.int .u8 117,.int .u8 0,.int .i64 9,.int .u8 114,.int .u8 0,.int .i64 17,.int .u8 113,.int .u8 0,.int .i64 17,.int .u8 101,.int .u8 0,.int .i64 17,.int .u8 110,.int .u8 0,.int .i64 17,.int .u8 107,.int .u8 0]) rfl rfl (by kernel_rfl) ?_
 refine vq rfl rfl (oO (k:=0) (q:=35) (c':=#[.int .i64 0,.int .u8 0,.int .u8 0,.int .i64 1,.int .u8 112,.int .u8 0,.int .i64 1,.int .u8 99,.int .u8 0,.int .i64 1,.int .u8 109,.int .u8 0,.int .i64 9,.int .u8 97,.int .u8 0,.int .i64 10,.int .u8 118,.int .u8 48,.int .i64 18,.int .u8 118,.int .u8 100,.int .i64 18,.int .u8 118,.int .u8 104,.int .i64 18,.int .u8 118,.int .u8 115,.int .i64 9,.int .u8 116,.int .u8 0,.int .i64 17,.int .u8 105,.int .u8 0,.int .i64 9,.int .u8 98,.int .u8 0,.int .i64 9,.int .u8 117,.int .u8 0,.int .i64 9,.int .u8 114,.int .u8 0,.int .i64 17,.int .u8 113,.int .u8 0,.int .i64 17,.int .u8 101,.int .u8 0,.int .i64 17,.int .u8 110,.int .u8 0,.int .i64 17,.int .u8 107,.int .u8 0]) (by kernel_rfl) (by kernel_rfl) (by kernel_rfl) (by kernel_rfl) rfl (by kernel_rfl)) ?_
 refine wpList_nil ?_
 refine wp_ret ?_
 refine bodyPost_ret (results_cell_row rfl _ _ w.heap.size 258 _ _ (.array 18 209) (by kernel_rfl) (heap_alloc_new _ _) (by kernel_rfl) rfl (by kernel_rfl)) rfl ?_
 exact⟨rfl,ae _ _⟩
end Ky
end
section
namespace Ky
open Go.RowKit Go.Lib Pg
attribute [local go_sem] Oper.semAt_some
section
variable {ops:Array Oper} {rest:List Oper} {o:Oper} {a:Act} {w w1:World} {Q:Exit->Act->World->Prop}
theorem Cg (d:Option Tmp) (f:FuncId) (args:Array Value) (k:o.guard=none) (g:o.dst=d) (b:(execOp a.eval o).run Tryz.prog w=.ok (.enter f args) w) {c:Ending->World->Prop} (hc:Calls Tryz.prog f args w c) (h:∀ e w',c e w'->∃ v,e=.returned v/\wpList Tryz.prog ops Q rest (a.put d v) w'):wpList Tryz.prog ops Q (o :: rest) a w :=
 wpList_plain k fun K j=>by
  unfold Oper.wp;rw[b,Oper.upon_enter];refine hc.mono ?_
  intro e w' i;obtain⟨v,rfl,hv⟩:=h e w' i;subst g;exact j _ _ hv
end
section
variable {w:World}{g:Nat}{tmps:Array Value}{v:Value}
theorem aX{p:Prop}(h:p):Hid p:=h
theorem mi:gk.toArray=#[.int .i64 0,.int .u8 0,.int .u8 0,.int .i64 1,.int .u8 112,.int .u8 0,.int .i64 1,.int .u8 99,.int .u8 0,.int .i64 1,.int .u8 109,.int .u8 0,.int .i64 9,.int .u8 97,.int .u8 0,.int .i64 10,.int .u8 118,.int .u8 48,.int .i64 18,.int .u8 118,.int .u8 100,.int .i64 18,.int .u8 118,.int .u8 104,.int .i64 18,.int .u8 118,.int .u8 115,.int .i64 9,.int .u8 116,.int .u8 0,.int .i64 17,.int .u8 105,.int .u8 0,.int .i64 9,.int .u8 98,.int .u8 0,.int .i64 9,.int .u8 117,.int .u8 0,.int .i64 9,.int .u8 114,.int .u8 0,.int .i64 17,.int .u8 113,.int .u8 0,.int .i64 17,.int .u8 101,.int .u8 0,.int .i64 17,.int .u8 110,.int .u8 0,.int .i64 17,.int .u8 107,.int .u8 0]:=rfl
theorem rv:∀ k:Nat,k < 18->gk[k * 3]?=some (.int .i64 (frm k).1)/\gk[k * 3+1]?=some (.int .u8 (frm k).2.1)/\gk[k * 3+2]?=some (.int .u8 (frm k).2.2):=by
 intro k a
 match k,a with
 | 0,_=>exact⟨rfl,rfl,rfl⟩
 | 1,_=>exact⟨rfl,rfl,rfl⟩
 | 2,_=>exact⟨rfl,rfl,rfl⟩
 | 3,_=>exact⟨rfl,rfl,rfl⟩
 | 4,_=>exact⟨rfl,rfl,rfl⟩
 | 5,_=>exact⟨rfl,rfl,rfl⟩
 | 6,_=>exact⟨rfl,rfl,rfl⟩
 | 7,_=>exact⟨rfl,rfl,rfl⟩
 | 8,_=>exact⟨rfl,rfl,rfl⟩
 | 9,_=>exact⟨rfl,rfl,rfl⟩
 | 10,_=>exact⟨rfl,rfl,rfl⟩
 | 11,_=>exact⟨rfl,rfl,rfl⟩
 | 12,_=>exact⟨rfl,rfl,rfl⟩
 | 13,_=>exact⟨rfl,rfl,rfl⟩
 | 14,_=>exact⟨rfl,rfl,rfl⟩
 | 15,_=>exact⟨rfl,rfl,rfl⟩
 | 16,_=>exact⟨rfl,rfl,rfl⟩
 | 17,_=>exact⟨rfl,rfl,rfl⟩
 | n+18,h=>omega
theorem zK{k:Nat}(hb:Blk w g gk 258)(h:k < 18):w.cell? ⟨g,k * 3,none⟩=some (.int .i64 (frm k).1)/\w.cell? ⟨g,k * 3+1,none⟩=some (.int .u8 (frm k).2.1)/\w.cell? ⟨g,k * 3+2,none⟩=some (.int .u8 (frm k).2.2):=by
 obtain⟨a,b,c⟩:=rv k h;exact⟨hb.cell a,hb.cell b,hb.cell c⟩
theorem wD{x0 x1 x2:Value}{t:TypeId}(h:Blk w g [x0,x1,x2] t)(y0 y1 y2:Value):Blk (((w.setCell ⟨g,0,none⟩ y0).setCell ⟨g,1,none⟩ y1).setCell ⟨g,2,none⟩ y2) g [y0,y1,y2] t:=((h.setCell (i:=0) y0).setCell (i:=1) y1).setCell (i:=2) y2
theorem nC{x y z:Value}(h:Blk w g [x,y,z] 209):(loadVar 209 ⟨g,0,none⟩).run Tryz.prog w=.ok (.agg #[x,y,z]) w:=by
 have c0:=h.cell (i:=0) rfl;have c1:=h.cell (i:=1) rfl;have c2:=h.cell (i:=2) rfl;go_simp
theorem eu{fn:Func}{p:Tmp}{ty:TypeId}(h:fn.results=#[.cell p ty])(c:tmps.getD p undef=.pointer (some ⟨g,0,none⟩))(b:(loadVar ty ⟨g,0,none⟩).run Tryz.prog w=.ok v w):(results fn tmps).run Tryz.prog w=.ok v w:=by
 have a:tmps[p]?.getD undef=.pointer (some ⟨g,0,none⟩):=by simpa using c
 simp[results,h,a,asAddr,b]
theorem kh{W:World}{r:Nat}(h:Below r w W)(x y z:Value):Below r w (((W.setCell ⟨r,0,none⟩ x).setCell ⟨r,1,none⟩ y).setCell ⟨r,2,none⟩ z) :=
 ((h.setCell (Nat.le_refl _) _).setCell (Nat.le_refl _) _).setCell (Nat.le_refl _) _
theorem mJ{k:Int}:Calls Tryz.prog 148 #[.int .i64 k] w fun e w'=>e=.returned (fv (frm k))/\Below w.heap.size w w':=by
 go_enter Tryz.func148,Tryz.ntmps148;refine wp_seq ?_
 refine wp_region_lit ?_
 refine ql (some 2) (.pointer (some ⟨w.heap.size,0,none⟩)) rfl rfl (w1:=w.alloc (.cells #[.int .i64 0,.int .u8 0,.int .u8 0] 209)) (by kernel_rfl) ?_
 refine wpList_nil ?_
 refine wp_seq (x:=Code.region 1 _ false) ?_
 refine wp_region_lit ?_
 refine Cg (some 4) 177 #[] rfl rfl (by kernel_rfl) og ?_
 rintro e w1 ⟨rfl,c⟩;refine⟨_,rfl,?_⟩;refine ql (some 3) (.pointer (some ⟨w1.heap.size,0,none⟩)) rfl rfl (w1:=w1.alloc (.cells #[.int .i64 0,.int .u8 0,.int .u8 0,.int .i64 0,.int .u8 0,.int .u8 0,.int .i64 0,.int .u8 0,.int .u8 0,.int .i64 0,.int .u8 0,.int .u8 0,.int .i64 0,.int .u8 0,.int .u8 0,.int .i64 0,.int .u8 0,.int .u8 0,.int .i64 0,.int .u8 0,.int .u8 0,.int .i64 0,.int .u8 0,.int .u8 0,.int .i64 0,.int .u8 0,.int .u8 0,.int .i64 0,.int .u8 0,.int .u8 0,.int .i64 0,.int .u8 0,.int .u8 0,.int .i64 0,.int .u8 0,.int .u8 0,.int .i64 0,.int .u8 0,.int .u8 0,.int .i64 0,.int .u8 0,.int .u8 0,.int .i64 0,.int .u8 0,.int .u8 0,.int .i64 0,.int .u8 0,.int .u8 0,.int .i64 0,.int .u8 0,.int .u8 0,.int .i64 0,.int .u8 0,.int .u8 0] 258)) (by kernel_rfl) ?_
 refine vq rfl rfl (oO (k:=3) (q:=4) (c':=#[.int .i64 0,.int .u8 0,.int .u8 0,.int .i64 1,.int .u8 112,.int .u8 0,.int .i64 1,.int .u8 99,.int .u8 0,.int .i64 1,.int .u8 109,.int .u8 0,.int .i64 9,.int .u8 97,.int .u8 0,.int .i64 10,.int .u8 118,.int .u8 48,.int .i64 18,.int .u8 118,.int .u8 100,.int .i64 18,.int .u8 118,.int .u8 104,.int .i64 18,.int .u8 118,.int .u8 115,.int .i64 9,.int .u8 116,.int .u8 0,.int .i64 17,.int .u8 105,.int .u8 0,.int .i64 9,.int .u8 98,.int .u8 0,.int .i64 9,.int .u8 117,.int .u8 0,.int .i64 9,.int .u8 114,.int .u8 0,.int .i64 17,.int .u8 113,.int .u8 0,.int .i64 17,.int .u8 101,.int .u8 0,.int .i64 17,.int .u8 110,.int .u8 0,.int .i64 17,.int .u8 107,.int .u8 0]) (by kernel_rfl) (by kernel_rfl) (by kernel_rfl) (by kernel_rfl) rfl (by kernel_rfl)) ?_
 refine wpList_nil ?_
 rw[<- mi];have b0:=aC w [.int .i64 0,.int .u8 0,.int .u8 0] 209;have c0:=ae w (.cells #[.int .i64 0,.int .u8 0,.int .u8 0] 209);have b2:=aC w1 gk 258;have c2:=ae w1 (.cells gk.toArray 258);have j:=ax (ax c0 c) c2;have b1:=(b0.keep c).keep c2;obtain⟨r,b⟩:∃ r,Hid (w.heap.size=r):=⟨_,rfl⟩
 generalize w1.alloc (.cells gk.toArray 258)=W at *;generalize hg:w1.heap.size=g at *;generalize Value.agg gk.toArray=s;rw[b.out] at b1 ⊢;simp only[Act.put,List.setIfInBounds_toArray,List.set_cons_zero,List.set_cons_succ];have r0:=b1.cell (i:=0) rfl;have r1:=b1.cell (i:=1) rfl;have o:=b1.cell (i:=2) rfl;have f0:=b1.free 0;have f1:=b1.free 1;have f2:=b1.free 2;have H1:=aX b1;have f:=aX j;have l:=aX b2;clear b0 c0 c c2 hg b1 j b2;refine(show Code.wp _ _ _ _ _ from ?_);by_cases t:k < 0
 ·have d:frm k=(0,0,0):=if_neg (by omega);rw[d];go_wp2;refine bodyPost_ret (eu rfl rfl (nC (wD H1.out _ _ _))) rfl ?_
  exact⟨rfl,kh (by have:=f.out;rw[b.out] at this;exact this) _ _ _⟩
 ·by_cases p:k < 18
  ·obtain⟨n,rfl⟩:∃ n:Nat,k=n:=⟨k.toNat,by omega⟩
   obtain⟨q0,q1,m⟩:=zK l.out (k:=n) (by omega);go_wp2;refine bodyPost_ret (eu rfl rfl (nC (wD H1.out _ _ _))) rfl ?_
   exact⟨rfl,kh (by have:=f.out;rw[b.out] at this;exact this) _ _ _⟩
  ·have d:frm k=(0,0,0):=if_neg (by omega);rw[d];go_wp2;refine bodyPost_ret (eu rfl rfl (nC (wD H1.out _ _ _))) rfl ?_
   exact⟨rfl,kh (by have:=f.out;rw[b.out] at this;exact this) _ _ _⟩
end
end Ky
end
section
namespace Ky
open Go.RowKit Go.Lib Pg
attribute [local go_sem] Oper.semAt_some
section
variable {w:World}{B:Nat}{v:Value}{l L:List Int}{x a n y:Int}{D:Nat->Prop}
def be:Nat->Int->List Int
 | 0,_=>[]
 | n+1,x=>x / 256 ^ n % 256 :: be n x
theorem aN:∀ (n:Nat) (x:Int),(be n x).length=n
 | 0,_=>rfl
 | n+1,x=>by rw[be,List.length_cons,aN n x]
theorem eX:∀ (n:Nat) (x:Int),Oct (be n x)
 | 0,_=>fun _ h=>by simp[be] at h
 | n + 1,x=>fun y h=>by
  rw[be,List.mem_cons] at h;rcases h with rfl | h
  ·exact⟨Int.emod_nonneg _ (by decide),Int.emod_lt_of_pos _ (by decide)⟩
  ·exact eX n x y h
theorem iC:∀ (n j:Nat) (x:Int),j < n->(be n x).take (j+1)=(be n x).take j ++ [x / 256 ^ (n - 1 - j) % 256]
 | 0,j,x,h=>by omega
 | n+1,0,x,h=>by simp[be]
 | n + 1,j + 1,x,h=>by
  have ih:=iC n j x (by omega);rw[be,List.take_succ_cons,List.take_succ_cons,ih,List.cons_append]
  have e:n+1 - 1 - (j+1)=n - 1 - j:=by omega
  rw[e]
theorem um{p:Nat}(h:OB w (B <= ·) v l)(d:B<=w.heap.size)(t:l.length<=1000000000)(hx:0<=x/\x < 256)(r:w.cell? ⟨p,0,none⟩=some (.int .u8 x)) :
  ∃ v' w',(Builtin.append_ #[96,96] 96 #[v,.slice (some ⟨p,0,none⟩) 1 1]).run Tryz.prog w=.ok v' w'/\OB w' (B <= ·) v' (l ++ [x])/\Below B w w':=by
 have o:Oct (l ++ [x]):=fun y hy=>by
  rcases List.mem_append.1 hy with hy | hy
  ·exact h.oct y hy
  ·simp at hy;subst hy;exact hx
 have a:∀ j u,[Value.int .u8 x][j]? = some u->w.cell? ((⟨p,0,none⟩:Addr).add j)=some u:=fun j u i=>by
  match j with
  | 0=>simp at i;subst i;exact r
  | j+1=>simp at i
 rcases h.ex with⟨rfl,rfl⟩ | ⟨b,c,rfl,hl2,g⟩
 ·obtain⟨k,w',n,g,hw⟩:=e9 (w:=w) KB 96 ⟨p,0,none⟩ 1 1 [.int .u8 x] rfl a (by decide) (by decide) (by decide);exact⟨_,w',n,⟨o,.inr ⟨_,k,rfl,d,g⟩⟩,hw.mono d⟩
 ·obtain⟨q,k,w',n,f,m,hw⟩:=dB (w:=w) KB 96 g ⟨p,0,none⟩ 1 1 [.int .u8 x] rfl a (by simp[Value.oneCell']) (by omega) (by omega);refine⟨_,w',n,⟨o,.inr ⟨q,k,by simp,?_,by rw[List.map_append,List.length_append]; exact m⟩⟩,hw.below (fun x e=>by have s:x=b:=e; omega) d⟩;rcases f with rfl | rfl
  ·exact hl2
  ·exact d
theorem eM(h:OB w (B <= ·) v l)(d:B<=w.heap.size)(t:l.length<=1000000000)(hx:0<=x/\x < 256) :
  ∃ v' w',(Builtin.append_ #[96,96] 96 #[v,.slice (some ⟨w.heap.size,0,none⟩) 1 1]).run Tryz.prog (w.alloc (.cells #[.int .u8 x] 5))=.ok v' w'/\OB w' (B <= ·) v' (l ++ [x])/\Below B w w':=by
 have hb:=ae w (.cells #[.int .u8 x] 5);have r:=aC w [.int .u8 x] 5
 have o:Oct (l ++ [x]):=fun y hy=>by
  rcases List.mem_append.1 hy with hy | hy
  ·exact h.oct y hy
  ·simp at hy;subst hy;exact hx
 have a:∀ j u,[Value.int .u8 x][j]? = some u->(w.alloc (.cells #[.int .u8 x] 5)).cell? ((⟨w.heap.size,0,none⟩:Addr).add j)=some u:=fun j u p=>by
  match j with
  | 0=>exact r.cell (i:=0) p
  | j+1=>simp at p
 rcases h.ex with⟨rfl,rfl⟩ | ⟨b,c,rfl,hl2,g⟩
 ·obtain⟨k,w',n,g,hw⟩:=e9 (w:=w.alloc (.cells #[.int .u8 x] 5)) KB 96 ⟨w.heap.size,0,none⟩ 1 1 [.int .u8 x] rfl a (by decide) (by decide) (by decide);exact⟨_,w',n,⟨o,.inr ⟨_,k,rfl,Nat.le_trans d hb.size,g⟩⟩,(hb.mono d).trans (hw.mono (Nat.le_trans d hb.size))⟩
 ·obtain⟨q,k,w',n,f,m,hw⟩:=dB (w:=w.alloc (.cells #[.int .u8 x] 5)) KB 96 (g.keep hb) ⟨w.heap.size,0,none⟩ 1 1 [.int .u8 x] rfl a (by simp[Value.oneCell']) (by omega) (by omega);refine⟨_,w',n,⟨o,.inr ⟨q,k,by simp,?_,by rw[List.map_append,List.length_append]; exact m⟩⟩,(hb.mono d).trans (hw.below (fun x e=>by have s:x=b:=e; omega) (Nat.le_trans d hb.size))⟩;rcases f with rfl | rfl
  ·exact hl2
  ·exact Nat.le_trans d hb.size
theorem pow8(h:Nat):(256:Int) ^ h=2 ^ (8 * h):=by rw[Int.pow_mul];rfl
theorem OB.sh(h:OB w D v l):∃ ao c,v=.slice ao l.length c:=by
 rcases h.ex with⟨rfl,rfl⟩ | ⟨b,c,rfl,_⟩
 ·exact⟨none,0,rfl⟩
 ·exact⟨_,c,rfl⟩
theorem di(g:OB w (B <= ·) v L)(r:B<=w.heap.size)(hL:L.length<=100000) :
  Calls Tryz.prog 150 #[v,.int .u64 x] w fun e w'=>∃ v',e=.returned v'/\OB w' (B <= ·) v' (L ++ be 8 x)/\Below B w w':=by
 have C:=aX g;have i:=aX r;clear g r;go_enter Tryz.func150,Tryz.ntmps150;go_wp2_with fail;go_loopw [0,6] (fun z l wr=>∃ j:Nat,j<=8/\l=.int .i64 j/\Hid (OB wr (B <= ·) z (L ++ (be 8 x).take j))/\Hid (Below B w wr)) (fun _ l _=>8 - (intOf l).toNat)
 case atStart=>exact⟨0,Nat.zero_le _,rfl,by rw[List.take_zero,List.append_nil];exact C,Below.refl _ _⟩
 case round =>
  obtain⟨j,E,rfl,b,c⟩:=hrel;by_cases n:j < 8
  ·obtain⟨h,H⟩:∃ h:Nat,(7:Int) - j=h:=⟨7 - j,by omega⟩
   have d:8 - 1 - j=h:=by omega
   have A:h < 8:=by omega
   have s:Hid ((be 8 x).take (j+1)=(be 8 x).take j ++ [x / 2 ^ (8 * h) % 256]):=by
    show _=_
    rw[iC 8 j x n,d,pow8]
   have hle:(L ++ (be 8 x).take j).length<=1000000000:=by rw[List.length_append,List.length_take,aN];omega
   obtain⟨v1,G,f,m,hS⟩:=eM (x:=x / 2 ^ (8 * h) % 256) b.out (Nat.le_trans i.out c.out.size) hle ⟨Int.emod_nonneg _ (by decide),Int.emod_lt_of_pos _ (by decide)⟩;obtain⟨D,F,rfl⟩:=OB.sh b.out;obtain⟨a1,c1,rfl⟩:=OB.sh m;generalize g:L ++ (be 8 x).take j=M at *;generalize hq:M.length=q at *;have y:=aX m;have u:=aX hS;have t:=aX f;have o:=aX g;clear m hS f hle g hq d;have f:=t.out;go_wp2_with (at_builtin;refine Lib.wpList_append_run _ rfl _ _ _ _ rfl _ _ rfl rfl _ _ f ?_;clear f);go_roundw
   case rel =>
    refine⟨j+1,by omega,by go_num,?_,c.out.trans u.out⟩;rw[s.out,<- List.append_assoc,o.out];have p:=y.out;rw[show (M ++ [x / 2 ^ (8 * h) % 256]).length=M.length+1 by simp] at p;exact p
   case measure=>simp[intOf];omega
  ·obtain rfl:j=8:=by omega
   rw[List.take_of_length_le (by rw[aN];omega)] at b;go_wp2;go_ret;exact⟨_,rfl,b.out,c.out⟩
theorem not64(n:Nat)(h:n < 2 ^ 64):(2 ^ 64 - 1) ^^^ n=2 ^ 64 - (n+1):=by
 apply Nat.eq_of_testBit_eq;intro i;rw[Nat.testBit_xor,Nat.testBit_two_pow_sub_one,Nat.testBit_two_pow_sub_succ h];by_cases hi:i < 64
 ·simp[hi]
 ·have:n.testBit i=false:=Nat.testBit_lt_two_pow (Nat.lt_of_lt_of_le h (Nat.pow_le_pow_right (by decide) (by omega)));simp[hi,this]
theorem not64i(b:0<=a)(c:a < 18446744073709551616):bits .xor .u64 IntKind.u64.max a=18446744073709551615 - a:=by
 obtain⟨n,rfl⟩:=Int.eq_ofNat_of_zero_le b
 have e:IntKind.u64.max=((18446744073709551615:Nat):Int):=by kernel_rfl
 rw[e,bits_xor_u64_nat _ _ (by omega) (by omega)];have:=not64 n (by omega);rw[show (18446744073709551615:Nat)=2 ^ 64 - 1 by decide,this];omega
theorem gI{k:Int}(c:0<=a)(b:a < 18446744073709551616):Calls Tryz.prog 135 #[.int .i64 k,.int .u64 a] w fun e w'=>e=.returned (.int .u64 (if k=10 then 18446744073709551615 - a else a))/\w'=w:=by
 by_cases h:k=10
 ·subst h;rw[if_pos rfl];go_enter Tryz.func135,Tryz.ntmps135;go_wp2;go_ret;refine⟨?_,rfl⟩
  show Ending.returned (.int .u64 (bits .xor .u64 IntKind.u64.max a))=_
  rw[not64i c b]
 ·rw[if_neg h];go_enter Tryz.func135,Tryz.ntmps135;go_wp2;go_ret;exact⟨rfl,rfl⟩
theorem fl:Calls Tryz.prog 134 #[.agg #[.int .i64 n,.int .u8 x,.int .u8 y]] w fun e w'=>e=.returned (.bool (decide (8 < n)))/\Below w.heap.size w w':=by
 go_enter Tryz.func134,Tryz.ntmps134;go_wp2;go_ret;exact⟨rfl,ae _ _⟩
theorem fT:Calls Tryz.prog 137 #[.agg #[.int .i64 n,.int .u8 x,.int .u8 y]] w fun e w'=>e=.returned (.bool (decide (16 < n)))/\Below w.heap.size w w':=by
 go_enter Tryz.func137,Tryz.ntmps137;go_wp2;go_ret;exact⟨rfl,ae _ _⟩
end
end Ky
end
section
namespace Ky
open Go.RowKit Go.Lib Pg
attribute [local go_sem] Oper.semAt_some
section
variable {w w':World}{a:Act}{o:Oper}{x n g:Nat}{v:Value}
theorem b8(w:World):Below w.heap.size w w.drew:=⟨rfl,rfl,rfl,Nat.le_refl _,fun _ _=>rfl⟩
theorem uM(n:Nat)(hn:n<=1000):∃ w',(Instr.makeSlice 96 (.int .i64 0) (.int .i64 n)).run Tryz.prog w=.ok (.slice (some ⟨w.heap.size,0,none⟩) 0 n) w'/\OB w' (w.heap.size <= ·) (.slice (some ⟨w.heap.size,0,none⟩) 0 n) []/\Below w.heap.size w w':=by
 obtain⟨i,hi,c,hs,b⟩:=info_parts KB.inf;have a:=run_make (P:=Tryz.prog) w 96 5 i (.int .u8 0) KB.und hi c .i64 .i64 0 (n:Int) (by omega) (by omega) (by rw[b];omega) (by omega);refine⟨_,by simpa using a,⟨fun _ h=>by simp at h,.inr ⟨_,n,rfl,Nat.le_refl _,⟨(madeCells (Value.int .u8 0).cells (n * i.size)).toList,?_,rfl,?_,Nat.zero_le _,by simp only[maxLen];omega⟩⟩⟩,ae w _⟩
 ·exact⟨by simp only[List.map_nil,List.nil_append,Array.toArray_toList];exact heap_alloc_new _ _⟩
 ·simp[size_madeCells,hs]
theorem uZ(b:o.op=.makeSlice 96 (.const (.int .i64 0)) (.tmp x))(hx:a.eval (.tmp x)=.int .i64 n)(c:(Instr.makeSlice 96 (.int .i64 0) (.int .i64 n)).run Tryz.prog w=.ok v w'):(execOp a.eval o).run Tryz.prog w=.ok (.value v) w':=by
 have d:a.eval (.const (.int .i64 0))=.int .i64 0:=rfl;simp only[execOp,b,hx,d];simp[c,Result.andThen]
theorem zX{m:Int}(b:o.op=.buildSlice 96 1 #[(0,.tmp x)])(hx:a.eval (.tmp x)=.int .u8 m):(execOp a.eval o).run Tryz.prog w=.ok (.value (.slice (some ⟨w.heap.size,0,none⟩) 1 1)) (w.alloc (.cells #[.int .u8 m] 5)):=by
 have c:a.tmps[x]?.getD undef=.int .u8 m:=by simpa[Act.eval] using hx
 simp only[execOp,b];go_simp
theorem iq{y:Nat}{T ty:TypeId}{u r:Value}(b:o.type=ty)(c:o.op=.call { callee:=.builtin .append,args:=#[.tmp x,.tmp y],argTypes:=#[T,T] })(hx:a.eval (.tmp x)=u)(hy:a.eval (.tmp y)=v)(d:(Builtin.append_ #[T,T] ty #[u,v]).run Tryz.prog w=.ok r w') :
  (execOp a.eval o).run Tryz.prog w=.ok (.value r) w':=by
 subst b;unfold execOp;simp only[c,resolve,invoke,builtin,Sem.run_bind,Sem.run_pure,Result.andThen_ok,List.map_toArray,List.map_cons,List.map_nil,hx,hy,d]
theorem gY{o:Nat}{v:Int}(c:w.cell? ⟨g,o,none⟩=some (.int .i64 v)):(loadVar 3 ⟨g,o,none⟩).run Tryz.prog w=.ok (.int .i64 v) w:=by go_simp
theorem ld_u8{o:Nat}{v:Int}(c:w.cell? ⟨g,o,none⟩=some (.int .u8 v)):(loadVar 5 ⟨g,o,none⟩).run Tryz.prog w=.ok (.int .u8 v) w:=by go_simp
def mkb(f:Int × Int × Int)(a:Int):List Int:=[f.2.1] ++ (if 8 < f.1 then be 8 a else []) ++ (if f.2.2=0 then [] else [f.2.2])
theorem nY{m0 m1 a:Int}(hn:n<=1000)(h0:0<=m0/\m0 < 256)(h1:0<=m1/\m1 < 256) :
  Calls Tryz.prog 149 #[.agg #[.int .i64 n,.int .u8 m0,.int .u8 m1],.int .u64 a] w fun e w'=>∃ v,e=.returned v/\OB w' (w.heap.size <= ·) v (mkb (n,m0,m1) a)/\Below w.heap.size w w':=by
 have H0:=aX h0;have H1:=aX h1;clear h0 h1;go_enter Tryz.func149,Tryz.ntmps149;go_wp2_with fail;have kq:=aC w [.int .i64 n,.int .u8 m0,.int .u8 m1] 209;have bq:=ae w (.cells #[.int .i64 n,.int .u8 m0,.int .u8 m1] 209)
 have Q:(w.alloc (.cells #[.int .i64 n,.int .u8 m0,.int .u8 m1] 209)).heap.size=w.heap.size+1:=by simp
 generalize w.alloc (.cells #[.int .i64 n,.int .u8 m0,.int .u8 m1] 209)=X at *;generalize hq:w.heap.size=q at *;have hS:=kq.drew;refine bW (S:=fun w'=>Blk w' q [.int .i64 n,.int .u8 m0,.int .u8 m1] 209) (by kernel_rfl) hS ?_
 refine ai 0 (some 6) (.pointer (some ⟨q,0,none⟩)) (by kernel_rfl) (fun _ _=>by kernel_rfl) (fun _ _ _ h=>h) hS ?_
 refine aP 1 (some 7) (.int .i64 n) 3 6 q 0 (by kernel_rfl) (by kernel_rfl) (by kernel_rfl) (fun w' h=>gY (h.cell (i:=0) rfl)) (fun _ _ _ h=>h) hS ?_
 refine ai 3 (some 9) (.pointer (some ⟨q,1,none⟩)) (by kernel_rfl) (fun _ _=>by kernel_rfl) (fun _ _ _ h=>h) hS ?_
 refine ai 4 (some 10) (.pointer (some ⟨q,1,none⟩)) (by kernel_rfl) (fun _ _=>by kernel_rfl) (fun _ _ _ h=>h) hS ?_
 refine aP 5 (some 11) (.int .u8 m0) 5 10 q 1 (by kernel_rfl) (by kernel_rfl) (by kernel_rfl) (fun w' h=>ld_u8 (h.cell (i:=1) rfl)) (fun _ _ _ h=>h) hS ?_
 have Xd:X.drew.heap.size=q+1:=Q;obtain⟨Z,V,O3,b3⟩:=uM (w:=X.drew) n hn;have Y:=ae Z (.cells #[.int .u8 m0] 5);obtain⟨v5,w5,L,O5,B5⟩:=um (B:=q+1) (p:=Z.heap.size) (x:=m0) ((O3.mono (D':=(q+1 <= ·)) (fun b _ h=>by omega)).keep Y) (by have:=b3.size;have:=Y.size;omega) (by simp) H0.out ((aC Z [.int .u8 m0] 5).cell (i:=0) rfl);obtain⟨a5,c5,rfl⟩:=OB.sh O5;have k3:=hS.keep b3;have k4:=k3.keep Y;have k5:=k4.kU B5 (by omega)
 have d5:Below (q+1) X w5:=((b8 X).mono (Nat.le_of_eq Q.symm)).trans (((ax b3 Y).mono (Nat.le_of_eq Xd.symm)).trans B5);have c:=ae X.drew (.cells #[.int .u8 m0] 5);obtain⟨w7,U,O7,b7⟩:=uM (w:=X.drew.alloc (.cells #[.int .u8 m0] 5)) n hn;obtain⟨v8,w8,W,O8,B8⟩:=um (B:=q+1) (p:=X.drew.heap.size) (x:=m0) (O7.mono (D':=(q+1 <= ·)) (fun b _ h=>by have:=c.size;omega)) (by have:=c.size;have:=b7.size;omega) (by simp) H0.out (((aC X.drew [.int .u8 m0] 5).keep b7).cell (i:=0) rfl);obtain⟨a8,c8,rfl⟩:=OB.sh O8;have k6:=hS.keep c;have k7:=k6.keep b7;have k8:=k7.kU B8 (by omega)
 have d8:Below (q+1) X w8:=((b8 X).mono (Nat.le_of_eq Q.symm)).trans (((ax c b7).mono (Nat.le_of_eq Xd.symm)).trans B8);refine aK [2,6] (by kernel_rfl) (by simp) (bI 2 (some 8) (.slice (some ⟨X.drew.heap.size,0,none⟩) 0 n) Z (by kernel_rfl) (uZ (x:=7) (by kernel_rfl) (by kernel_rfl) V) k3 ?_ (bI 6 (some 12) (.slice (some ⟨X.drew.heap.size,0,none⟩) 1 1) (X.drew.alloc (.cells #[.int .u8 m0] 5)) (by kernel_rfl) (zX (x:=11) (by kernel_rfl) (by kernel_rfl)) k6 ?_ aW))
 ·refine aK [6] (by kernel_rfl) (by simp) (bI 6 (some 12) (.slice (some ⟨Z.heap.size,0,none⟩) 1 1) (Z.alloc (.cells #[.int .u8 m0] 5)) (by kernel_rfl) (zX (x:=11) (by kernel_rfl) (by kernel_rfl)) k4 ?_ aW);refine aK [7] (by kernel_rfl) (by simp) (bI 7 (some 13) (.slice a5 ([] ++ [m0]).length c5) w5 (by kernel_rfl) (iq (x:=8) (y:=12) rfl (by kernel_rfl) (by kernel_rfl) (by kernel_rfl) L) k5 ?_ aW);refine ai 8 (some 5) (.slice a5 ([] ++ [m0]).length c5) (by kernel_rfl) (fun _ _=>by kernel_rfl) (fun _ _ _ h=>h) k5 ?_
  refine bH (by kernel_rfl) ?_
  simp only[Act.put,List.setIfInBounds_toArray,List.set_cons_zero,List.set_cons_succ];have H:=aX O5;have u:=aX k5;have I:=aX d5
  have f:q+1<=w5.heap.size:=by have:=d5.size;omega
  have r:=aX hq;have o:=aX bq;have HXS:=aX Q;clear hS Xd V O3 b3 Y L O5 B5 k3 k4 k5 d5 c U O7 b7 W O8 B8 k6 k7 k8 d8 kq bq hq Q;have q0:=u.out.cell (i:=0) rfl;have q1:=u.out.cell (i:=1) rfl;have q2:=u.out.cell (i:=2) rfl;have s:=fl (w:=w5) (n:=n) (x:=m0) (y:=m1);by_cases h8:8 < n
  ·by_cases hm:m1=0
   ·have F:Hid (mkb ((n:Int),m0,m1) a=([] ++ [m0]) ++ be 8 a):=by have l:((8:Int) < n):=(by omega); show _=_; simp[mkb,l,hm]
    have h8:(8:Int) < n:=by omega
    rw[decide_eq_true h8] at s;subst hm;go_wp2_with first
     | (go_at_call 134;refine s.mono ?_;rintro e C ⟨rfl,c⟩;have g:=u.out.keep c;have R:=g.cell (i:=0) rfl;have p1:=g.cell (i:=1) rfl;have T:=g.cell (i:=2) rfl;have E:=I.out.trans (c.mono f);have z:=H.out.keep c;have t:q+1<=C.heap.size:=Nat.le_trans f c.size)
     | (go_at_call 150;refine(di (x:=a) z t (by simp)).mono ?_;rintro e J ⟨v9,rfl,G,D⟩;obtain⟨a9,c9,rfl⟩:=OB.sh G;have z9:=g.kU D (Nat.lt_succ_self q);have r1:=z9.cell (i:=1) rfl;have r2:=z9.cell (i:=2) rfl;have P:=E.trans D;have s9:q+1<=J.heap.size:=Nat.le_trans t D.size)
    go_ret;exact⟨_,rfl,by rw[F.out];exact G.mono (fun b _ h=>by have:=r.out;omega),by have A:=P;rw[r.out];exact o.out.trans (A.mono (Nat.le_succ q))⟩
   ·have F:Hid (mkb ((n:Int),m0,m1) a=([] ++ [m0]) ++ be 8 a ++ [m1]):=by have l:((8:Int) < n):=(by omega); show _=_; simp[mkb,l,hm]
    have h8:(8:Int) < n:=by omega
    rw[decide_eq_true h8] at s
    have M:m1≠0:=hm;go_wp2_with first
     | (go_at_call 134;refine s.mono ?_;rintro e C ⟨rfl,c⟩;have g:=u.out.keep c;have R:=g.cell (i:=0) rfl;have p1:=g.cell (i:=1) rfl;have T:=g.cell (i:=2) rfl;have E:=I.out.trans (c.mono f);have z:=H.out.keep c;have t:q+1<=C.heap.size:=Nat.le_trans f c.size)
     | (go_at_call 150;refine(di (x:=a) z t (by simp)).mono ?_;rintro e J ⟨v9,rfl,G,D⟩;obtain⟨a9,c9,rfl⟩:=OB.sh G;have z9:=g.kU D (Nat.lt_succ_self q);have r1:=z9.cell (i:=1) rfl;have r2:=z9.cell (i:=2) rfl;have P:=E.trans D;have s9:q+1<=J.heap.size:=Nat.le_trans t D.size;obtain⟨v10,K,j,d,m⟩:=eM (x:=m1) G s9 (by simp[aN]) H1.out;obtain⟨N,O,rfl⟩:=OB.sh d;replace d:=aX d;replace m:=aX m)
     | (at_builtin;refine Lib.wpList_append_run _ rfl _ _ _ _ rfl _ _ rfl rfl _ _ j ?_;clear j)
    go_ret;exact⟨_,rfl,by rw[F.out];exact d.out.mono (fun b _ h=>by have:=r.out;omega),by have A:=P.trans m.out;rw[r.out];exact o.out.trans (A.mono (Nat.le_succ q))⟩
  ·by_cases hm:m1=0
   ·have F:Hid (mkb ((n:Int),m0,m1) a=([] ++ [m0])):=by have l:¬ ((8:Int) < n):=(by omega); show _=_; simp[mkb,l,hm]
    have h8:¬ ((8:Int) < n):=by omega
    rw[decide_eq_false h8] at s;subst hm;go_wp2_with first
     | (go_at_call 134;refine s.mono ?_;rintro e C ⟨rfl,c⟩;have g:=u.out.keep c;have R:=g.cell (i:=0) rfl;have p1:=g.cell (i:=1) rfl;have T:=g.cell (i:=2) rfl;have E:=I.out.trans (c.mono f);have z:=H.out.keep c;have t:q+1<=C.heap.size:=Nat.le_trans f c.size)
    go_ret;exact⟨_,rfl,by rw[F.out];exact z.mono (fun b _ h=>by have:=r.out;omega),by have A:=E;rw[r.out];exact o.out.trans (A.mono (Nat.le_succ q))⟩
   ·have F:Hid (mkb ((n:Int),m0,m1) a=([] ++ [m0]) ++ [m1]):=by have l:¬ ((8:Int) < n):=(by omega); show _=_; simp[mkb,l,hm]
    have h8:¬ ((8:Int) < n):=by omega
    rw[decide_eq_false h8] at s
    have M:m1≠0:=hm;go_wp2_with first
     | (go_at_call 134;refine s.mono ?_;rintro e C ⟨rfl,c⟩;have g:=u.out.keep c;have R:=g.cell (i:=0) rfl;have p1:=g.cell (i:=1) rfl;have T:=g.cell (i:=2) rfl;have E:=I.out.trans (c.mono f);have z:=H.out.keep c;have t:q+1<=C.heap.size:=Nat.le_trans f c.size;obtain⟨v10,K,j,d,m⟩:=eM (x:=m1) z t (by simp) H1.out;obtain⟨N,O,rfl⟩:=OB.sh d;replace d:=aX d;replace m:=aX m)
     | (at_builtin;refine Lib.wpList_append_run _ rfl _ _ _ _ rfl _ _ rfl rfl _ _ j ?_;clear j)
    go_ret;exact⟨_,rfl,by rw[F.out];exact d.out.mono (fun b _ h=>by have:=r.out;omega),by have A:=E.trans m.out;rw[r.out];exact o.out.trans (A.mono (Nat.le_succ q))⟩
 ·refine aK [2] (by kernel_rfl) (by simp) (bI 2 (some 8) (.slice (some ⟨(X.drew.alloc (.cells #[.int .u8 m0] 5)).heap.size,0,none⟩) 0 n) w7 (by kernel_rfl) (uZ (x:=7) (by kernel_rfl) (by kernel_rfl) U) k7 ?_ aW);refine aK [7] (by kernel_rfl) (by simp) (bI 7 (some 13) (.slice a8 ([] ++ [m0]).length c8) w8 (by kernel_rfl) (iq (x:=8) (y:=12) rfl (by kernel_rfl) (by kernel_rfl) (by kernel_rfl) W) k8 ?_ aW);refine ai 8 (some 5) (.slice a8 ([] ++ [m0]).length c8) (by kernel_rfl) (fun _ _=>by kernel_rfl) (fun _ _ _ h=>h) k8 ?_
  refine bH (by kernel_rfl) ?_
  simp only[Act.put,List.setIfInBounds_toArray,List.set_cons_zero,List.set_cons_succ];have H:=aX O8;have u:=aX k8;have I:=aX d8
  have f:q+1<=w8.heap.size:=by have:=d8.size;omega
  have r:=aX hq;have o:=aX bq;have HXS:=aX Q;clear hS Xd V O3 b3 Y L O5 B5 k3 k4 k5 d5 c U O7 b7 W O8 B8 k6 k7 k8 d8 kq bq hq Q;have q0:=u.out.cell (i:=0) rfl;have q1:=u.out.cell (i:=1) rfl;have q2:=u.out.cell (i:=2) rfl;have s:=fl (w:=w8) (n:=n) (x:=m0) (y:=m1);by_cases h8:8 < n
  ·by_cases hm:m1=0
   ·have F:Hid (mkb ((n:Int),m0,m1) a=([] ++ [m0]) ++ be 8 a):=by have l:((8:Int) < n):=(by omega); show _=_; simp[mkb,l,hm]
    have h8:(8:Int) < n:=by omega
    rw[decide_eq_true h8] at s;subst hm;go_wp2_with first
     | (go_at_call 134;refine s.mono ?_;rintro e C ⟨rfl,c⟩;have g:=u.out.keep c;have R:=g.cell (i:=0) rfl;have p1:=g.cell (i:=1) rfl;have T:=g.cell (i:=2) rfl;have E:=I.out.trans (c.mono f);have z:=H.out.keep c;have t:q+1<=C.heap.size:=Nat.le_trans f c.size)
     | (go_at_call 150;refine(di (x:=a) z t (by simp)).mono ?_;rintro e J ⟨v9,rfl,G,D⟩;obtain⟨a9,c9,rfl⟩:=OB.sh G;have z9:=g.kU D (Nat.lt_succ_self q);have r1:=z9.cell (i:=1) rfl;have r2:=z9.cell (i:=2) rfl;have P:=E.trans D;have s9:q+1<=J.heap.size:=Nat.le_trans t D.size)
    go_ret;exact⟨_,rfl,by rw[F.out];exact G.mono (fun b _ h=>by have:=r.out;omega),by have A:=P;rw[r.out];exact o.out.trans (A.mono (Nat.le_succ q))⟩
   ·have F:Hid (mkb ((n:Int),m0,m1) a=([] ++ [m0]) ++ be 8 a ++ [m1]):=by have l:((8:Int) < n):=(by omega); show _=_; simp[mkb,l,hm]
    have h8:(8:Int) < n:=by omega
    rw[decide_eq_true h8] at s
    have M:m1≠0:=hm;go_wp2_with first
     | (go_at_call 134;refine s.mono ?_;rintro e C ⟨rfl,c⟩;have g:=u.out.keep c;have R:=g.cell (i:=0) rfl;have p1:=g.cell (i:=1) rfl;have T:=g.cell (i:=2) rfl;have E:=I.out.trans (c.mono f);have z:=H.out.keep c;have t:q+1<=C.heap.size:=Nat.le_trans f c.size)
     | (go_at_call 150;refine(di (x:=a) z t (by simp)).mono ?_;rintro e J ⟨v9,rfl,G,D⟩;obtain⟨a9,c9,rfl⟩:=OB.sh G;have z9:=g.kU D (Nat.lt_succ_self q);have r1:=z9.cell (i:=1) rfl;have r2:=z9.cell (i:=2) rfl;have P:=E.trans D;have s9:q+1<=J.heap.size:=Nat.le_trans t D.size;obtain⟨v10,K,j,d,m⟩:=eM (x:=m1) G s9 (by simp[aN]) H1.out;obtain⟨N,O,rfl⟩:=OB.sh d;replace d:=aX d;replace m:=aX m)
     | (at_builtin;refine Lib.wpList_append_run _ rfl _ _ _ _ rfl _ _ rfl rfl _ _ j ?_;clear j)
    go_ret;exact⟨_,rfl,by rw[F.out];exact d.out.mono (fun b _ h=>by have:=r.out;omega),by have A:=P.trans m.out;rw[r.out];exact o.out.trans (A.mono (Nat.le_succ q))⟩
  ·by_cases hm:m1=0
   ·have F:Hid (mkb ((n:Int),m0,m1) a=([] ++ [m0])):=by have l:¬ ((8:Int) < n):=(by omega); show _=_; simp[mkb,l,hm]
    have h8:¬ ((8:Int) < n):=by omega
    rw[decide_eq_false h8] at s;subst hm;go_wp2_with first
     | (go_at_call 134;refine s.mono ?_;rintro e C ⟨rfl,c⟩;have g:=u.out.keep c;have R:=g.cell (i:=0) rfl;have p1:=g.cell (i:=1) rfl;have T:=g.cell (i:=2) rfl;have E:=I.out.trans (c.mono f);have z:=H.out.keep c;have t:q+1<=C.heap.size:=Nat.le_trans f c.size)
    go_ret;exact⟨_,rfl,by rw[F.out];exact z.mono (fun b _ h=>by have:=r.out;omega),by have A:=E;rw[r.out];exact o.out.trans (A.mono (Nat.le_succ q))⟩
   ·have F:Hid (mkb ((n:Int),m0,m1) a=([] ++ [m0]) ++ [m1]):=by have l:¬ ((8:Int) < n):=(by omega); show _=_; simp[mkb,l,hm]
    have h8:¬ ((8:Int) < n):=by omega
    rw[decide_eq_false h8] at s
    have M:m1≠0:=hm;go_wp2_with first
     | (go_at_call 134;refine s.mono ?_;rintro e C ⟨rfl,c⟩;have g:=u.out.keep c;have R:=g.cell (i:=0) rfl;have p1:=g.cell (i:=1) rfl;have T:=g.cell (i:=2) rfl;have E:=I.out.trans (c.mono f);have z:=H.out.keep c;have t:q+1<=C.heap.size:=Nat.le_trans f c.size;obtain⟨v10,K,j,d,m⟩:=eM (x:=m1) z t (by simp) H1.out;obtain⟨N,O,rfl⟩:=OB.sh d;replace d:=aX d;replace m:=aX m)
     | (at_builtin;refine Lib.wpList_append_run _ rfl _ _ _ _ rfl _ _ rfl rfl _ _ j ?_;clear j)
    go_ret;exact⟨_,rfl,by rw[F.out];exact d.out.mono (fun b _ h=>by have:=r.out;omega),by have A:=E.trans m.out;rw[r.out];exact o.out.trans (A.mono (Nat.le_succ q))⟩
end
end Ky
end
section
namespace Ky
open Go.RowKit Go.Lib Pg
attribute [local go_sem] Oper.semAt_some
theorem p6 (a b c d:Int) (w:World):(Op.equalIn 9999 182 (.agg #[.int .u8 a,.int .u8 b]) (.agg #[.int .u8 c,.int .u8 d])).run Tryz.prog w=.ok (a == c && b == d) w:=by
 rw[show (9999:Nat)=9998+1 from rfl,Op.equalIn];simp only[Sem.run_bind,run_underlying Tryz.underlying182,Result.andThen_ok];simp only[Std.Legacy.Range.forIn_eq_forIn_range',Std.Legacy.Range.size,Nat.sub_zero,Nat.add_sub_cancel,Nat.div_one,List.range'_succ,List.range'_zero,List.forIn_cons,List.forIn_nil];go_simp;by_cases g:a=c<;>by_cases f:b=d<;>simp[g,f]
attribute [local go_sem] p6
theorem oh (k:Int):∃ (n:Nat) (m0 m1:Int),frm k=((n:Int),m0,m1)/\n<=18/\(0<=m0/\m0 < 256)/\(0<=m1/\m1 < 256)/\(n=0->m0=0/\m1=0):=by
 by_cases h:0<=k/\k < 18
 ·obtain⟨j,rfl⟩:=Int.eq_ofNat_of_zero_le h.1
  have a:j < 18:=by omega
  match j,a with
  | 0,_=>exact⟨0,0,0,rfl,by decide,by decide,by decide,fun _=>⟨rfl,rfl⟩⟩
  | 1,_=>exact⟨1,112,0,rfl,by decide,by decide,by decide,fun h=>by omega⟩
  | 2,_=>exact⟨1,99,0,rfl,by decide,by decide,by decide,fun h=>by omega⟩
  | 3,_=>exact⟨1,109,0,rfl,by decide,by decide,by decide,fun h=>by omega⟩
  | 4,_=>exact⟨9,97,0,rfl,by decide,by decide,by decide,fun h=>by omega⟩
  | 5,_=>exact⟨10,118,48,rfl,by decide,by decide,by decide,fun h=>by omega⟩
  | 6,_=>exact⟨18,118,100,rfl,by decide,by decide,by decide,fun h=>by omega⟩
  | 7,_=>exact⟨18,118,104,rfl,by decide,by decide,by decide,fun h=>by omega⟩
  | 8,_=>exact⟨18,118,115,rfl,by decide,by decide,by decide,fun h=>by omega⟩
  | 9,_=>exact⟨9,116,0,rfl,by decide,by decide,by decide,fun h=>by omega⟩
  | 10,_=>exact⟨17,105,0,rfl,by decide,by decide,by decide,fun h=>by omega⟩
  | 11,_=>exact⟨9,98,0,rfl,by decide,by decide,by decide,fun h=>by omega⟩
  | 12,_=>exact⟨9,117,0,rfl,by decide,by decide,by decide,fun h=>by omega⟩
  | 13,_=>exact⟨9,114,0,rfl,by decide,by decide,by decide,fun h=>by omega⟩
  | 14,_=>exact⟨17,113,0,rfl,by decide,by decide,by decide,fun h=>by omega⟩
  | 15,_=>exact⟨17,101,0,rfl,by decide,by decide,by decide,fun h=>by omega⟩
  | 16,_=>exact⟨17,110,0,rfl,by decide,by decide,by decide,fun h=>by omega⟩
  | 17,_=>exact⟨17,107,0,rfl,by decide,by decide,by decide,fun h=>by omega⟩
  | j+18,h=>omega
 ·exact⟨0,0,0,if_neg h,by decide,by decide,by decide,fun _=>⟨rfl,rfl⟩⟩
def tn (k a:Int):Int:=if k=10 then 18446744073709551615 - a else a
def mkE (k a b:Int):Bool:=decide ((frm k).1=0) || (decide (a≠0) && decide ((frm k).1<=8)) || (decide (b≠0) && decide ((frm k).1<=16))
def mk (k a b:Int):List Int:=mkb (frm k) (tn k a) ++ (if 16 < (frm k).1 then be 8 b else [])
theorem lC (f:Int × Int × Int) (a:Int):(mkb f a).length<=10:=by
 unfold mkb;split<;>split<;>simp[aN]
end Ky
end
section
namespace Ky
open Go.RowKit Go.Lib Pg
attribute [local go_sem] Oper.semAt_some p6
theorem pV (w:World) (D:Nat->Prop):OB w D (.slice none 0 0) []:=⟨fun _ h=>by simp at h,.inl ⟨rfl,rfl⟩⟩
theorem vY {w:World} {k a:Int} (u:0<=a) (s:a < 18446744073709551616):Calls Tryz.prog 120 #[.int .i64 k,.int .u64 a] w fun e w'=>∃ v,e=.returned (.tuple #[v,.int .i64 (if 16 < (frm k).1 then 0 else 70)])/\OB w' (w.heap.size <= ·) v (if 16 < (frm k).1 then mkb (frm k) (tn k a) else [])/\Below w.heap.size w w':=by
 obtain⟨n,m0,m1,hf,hn,i,f,B⟩:=oh k;have j:=fun w=>mJ (w:=w) (k:=k)
 rw[hf] at j;simp only[fv] at j;rw[hf];simp only;have t:=aX (And.intro u s);have o:=aX i;have m:=aX f;have A:=aX hn;have l:=fun w=>fT (w:=w) (n:=n) (x:=m0) (y:=m1)
 clear hf i f B u s;by_cases c:16 < (n:Int)
 ·rw[decide_eq_true c] at l;rw[if_pos c,if_pos c];go_enter Tryz.func120,Tryz.ntmps120;go_wp2_with first
   | (go_at_call 148;refine(j _).mono ?_;rintro e g ⟨rfl,b1⟩)
   | (go_at_call 137;refine(l _).mono ?_;rintro e E ⟨rfl,b2⟩)
  have D:=(aC g [.int .i64 (n:Int),.int .u8 m0,.int .u8 m1] 209).keep b2;have q:=ax b1 (ax (ae g (.cells #[.int .i64 (n:Int),.int .u8 m0,.int .u8 m1] 209)) b2);have hS:=D.drew;refine bW (S:=fun w'=>Blk w' g.heap.size [.int .i64 (n:Int),.int .u8 m0,.int .u8 m1] 209) (by kernel_rfl) hS ?_
  refine aP 0 (some 12) (.agg #[.int .i64 (n:Int),.int .u8 m0,.int .u8 m1]) 209 6 g.heap.size 0 (by kernel_rfl) (by kernel_rfl) (by kernel_rfl) (fun w' h=>nC h) (fun _ _ _ h=>h) hS ?_
  refine ai 1 (some 13) (.int .i64 k) (by kernel_rfl) (fun _ _=>by kernel_rfl) (fun _ _ _ h=>h) hS ?_
  refine ai 2 (some 14) (.int .u64 a) (by kernel_rfl) (fun _ _=>by kernel_rfl) (fun _ _ _ h=>h) hS ?_
  refine bN 3 (some 15) 135 #[.int .i64 k,.int .u64 a] (by kernel_rfl) (by kernel_rfl) (gI t.out.1 t.out.2) ?_
  rintro z G ⟨rfl,rfl⟩;refine⟨.int .u64 (tn k a),rfl,hS,?_⟩;refine bN 4 (some 16) 149 #[.agg #[.int .i64 (n:Int),.int .u8 m0,.int .u8 m1],.int .u64 (tn k a)] (by kernel_rfl) (by kernel_rfl) (nY (n:=n) (a:=tn k a) (Nat.le_trans A.out (by decide)) o.out m.out) ?_
  rintro z F ⟨v5,rfl,p,r⟩;obtain⟨a5,C,rfl⟩:=OB.sh p;have d:=hS.keep r;refine⟨_,rfl,d,?_⟩;refine ai 5 (some 4) (.slice a5 (mkb ((n:Int),m0,m1) (tn k a)).length C) (by kernel_rfl) (fun _ _=>by kernel_rfl) (fun _ _ _ h=>h) d ?_
  refine ai 6 (some 5) (.int .i64 0) (by kernel_rfl) (fun _ _=>by kernel_rfl) (fun _ _ _ h=>h) d ?_
  refine bH (by kernel_rfl) ?_
  simp only[Act.put,List.setIfInBounds_toArray,List.set_cons_zero,List.set_cons_succ];go_wp2;go_ret2;exact⟨_,rfl,p.mono (fun b _ h=>Nat.le_trans q.size h),ax q (ax (b8 _) r)⟩
 ·rw[decide_eq_false c] at l;rw[if_neg c,if_neg c];go_enter Tryz.func120,Tryz.ntmps120;go_wp2_with first
   | (go_at_call 148;refine(j _).mono ?_;rintro e g ⟨rfl,b1⟩)
   | (go_at_call 137;refine(l _).mono ?_;rintro e E ⟨rfl,b2⟩)
  go_ret2;exact⟨_,rfl,pV _ _,ax b1 (ax (ae _ _) b2)⟩
end Ky
end
section
namespace Ky
open Go.RowKit Go.Lib Pg
attribute [local go_sem] Oper.semAt_some p6
section
variable {w:World}{ao:Option Addr}{n c:Nat}{l:List Int}
def bv(l:List Int):Int:=l.foldl (fun n d=>n * 256+d) 0
theorem qt(l:List Int)(x:Int):bv (l ++ [x])=bv l * 256+x:=by simp[bv]
theorem jq:∀ (n:Nat) (l:List Int),Oct l->l.length=n->0<=bv l/\bv l < 256 ^ n
 | 0,l,_,h=>by
  have:l=[]:=List.eq_nil_of_length_eq_zero h;subst this;simp[bv]
 | n + 1,l,ho,h=>by
  obtain⟨b,x,rfl⟩:∃ b x,l=b ++ [x]:=by
   have a:l≠[]:=fun e=>by subst e;simp at h
   exact⟨l.dropLast,l.getLast a,(List.dropLast_concat_getLast a).symm⟩
  rw[qt];have c:=jq n b (fun y hy=>ho y (List.mem_append_left _ hy)) (by simpa using h);have hx:=ho x (by simp);rw[Int.pow_succ];omega
theorem or64(a b:Int)(f:0<=a)(d:a < 72057594037927936)(c:0<=b)(g:b < 256):bits .or .u64 (IntKind.u64.wrap (a * 256)) b=a * 256+b:=by
 have e:IntKind.u64.wrap (a * 256)=a * 256:=by rw[IntKind.wrap_u64];omega
 rw[e];exact bits_join .u64 64 (by decide) (fun n f d=>by rw[IntKind.wrap_u64];omega) 8 (a * 256) b (by omega) (by omega) (by omega) c (by omega) (by omega)
theorem gz(h:By w (.slice ao n c) l)(m:l.length=n)(hn:8<=n)(hc:n<=c) :
  Calls Tryz.prog 136 #[.slice ao n c] w fun e w'=>e=.returned (.int .u64 (bv (l.take 8)))/\w'=w:=by
 have q:=aX h;have p:=aX m
 have r:(8:Int)<=c:=by omega
 have j:Oct l:=h.oct;obtain⟨C,f⟩:∃ x,l[0]?=some x:=⟨l[0]'(by omega),List.getElem?_eq_getElem _⟩
 obtain⟨b,o,rfl,_⟩:=By.at h f;clear h m f;go_enter Tryz.func136,Tryz.ntmps136;go_wp2_with fail;go_loopw [3,9] (fun u i wr=>∃ k:Nat,k<=8/\i=.int .i64 k/\u=.int .u64 (bv (l.take k))/\wr=w) (fun _ i _=>8 - (intOf i).toNat)
 case atStart=>exact⟨0,Nat.zero_le _,rfl,rfl,rfl⟩
 case round =>
  obtain⟨k,B,rfl,rfl,rfl⟩:=hrel;by_cases v:k < 8
  ·obtain⟨x,hx⟩:∃ x,l[k]?=some x:=⟨l[k]'(by have:=p.out;omega),List.getElem?_eq_getElem _⟩
   obtain⟨E,F,e,D⟩:=By.at q.out hx
   cases e;have g:=j x (List.mem_of_getElem? hx)
   have z:Hid (bv (l.take (k+1))=bv (l.take k) * 256+x):=by
    show _=_
    rw[List.take_add_one,hx];exact qt _ _
   have hb:=jq k (l.take k) (fun y hy=>j y (List.mem_of_mem_take hy)) (by rw[List.length_take];have:=p.out;omega)
   have d:bv (l.take k) < 72057594037927936:=by
    have A:(256:Int) ^ k<=256 ^ 7:=by
     have:(256:Nat) ^ k<=256 ^ 7:=Nat.pow_le_pow_right (by decide) (by omega);exact_mod_cast this
    have:(256:Int) ^ 7=72057594037927936:=by decide
    omega
   have s:=or64 (bv (l.take k)) x hb.1 d g.1 g.2;generalize bv (l.take k)=V at *
   have t:(k:Int) < 8:=by omega
   clear hb d hx;go_wp2;go_roundw
   case rel =>
    refine⟨k+1,by omega,by go_num,?_,trivial⟩;rw[z.out]
   case measure=>simp[intOf];omega
  ·obtain rfl:k=8:=by omega
   go_wp2;go_ret;exact⟨rfl,rfl⟩
def fIn(l:List Int):Int × Int × Int:=((l.length:Int),(l[0]?).getD 0,if 9 < l.length/\l.length % 8=2 then (l[9]?).getD 0 else 0)
theorem sr(h:By w (.slice ao n c) l)(i:l.length=n)(q:n<=1000000000) :
  Calls Tryz.prog 132 #[.slice ao n c] w fun e w'=>e=.returned (fv (fIn l))/\Below w.heap.size w w':=by
 have C:=aX i;by_cases z:n=0
 ·have g:fIn l=(0,0,0):=by
   have:l=[]:=List.eq_nil_of_length_eq_zero (by omega);subst this;simp[fIn]
  rw[g];subst z;clear h i;go_enter Tryz.func132,Tryz.ntmps132;go_wp2;refine bodyPost_ret (eu rfl rfl (nC ((aC w [.int .i64 0,.int .u8 0,.int .u8 0] 209).keep (ae _ _)))) rfl ?_
  exact⟨rfl,ax (ae _ _) (ae _ _)⟩
 ·obtain⟨m,d⟩:∃ x,l[0]?=some x:=⟨l[0]'(by omega),List.getElem?_eq_getElem _⟩
  obtain⟨b,o,rfl,c0⟩:=By.at h d
  have v:(0:Int) < n:=by omega
  have y:=aI c0;rw[Nat.add_zero] at c0;by_cases j:9 < n/\n % 8=2
  ·obtain⟨t,f⟩:∃ x,l[9]?=some x:=⟨l[9]'(by omega),List.getElem?_eq_getElem _⟩
   obtain⟨B,E,e,D⟩:=By.at h f
   cases e
   have g:fIn l=((n:Int),m,t):=by rw[fIn,i,if_pos j,d,f];rfl
   rw[g]
   have p:(9:Int) < n:=by omega
   have s:Int.tmod (n:Int) 8=2:=by rw[Int.tmod_eq_emod_of_nonneg (by omega)];omega
   clear h i d f g j;go_enter Tryz.func132,Tryz.ntmps132;go_wp2;refine bodyPost_ret (eu rfl rfl (nC ((aC w [.int .i64 (n:Int),.int .u8 m,.int .u8 t] 209).keep (ae _ _)))) rfl ?_
   exact⟨rfl,ax (ae _ _) (ae _ _)⟩
  ·have g:fIn l=((n:Int),m,0):=by rw[fIn,i,if_neg j,d]; rfl
   rw[g];clear h i d g;by_cases u:9 < n
   ·have p:(9:Int) < n:=by omega
    obtain⟨r,s⟩:∃ r,Int.tmod (n:Int) 8=r:=⟨_,rfl⟩
    have A:¬ r=2:=by rw[<- s,Int.tmod_eq_emod_of_nonneg (by omega)];omega
    clear j;go_enter Tryz.func132,Tryz.ntmps132;go_wp2;refine bodyPost_ret (eu rfl rfl (nC ((aC w [.int .i64 (n:Int),.int .u8 m,.int .u8 0] 209).keep (ae _ _)))) rfl ?_
    exact⟨rfl,ax (ae _ _) (ae _ _)⟩
   ·have p:¬ ((9:Int) < n):=by omega
    clear j;go_enter Tryz.func132,Tryz.ntmps132;go_wp2;refine bodyPost_ret (eu rfl rfl (nC ((aC w [.int .i64 (n:Int),.int .u8 m,.int .u8 0] 209).keep (ae _ _)))) rfl ?_
    exact⟨rfl,ax (ae _ _) (ae _ _)⟩
end
end Ky
end
section
namespace Ky
open Go.RowKit Go.Lib Pg
attribute [local go_sem] Oper.semAt_some p6
theorem wE:∀ k:Nat,k < 18->∀ w,(Instr.index 258 (.agg #[.int .i64 0,.int .u8 0,.int .u8 0,.int .i64 1,.int .u8 112,.int .u8 0,.int .i64 1,.int .u8 99,.int .u8 0,.int .i64 1,.int .u8 109,.int .u8 0,.int .i64 9,.int .u8 97,.int .u8 0,.int .i64 10,.int .u8 118,.int .u8 48,.int .i64 18,.int .u8 118,.int .u8 100,.int .i64 18,.int .u8 118,.int .u8 104,.int .i64 18,.int .u8 118,.int .u8 115,.int .i64 9,.int .u8 116,.int .u8 0,.int .i64 17,.int .u8 105,.int .u8 0,.int .i64 9,.int .u8 98,.int .u8 0,.int .i64 9,.int .u8 117,.int .u8 0,.int .i64 9,.int .u8 114,.int .u8 0,.int .i64 17,.int .u8 113,.int .u8 0,.int .i64 17,.int .u8 101,.int .u8 0,.int .i64 17,.int .u8 110,.int .u8 0,.int .i64 17,.int .u8 107,.int .u8 0]) (.int .i64 k)).run Tryz.prog w=.ok (.agg #[.int .i64 (frm k).1,.int .u8 (frm k).2.1,.int .u8 (frm k).2.2]) w:=by
 intro k a w;rcases(by omega:k=0\/k=1\/k=2\/k=3\/k=4\/k=5\/k=6\/k=7\/k=8\/k=9\/k=10\/k=11\/k=12\/k=13\/k=14\/k=15\/k=16\/k=17) with rfl | rfl | rfl | rfl | rfl | rfl | rfl | rfl | rfl | rfl | rfl | rfl | rfl | rfl | rfl | rfl | rfl | rfl
 all_goals kernel_rfl
theorem sJ {w:World}:Calls Tryz.prog 177 #[] w fun e w'=>∃ FA:Array Value,e=.returned (.agg FA)/\Hid (∀ k:Nat,k < 18->∀ w,(Instr.index 258 (.agg FA) (.int .i64 k)).run Tryz.prog w=.ok (.agg #[.int .i64 (frm k).1,.int .u8 (frm k).2.1,.int .u8 (frm k).2.2]) w)/\Below w.heap.size w w' :=
 og.mono fun _ _ h=>⟨_,h.1,wE,h.2⟩
theorem sn {w:World} {f0 f1 f2:Int}:Calls Tryz.prog 133 #[.agg #[.int .i64 f0,.int .u8 f1,.int .u8 f2]] w fun e w'=>(∃ r:Nat,e=.returned (.int .i64 r)/\((r < 18/\frm r=(f0,f1,f2))\/(r=0/\∀ j:Nat,j < 18->frm j≠(f0,f1,f2))))/\Below w.heap.size w w':=by
 go_enter Tryz.func133,Tryz.ntmps133;go_wp2_with (go_at_call 177;refine sJ.mono ?_;rintro e v ⟨G,rfl,B,b1⟩);have c:=(aC w [.int .i64 f0,.int .u8 f1,.int .u8 f2] 209).keep b1;have y:=ax (ae w (.cells #[.int .i64 f0,.int .u8 f1,.int .u8 f2] 209)) b1;have x:=aX c;have b:=aX y;obtain⟨q,A⟩:∃ q,Hid (w.heap.size=q):=⟨_,rfl⟩
 rw[A.out] at x ⊢;clear c y b1;go_loopw [6] (fun u wr=>∃ k:Nat,k<=18/\u=.int .i64 k/\Hid (∀ j:Nat,j < k->frm j≠(f0,f1,f2))/\Hid (Below v.heap.size v wr)) (fun u _=>18 - (intOf u).toNat)
 case atStart=>exact⟨0,Nat.zero_le _,rfl,fun j h=>by omega,Below.refl _ _⟩
 case round =>
  obtain⟨k,F,rfl,o,d⟩:=hrel;by_cases m:k < 18
  ·have hi:=B.out k m
   have D:(k:Int) < 18:=by omega
   have c:=x.out.keep d.out;have q0:=c.cell (i:=0) rfl;have q1:=c.cell (i:=1) rfl;have E:=c.cell (i:=2) rfl;have z:=c.lt;obtain⟨⟨t,p1,C⟩,f⟩:∃ p,Hid (frm k=p):=⟨_,rfl⟩
   rw[f.out] at hi;simp only at hi;clear c;by_cases s:t=f0
   ·by_cases e1:p1=f1
    ·by_cases e2:C=f2
     ·subst s e1 e2;go_wp2;go_ret;refine⟨⟨k,rfl,.inl ⟨m,f.out⟩⟩,?_⟩;exact b.out.trans ((ax d.out (ae _ _)).mono b.out.size)
     ·subst s e1
      have g:Hid (frm k≠(t,p1,f2)):=by show _≠_;rw[f.out];intro e;cases e;exact e2 rfl
      go_wp2;go_roundw
      case rel =>
       refine⟨k+1,by omega,by go_num,fun j n=>?_,ax d.out (ae _ _)⟩;by_cases l:j=k
       ·subst l;exact g.out
       ·exact o.out j (by omega)
      case measure=>simp[intOf];omega
    ·subst s
     have g:Hid (frm k≠(t,f1,f2)):=by show _≠_;rw[f.out];intro e;cases e;exact e1 rfl
     go_wp2;go_roundw
     case rel =>
      refine⟨k+1,by omega,by go_num,fun j n=>?_,ax d.out (ae _ _)⟩;by_cases l:j=k
      ·subst l;exact g.out
      ·exact o.out j (by omega)
     case measure=>simp[intOf];omega
   ·have g:Hid (frm k≠(f0,f1,f2)):=by show _≠_; rw[f.out]; intro e; cases e; exact s rfl
    go_wp2;go_roundw
    case rel =>
     refine⟨k+1,by omega,by go_num,fun j n=>?_,ax d.out (ae _ _)⟩;by_cases l:j=k
     ·subst l;exact g.out
     ·exact o.out j (by omega)
    case measure=>simp[intOf];omega
  ·obtain rfl:k=18:=by omega
   go_wp2;go_ret;refine⟨⟨0,rfl,.inr ⟨rfl,fun j n=>o.out j n⟩⟩,?_⟩;exact b.out.trans (d.out.mono b.out.size)
end Ky
end
section
namespace Ky
open Go.RowKit Go.Lib Pg
attribute [local go_sem] Oper.semAt_some p6
section
variable {w:World}{ao:Option Addr}{n c b o r g:Nat}{l:List Int}{a:Act}{x u:Value}{tmps:Array Value}
theorem By.lens(h:By w (.slice ao n c) l):l.length=n/\n<=c/\c<=9223372036854775807:=by
 obtain⟨ao',c',e,h2,h3,_⟩:=h.ex
 cases e;exact⟨rfl,h2,h3⟩
theorem By.drop(h:By w (.slice (some ⟨b,o,none⟩) n c) l)(j:Nat)(q:j<=n):By w (.slice (some ⟨b,o+j,none⟩) (n - j) (c - j)) (l.drop j):=by
 obtain⟨m,hc,hm⟩:=By.lens h;obtain⟨g,r,e,t,u,s,k,f⟩:=h.ex
 cases e;refine⟨some ⟨b,o+j,none⟩,c - j,by rw[List.length_drop],by rw[List.length_drop];omega,by omega,(fun e=>by cases e),fun x hx=>k x (List.mem_of_mem_drop hx),?_⟩;rcases f with rfl | ⟨p,v,e,d,a⟩
 ·exact .inl (by simp)
 ·cases e;refine .inr ⟨b,o+j,rfl,d,fun i x hi=>?_⟩;rw[List.getElem?_drop] at hi;have:=a (j+i) x hi;rw[show o+(j+i)=o+j+i by omega] at this;exact this
theorem nZ{op:Oper}{x:Nat}(d:op.op=.slice 96 (.tmp x) (some (.const (.int .i64 1))) none none)(hx:a.eval (.tmp x)=.slice (some ⟨b,o,none⟩) n c)(hn:1<=n)(hc:2<=c)(g:n<=c):(execOp a.eval op).run Tryz.prog w=.ok (.value (.slice (some ⟨b,o+1,none⟩) (n - 1) (c - 1))) w:=by
 have q:¬ ((n:Int) < 1):=by omega
 have l:(1:Int)<=n:=by omega
 have s:¬ (c - 1=0):=by omega
 have r:(n:Int)<=c:=by omega
 have p:¬ (c<=1):=by omega
 have m:¬ ((c:Int)=1):=by omega
 have h7:¬ (c=1):=by omega
 obtain⟨i0,hi,j,i,f⟩:=info_parts (P:=Tryz.prog) KB.inf;simp only[execOp,d,hx];go_simp
def rdA(r:Nat)(l:List Int):Int:=if 8 < l.length then tn r (bv ((l.drop 1).take 8)) else 0
def rdB(l:List Int):Int:=if 16 < l.length then bv (l.drop (l.length - 8)) else 0
theorem vx:∀ i:Nat,i < 18->∀ j:Nat,j < 18->frm i=frm j->i=j:=by decide +kernel
theorem uo{f0 f1 f2:Int}(a:r < 18)(h:frm r=(f0,f1,f2)):Calls Tryz.prog 133 #[.agg #[.int .i64 f0,.int .u8 f1,.int .u8 f2]] w fun e w'=>e=.returned (.int .i64 r)/\Below w.heap.size w w':=by
 refine sn.mono ?_
 rintro e w' ⟨⟨b,rfl,c⟩,hb⟩;rcases c with⟨h1,h2⟩ | ⟨rfl,h2⟩
 ·have:=vx b h1 r a (h2.trans h.symm);subst this;exact⟨rfl,hb⟩
 ·exact absurd h (h2 r a)
theorem tO{y z:Value}(h:Blk w g [x,y,z] 151):(loadVar 151 ⟨g,0,none⟩).run Tryz.prog w=.ok (.agg #[x,y,z]) w:=by
 have c0:=h.cell (i:=0) rfl;have c1:=h.cell (i:=1) rfl;have c2:=h.cell (i:=2) rfl;go_simp
theorem gA{fn:Func}{p u:Tmp}{ty:TypeId}(h:fn.results=#[.cell p ty,.tmp u]){v:Value}(b:tmps.getD p undef=.pointer (some ⟨g,0,none⟩))(hu:tmps.getD u undef=x)(a:(loadVar ty ⟨g,0,none⟩).run Tryz.prog w=.ok v w):(results fn tmps).run Tryz.prog w=.ok (.tuple #[v,x]) w:=by
 rw[results_cell_tmp h,b,hu];simp[asAddr,a]
theorem BT:∀ r:Nat,r < 18->0 < r->0 < (frm r).1:=by decide +kernel
theorem rE{o:Oper}(k q:Nat){off:Nat}{x:Int}(b:o.op=.store 22 (.tmp k) (.tmp q))(d:a.eval (.tmp k)=.pointer (some ⟨g,off,none⟩))(c:a.eval (.tmp q)=.int .u64 x)(hc:w.cell? ⟨g,off,none⟩=some u)(hf:w.frozen? ⟨g,off,none⟩=false) :
  (execOp a.eval o).run Tryz.prog w=.ok .skip (w.setCell ⟨g,off,none⟩ (.int .u64 x)):=by
 simp only[execOp,b,d,c];go_simp
theorem xZ(h:By w (.slice ao n c) l)(hbig:n<=1000000000)(hr:r < 18)(hr0:0 < r)(I:frm r=fIn l) :
  Calls Tryz.prog 84 #[.slice ao n c] w fun e w'=>e=.returned (.tuple #[.agg #[.int .i64 (r:Int),.int .u64 (rdA r l),.int .u64 (rdB l)],.int .i64 0])/\Below w.heap.size w w':=by
 obtain⟨hl,hnc,hcm⟩:=By.lens h;have u1:=fun w' (hB:Below w.heap.size w w')=>sr (h.keep hB) hl hbig
 have ak:=BT r hr hr0;obtain⟨⟨f0,f1,f2⟩,hf⟩:∃ f,Hid (fIn l=f):=⟨_,rfl⟩
 have hf0:f0=(n:Int):=by have:=hf.out;rw[fIn,hl] at this;cases this;rfl
 subst hf0;rw[hf.out] at u1 I;rw[I] at ak;simp only[fv] at u1 ak;have u2:=fun w'=>uo (w:=w') hr I
 obtain⟨x0,hx0⟩:∃ x,l[0]?=some x:=⟨l[0]'(by omega),List.getElem?_eq_getElem _⟩
 obtain⟨b,o,rfl,_⟩:=By.at h hx0;have HB:=aX h
 have nr:¬ ((r:Int)=0):=by omega
 clear h I hx0;by_cases h8:8 < n
 ·by_cases h16:16 < n
  ·have g8:((8:Int) < n):=by omega
   have K:=fun w=>fl (w:=w) (n:=n) (x:=f1) (y:=f2)
   rw[decide_eq_true g8] at K
   have g16:((16:Int) < n):=by omega
   have U:=fun w=>fT (w:=w) (n:=n) (x:=f1) (y:=f2)
   rw[decide_eq_true g16] at U
   have mA:True:=trivial
   have mB:True:=trivial
   have G:Hid (rdA r l=tn r (bv ((l.drop 1).take 8))):=by show _=_;rw[rdA,if_pos (by omega)]
   have H:Hid (rdB l=bv ((l.drop (n - 8)).take 8)):=by show _=_;rw[rdB,if_pos (by omega)];rw[hl,List.take_of_length_le (by rw[List.length_drop];omega)]
   rw[G.out,H.out];go_enter Tryz.func84,Tryz.ntmps84;go_wp2_with first
    | (go_at_call 132;refine(u1 _ (ae _ _)).mono ?_;rintro e E ⟨rfl,b1⟩)
    | (go_at_call 133;refine(u2 _).mono ?_;rintro e s ⟨rfl,b2⟩;have al:=ae s (.cells #[.int .i64 (r:Int),.int .u64 0,.int .u64 0] 151);have bf:=ax (ae E (.cells #[.int .i64 (n:Int),.int .u8 f1,.int .u8 f2] 209)) b2;have kq2:=(((aC w [.int .i64 0,.int .u64 0,.int .u64 0] 151).keep b1).keep bf).keep al;have q:=((aC E [.int .i64 (n:Int),.int .u8 f1,.int .u8 f2] 209).keep b2).keep al;have g:=aC s [.int .i64 (r:Int),.int .u64 0,.int .u64 0] 151;have B:=ax (ax (ax (ae w (.cells #[.int .i64 0,.int .u64 0,.int .u64 0] 151)) b1) bf) al;have lt1:w.heap.size < E.heap.size:=Nat.lt_of_lt_of_le (by simp) b1.size;have lt2:E.heap.size < s.heap.size:=Nat.lt_of_lt_of_le (by simp) b2.size;have N:=g.cell (i:=0) rfl;have p1_2:=g.cell (i:=1) rfl;have p2_2:=g.cell (i:=2) rfl;have an:=q.cell (i:=0) rfl;have P:=q.cell (i:=1) rfl;have g2_2:=q.cell (i:=2) rfl;have T:=kq2.cell (i:=0) rfl;have W:=kq2.cell (i:=1) rfl;have ad:=kq2.cell (i:=2) rfl;have y0_2:=kq2.free 0;have y1_2:=kq2.free 1;have R:=kq2.free 2;have Y:=g.free 0;have am:=g.free 1;have ag:=g.free 2;replace g:=aX g;replace q:=aX q;replace kq2:=aX kq2;replace B:=aX B;clear b1 b2 bf al)
    | (go_at_call 134;have gate:=mA;clear gate;go_must (refine(K _).mono ?_);clear mA;rintro e F ⟨rfl,b3⟩;have d:=g.out.keep b3;have m:=q.out.keep b3;have kq3:=kq2.out.keep b3;have v:=ax B.out b3;have af:=d.cell (i:=0) rfl;have p1_3:=d.cell (i:=1) rfl;have O:=d.cell (i:=2) rfl;have V:=m.cell (i:=0) rfl;have g1_3:=m.cell (i:=1) rfl;have g2_3:=m.cell (i:=2) rfl;have X:=kq3.cell (i:=0) rfl;have ah:=kq3.cell (i:=1) rfl;have q2_3:=kq3.cell (i:=2) rfl;have ab:=kq3.free 0;have y1_3:=kq3.free 1;have y2_3:=kq3.free 2;have Z:=d.free 0;have aa:=d.free 1;have x2_3:=d.free 2;replace d:=aX d;replace m:=aX m;replace kq3:=aX kq3;replace v:=aX v;clear b3)
   have hS:F.drew.cell? ⟨s.heap.size,0,none⟩=some (.int .i64 (r:Int)):=d.out.drew.cell rfl;have BY:=(HB.out.keep v.out).drew;have bb:=jq 8 ((l.drop 1).take 8) (fun y hy=>HB.out.oct y (List.mem_of_mem_drop (List.mem_of_mem_take hy))) (by rw[List.length_take,List.length_drop];omega);rw[show (256:Int) ^ 8=18446744073709551616 by decide] at bb;refine bW (S:=fun w'=>w'.cell? ⟨s.heap.size,0,none⟩=some (.int .i64 (r:Int))) (by kernel_rfl) hS ?_
   refine ai 0 (some 17) (.pointer (some ⟨s.heap.size,0,none⟩)) (by kernel_rfl) (fun _ _=>by kernel_rfl) (fun _ _ _ h=>h) hS ?_
   refine aP 1 (some 18) (.int .i64 (r:Int)) 3 17 s.heap.size 0 (by kernel_rfl) (by kernel_rfl) (by kernel_rfl) (fun w' h=>gY h) (fun _ _ _ h=>h) hS ?_
   refine ai 2 (some 19) (.slice (some ⟨b,o,none⟩) n c) (by kernel_rfl) (fun _ _=>by kernel_rfl) (fun _ _ _ h=>h) hS ?_
   refine ai 3 (some 20) (.slice (some ⟨b,o+1,none⟩) (n - 1) (c - 1)) (by kernel_rfl) (fun _ _=>nZ (x:=19) (by kernel_rfl) (by kernel_rfl) (by omega) (by omega) hnc) (fun _ _ _ h=>h) hS ?_
   refine bN 4 (some 21) 136 #[.slice (some ⟨b,o+1,none⟩) (n - 1) (c - 1)] (by kernel_rfl) (by kernel_rfl) (gz (By.drop BY 1 (by omega)) (by rw[List.length_drop];omega) (by omega) (by omega)) ?_
   rintro e' w4 ⟨rfl,rfl⟩;refine⟨_,rfl,hS,?_⟩;refine bN 5 (some 22) 135 #[.int .i64 (r:Int),.int .u64 (bv ((l.drop 1).take 8))] (by kernel_rfl) (by kernel_rfl) (gI bb.1 bb.2) ?_
   rintro e' w5 ⟨rfl,rfl⟩;refine⟨.int .u64 (tn r (bv ((l.drop 1).take 8))),rfl,hS,?_⟩;refine ai 6 (some 23) (.pointer (some ⟨s.heap.size,1,none⟩)) (by kernel_rfl) (fun _ _=>by kernel_rfl) (fun _ _ _ h=>h) hS ?_
   refine aK [7] (by kernel_rfl) (by simp) (dq 7 (F.drew.setCell ⟨s.heap.size,1,none⟩ (.int .u64 (tn r (bv ((l.drop 1).take 8))))) (by kernel_rfl) (rE 23 22 (by kernel_rfl) (by kernel_rfl) (by kernel_rfl) (d.out.drew.cell (i:=1) rfl) (d.out.drew.free 1)) ((d.out.drew.setCell (i:=1) _).cell (i:=0) rfl) ?_ aW);refine bH (by kernel_rfl) ?_
   simp only[Act.put,List.setIfInBounds_toArray,List.set_cons_zero,List.set_cons_succ]
   have t:Blk (F.drew.setCell ⟨s.heap.size,1,none⟩ (.int .u64 (tn r (bv ((l.drop 1).take 8))))) s.heap.size [.int .i64 (r:Int),.int .u64 (tn r (bv ((l.drop 1).take 8))),.int .u64 0] 151:=d.out.drew.setCell (i:=1) _;have z:=m.out.drew.off (g':=s.heap.size) (by omega) (i:=1) (.int .u64 (tn r (bv ((l.drop 1).take 8))));have kq5:=kq3.out.drew.off (g':=s.heap.size) (by omega) (i:=1) (.int .u64 (tn r (bv ((l.drop 1).take 8))));have D:=(ax v.out (b8 F)).setCell (p:=⟨s.heap.size,1,none⟩) (show w.heap.size<=s.heap.size by omega) (.int .u64 (tn r (bv ((l.drop 1).take 8))));generalize hX5:F.drew.setCell ⟨s.heap.size,1,none⟩ (.int .u64 (tn r (bv ((l.drop 1).take 8))))=X5 at *;clear hX5;generalize hAV:tn r (bv ((l.drop 1).take 8))=AV at *;have HAV:=aX hAV;clear hAV;have p0_5:=t.cell (i:=0) rfl;have p1_5:=t.cell (i:=1) rfl;have p2_5:=t.cell (i:=2) rfl;have g0_5:=z.cell (i:=0) rfl;have g1_5:=z.cell (i:=1) rfl;have g2_5:=z.cell (i:=2) rfl;have q0_5:=kq5.cell (i:=0) rfl;have q1_5:=kq5.cell (i:=1) rfl;have q2_5:=kq5.cell (i:=2) rfl;have y0_5:=kq5.free 0;have y1_5:=kq5.free 1;have y2_5:=kq5.free 2;have x0_5:=t.free 0;have x1_5:=t.free 1;have x2_5:=t.free 2;replace t:=aX t;replace z:=aX z;replace kq5:=aX kq5;replace D:=aX D;clear BY bb hS;have HB8:=aX HB.out;go_wp2_with first
    | (go_at_call 137;have gate:=mB;clear gate;go_must (refine(U _).mono ?_);clear mB;rintro e w6 ⟨rfl,C⟩;have j:=t.out.keep C;have u:=z.out.keep C;have kq6:=kq5.out.keep C;have A:=ax D.out C;have J:=j.cell (i:=0) rfl;have aj:=j.cell (i:=1) rfl;have p2_6:=j.cell (i:=2) rfl;have g0_6:=u.cell (i:=0) rfl;have g1_6:=u.cell (i:=1) rfl;have g2_6:=u.cell (i:=2) rfl;have q0_6:=kq6.cell (i:=0) rfl;have L:=kq6.cell (i:=1) rfl;have ap:=kq6.cell (i:=2) rfl;have y0_6:=kq6.free 0;have y1_6:=kq6.free 1;have ac:=kq6.free 2;have x0_6:=j.free 0;have M:=j.free 1;have Q:=j.free 2;replace j:=aX j;replace u:=aX u;replace kq6:=aX kq6;replace A:=aX A;clear C)
    | (go_at_call 136;refine(gz (By.drop (HB8.out.keep A.out) (n - 8) (by omega)) (by rw[List.length_drop];omega) (by omega) (by omega)).mono ?_;rintro e w7 ⟨rfl,rfl⟩)
   refine bodyPost_ret (gA rfl rfl rfl (tO (wD (kq6.out.off (g':=s.heap.size) (by omega) (i:=2) _) _ _ _))) rfl ?_
   refine⟨?_,kh (A.out.setCell (p:=⟨s.heap.size,2,none⟩) (show w.heap.size<=s.heap.size by omega) _) _ _ _⟩
   show Ending.returned (.tuple #[.agg #[.int .i64 (r:Int),.int .u64 AV,.int .u64 (bv ((l.drop (n - 8)).take 8))],.int .i64 0])=_
   rw[<- HAV.out]
  ·have g8:((8:Int) < n):=by omega
   have K:=fun w=>fl (w:=w) (n:=n) (x:=f1) (y:=f2)
   rw[decide_eq_true g8] at K
   have g16:¬ ((16:Int) < n):=by omega
   have U:=fun w=>fT (w:=w) (n:=n) (x:=f1) (y:=f2)
   rw[decide_eq_false g16] at U
   have mA:True:=trivial
   have mB:True:=trivial
   have G:Hid (rdA r l=tn r (bv ((l.drop 1).take 8))):=by show _=_;rw[rdA,if_pos (by omega)]
   have H:Hid (rdB l=0):=by show _=_;rw[rdB,if_neg (by omega)]
   rw[G.out,H.out];go_enter Tryz.func84,Tryz.ntmps84;go_wp2_with first
    | (go_at_call 132;refine(u1 _ (ae _ _)).mono ?_;rintro e E ⟨rfl,b1⟩)
    | (go_at_call 133;refine(u2 _).mono ?_;rintro e s ⟨rfl,b2⟩;have al:=ae s (.cells #[.int .i64 (r:Int),.int .u64 0,.int .u64 0] 151);have bf:=ax (ae E (.cells #[.int .i64 (n:Int),.int .u8 f1,.int .u8 f2] 209)) b2;have kq2:=(((aC w [.int .i64 0,.int .u64 0,.int .u64 0] 151).keep b1).keep bf).keep al;have q:=((aC E [.int .i64 (n:Int),.int .u8 f1,.int .u8 f2] 209).keep b2).keep al;have g:=aC s [.int .i64 (r:Int),.int .u64 0,.int .u64 0] 151;have B:=ax (ax (ax (ae w (.cells #[.int .i64 0,.int .u64 0,.int .u64 0] 151)) b1) bf) al;have lt1:w.heap.size < E.heap.size:=Nat.lt_of_lt_of_le (by simp) b1.size;have lt2:E.heap.size < s.heap.size:=Nat.lt_of_lt_of_le (by simp) b2.size;have N:=g.cell (i:=0) rfl;have p1_2:=g.cell (i:=1) rfl;have p2_2:=g.cell (i:=2) rfl;have an:=q.cell (i:=0) rfl;have P:=q.cell (i:=1) rfl;have g2_2:=q.cell (i:=2) rfl;have T:=kq2.cell (i:=0) rfl;have W:=kq2.cell (i:=1) rfl;have ad:=kq2.cell (i:=2) rfl;have y0_2:=kq2.free 0;have y1_2:=kq2.free 1;have R:=kq2.free 2;have Y:=g.free 0;have am:=g.free 1;have ag:=g.free 2;replace g:=aX g;replace q:=aX q;replace kq2:=aX kq2;replace B:=aX B;clear b1 b2 bf al)
    | (go_at_call 134;have gate:=mA;clear gate;go_must (refine(K _).mono ?_);clear mA;rintro e F ⟨rfl,b3⟩;have d:=g.out.keep b3;have m:=q.out.keep b3;have kq3:=kq2.out.keep b3;have v:=ax B.out b3;have af:=d.cell (i:=0) rfl;have p1_3:=d.cell (i:=1) rfl;have O:=d.cell (i:=2) rfl;have V:=m.cell (i:=0) rfl;have g1_3:=m.cell (i:=1) rfl;have g2_3:=m.cell (i:=2) rfl;have X:=kq3.cell (i:=0) rfl;have ah:=kq3.cell (i:=1) rfl;have q2_3:=kq3.cell (i:=2) rfl;have ab:=kq3.free 0;have y1_3:=kq3.free 1;have y2_3:=kq3.free 2;have Z:=d.free 0;have aa:=d.free 1;have x2_3:=d.free 2;replace d:=aX d;replace m:=aX m;replace kq3:=aX kq3;replace v:=aX v;clear b3)
   have hS:F.drew.cell? ⟨s.heap.size,0,none⟩=some (.int .i64 (r:Int)):=d.out.drew.cell rfl;have BY:=(HB.out.keep v.out).drew;have bb:=jq 8 ((l.drop 1).take 8) (fun y hy=>HB.out.oct y (List.mem_of_mem_drop (List.mem_of_mem_take hy))) (by rw[List.length_take,List.length_drop];omega);rw[show (256:Int) ^ 8=18446744073709551616 by decide] at bb;refine bW (S:=fun w'=>w'.cell? ⟨s.heap.size,0,none⟩=some (.int .i64 (r:Int))) (by kernel_rfl) hS ?_
   refine ai 0 (some 17) (.pointer (some ⟨s.heap.size,0,none⟩)) (by kernel_rfl) (fun _ _=>by kernel_rfl) (fun _ _ _ h=>h) hS ?_
   refine aP 1 (some 18) (.int .i64 (r:Int)) 3 17 s.heap.size 0 (by kernel_rfl) (by kernel_rfl) (by kernel_rfl) (fun w' h=>gY h) (fun _ _ _ h=>h) hS ?_
   refine ai 2 (some 19) (.slice (some ⟨b,o,none⟩) n c) (by kernel_rfl) (fun _ _=>by kernel_rfl) (fun _ _ _ h=>h) hS ?_
   refine ai 3 (some 20) (.slice (some ⟨b,o+1,none⟩) (n - 1) (c - 1)) (by kernel_rfl) (fun _ _=>nZ (x:=19) (by kernel_rfl) (by kernel_rfl) (by omega) (by omega) hnc) (fun _ _ _ h=>h) hS ?_
   refine bN 4 (some 21) 136 #[.slice (some ⟨b,o+1,none⟩) (n - 1) (c - 1)] (by kernel_rfl) (by kernel_rfl) (gz (By.drop BY 1 (by omega)) (by rw[List.length_drop];omega) (by omega) (by omega)) ?_
   rintro e' w4 ⟨rfl,rfl⟩;refine⟨_,rfl,hS,?_⟩;refine bN 5 (some 22) 135 #[.int .i64 (r:Int),.int .u64 (bv ((l.drop 1).take 8))] (by kernel_rfl) (by kernel_rfl) (gI bb.1 bb.2) ?_
   rintro e' w5 ⟨rfl,rfl⟩;refine⟨.int .u64 (tn r (bv ((l.drop 1).take 8))),rfl,hS,?_⟩;refine ai 6 (some 23) (.pointer (some ⟨s.heap.size,1,none⟩)) (by kernel_rfl) (fun _ _=>by kernel_rfl) (fun _ _ _ h=>h) hS ?_
   refine aK [7] (by kernel_rfl) (by simp) (dq 7 (F.drew.setCell ⟨s.heap.size,1,none⟩ (.int .u64 (tn r (bv ((l.drop 1).take 8))))) (by kernel_rfl) (rE 23 22 (by kernel_rfl) (by kernel_rfl) (by kernel_rfl) (d.out.drew.cell (i:=1) rfl) (d.out.drew.free 1)) ((d.out.drew.setCell (i:=1) _).cell (i:=0) rfl) ?_ aW);refine bH (by kernel_rfl) ?_
   simp only[Act.put,List.setIfInBounds_toArray,List.set_cons_zero,List.set_cons_succ]
   have t:Blk (F.drew.setCell ⟨s.heap.size,1,none⟩ (.int .u64 (tn r (bv ((l.drop 1).take 8))))) s.heap.size [.int .i64 (r:Int),.int .u64 (tn r (bv ((l.drop 1).take 8))),.int .u64 0] 151:=d.out.drew.setCell (i:=1) _;have z:=m.out.drew.off (g':=s.heap.size) (by omega) (i:=1) (.int .u64 (tn r (bv ((l.drop 1).take 8))));have kq5:=kq3.out.drew.off (g':=s.heap.size) (by omega) (i:=1) (.int .u64 (tn r (bv ((l.drop 1).take 8))));have D:=(ax v.out (b8 F)).setCell (p:=⟨s.heap.size,1,none⟩) (show w.heap.size<=s.heap.size by omega) (.int .u64 (tn r (bv ((l.drop 1).take 8))));generalize hX5:F.drew.setCell ⟨s.heap.size,1,none⟩ (.int .u64 (tn r (bv ((l.drop 1).take 8))))=X5 at *;clear hX5;generalize hAV:tn r (bv ((l.drop 1).take 8))=AV at *;have HAV:=aX hAV;clear hAV;have p0_5:=t.cell (i:=0) rfl;have p1_5:=t.cell (i:=1) rfl;have p2_5:=t.cell (i:=2) rfl;have g0_5:=z.cell (i:=0) rfl;have g1_5:=z.cell (i:=1) rfl;have g2_5:=z.cell (i:=2) rfl;have q0_5:=kq5.cell (i:=0) rfl;have q1_5:=kq5.cell (i:=1) rfl;have q2_5:=kq5.cell (i:=2) rfl;have y0_5:=kq5.free 0;have y1_5:=kq5.free 1;have y2_5:=kq5.free 2;have x0_5:=t.free 0;have x1_5:=t.free 1;have x2_5:=t.free 2;replace t:=aX t;replace z:=aX z;replace kq5:=aX kq5;replace D:=aX D;clear BY bb hS;go_wp2_with (go_at_call 137;have gate:=mB;clear gate;go_must (refine(U _).mono ?_);clear mB;rintro e w6 ⟨rfl,C⟩;have j:=t.out.keep C;have u:=z.out.keep C;have kq6:=kq5.out.keep C;have A:=ax D.out C;have J:=j.cell (i:=0) rfl;have aj:=j.cell (i:=1) rfl;have p2_6:=j.cell (i:=2) rfl;have g0_6:=u.cell (i:=0) rfl;have g1_6:=u.cell (i:=1) rfl;have g2_6:=u.cell (i:=2) rfl;have q0_6:=kq6.cell (i:=0) rfl;have L:=kq6.cell (i:=1) rfl;have ap:=kq6.cell (i:=2) rfl;have y0_6:=kq6.free 0;have y1_6:=kq6.free 1;have ac:=kq6.free 2;have x0_6:=j.free 0;have M:=j.free 1;have Q:=j.free 2;replace j:=aX j;replace u:=aX u;replace kq6:=aX kq6;replace A:=aX A;clear C);refine bodyPost_ret (gA rfl rfl rfl (tO (wD kq6.out _ _ _))) rfl ?_
   refine⟨?_,kh A.out _ _ _⟩
   show Ending.returned (.tuple #[.agg #[.int .i64 (r:Int),.int .u64 AV,.int .u64 0],.int .i64 0])=_
   rw[<- HAV.out]
 ·have g8:¬ ((8:Int) < n):=by omega
  have K:=fun w=>fl (w:=w) (n:=n) (x:=f1) (y:=f2)
  rw[decide_eq_false g8] at K
  have g16:¬ ((16:Int) < n):=by omega
  have U:=fun w=>fT (w:=w) (n:=n) (x:=f1) (y:=f2)
  rw[decide_eq_false g16] at U
  have mA:True:=trivial
  have mB:True:=trivial
  have G:Hid (rdA r l=0):=by show _=_;rw[rdA,if_neg (by omega)]
  have H:Hid (rdB l=0):=by show _=_;rw[rdB,if_neg (by omega)]
  rw[G.out,H.out];go_enter Tryz.func84,Tryz.ntmps84;go_wp2_with first
   | (go_at_call 132;refine(u1 _ (ae _ _)).mono ?_;rintro e E ⟨rfl,b1⟩)
   | (go_at_call 133;refine(u2 _).mono ?_;rintro e s ⟨rfl,b2⟩;have al:=ae s (.cells #[.int .i64 (r:Int),.int .u64 0,.int .u64 0] 151);have bf:=ax (ae E (.cells #[.int .i64 (n:Int),.int .u8 f1,.int .u8 f2] 209)) b2;have kq2:=(((aC w [.int .i64 0,.int .u64 0,.int .u64 0] 151).keep b1).keep bf).keep al;have q:=((aC E [.int .i64 (n:Int),.int .u8 f1,.int .u8 f2] 209).keep b2).keep al;have g:=aC s [.int .i64 (r:Int),.int .u64 0,.int .u64 0] 151;have B:=ax (ax (ax (ae w (.cells #[.int .i64 0,.int .u64 0,.int .u64 0] 151)) b1) bf) al;have lt1:w.heap.size < E.heap.size:=Nat.lt_of_lt_of_le (by simp) b1.size;have lt2:E.heap.size < s.heap.size:=Nat.lt_of_lt_of_le (by simp) b2.size;have N:=g.cell (i:=0) rfl;have p1_2:=g.cell (i:=1) rfl;have p2_2:=g.cell (i:=2) rfl;have an:=q.cell (i:=0) rfl;have P:=q.cell (i:=1) rfl;have g2_2:=q.cell (i:=2) rfl;have T:=kq2.cell (i:=0) rfl;have W:=kq2.cell (i:=1) rfl;have ad:=kq2.cell (i:=2) rfl;have y0_2:=kq2.free 0;have y1_2:=kq2.free 1;have R:=kq2.free 2;have Y:=g.free 0;have am:=g.free 1;have ag:=g.free 2;replace g:=aX g;replace q:=aX q;replace kq2:=aX kq2;replace B:=aX B;clear b1 b2 bf al)
   | (go_at_call 134;have gate:=mA;clear gate;go_must (refine(K _).mono ?_);clear mA;rintro e F ⟨rfl,b3⟩;have d:=g.out.keep b3;have m:=q.out.keep b3;have kq3:=kq2.out.keep b3;have v:=ax B.out b3;have af:=d.cell (i:=0) rfl;have p1_3:=d.cell (i:=1) rfl;have O:=d.cell (i:=2) rfl;have V:=m.cell (i:=0) rfl;have g1_3:=m.cell (i:=1) rfl;have g2_3:=m.cell (i:=2) rfl;have X:=kq3.cell (i:=0) rfl;have ah:=kq3.cell (i:=1) rfl;have q2_3:=kq3.cell (i:=2) rfl;have ab:=kq3.free 0;have y1_3:=kq3.free 1;have y2_3:=kq3.free 2;have Z:=d.free 0;have aa:=d.free 1;have x2_3:=d.free 2;replace d:=aX d;replace m:=aX m;replace kq3:=aX kq3;replace v:=aX v;clear b3)
   | (go_at_call 137;have gate:=mB;clear gate;go_must (refine(U _).mono ?_);clear mB;rintro e w6 ⟨rfl,C⟩;have j:=d.out.keep C;have u:=m.out.keep C;have kq6:=kq3.out.keep C;have A:=ax v.out C;have J:=j.cell (i:=0) rfl;have aj:=j.cell (i:=1) rfl;have p2_6:=j.cell (i:=2) rfl;have g0_6:=u.cell (i:=0) rfl;have g1_6:=u.cell (i:=1) rfl;have g2_6:=u.cell (i:=2) rfl;have q0_6:=kq6.cell (i:=0) rfl;have L:=kq6.cell (i:=1) rfl;have ap:=kq6.cell (i:=2) rfl;have y0_6:=kq6.free 0;have y1_6:=kq6.free 1;have ac:=kq6.free 2;have x0_6:=j.free 0;have M:=j.free 1;have Q:=j.free 2;replace j:=aX j;replace u:=aX u;replace kq6:=aX kq6;replace A:=aX A;clear C)
  refine bodyPost_ret (gA rfl rfl rfl (tO (wD kq6.out _ _ _))) rfl ?_
  refine⟨?_,kh A.out _ _ _⟩;rfl
end
end Ky
end
end Go.Proofs.YthfepflplbahkaaGreatDoor
