/- Several texts, joined: KyF, KyG, KyH, KyI, KyJ, KyK, KyL, KyM, KyN. -/
import Derived.Test.YthfepflplbahkaaGreatDoorJag
import Derived.Laws.Rows
import Derived.Laws.ResultCell
import Derived.Deep.WholeRow
import Derived.Laws.Bits64
import Derived.Test.YthfepflplbahkaaGreatDoorJaf
import Derived.Laws.MakeOwn
import Derived.Laws.BitsLemmas
set_option maxRecDepth 100000
set_option maxHeartbeats 8000000
namespace Go.Proofs.YthfepflplbahkaaGreatDoor
section
namespace Ky
open Go.RowKit Go.Lib Pg
attribute [local go_sem] Oper.semAt_some
def frms:List (Int × Int × Int):=[(0,0,0),(1,112,0),(1,99,0),(1,109,0),(9,97,0),(10,118,48),(18,118,100),(18,118,104),(18,118,115),(9,116,0),(17,105,0),(9,98,0),(9,117,0),(9,114,0),(17,113,0),(17,101,0),(17,110,0),(17,107,0)]
def frm (k:Int):Int × Int × Int:=if 0<=k/\k < 18 then frms.getD k.toNat (0,0,0) else (0,0,0)
def fv (f:Int × Int × Int):Value:=.agg #[.int .i64 f.1,.int .u8 f.2.1,.int .u8 f.2.2]
def gB:List Value:=[.int .i64 0,.int .u8 0,.int .u8 0,.int .i64 1,.int .u8 112,.int .u8 0,.int .i64 1,.int .u8 99,.int .u8 0,.int .i64 1,.int .u8 109,.int .u8 0,.int .i64 9,.int .u8 97,.int .u8 0,.int .i64 10,.int .u8 118,.int .u8 48,.int .i64 18,.int .u8 118,.int .u8 100,.int .i64 18,.int .u8 118,.int .u8 104,.int .i64 18,.int .u8 118,.int .u8 115,.int .i64 9,.int .u8 116,.int .u8 0,.int .i64 17,.int .u8 105,.int .u8 0,.int .i64 9,.int .u8 98,.int .u8 0,.int .i64 9,.int .u8 117,.int .u8 0,.int .i64 9,.int .u8 114,.int .u8 0,.int .i64 17,.int .u8 113,.int .u8 0,.int .i64 17,.int .u8 101,.int .u8 0,.int .i64 17,.int .u8 110,.int .u8 0,.int .i64 17,.int .u8 107,.int .u8 0]
section
variable {ops:Array Oper} {rest:List Oper} {o:Oper} {a:Act} {w w1:World} {Q:Exit->Act->World->Prop}
section
variable {c c':Array Value}
theorem pO(d:Option Tmp)(v:Value)(f:o.guard=none)(c:o.dst=d)(b:(execOp a.eval o).run Tryz.prog w=.ok (.value v) w1)(h:wpList Tryz.prog ops Q rest (a.put d v) w1):wpList Tryz.prog ops Q (o :: rest) a w :=
 wpList_plain f fun K e=>by
  unfold Oper.wp;rw[b];subst c;exact e _ _ h
theorem aY(d:Option Tmp)(v:Value)(e:o.guard=none)(c:o.dst=d)(b:(execOp a.eval o).run Tryz.prog w=.ok (.value v) w)(h:wpList Tryz.prog ops Q rest (a.put d v) w):wpList Tryz.prog ops Q (o :: rest) a w:=pO d v e c b h
theorem uA(e:o.guard=none)(c:o.dst=none)(b:(execOp a.eval o).run Tryz.prog w=.ok .skip w1)(h:wpList Tryz.prog ops Q rest (a.put none undef) w1):wpList Tryz.prog ops Q (o :: rest) a w :=
 wpList_plain e fun K d=>by
  unfold Oper.wp;rw[b]
  show K (a.put o.dst undef) w1
  rw[c];exact d _ _ h
theorem nN{t:TypeId}{k q:Nat}(e:o.op=.store t (.tmp k) (.tmp q))(b:a.eval (.tmp k)=.pointer (some ⟨w.heap.size,0,none⟩))(f:a.eval (.tmp q)=.agg c')(hi:(Tryz.prog.info? t).map (·.size)=some c'.size)(hs:c.size=c'.size)(d:c'.all (·.oneCell')=true):(execOp a.eval o).run Tryz.prog (w.alloc (.cells c t))=.ok .skip (w.alloc (.cells c' t)):=by
 simp only[execOp,e,b,f,Sem.run_bind,run_storeAt_new w t c c' hi hs d,Result.andThen_ok,Sem.run_pure]
end
end
theorem nZ {w:World}:Calls Tryz.prog 177 #[] w fun e w'=>e=.returned (.agg #[.int .i64 0,.int .u8 0,.int .u8 0,.int .i64 1,.int .u8 112,.int .u8 0,.int .i64 1,.int .u8 99,.int .u8 0,.int .i64 1,.int .u8 109,.int .u8 0,.int .i64 9,.int .u8 97,.int .u8 0,.int .i64 10,.int .u8 118,.int .u8 48,.int .i64 18,.int .u8 118,.int .u8 100,.int .i64 18,.int .u8 118,.int .u8 104,.int .i64 18,.int .u8 118,.int .u8 115,.int .i64 9,.int .u8 116,.int .u8 0,.int .i64 17,.int .u8 105,.int .u8 0,.int .i64 9,.int .u8 98,.int .u8 0,.int .i64 9,.int .u8 117,.int .u8 0,.int .i64 9,.int .u8 114,.int .u8 0,.int .i64 17,.int .u8 113,.int .u8 0,.int .i64 17,.int .u8 101,.int .u8 0,.int .i64 17,.int .u8 110,.int .u8 0,.int .i64 17,.int .u8 107,.int .u8 0])/\Below w.heap.size w w':=by
 go_enter Tryz.func177,Tryz.ntmps177;refine wp_seq ?_
 refine wp_region_lit ?_
 refine pO (some 0) (.pointer (some ⟨w.heap.size,0,none⟩)) rfl rfl (w1:=w.alloc (.cells #[.int .i64 0,.int .u8 0,.int .u8 0,.int .i64 0,.int .u8 0,.int .u8 0,.int .i64 0,.int .u8 0,.int .u8 0,.int .i64 0,.int .u8 0,.int .u8 0,.int .i64 0,.int .u8 0,.int .u8 0,.int .i64 0,.int .u8 0,.int .u8 0,.int .i64 0,.int .u8 0,.int .u8 0,.int .i64 0,.int .u8 0,.int .u8 0,.int .i64 0,.int .u8 0,.int .u8 0,.int .i64 0,.int .u8 0,.int .u8 0,.int .i64 0,.int .u8 0,.int .u8 0,.int .i64 0,.int .u8 0,.int .u8 0,.int .i64 0,.int .u8 0,.int .u8 0,.int .i64 0,.int .u8 0,.int .u8 0,.int .i64 0,.int .u8 0,.int .u8 0,.int .i64 0,.int .u8 0,.int .u8 0,.int .i64 0,.int .u8 0,.int .u8 0,.int .i64 0,.int .u8 0,.int .u8 0] 258)) (by kernel_rfl) ?_
 refine wpList_nil ?_
 refine wp_seq (x:=Code.region 1 _ false) ?_
 refine wp_region_lit ?_
 refine aY (some 1) (.agg #[.int .u8 112,.int .u8 0]) rfl rfl (by kernel_rfl) ?_
 refine aY (some 2) (.agg #[.int .i64 1,.int .u8 112,.int .u8 0]) rfl rfl (by kernel_rfl) ?_
 refine aY (some 3) (.agg #[.int .u8 99,.int .u8 0]) rfl rfl (by kernel_rfl) ?_
 refine aY (some 4) (.agg #[.int .i64 1,.int .u8 99,.int .u8 0]) rfl rfl (by kernel_rfl) ?_
 refine aY (some 5) (.agg #[.int .u8 109,.int .u8 0]) rfl rfl (by kernel_rfl) ?_
 refine aY (some 6) (.agg #[.int .i64 1,.int .u8 109,.int .u8 0]) rfl rfl (by kernel_rfl) ?_
 refine aY (some 7) (.agg #[.int .u8 97,.int .u8 0]) rfl rfl (by kernel_rfl) ?_
 refine aY (some 8) (.agg #[.int .i64 9,.int .u8 97,.int .u8 0]) rfl rfl (by kernel_rfl) ?_
 refine aY (some 9) (.agg #[.int .u8 118,.int .u8 48]) rfl rfl (by kernel_rfl) ?_
 refine aY (some 10) (.agg #[.int .i64 10,.int .u8 118,.int .u8 48]) rfl rfl (by kernel_rfl) ?_
 refine aY (some 11) (.agg #[.int .u8 118,.int .u8 100]) rfl rfl (by kernel_rfl) ?_
 refine aY (some 12) (.agg #[.int .i64 18,.int .u8 118,.int .u8 100]) rfl rfl (by kernel_rfl) ?_
 refine aY (some 13) (.agg #[.int .u8 118,.int .u8 104]) rfl rfl (by kernel_rfl) ?_
 refine aY (some 14) (.agg #[.int .i64 18,.int .u8 118,.int .u8 104]) rfl rfl (by kernel_rfl) ?_
 refine aY (some 15) (.agg #[.int .u8 118,.int .u8 115]) rfl rfl (by kernel_rfl) ?_
 refine aY (some 16) (.agg #[.int .i64 18,.int .u8 118,.int .u8 115]) rfl rfl (by kernel_rfl) ?_
 refine aY (some 17) (.agg #[.int .u8 116,.int .u8 0]) rfl rfl (by kernel_rfl) ?_
 refine aY (some 18) (.agg #[.int .i64 9,.int .u8 116,.int .u8 0]) rfl rfl (by kernel_rfl) ?_
 refine aY (some 19) (.agg #[.int .u8 105,.int .u8 0]) rfl rfl (by kernel_rfl) ?_
 refine aY (some 20) (.agg #[.int .i64 17,.int .u8 105,.int .u8 0]) rfl rfl (by kernel_rfl) ?_
 refine aY (some 21) (.agg #[.int .u8 98,.int .u8 0]) rfl rfl (by kernel_rfl) ?_
 refine aY (some 22) (.agg #[.int .i64 9,.int .u8 98,.int .u8 0]) rfl rfl (by kernel_rfl) ?_
 refine aY (some 23) (.agg #[.int .u8 117,.int .u8 0]) rfl rfl (by kernel_rfl) ?_
 refine aY (some 24) (.agg #[.int .i64 9,.int .u8 117,.int .u8 0]) rfl rfl (by kernel_rfl) ?_
 refine aY (some 25) (.agg #[.int .u8 114,.int .u8 0]) rfl rfl (by kernel_rfl) ?_
 refine aY (some 26) (.agg #[.int .i64 9,.int .u8 114,.int .u8 0]) rfl rfl (by kernel_rfl) ?_
 refine aY (some 27) (.agg #[.int .u8 113,.int .u8 0]) rfl rfl (by kernel_rfl) ?_
 refine aY (some 28) (.agg #[.int .i64 17,.int .u8 113,.int .u8 0]) rfl rfl (by kernel_rfl) ?_
 refine aY (some 29) (.agg #[.int .u8 101,.int .u8 0]) rfl rfl (by kernel_rfl) ?_
 refine aY (some 30) (.agg #[.int .i64 17,.int .u8 101,.int .u8 0]) rfl rfl (by kernel_rfl) ?_
 refine aY (some 31) (.agg #[.int .u8 110,.int .u8 0]) rfl rfl (by kernel_rfl) ?_
 refine aY (some 32) (.agg #[.int .i64 17,.int .u8 110,.int .u8 0]) rfl rfl (by kernel_rfl) ?_
 refine aY (some 33) (.agg #[.int .u8 107,.int .u8 0]) rfl rfl (by kernel_rfl) ?_
 refine aY (some 34) (.agg #[.int .i64 17,.int .u8 107,.int .u8 0]) rfl rfl (by kernel_rfl) ?_
 refine aY (some 35) (.agg #[.int .i64 0,.int .u8 0,.int .u8 0,.int .i64 1,.int .u8 112,.int .u8 0,.int .i64 1,.int .u8 99,.int .u8 0,.int .i64 1,.int .u8 109,.int .u8 0,.int .i64 9,.int .u8 97,.int .u8 0,.int .i64 10,.int .u8 118,.int .u8 48,.int .i64 18,.int .u8 118,.int .u8 100,.int .i64 18,.int .u8 118,.int .u8 104,.int .i64 18,.int .u8 118,.int .u8 115,.int .i64 9,.int .u8 116,.int .u8 0,.int .i64 17,.int .u8 105,.int .u8 0,.int .i64 9,.int .u8 98,.int .u8 0,.int .i64 9,.int .u8 117,.int .u8 0,.int .i64 9,.int .u8 114,.int .u8 0,.int .i64 17,.int .u8 113,.int .u8 0,.int .i64 17,.int .u8 101,.int .u8 0,.int .i64 17,.int .u8 110,.int .u8 0,.int .i64 17,.int .u8 107,.int .u8 0]) rfl rfl (by kernel_rfl) ?_
 refine uA rfl rfl (nN (k:=0) (q:=35) (c':=#[.int .i64 0,.int .u8 0,.int .u8 0,.int .i64 1,.int .u8 112,.int .u8 0,.int .i64 1,.int .u8 99,.int .u8 0,.int .i64 1,.int .u8 109,.int .u8 0,.int .i64 9,.int .u8 97,.int .u8 0,.int .i64 10,.int .u8 118,.int .u8 48,.int .i64 18,.int .u8 118,.int .u8 100,.int .i64 18,.int .u8 118,.int .u8 104,.int .i64 18,.int .u8 118,.int .u8 115,.int .i64 9,.int .u8 116,.int .u8 0,.int .i64 17,.int .u8 105,.int .u8 0,.int .i64 9,.int .u8 98,.int .u8 0,.int .i64 9,.int .u8 117,.int .u8 0,.int .i64 9,.int .u8 114,.int .u8 0,.int .i64 17,.int .u8 113,.int .u8 0,.int .i64 17,.int .u8 101,.int .u8 0,.int .i64 17,.int .u8 110,.int .u8 0,.int .i64 17,.int .u8 107,.int .u8 0]) (by kernel_rfl) (by kernel_rfl) (by kernel_rfl) (by kernel_rfl) rfl (by kernel_rfl)) ?_
 refine wpList_nil ?_
 refine wp_ret ?_
 refine bodyPost_ret (results_cell_row rfl _ _ w.heap.size 258 _ _ (.array 18 209) (by kernel_rfl) (heap_alloc_new _ _) (by kernel_rfl) rfl (by kernel_rfl)) rfl ?_
 exact⟨rfl,ae _ _⟩
end Ky
end
section
namespace Ky
open Go.RowKit Go.Lib Pg
attribute [local go_sem] Oper.semAt_some
section
variable {ops:Array Oper} {rest:List Oper} {o:Oper} {a:Act} {w w1:World} {Q:Exit->Act->World->Prop}
theorem Cr (d:Option Tmp) (f:FuncId) (args:Array Value) (l:o.guard=none) (j:o.dst=d) (b:(execOp a.eval o).run Tryz.prog w=.ok (.enter f args) w) {c:Ending->World->Prop} (hc:Calls Tryz.prog f args w c) (h:∀ e w',c e w'->∃ v,e=.returned v/\wpList Tryz.prog ops Q rest (a.put d v) w'):wpList Tryz.prog ops Q (o :: rest) a w :=
 wpList_plain l fun K k=>by
  unfold Oper.wp;rw[b,Oper.upon_enter];refine hc.mono ?_
  intro e w' i;obtain⟨v,rfl,g⟩:=h e w' i;subst j;exact k _ _ g
end
section
variable {w:World}{g:Nat}{tmps:Array Value}{v:Value}
theorem aX{p:Prop}(h:p):Hid p:=h
theorem lM:gB.toArray=#[.int .i64 0,.int .u8 0,.int .u8 0,.int .i64 1,.int .u8 112,.int .u8 0,.int .i64 1,.int .u8 99,.int .u8 0,.int .i64 1,.int .u8 109,.int .u8 0,.int .i64 9,.int .u8 97,.int .u8 0,.int .i64 10,.int .u8 118,.int .u8 48,.int .i64 18,.int .u8 118,.int .u8 100,.int .i64 18,.int .u8 118,.int .u8 104,.int .i64 18,.int .u8 118,.int .u8 115,.int .i64 9,.int .u8 116,.int .u8 0,.int .i64 17,.int .u8 105,.int .u8 0,.int .i64 9,.int .u8 98,.int .u8 0,.int .i64 9,.int .u8 117,.int .u8 0,.int .i64 9,.int .u8 114,.int .u8 0,.int .i64 17,.int .u8 113,.int .u8 0,.int .i64 17,.int .u8 101,.int .u8 0,.int .i64 17,.int .u8 110,.int .u8 0,.int .i64 17,.int .u8 107,.int .u8 0]:=rfl
theorem rC:∀ k:Nat,k < 18->gB[k * 3]? = some (.int .i64 (frm k).1)/\gB[k * 3 + 1]? = some (.int .u8 (frm k).2.1)/\gB[k * 3 + 2]? = some (.int .u8 (frm k).2.2):=by
 intro k a
 match k,a with
 | 0,_=>exact⟨rfl,rfl,rfl⟩
 | 1,_=>exact⟨rfl,rfl,rfl⟩
 | 2,_=>exact⟨rfl,rfl,rfl⟩
 | 3,_=>exact⟨rfl,rfl,rfl⟩
 | 4,_=>exact⟨rfl,rfl,rfl⟩
 | 5,_=>exact⟨rfl,rfl,rfl⟩
 | 6,_=>exact⟨rfl,rfl,rfl⟩
 | 7,_=>exact⟨rfl,rfl,rfl⟩
 | 8,_=>exact⟨rfl,rfl,rfl⟩
 | 9,_=>exact⟨rfl,rfl,rfl⟩
 | 10,_=>exact⟨rfl,rfl,rfl⟩
 | 11,_=>exact⟨rfl,rfl,rfl⟩
 | 12,_=>exact⟨rfl,rfl,rfl⟩
 | 13,_=>exact⟨rfl,rfl,rfl⟩
 | 14,_=>exact⟨rfl,rfl,rfl⟩
 | 15,_=>exact⟨rfl,rfl,rfl⟩
 | 16,_=>exact⟨rfl,rfl,rfl⟩
 | 17,_=>exact⟨rfl,rfl,rfl⟩
 | n + 18,h=>omega
theorem AQ{k:Nat}(hb:Blk w g gB 258)(h:k < 18):w.cell? ⟨g,k * 3,none⟩=some (.int .i64 (frm k).1)/\w.cell? ⟨g,k * 3 + 1,none⟩=some (.int .u8 (frm k).2.1)/\w.cell? ⟨g,k * 3 + 2,none⟩=some (.int .u8 (frm k).2.2):=by
 obtain⟨a,b,c⟩:=rC k h;exact⟨hb.cell a,hb.cell b,hb.cell c⟩
theorem vO{x0 x1 x2:Value}{t:TypeId}(h:Blk w g [x0,x1,x2] t)(y0 y1 y2:Value):Blk (((w.setCell ⟨g,0,none⟩ y0).setCell ⟨g,1,none⟩ y1).setCell ⟨g,2,none⟩ y2) g [y0,y1,y2] t:=((h.setCell (i:=0) y0).setCell (i:=1) y1).setCell (i:=2) y2
theorem nB{x y z:Value}(h:Blk w g [x,y,z] 209):(loadVar 209 ⟨g,0,none⟩).run Tryz.prog w=.ok (.agg #[x,y,z]) w:=by
 have c0:=h.cell (i:=0) rfl;have c1:=h.cell (i:=1) rfl;have a:=h.cell (i:=2) rfl;go_simp
theorem ee{fn:Func}{p:Tmp}{ty:TypeId}(h:fn.results=#[.cell p ty])(b:tmps.getD p undef=.pointer (some ⟨g,0,none⟩))(c:(loadVar ty ⟨g,0,none⟩).run Tryz.prog w=.ok v w):(results fn tmps).run Tryz.prog w=.ok v w:=by
 have a:tmps[p]?.getD undef=.pointer (some ⟨g,0,none⟩):=by simpa using b
 simp[results,h,a,asAddr,c]
theorem j1{W:World}{r:Nat}(h:Below r w W)(x y z:Value):Below r w (((W.setCell ⟨r,0,none⟩ x).setCell ⟨r,1,none⟩ y).setCell ⟨r,2,none⟩ z) :=
 ((h.setCell (Nat.le_refl _) _).setCell (Nat.le_refl _) _).setCell (Nat.le_refl _) _
theorem lU{k:Int}:Calls Tryz.prog 148 #[.int .i64 k] w fun e w'=>e=.returned (fv (frm k))/\Below w.heap.size w w':=by
 go_enter Tryz.func148,Tryz.ntmps148;refine wp_seq ?_
 refine wp_region_lit ?_
 refine pO (some 2) (.pointer (some ⟨w.heap.size,0,none⟩)) rfl rfl (w1:=w.alloc (.cells #[.int .i64 0,.int .u8 0,.int .u8 0] 209)) (by kernel_rfl) ?_
 refine wpList_nil ?_
 refine wp_seq (x:=Code.region 1 _ false) ?_
 refine wp_region_lit ?_
 refine Cr (some 4) 177 #[] rfl rfl (by kernel_rfl) nZ ?_
 rintro e w1 ⟨rfl,b⟩;refine⟨_,rfl,?_⟩;refine pO (some 3) (.pointer (some ⟨w1.heap.size,0,none⟩)) rfl rfl (w1:=w1.alloc (.cells #[.int .i64 0,.int .u8 0,.int .u8 0,.int .i64 0,.int .u8 0,.int .u8 0,.int .i64 0,.int .u8 0,.int .u8 0,.int .i64 0,.int .u8 0,.int .u8 0,.int .i64 0,.int .u8 0,.int .u8 0,.int .i64 0,.int .u8 0,.int .u8 0,.int .i64 0,.int .u8 0,.int .u8 0,.int .i64 0,.int .u8 0,.int .u8 0,.int .i64 0,.int .u8 0,.int .u8 0,.int .i64 0,.int .u8 0,.int .u8 0,.int .i64 0,.int .u8 0,.int .u8 0,.int .i64 0,.int .u8 0,.int .u8 0,.int .i64 0,.int .u8 0,.int .u8 0,.int .i64 0,.int .u8 0,.int .u8 0,.int .i64 0,.int .u8 0,.int .u8 0,.int .i64 0,.int .u8 0,.int .u8 0,.int .i64 0,.int .u8 0,.int .u8 0,.int .i64 0,.int .u8 0,.int .u8 0] 258)) (by kernel_rfl) ?_
 refine uA rfl rfl (nN (k:=3) (q:=4) (c':=#[.int .i64 0,.int .u8 0,.int .u8 0,.int .i64 1,.int .u8 112,.int .u8 0,.int .i64 1,.int .u8 99,.int .u8 0,.int .i64 1,.int .u8 109,.int .u8 0,.int .i64 9,.int .u8 97,.int .u8 0,.int .i64 10,.int .u8 118,.int .u8 48,.int .i64 18,.int .u8 118,.int .u8 100,.int .i64 18,.int .u8 118,.int .u8 104,.int .i64 18,.int .u8 118,.int .u8 115,.int .i64 9,.int .u8 116,.int .u8 0,.int .i64 17,.int .u8 105,.int .u8 0,.int .i64 9,.int .u8 98,.int .u8 0,.int .i64 9,.int .u8 117,.int .u8 0,.int .i64 9,.int .u8 114,.int .u8 0,.int .i64 17,.int .u8 113,.int .u8 0,.int .i64 17,.int .u8 101,.int .u8 0,.int .i64 17,.int .u8 110,.int .u8 0,.int .i64 17,.int .u8 107,.int .u8 0]) (by kernel_rfl) (by kernel_rfl) (by kernel_rfl) (by kernel_rfl) rfl (by kernel_rfl)) ?_
 refine wpList_nil ?_
 rw[<- lM];have b0:=aC w [.int .i64 0,.int .u8 0,.int .u8 0] 209;have c0:=ae w (.cells #[.int .i64 0,.int .u8 0,.int .u8 0] 209);have b2:=aC w1 c 258;have d:=ae w1 (.cells c.toArray 258);have j:=aj (aj c0 b) d;have b1:=(b0.keep b).keep d;obtain⟨r,a⟩:∃ r,Hid (w.heap.size=r):=⟨_,rfl⟩
 generalize w1.alloc (.cells c.toArray 258)=W at *;generalize l:w1.heap.size=g at *;generalize Value.agg c.toArray=o;rw[a.out] at b1 ⊢;simp only[Act.put,List.setIfInBounds_toArray,List.set_cons_zero,List.set_cons_succ];have r0:=b1.cell (i:=0) rfl;have r1:=b1.cell (i:=1) rfl;have p:=b1.cell (i:=2) rfl;have f0:=b1.free 0;have f1:=b1.free 1;have f2:=b1.free 2;have H1:=aX b1;have f:=aX j;have m:=aX b2;clear b0 c0 b d l b1 j b2;refine(show Code.wp _ _ _ _ _ from ?_);by_cases s:k < 0
 ·have h:frm k=(0,0,0):=if_neg (by omega);rw[h];go_wp2;refine bodyPost_ret (ee rfl rfl (nB (vO H1.out _ _ _))) rfl ?_
  exact⟨rfl,j1 (by have:=f.out; rw[a.out] at this; exact this) _ _ _⟩
 ·by_cases t:k < 18
  ·obtain⟨n,rfl⟩:∃ n:Nat,k=n:=⟨k.toNat,by omega⟩
   obtain⟨q0,q1,u⟩:=AQ m.out (k:=n) (by omega);go_wp2;refine bodyPost_ret (ee rfl rfl (nB (vO H1.out _ _ _))) rfl ?_
   exact⟨rfl,j1 (by have:=f.out; rw[a.out] at this; exact this) _ _ _⟩
  ·have h:frm k=(0,0,0):=if_neg (by omega);rw[h];go_wp2;refine bodyPost_ret (ee rfl rfl (nB (vO H1.out _ _ _))) rfl ?_
   exact⟨rfl,j1 (by have:=f.out; rw[a.out] at this; exact this) _ _ _⟩
end
end Ky
end
section
namespace Ky
open Go.RowKit Go.Lib Pg
section
variable {w:World}{B:Nat}{v:Value}{l L:List Int}{x a n y:Int}{D:Nat->Prop}
attribute [local go_sem] Oper.semAt_some
def be:Nat->Int->List Int
 | 0,_=>[]
 | n + 1,x=>x / 256 ^ n % 256 :: be n x
theorem aN:∀ (n:Nat) (x:Int),(be n x).length=n
 | 0,_=>rfl
 | n + 1,x=>by rw[be,List.length_cons,aN n x]
theorem eQ:∀ (n:Nat) (x:Int),Oct (be n x)
 | 0,_=>fun _ h=>by simp[be] at h
 | n + 1,x=>fun y h=>by
  rw[be,List.mem_cons] at h;rcases h with rfl | h
  ·exact⟨Int.emod_nonneg _ (by decide),Int.emod_lt_of_pos _ (by decide)⟩
  ·exact eQ n x y h
theorem ij:∀ (n j:Nat) (x:Int),j < n->(be n x).take (j + 1)=(be n x).take j ++ [x / 256 ^ (n - 1 - j) % 256]
 | 0,j,x,h=>by omega
 | n + 1,0,x,h=>by simp[be]
 | n + 1,j + 1,x,h=>by
  have ih:=ij n j x (by omega);rw[be,List.take_succ_cons,List.take_succ_cons,ih,List.cons_append]
  have e:n + 1 - 1 - (j + 1)=n - 1 - j:=by omega
  rw[e]
theorem sy{p:Nat}(h:OB w (B <= ·) v l)(r:B<=w.heap.size)(t:l.length<=1000000000)(hx:0<=x/\x < 256)(s:w.cell? ⟨p,0,none⟩=some (.int .u8 x)) :
  ∃ v' w',(Builtin.append_ #[96,96] 96 #[v,.slice (some ⟨p,0,none⟩) 1 1]).run Tryz.prog w=.ok v' w'/\OB w' (B <= ·) v' (l ++ [x])/\Below B w w':=by
 have n:Oct (l ++ [x]):=fun y hy=>by
  rcases List.mem_append.1 hy with hy | hy
  ·exact h.oct y hy
  ·simp at hy; subst hy; exact hx
 have a:∀ j u,[Value.int .u8 x][j]? = some u->w.cell? ((⟨p,0,none⟩:Addr).add j)=some u:=fun j u d=>by
  match j with
  | 0=>simp at d; subst d; exact s
  | j + 1=>simp at d
 rcases h.ex with⟨rfl,rfl⟩ | ⟨b,c,rfl,hl2,f⟩
 ·obtain⟨g,w',i,f,hw⟩:=fi (w:=w) KB 96 ⟨p,0,none⟩ 1 1 [.int .u8 x] rfl a (by decide) (by decide) (by decide);exact⟨_,w',i,⟨n,.inr ⟨_,g,rfl,r,f⟩⟩,hw.mono r⟩
 ·obtain⟨o,g,w',i,k,m,hw⟩:=dz (w:=w) KB 96 f ⟨p,0,none⟩ 1 1 [.int .u8 x] rfl a (by simp[Value.oneCell']) (by omega) (by omega);refine⟨_,w',i,⟨n,.inr ⟨o,g,by simp,?_,by rw[List.map_append,List.length_append]; exact m⟩⟩,hw.below (fun x e=>by have q:x=b:=e; omega) r⟩;rcases k with rfl | rfl
  ·exact hl2
  ·exact r
theorem eI(h:OB w (B <= ·) v l)(s:B<=w.heap.size)(t:l.length<=1000000000)(hx:0<=x/\x < 256) :
  ∃ v' w',(Builtin.append_ #[96,96] 96 #[v,.slice (some ⟨w.heap.size,0,none⟩) 1 1]).run Tryz.prog (w.alloc (.cells #[.int .u8 x] 5))=.ok v' w'/\OB w' (B <= ·) v' (l ++ [x])/\Below B w w':=by
 have hb:=ae w (.cells #[.int .u8 x] 5);have p:=aC w [.int .u8 x] 5
 have n:Oct (l ++ [x]):=fun y hy=>by
  rcases List.mem_append.1 hy with hy | hy
  ·exact h.oct y hy
  ·simp at hy; subst hy; exact hx
 have a:∀ j u,[Value.int .u8 x][j]? = some u->(w.alloc (.cells #[.int .u8 x] 5)).cell? ((⟨w.heap.size,0,none⟩:Addr).add j)=some u:=fun j u o=>by
  match j with
  | 0=>exact p.cell (i:=0) o
  | j + 1=>simp at o
 rcases h.ex with⟨rfl,rfl⟩ | ⟨b,c,rfl,hl2,d⟩
 ·obtain⟨f,w',g,d,hw⟩:=fi (w:=w.alloc (.cells #[.int .u8 x] 5)) KB 96 ⟨w.heap.size,0,none⟩ 1 1 [.int .u8 x] rfl a (by decide) (by decide) (by decide);exact⟨_,w',g,⟨n,.inr ⟨_,f,rfl,Nat.le_trans s hb.size,d⟩⟩,(hb.mono s).trans (hw.mono (Nat.le_trans s hb.size))⟩
 ·obtain⟨q,f,w',g,k,m,hw⟩:=dz (w:=w.alloc (.cells #[.int .u8 x] 5)) KB 96 (d.keep hb) ⟨w.heap.size,0,none⟩ 1 1 [.int .u8 x] rfl a (by simp[Value.oneCell']) (by omega) (by omega);refine⟨_,w',g,⟨n,.inr ⟨q,f,by simp,?_,by rw[List.map_append,List.length_append]; exact m⟩⟩,(hb.mono s).trans (hw.below (fun x e=>by have r:x=b:=e; omega) (Nat.le_trans s hb.size))⟩;rcases k with rfl | rfl
  ·exact hl2
  ·exact Nat.le_trans s hb.size
theorem pow8(h:Nat):(256:Int) ^ h=2 ^ (8 * h):=by rw[Int.pow_mul]; rfl
theorem OB.sh(h:OB w D v l):∃ ao c,v=.slice ao l.length c:=by
 rcases h.ex with⟨rfl,rfl⟩ | ⟨b,c,rfl,_⟩
 ·exact⟨none,0,rfl⟩
 ·exact⟨_,c,rfl⟩
theorem de(F:OB w (B <= ·) v L)(G:B<=w.heap.size)(hL:L.length<=100000) :
  Calls Tryz.prog 150 #[v,.int .u64 x] w fun e w'=>∃ v',e=.returned v'/\OB w' (B <= ·) v' (L ++ be 8 x)/\Below B w w':=by
 have n:=aX F;have f:=aX G;clear F G;go_enter Tryz.func150,Tryz.ntmps150;go_wp2_with fail;go_loopw [0,6] (fun o g wr=>∃ j:Nat,j<=8/\g=.int .i64 j/\Hid (OB wr (B <= ·) o (L ++ (be 8 x).take j))/\Hid (Below B w wr)) (fun _ g _=>8 - (intOf g).toNat)
 case atStart=>exact⟨0,Nat.zero_le _,rfl,by rw[List.take_zero,List.append_nil]; exact n,Below.refl _ _⟩
 case round =>
  obtain⟨j,z,rfl,a,b⟩:=hrel;by_cases i:j < 8
  ·obtain⟨h,A⟩:∃ h:Nat,(7:Int) - j=h:=⟨7 - j,by omega⟩
   have c:8 - 1 - j=h:=by omega
   have p:h < 8:=by omega
   have r:Hid ((be 8 x).take (j + 1)=(be 8 x).take j ++ [x / 2 ^ (8 * h) % 256]):=by
    show _=_
    rw[ij 8 j x i,c,pow8]
   have hle:(L ++ (be 8 x).take j).length<=1000000000:=by rw[List.length_append,List.length_take,aN]; omega
   obtain⟨v1,C,d,k,hS⟩:=eI (x:=x / 2 ^ (8 * h) % 256) a.out (Nat.le_trans f.out b.out.size) hle ⟨Int.emod_nonneg _ (by decide),Int.emod_lt_of_pos _ (by decide)⟩;obtain⟨D,E,rfl⟩:=OB.sh a.out;obtain⟨a1,c1,rfl⟩:=OB.sh k;generalize F:L ++ (be 8 x).take j=M at *;generalize s:M.length=q at *;have t:=aX k;have u:=aX hS;have y:=aX d;have l:=aX F;clear k hS d hle F s c;have d:=y.out;go_wp2_with (at_builtin; refine Lib.wpList_append_run _ rfl _ _ _ _ rfl _ _ rfl rfl _ _ d ?_; clear d);go_roundw
   case rel =>
    refine⟨j + 1,by omega,by go_num,?_,b.out.trans u.out⟩;rw[r.out,<- List.append_assoc,l.out];have m:=t.out;rw[show (M ++ [x / 2 ^ (8 * h) % 256]).length=M.length + 1 by simp] at m;exact m
   case measure=>simp[intOf]; omega
  ·obtain rfl:j=8:=by omega
   rw[List.take_of_length_le (by rw[aN]; omega)] at a;go_wp2;go_ret;exact⟨_,rfl,a.out,b.out⟩
theorem not64(n:Nat)(h:n < 2 ^ 64):(2 ^ 64 - 1) ^^^ n=2 ^ 64 - (n + 1):=by
 apply Nat.eq_of_testBit_eq;intro i;rw[Nat.testBit_xor,Nat.testBit_two_pow_sub_one,Nat.testBit_two_pow_sub_succ h];by_cases hi:i < 64
 ·simp[hi]
 ·have:n.testBit i=false:=Nat.testBit_lt_two_pow (Nat.lt_of_lt_of_le h (Nat.pow_le_pow_right (by decide) (by omega)));simp[hi,this]
theorem not64i(b:0<=a)(c:a < 18446744073709551616):bits .xor .u64 IntKind.u64.max a=18446744073709551615 - a:=by
 obtain⟨n,rfl⟩:=Int.eq_ofNat_of_zero_le b
 have e:IntKind.u64.max=((18446744073709551615:Nat):Int):=by kernel_rfl
 rw[e,bits_xor_u64_nat _ _ (by omega) (by omega)];have:=not64 n (by omega);rw[show (18446744073709551615:Nat)=2 ^ 64 - 1 by decide,this];omega
theorem gA{k:Int}(b:0<=a)(c:a < 18446744073709551616):Calls Tryz.prog 135 #[.int .i64 k,.int .u64 a] w fun e w'=>e=.returned (.int .u64 (if k=10 then 18446744073709551615 - a else a))/\w'=w:=by
 by_cases h:k=10
 ·subst h;rw[if_pos rfl];go_enter Tryz.func135,Tryz.ntmps135;go_wp2;go_ret;refine⟨?_,rfl⟩
  show Ending.returned (.int .u64 (bits .xor .u64 IntKind.u64.max a))=_
  rw[not64i b c]
 ·rw[if_neg h];go_enter Tryz.func135,Tryz.ntmps135;go_wp2;go_ret;exact⟨rfl,rfl⟩
theorem fm:Calls Tryz.prog 134 #[.agg #[.int .i64 n,.int .u8 x,.int .u8 y]] w fun e w'=>e=.returned (.bool (decide (8 < n)))/\Below w.heap.size w w':=by
 go_enter Tryz.func134,Tryz.ntmps134;go_wp2;go_ret;exact⟨rfl,ae _ _⟩
theorem fV:Calls Tryz.prog 137 #[.agg #[.int .i64 n,.int .u8 x,.int .u8 y]] w fun e w'=>e=.returned (.bool (decide (16 < n)))/\Below w.heap.size w w':=by
 go_enter Tryz.func137,Tryz.ntmps137;go_wp2;go_ret;exact⟨rfl,ae _ _⟩
end
end Ky
end
section
namespace Ky
open Go.RowKit Go.Lib Pg
section
variable {w w':World}{a:Act}{o:Oper}{x n g:Nat}{v:Value}
attribute [local go_sem] Oper.semAt_some
theorem bV(w:World):Below w.heap.size w w.drew:=⟨rfl,rfl,rfl,Nat.le_refl _,fun _ _=>rfl⟩
theorem vC(n:Nat)(hn:n<=1000):∃ w',(Instr.makeSlice 96 (.int .i64 0) (.int .i64 n)).run Tryz.prog w=.ok (.slice (some ⟨w.heap.size,0,none⟩) 0 n) w'/\OB w' (w.heap.size <= ·) (.slice (some ⟨w.heap.size,0,none⟩) 0 n) []/\Below w.heap.size w w':=by
 obtain⟨i,hi,b,hs,c⟩:=info_parts KB.inf;have a:=run_make (P:=Tryz.prog) w 96 5 i (.int .u8 0) KB.und hi b .i64 .i64 0 (n:Int) (by omega) (by omega) (by rw[c]; omega) (by omega);refine⟨_,by simpa using a,⟨fun _ h=>by simp at h,.inr ⟨_,n,rfl,Nat.le_refl _,⟨(madeCells (Value.int .u8 0).cells (n * i.size)).toList,?_,rfl,?_,Nat.zero_le _,by simp only[maxLen]; omega⟩⟩⟩,ae w _⟩
 ·exact⟨by simp only[List.map_nil,List.nil_append,Array.toArray_toList]; exact heap_alloc_new _ _⟩
 ·simp[size_madeCells,hs]
theorem u6(d:o.op=.makeSlice 96 (.const (.int .i64 0)) (.tmp x))(hx:a.eval (.tmp x)=.int .i64 n)(b:(Instr.makeSlice 96 (.int .i64 0) (.int .i64 n)).run Tryz.prog w=.ok v w'):(execOp a.eval o).run Tryz.prog w=.ok (.value v) w':=by
 have c:a.eval (.const (.int .i64 0))=.int .i64 0:=rfl;simp only[execOp,d,hx,c];simp[b,Result.andThen]
theorem xP{m:Int}(b:o.op=.buildSlice 96 1 #[(0,.tmp x)])(hx:a.eval (.tmp x)=.int .u8 m):(execOp a.eval o).run Tryz.prog w=.ok (.value (.slice (some ⟨w.heap.size,0,none⟩) 1 1)) (w.alloc (.cells #[.int .u8 m] 5)):=by
 have c:a.tmps[x]?.getD undef=.int .u8 m:=by simpa[Act.eval] using hx
 simp only[execOp,b];go_simp
theorem il{y:Nat}{T ty:TypeId}{u r:Value}(b:o.type=ty)(d:o.op=.call { callee:=.builtin .append,args:=#[.tmp x,.tmp y],argTypes:=#[T,T] })(hx:a.eval (.tmp x)=u)(hy:a.eval (.tmp y)=v)(c:(Builtin.append_ #[T,T] ty #[u,v]).run Tryz.prog w=.ok r w') :
  (execOp a.eval o).run Tryz.prog w=.ok (.value r) w':=by
 subst b;unfold execOp;simp only[d,resolve,invoke,builtin,Sem.run_bind,Sem.run_pure,Result.andThen_ok,List.map_toArray,List.map_cons,List.map_nil,hx,hy,c]
theorem gO{o:Nat}{v:Int}(c:w.cell? ⟨g,o,none⟩=some (.int .i64 v)):(loadVar 3 ⟨g,o,none⟩).run Tryz.prog w=.ok (.int .i64 v) w:=by go_simp
theorem ld_u8{o:Nat}{v:Int}(c:w.cell? ⟨g,o,none⟩=some (.int .u8 v)):(loadVar 5 ⟨g,o,none⟩).run Tryz.prog w=.ok (.int .u8 v) w:=by go_simp
def mkb(f:Int × Int × Int)(a:Int):List Int:=[f.2.1] ++ (if 8 < f.1 then be 8 a else []) ++ (if f.2.2=0 then [] else [f.2.2])
theorem nU{m0 m1 a:Int}(hn:n<=1000)(h0:0<=m0/\m0 < 256)(h1:0<=m1/\m1 < 256) :
  Calls Tryz.prog 149 #[.agg #[.int .i64 n,.int .u8 m0,.int .u8 m1],.int .u64 a] w fun e w'=>∃ v,e=.returned v/\OB w' (w.heap.size <= ·) v (mkb (n,m0,m1) a)/\Below w.heap.size w w':=by
 have H0:=aX h0;have H1:=aX h1;clear h0 h1;go_enter Tryz.func149,Tryz.ntmps149;go_wp2_with fail;have kq:=aC w [.int .i64 n,.int .u8 m0,.int .u8 m1] 209;have bq:=ae w (.cells #[.int .i64 n,.int .u8 m0,.int .u8 m1] 209)
 have I:(w.alloc (.cells #[.int .i64 n,.int .u8 m0,.int .u8 m1] 209)).heap.size=w.heap.size + 1:=by simp
 generalize w.alloc (.cells #[.int .i64 n,.int .u8 m0,.int .u8 m1] 209)=X at *;generalize hq:w.heap.size=q at *;have hS:=kq.drew;refine bT (S:=fun w'=>Blk w' q [.int .i64 n,.int .u8 m0,.int .u8 m1] 209) (by kernel_rfl) hS ?_
 refine ai 0 (some 6) (.pointer (some ⟨q,0,none⟩)) (by kernel_rfl) (fun _ _=>by kernel_rfl) (fun _ _ _ h=>h) hS ?_
 refine aO 1 (some 7) (.int .i64 n) 3 6 q 0 (by kernel_rfl) (by kernel_rfl) (by kernel_rfl) (fun w' h=>gO (h.cell (i:=0) rfl)) (fun _ _ _ h=>h) hS ?_
 refine ai 3 (some 9) (.pointer (some ⟨q,1,none⟩)) (by kernel_rfl) (fun _ _=>by kernel_rfl) (fun _ _ _ h=>h) hS ?_
 refine ai 4 (some 10) (.pointer (some ⟨q,1,none⟩)) (by kernel_rfl) (fun _ _=>by kernel_rfl) (fun _ _ _ h=>h) hS ?_
 refine aO 5 (some 11) (.int .u8 m0) 5 10 q 1 (by kernel_rfl) (by kernel_rfl) (by kernel_rfl) (fun w' h=>ld_u8 (h.cell (i:=1) rfl)) (fun _ _ _ h=>h) hS ?_
 have Xd:X.drew.heap.size=q + 1:=I;obtain⟨Y,J,O3,b3⟩:=vC (w:=X.drew) n hn;have Z:=ae Y (.cells #[.int .u8 m0] 5);obtain⟨v5,w5,K,O5,B5⟩:=sy (B:=q + 1) (p:=Y.heap.size) (x:=m0) ((O3.mono (D':=(q + 1 <= ·)) (fun b _ h=>by omega)).keep Z) (by have:=b3.size; have:=Z.size; omega) (by simp) H0.out ((aC Y [.int .u8 m0] 5).cell (i:=0) rfl);obtain⟨a5,c5,rfl⟩:=OB.sh O5;have k3:=hS.keep b3;have k4:=k3.keep Z;have k5:=k4.kM B5 (by omega)
 have d5:Below (q + 1) X w5:=((bV X).mono (Nat.le_of_eq I.symm)).trans (((aj b3 Z).mono (Nat.le_of_eq Xd.symm)).trans B5);have c:=ae X.drew (.cells #[.int .u8 m0] 5);obtain⟨w7,L,O7,b7⟩:=vC (w:=X.drew.alloc (.cells #[.int .u8 m0] 5)) n hn;obtain⟨v8,w8,M,O8,B8⟩:=sy (B:=q + 1) (p:=X.drew.heap.size) (x:=m0) (O7.mono (D':=(q + 1 <= ·)) (fun b _ h=>by have:=c.size; omega)) (by have:=c.size; have:=b7.size; omega) (by simp) H0.out (((aC X.drew [.int .u8 m0] 5).keep b7).cell (i:=0) rfl);obtain⟨a8,c8,rfl⟩:=OB.sh O8;have k6:=hS.keep c;have k7:=k6.keep b7;have k8:=k7.kM B8 (by omega)
 have d8:Below (q + 1) X w8:=((bV X).mono (Nat.le_of_eq I.symm)).trans (((aj c b7).mono (Nat.le_of_eq Xd.symm)).trans B8);refine aK [2,6] (by kernel_rfl) (by simp) (bH 2 (some 8) (.slice (some ⟨X.drew.heap.size,0,none⟩) 0 n) Y (by kernel_rfl) (u6 (x:=7) (by kernel_rfl) (by kernel_rfl) J) k3 ?_ (bH 6 (some 12) (.slice (some ⟨X.drew.heap.size,0,none⟩) 1 1) (X.drew.alloc (.cells #[.int .u8 m0] 5)) (by kernel_rfl) (xP (x:=11) (by kernel_rfl) (by kernel_rfl)) k6 ?_ aW))
 ·refine aK [6] (by kernel_rfl) (by simp) (bH 6 (some 12) (.slice (some ⟨Y.heap.size,0,none⟩) 1 1) (Y.alloc (.cells #[.int .u8 m0] 5)) (by kernel_rfl) (xP (x:=11) (by kernel_rfl) (by kernel_rfl)) k4 ?_ aW);refine aK [7] (by kernel_rfl) (by simp) (bH 7 (some 13) (.slice a5 ([] ++ [m0]).length c5) w5 (by kernel_rfl) (il (x:=8) (y:=12) rfl (by kernel_rfl) (by kernel_rfl) (by kernel_rfl) K) k5 ?_ aW);refine ai 8 (some 5) (.slice a5 ([] ++ [m0]).length c5) (by kernel_rfl) (fun _ _=>by kernel_rfl) (fun _ _ _ h=>h) k5 ?_
  refine bF (by kernel_rfl) ?_
  simp only[Act.put,List.setIfInBounds_toArray,List.set_cons_zero,List.set_cons_succ];have G:=aX O5;have t:=aX k5;have H:=aX d5
  have f:q + 1<=w5.heap.size:=by have:=d5.size; omega
  have o:=aX hq;have m:=aX bq;have HXS:=aX I;clear hS Xd J O3 b3 Z K O5 B5 k3 k4 k5 d5 c L O7 b7 M O8 B8 k6 k7 k8 d8 kq bq hq I;have q0:=t.out.cell (i:=0) rfl;have q1:=t.out.cell (i:=1) rfl;have q2:=t.out.cell (i:=2) rfl;have r:=fm (w:=w5) (n:=n) (x:=m0) (y:=m1);by_cases h8:8 < n
  ·by_cases hm:m1=0
   ·have u:Hid (mkb ((n:Int),m0,m1) a=([] ++ [m0]) ++ be 8 a):=by have k:((8:Int) < n):=(by omega); show _=_; simp[mkb,k,hm]
    have h8:(8:Int) < n:=by omega
    rw[decide_eq_true h8] at r;subst hm;go_wp2_with first
     | (go_at_call 134; refine r.mono ?_; rintro e z ⟨rfl,c⟩; have g:=t.out.keep c; have N:=g.cell (i:=0) rfl; have O:=g.cell (i:=1) rfl; have P:=g.cell (i:=2) rfl; have A:=H.out.trans (c.mono f); have C:=G.out.keep c; have s:q + 1<=z.heap.size:=Nat.le_trans f c.size)
     | (go_at_call 150; refine(de (x:=a) C s (by simp)).mono ?_; rintro e Q ⟨v9,rfl,F,D⟩; obtain⟨a9,c9,rfl⟩:=OB.sh F; have z9:=g.kM D (Nat.lt_succ_self q); have r1:=z9.cell (i:=1) rfl; have r2:=z9.cell (i:=2) rfl; have R:=A.trans D; have s9:q + 1<=Q.heap.size:=Nat.le_trans s D.size)
    go_ret;exact⟨_,rfl,by rw[u.out]; exact F.mono (fun b _ h=>by have:=o.out; omega),by have E:=R; rw[o.out]; exact m.out.trans (E.mono (Nat.le_succ q))⟩
   ·have u:Hid (mkb ((n:Int),m0,m1) a=([] ++ [m0]) ++ be 8 a ++ [m1]):=by have k:((8:Int) < n):=(by omega); show _=_; simp[mkb,k,hm]
    have h8:(8:Int) < n:=by omega
    rw[decide_eq_true h8] at r
    have T:m1≠0:=hm;go_wp2_with first
     | (go_at_call 134; refine r.mono ?_; rintro e z ⟨rfl,c⟩; have g:=t.out.keep c; have N:=g.cell (i:=0) rfl; have O:=g.cell (i:=1) rfl; have P:=g.cell (i:=2) rfl; have A:=H.out.trans (c.mono f); have C:=G.out.keep c; have s:q + 1<=z.heap.size:=Nat.le_trans f c.size)
     | (go_at_call 150; refine(de (x:=a) C s (by simp)).mono ?_; rintro e Q ⟨v9,rfl,F,D⟩; obtain⟨a9,c9,rfl⟩:=OB.sh F; have z9:=g.kM D (Nat.lt_succ_self q); have r1:=z9.cell (i:=1) rfl; have r2:=z9.cell (i:=2) rfl; have R:=A.trans D; have s9:q + 1<=Q.heap.size:=Nat.le_trans s D.size; obtain⟨v10,U,j,d,l⟩:=eI (x:=m1) F s9 (by simp[aN]) H1.out; obtain⟨V,W,rfl⟩:=OB.sh d; replace d:=aX d; replace l:=aX l)
     | (at_builtin; refine Lib.wpList_append_run _ rfl _ _ _ _ rfl _ _ rfl rfl _ _ j ?_; clear j)
    go_ret;exact⟨_,rfl,by rw[u.out]; exact d.out.mono (fun b _ h=>by have:=o.out; omega),by have E:=R.trans l.out; rw[o.out]; exact m.out.trans (E.mono (Nat.le_succ q))⟩
  ·by_cases hm:m1=0
   ·have u:Hid (mkb ((n:Int),m0,m1) a=([] ++ [m0])):=by have k:¬ ((8:Int) < n):=(by omega); show _=_; simp[mkb,k,hm]
    have h8:¬ ((8:Int) < n):=by omega
    rw[decide_eq_false h8] at r;subst hm;go_wp2_with first
     | (go_at_call 134; refine r.mono ?_; rintro e z ⟨rfl,c⟩; have g:=t.out.keep c; have N:=g.cell (i:=0) rfl; have O:=g.cell (i:=1) rfl; have P:=g.cell (i:=2) rfl; have A:=H.out.trans (c.mono f); have C:=G.out.keep c; have s:q + 1<=z.heap.size:=Nat.le_trans f c.size)
    go_ret;exact⟨_,rfl,by rw[u.out]; exact C.mono (fun b _ h=>by have:=o.out; omega),by have E:=A; rw[o.out]; exact m.out.trans (E.mono (Nat.le_succ q))⟩
   ·have u:Hid (mkb ((n:Int),m0,m1) a=([] ++ [m0]) ++ [m1]):=by have k:¬ ((8:Int) < n):=(by omega); show _=_; simp[mkb,k,hm]
    have h8:¬ ((8:Int) < n):=by omega
    rw[decide_eq_false h8] at r
    have T:m1≠0:=hm;go_wp2_with first
     | (go_at_call 134; refine r.mono ?_; rintro e z ⟨rfl,c⟩; have g:=t.out.keep c; have N:=g.cell (i:=0) rfl; have O:=g.cell (i:=1) rfl; have P:=g.cell (i:=2) rfl; have A:=H.out.trans (c.mono f); have C:=G.out.keep c; have s:q + 1<=z.heap.size:=Nat.le_trans f c.size; obtain⟨v10,U,j,d,l⟩:=eI (x:=m1) C s (by simp) H1.out; obtain⟨V,W,rfl⟩:=OB.sh d; replace d:=aX d; replace l:=aX l)
     | (at_builtin; refine Lib.wpList_append_run _ rfl _ _ _ _ rfl _ _ rfl rfl _ _ j ?_; clear j)
    go_ret;exact⟨_,rfl,by rw[u.out]; exact d.out.mono (fun b _ h=>by have:=o.out; omega),by have E:=A.trans l.out; rw[o.out]; exact m.out.trans (E.mono (Nat.le_succ q))⟩
 ·refine aK [2] (by kernel_rfl) (by simp) (bH 2 (some 8) (.slice (some ⟨(X.drew.alloc (.cells #[.int .u8 m0] 5)).heap.size,0,none⟩) 0 n) w7 (by kernel_rfl) (u6 (x:=7) (by kernel_rfl) (by kernel_rfl) L) k7 ?_ aW);refine aK [7] (by kernel_rfl) (by simp) (bH 7 (some 13) (.slice a8 ([] ++ [m0]).length c8) w8 (by kernel_rfl) (il (x:=8) (y:=12) rfl (by kernel_rfl) (by kernel_rfl) (by kernel_rfl) M) k8 ?_ aW);refine ai 8 (some 5) (.slice a8 ([] ++ [m0]).length c8) (by kernel_rfl) (fun _ _=>by kernel_rfl) (fun _ _ _ h=>h) k8 ?_
  refine bF (by kernel_rfl) ?_
  simp only[Act.put,List.setIfInBounds_toArray,List.set_cons_zero,List.set_cons_succ];have G:=aX O8;have t:=aX k8;have H:=aX d8
  have f:q + 1<=w8.heap.size:=by have:=d8.size; omega
  have o:=aX hq;have m:=aX bq;have HXS:=aX I;clear hS Xd J O3 b3 Z K O5 B5 k3 k4 k5 d5 c L O7 b7 M O8 B8 k6 k7 k8 d8 kq bq hq I;have q0:=t.out.cell (i:=0) rfl;have q1:=t.out.cell (i:=1) rfl;have q2:=t.out.cell (i:=2) rfl;have r:=fm (w:=w8) (n:=n) (x:=m0) (y:=m1);by_cases h8:8 < n
  ·by_cases hm:m1=0
   ·have u:Hid (mkb ((n:Int),m0,m1) a=([] ++ [m0]) ++ be 8 a):=by have k:((8:Int) < n):=(by omega); show _=_; simp[mkb,k,hm]
    have h8:(8:Int) < n:=by omega
    rw[decide_eq_true h8] at r;subst hm;go_wp2_with first
     | (go_at_call 134; refine r.mono ?_; rintro e z ⟨rfl,c⟩; have g:=t.out.keep c; have N:=g.cell (i:=0) rfl; have O:=g.cell (i:=1) rfl; have P:=g.cell (i:=2) rfl; have A:=H.out.trans (c.mono f); have C:=G.out.keep c; have s:q + 1<=z.heap.size:=Nat.le_trans f c.size)
     | (go_at_call 150; refine(de (x:=a) C s (by simp)).mono ?_; rintro e Q ⟨v9,rfl,F,D⟩; obtain⟨a9,c9,rfl⟩:=OB.sh F; have z9:=g.kM D (Nat.lt_succ_self q); have r1:=z9.cell (i:=1) rfl; have r2:=z9.cell (i:=2) rfl; have R:=A.trans D; have s9:q + 1<=Q.heap.size:=Nat.le_trans s D.size)
    go_ret;exact⟨_,rfl,by rw[u.out]; exact F.mono (fun b _ h=>by have:=o.out; omega),by have E:=R; rw[o.out]; exact m.out.trans (E.mono (Nat.le_succ q))⟩
   ·have u:Hid (mkb ((n:Int),m0,m1) a=([] ++ [m0]) ++ be 8 a ++ [m1]):=by have k:((8:Int) < n):=(by omega); show _=_; simp[mkb,k,hm]
    have h8:(8:Int) < n:=by omega
    rw[decide_eq_true h8] at r
    have T:m1≠0:=hm;go_wp2_with first
     | (go_at_call 134; refine r.mono ?_; rintro e z ⟨rfl,c⟩; have g:=t.out.keep c; have N:=g.cell (i:=0) rfl; have O:=g.cell (i:=1) rfl; have P:=g.cell (i:=2) rfl; have A:=H.out.trans (c.mono f); have C:=G.out.keep c; have s:q + 1<=z.heap.size:=Nat.le_trans f c.size)
     | (go_at_call 150; refine(de (x:=a) C s (by simp)).mono ?_; rintro e Q ⟨v9,rfl,F,D⟩; obtain⟨a9,c9,rfl⟩:=OB.sh F; have z9:=g.kM D (Nat.lt_succ_self q); have r1:=z9.cell (i:=1) rfl; have r2:=z9.cell (i:=2) rfl; have R:=A.trans D; have s9:q + 1<=Q.heap.size:=Nat.le_trans s D.size; obtain⟨v10,U,j,d,l⟩:=eI (x:=m1) F s9 (by simp[aN]) H1.out; obtain⟨V,W,rfl⟩:=OB.sh d; replace d:=aX d; replace l:=aX l)
     | (at_builtin; refine Lib.wpList_append_run _ rfl _ _ _ _ rfl _ _ rfl rfl _ _ j ?_; clear j)
    go_ret;exact⟨_,rfl,by rw[u.out]; exact d.out.mono (fun b _ h=>by have:=o.out; omega),by have E:=R.trans l.out; rw[o.out]; exact m.out.trans (E.mono (Nat.le_succ q))⟩
  ·by_cases hm:m1=0
   ·have u:Hid (mkb ((n:Int),m0,m1) a=([] ++ [m0])):=by have k:¬ ((8:Int) < n):=(by omega); show _=_; simp[mkb,k,hm]
    have h8:¬ ((8:Int) < n):=by omega
    rw[decide_eq_false h8] at r;subst hm;go_wp2_with first
     | (go_at_call 134; refine r.mono ?_; rintro e z ⟨rfl,c⟩; have g:=t.out.keep c; have N:=g.cell (i:=0) rfl; have O:=g.cell (i:=1) rfl; have P:=g.cell (i:=2) rfl; have A:=H.out.trans (c.mono f); have C:=G.out.keep c; have s:q + 1<=z.heap.size:=Nat.le_trans f c.size)
    go_ret;exact⟨_,rfl,by rw[u.out]; exact C.mono (fun b _ h=>by have:=o.out; omega),by have E:=A; rw[o.out]; exact m.out.trans (E.mono (Nat.le_succ q))⟩
   ·have u:Hid (mkb ((n:Int),m0,m1) a=([] ++ [m0]) ++ [m1]):=by have k:¬ ((8:Int) < n):=(by omega); show _=_; simp[mkb,k,hm]
    have h8:¬ ((8:Int) < n):=by omega
    rw[decide_eq_false h8] at r
    have T:m1≠0:=hm;go_wp2_with first
     | (go_at_call 134; refine r.mono ?_; rintro e z ⟨rfl,c⟩; have g:=t.out.keep c; have N:=g.cell (i:=0) rfl; have O:=g.cell (i:=1) rfl; have P:=g.cell (i:=2) rfl; have A:=H.out.trans (c.mono f); have C:=G.out.keep c; have s:q + 1<=z.heap.size:=Nat.le_trans f c.size; obtain⟨v10,U,j,d,l⟩:=eI (x:=m1) C s (by simp) H1.out; obtain⟨V,W,rfl⟩:=OB.sh d; replace d:=aX d; replace l:=aX l)
     | (at_builtin; refine Lib.wpList_append_run _ rfl _ _ _ _ rfl _ _ rfl rfl _ _ j ?_; clear j)
    go_ret;exact⟨_,rfl,by rw[u.out]; exact d.out.mono (fun b _ h=>by have:=o.out; omega),by have E:=A.trans l.out; rw[o.out]; exact m.out.trans (E.mono (Nat.le_succ q))⟩
end
end Ky
end
section
namespace Ky
open Go.RowKit Go.Lib Pg
attribute [local go_sem] Oper.semAt_some
theorem pS (a b c d:Int) (w:World):(Op.equalIn 9999 182 (.agg #[.int .u8 a,.int .u8 b]) (.agg #[.int .u8 c,.int .u8 d])).run Tryz.prog w=.ok (a == c && b == d) w:=by
 rw[show (9999:Nat)=9998 + 1 from rfl,Op.equalIn];simp only[Sem.run_bind,run_underlying Tryz.underlying182,Result.andThen_ok];simp only[Std.Legacy.Range.forIn_eq_forIn_range',Std.Legacy.Range.size,Nat.sub_zero,Nat.add_sub_cancel,Nat.div_one,List.range'_succ,List.range'_zero,List.forIn_cons,List.forIn_nil];go_simp;by_cases e:a=c<;>by_cases f:b=d<;>simp[e,f]
attribute [local go_sem] pS
theorem om (k:Int):∃ (n:Nat) (m0 m1:Int),frm k=((n:Int),m0,m1)/\n<=18/\(0<=m0/\m0 < 256)/\(0<=m1/\m1 < 256)/\(n=0->m0=0/\m1=0):=by
 by_cases h:0<=k/\k < 18
 ·obtain⟨j,rfl⟩:=Int.eq_ofNat_of_zero_le h.1
  have a:j < 18:=by omega
  match j,a with
  | 0,_=>exact⟨0,0,0,rfl,by decide,by decide,by decide,fun _=>⟨rfl,rfl⟩⟩
  | 1,_=>exact⟨1,112,0,rfl,by decide,by decide,by decide,fun h=>by omega⟩
  | 2,_=>exact⟨1,99,0,rfl,by decide,by decide,by decide,fun h=>by omega⟩
  | 3,_=>exact⟨1,109,0,rfl,by decide,by decide,by decide,fun h=>by omega⟩
  | 4,_=>exact⟨9,97,0,rfl,by decide,by decide,by decide,fun h=>by omega⟩
  | 5,_=>exact⟨10,118,48,rfl,by decide,by decide,by decide,fun h=>by omega⟩
  | 6,_=>exact⟨18,118,100,rfl,by decide,by decide,by decide,fun h=>by omega⟩
  | 7,_=>exact⟨18,118,104,rfl,by decide,by decide,by decide,fun h=>by omega⟩
  | 8,_=>exact⟨18,118,115,rfl,by decide,by decide,by decide,fun h=>by omega⟩
  | 9,_=>exact⟨9,116,0,rfl,by decide,by decide,by decide,fun h=>by omega⟩
  | 10,_=>exact⟨17,105,0,rfl,by decide,by decide,by decide,fun h=>by omega⟩
  | 11,_=>exact⟨9,98,0,rfl,by decide,by decide,by decide,fun h=>by omega⟩
  | 12,_=>exact⟨9,117,0,rfl,by decide,by decide,by decide,fun h=>by omega⟩
  | 13,_=>exact⟨9,114,0,rfl,by decide,by decide,by decide,fun h=>by omega⟩
  | 14,_=>exact⟨17,113,0,rfl,by decide,by decide,by decide,fun h=>by omega⟩
  | 15,_=>exact⟨17,101,0,rfl,by decide,by decide,by decide,fun h=>by omega⟩
  | 16,_=>exact⟨17,110,0,rfl,by decide,by decide,by decide,fun h=>by omega⟩
  | 17,_=>exact⟨17,107,0,rfl,by decide,by decide,by decide,fun h=>by omega⟩
  | j + 18,h=>omega
 ·exact⟨0,0,0,if_neg h,by decide,by decide,by decide,fun _=>⟨rfl,rfl⟩⟩
def tn (k a:Int):Int:=if k=10 then 18446744073709551615 - a else a
def mkE (k a b:Int):Bool:=decide ((frm k).1=0) || (decide (a≠0) && decide ((frm k).1<=8)) || (decide (b≠0) && decide ((frm k).1<=16))
def mk (k a b:Int):List Int:=mkb (frm k) (tn k a) ++ (if 16 < (frm k).1 then be 8 b else [])
theorem ly (f:Int × Int × Int) (a:Int):(mkb f a).length<=10:=by
 unfold mkb;split<;>split<;>simp[aN]
end Ky
end
section
namespace Ky
open Go.RowKit Go.Lib Pg
attribute [local go_sem] Oper.semAt_some pS
theorem oO (w:World) (D:Nat->Prop):OB w D (.slice none 0 0) []:=⟨fun _ h=>by simp at h,.inl ⟨rfl,rfl⟩⟩
theorem wM {w:World} {k a:Int} (G:0<=a) (F:a < 18446744073709551616):Calls Tryz.prog 120 #[.int .i64 k,.int .u64 a] w fun e w'=>∃ v,e=.returned (.tuple #[v,.int .i64 (if 16 < (frm k).1 then 0 else 70)])/\OB w' (w.heap.size <= ·) v (if 16 < (frm k).1 then mkb (frm k) (tn k a) else [])/\Below w.heap.size w w':=by
 obtain⟨n,m0,m1,hf,hn,f,g,t⟩:=om k;have j:=fun w=>lU (w:=w) (k:=k)
 rw[hf] at j;simp only[fv] at j;rw[hf];simp only;have p:=aX (And.intro G F);have m:=aX f;have o:=aX g;have u:=aX hn;have l:=fun w=>fV (w:=w) (n:=n) (x:=m0) (y:=m1)
 clear hf f g t G F;by_cases c:16 < (n:Int)
 ·rw[decide_eq_true c] at l;rw[if_pos c,if_pos c];go_enter Tryz.func120,Tryz.ntmps120;go_wp2_with first
   | (go_at_call 148; refine(j _).mono ?_; rintro e i ⟨rfl,b1⟩)
   | (go_at_call 137; refine(l _).mono ?_; rintro e z ⟨rfl,b2⟩)
  have A:=(aC i [.int .i64 (n:Int),.int .u8 m0,.int .u8 m1] 209).keep b2;have q:=aj b1 (aj (ae i (.cells #[.int .i64 (n:Int),.int .u8 m0,.int .u8 m1] 209)) b2);have hS:=A.drew;refine bT (S:=fun w'=>Blk w' i.heap.size [.int .i64 (n:Int),.int .u8 m0,.int .u8 m1] 209) (by kernel_rfl) hS ?_
  refine aO 0 (some 12) (.agg #[.int .i64 (n:Int),.int .u8 m0,.int .u8 m1]) 209 6 i.heap.size 0 (by kernel_rfl) (by kernel_rfl) (by kernel_rfl) (fun w' h=>nB h) (fun _ _ _ h=>h) hS ?_
  refine ai 1 (some 13) (.int .i64 k) (by kernel_rfl) (fun _ _=>by kernel_rfl) (fun _ _ _ h=>h) hS ?_
  refine ai 2 (some 14) (.int .u64 a) (by kernel_rfl) (fun _ _=>by kernel_rfl) (fun _ _ _ h=>h) hS ?_
  refine bN 3 (some 15) 135 #[.int .i64 k,.int .u64 a] (by kernel_rfl) (by kernel_rfl) (gA p.out.1 p.out.2) ?_
  rintro B D ⟨rfl,rfl⟩;refine⟨.int .u64 (tn k a),rfl,hS,?_⟩;refine bN 4 (some 16) 149 #[.agg #[.int .i64 (n:Int),.int .u8 m0,.int .u8 m1],.int .u64 (tn k a)] (by kernel_rfl) (by kernel_rfl) (nU (n:=n) (a:=tn k a) (Nat.le_trans u.out (by decide)) m.out o.out) ?_
  rintro B E ⟨v5,rfl,r,s⟩;obtain⟨a5,C,rfl⟩:=OB.sh r;have d:=hS.keep s;refine⟨_,rfl,d,?_⟩;refine ai 5 (some 4) (.slice a5 (mkb ((n:Int),m0,m1) (tn k a)).length C) (by kernel_rfl) (fun _ _=>by kernel_rfl) (fun _ _ _ h=>h) d ?_
  refine ai 6 (some 5) (.int .i64 0) (by kernel_rfl) (fun _ _=>by kernel_rfl) (fun _ _ _ h=>h) d ?_
  refine bF (by kernel_rfl) ?_
  simp only[Act.put,List.setIfInBounds_toArray,List.set_cons_zero,List.set_cons_succ];go_wp2;go_ret2;exact⟨_,rfl,r.mono (fun b _ h=>Nat.le_trans q.size h),aj q (aj (bV _) s)⟩
 ·rw[decide_eq_false c] at l;rw[if_neg c,if_neg c];go_enter Tryz.func120,Tryz.ntmps120;go_wp2_with first
   | (go_at_call 148; refine(j _).mono ?_; rintro e i ⟨rfl,b1⟩)
   | (go_at_call 137; refine(l _).mono ?_; rintro e z ⟨rfl,b2⟩)
  go_ret2;exact⟨_,rfl,oO _ _,aj b1 (aj (ae _ _) b2)⟩
end Ky
end
section
namespace Ky
open Go.RowKit Go.Lib Pg
section
variable {w:World}{ao:Option Addr}{n c:Nat}{l:List Int}
attribute [local go_sem] Oper.semAt_some pS
def bv(l:List Int):Int:=l.foldl (fun n d=>n * 256 + d) 0
theorem oP(l:List Int)(x:Int):bv (l ++ [x])=bv l * 256 + x:=by simp[bv]
theorem jo:∀ (n:Nat) (l:List Int),Oct l->l.length=n->0<=bv l/\bv l < 256 ^ n
 | 0,l,_,h=>by
  have:l=[]:=List.eq_nil_of_length_eq_zero h;subst this;simp[bv]
 | n + 1,l,ho,h=>by
  obtain⟨b,x,rfl⟩:∃ b x,l=b ++ [x]:=by
   have a:l≠[]:=fun e=>by subst e; simp at h
   exact⟨l.dropLast,l.getLast a,(List.dropLast_concat_getLast a).symm⟩
  rw[oP];have c:=jo n b (fun y hy=>ho y (List.mem_append_left _ hy)) (by simpa using h);have hx:=ho x (by simp);rw[Int.pow_succ];omega
theorem or64(a b:Int)(c:0<=a)(d:a < 72057594037927936)(f:0<=b)(g:b < 256):bits .or .u64 (IntKind.u64.wrap (a * 256)) b=a * 256 + b:=by
 have e:IntKind.u64.wrap (a * 256)=a * 256:=by rw[IntKind.wrap_u64]; omega
 rw[e];exact bits_join .u64 64 (by decide) (fun n c d=>by rw[IntKind.wrap_u64]; omega) 8 (a * 256) b (by omega) (by omega) (by omega) f (by omega) (by omega)
theorem gq(h:By w (.slice ao n c) l)(E:l.length=n)(hn:8<=n)(hc:n<=c) :
  Calls Tryz.prog 136 #[.slice ao n c] w fun e w'=>e=.returned (.int .u64 (bv (l.take 8)))/\w'=w:=by
 have m:=aX h;have i:=aX E
 have p:(8:Int)<=c:=by omega
 have j:Oct l:=h.oct;obtain⟨v,a⟩:∃ x,l[0]? = some x:=⟨l[0]'(by omega),List.getElem?_eq_getElem _⟩
 obtain⟨b,o,rfl,_⟩:=By.at h a;clear h E a;go_enter Tryz.func136,Tryz.ntmps136;go_wp2_with fail;go_loopw [3,9] (fun q g wr=>∃ k:Nat,k<=8/\g=.int .i64 k/\q=.int .u64 (bv (l.take k))/\wr=w) (fun _ g _=>8 - (intOf g).toNat)
 case atStart=>exact⟨0,Nat.zero_le _,rfl,rfl,rfl⟩
 case round =>
  obtain⟨k,z,rfl,rfl,rfl⟩:=hrel;by_cases r:k < 8
  ·obtain⟨x,hx⟩:∃ x,l[k]? = some x:=⟨l[k]'(by have:=i.out; omega),List.getElem?_eq_getElem _⟩
   obtain⟨A,B,e,C⟩:=By.at m.out hx
   cases e;have d:=j x (List.mem_of_getElem? hx)
   have s:Hid (bv (l.take (k + 1))=bv (l.take k) * 256 + x):=by
    show _=_
    rw[List.take_add_one,hx];exact oP _ _
   have hb:=jo k (l.take k) (fun y hy=>j y (List.mem_of_mem_take hy)) (by rw[List.length_take]; have:=i.out; omega)
   have f:bv (l.take k) < 72057594037927936:=by
    have D:(256:Int) ^ k<=256 ^ 7:=by
     have:(256:Nat) ^ k<=256 ^ 7:=Nat.pow_le_pow_right (by decide) (by omega);exact_mod_cast this
    have:(256:Int) ^ 7=72057594037927936:=by decide
    omega
   have t:=or64 (bv (l.take k)) x hb.1 f d.1 d.2;generalize bv (l.take k)=V at *
   have u:(k:Int) < 8:=by omega
   clear hb f hx;go_wp2;go_roundw
   case rel =>
    refine⟨k + 1,by omega,by go_num,?_,trivial⟩;rw[s.out]
   case measure=>simp[intOf]; omega
  ·obtain rfl:k=8:=by omega
   go_wp2;go_ret;exact⟨rfl,rfl⟩
def fIn(l:List Int):Int × Int × Int:=((l.length:Int),(l[0]?).getD 0,if 9 < l.length/\l.length % 8=2 then (l[9]?).getD 0 else 0)
theorem uf(h:By w (.slice ao n c) l)(B:l.length=n)(C:n<=1000000000) :
  Calls Tryz.prog 132 #[.slice ao n c] w fun e w'=>e=.returned (fv (fIn l))/\Below w.heap.size w w':=by
 have v:=aX B;by_cases p:n=0
 ·have d:fIn l=(0,0,0):=by
   have:l=[]:=List.eq_nil_of_length_eq_zero (by omega);subst this;simp[fIn]
  rw[d];subst p;clear h B;go_enter Tryz.func132,Tryz.ntmps132;go_wp2;refine bodyPost_ret (ee rfl rfl (nB ((aC w [.int .i64 0,.int .u8 0,.int .u8 0] 209).keep (ae _ _)))) rfl ?_
  exact⟨rfl,aj (ae _ _) (ae _ _)⟩
 ·obtain⟨g,a⟩:∃ x,l[0]? = some x:=⟨l[0]'(by omega),List.getElem?_eq_getElem _⟩
  obtain⟨b,o,rfl,c0⟩:=By.at h a
  have q:(0:Int) < n:=by omega
  have s:=aI c0;rw[Nat.add_zero] at c0;by_cases i:9 < n/\n % 8=2
  ·obtain⟨k,f⟩:∃ x,l[9]? = some x:=⟨l[9]'(by omega),List.getElem?_eq_getElem _⟩
   obtain⟨y,z,e,A⟩:=By.at h f
   cases e
   have d:fIn l=((n:Int),g,k):=by rw[fIn,B,if_pos i,a,f]; rfl
   rw[d]
   have j:(9:Int) < n:=by omega
   have m:Int.tmod (n:Int) 8=2:=by rw[Int.tmod_eq_emod_of_nonneg (by omega)]; omega
   clear h B a f d i;go_enter Tryz.func132,Tryz.ntmps132;go_wp2;refine bodyPost_ret (ee rfl rfl (nB ((aC w [.int .i64 (n:Int),.int .u8 g,.int .u8 k] 209).keep (ae _ _)))) rfl ?_
   exact⟨rfl,aj (ae _ _) (ae _ _)⟩
  ·have d:fIn l=((n:Int),g,0):=by rw[fIn,B,if_neg i,a]; rfl
   rw[d];clear h B a d;by_cases t:9 < n
   ·have j:(9:Int) < n:=by omega
    obtain⟨r,m⟩:∃ r,Int.tmod (n:Int) 8=r:=⟨_,rfl⟩
    have u:¬ r=2:=by rw[<- m,Int.tmod_eq_emod_of_nonneg (by omega)]; omega
    clear i;go_enter Tryz.func132,Tryz.ntmps132;go_wp2;refine bodyPost_ret (ee rfl rfl (nB ((aC w [.int .i64 (n:Int),.int .u8 g,.int .u8 0] 209).keep (ae _ _)))) rfl ?_
    exact⟨rfl,aj (ae _ _) (ae _ _)⟩
   ·have j:¬ ((9:Int) < n):=by omega
    clear i;go_enter Tryz.func132,Tryz.ntmps132;go_wp2;refine bodyPost_ret (ee rfl rfl (nB ((aC w [.int .i64 (n:Int),.int .u8 g,.int .u8 0] 209).keep (ae _ _)))) rfl ?_
    exact⟨rfl,aj (ae _ _) (ae _ _)⟩
end
end Ky
end
section
namespace Ky
open Go.RowKit Go.Lib Pg
attribute [local go_sem] Oper.semAt_some pS
theorem wY:∀ k:Nat,k < 18->∀ w,(Instr.index 258 (.agg #[.int .i64 0,.int .u8 0,.int .u8 0,.int .i64 1,.int .u8 112,.int .u8 0,.int .i64 1,.int .u8 99,.int .u8 0,.int .i64 1,.int .u8 109,.int .u8 0,.int .i64 9,.int .u8 97,.int .u8 0,.int .i64 10,.int .u8 118,.int .u8 48,.int .i64 18,.int .u8 118,.int .u8 100,.int .i64 18,.int .u8 118,.int .u8 104,.int .i64 18,.int .u8 118,.int .u8 115,.int .i64 9,.int .u8 116,.int .u8 0,.int .i64 17,.int .u8 105,.int .u8 0,.int .i64 9,.int .u8 98,.int .u8 0,.int .i64 9,.int .u8 117,.int .u8 0,.int .i64 9,.int .u8 114,.int .u8 0,.int .i64 17,.int .u8 113,.int .u8 0,.int .i64 17,.int .u8 101,.int .u8 0,.int .i64 17,.int .u8 110,.int .u8 0,.int .i64 17,.int .u8 107,.int .u8 0]) (.int .i64 k)).run Tryz.prog w=.ok (.agg #[.int .i64 (frm k).1,.int .u8 (frm k).2.1,.int .u8 (frm k).2.2]) w:=by
 intro k a w;rcases(by omega:k=0\/k=1\/k=2\/k=3\/k=4\/k=5\/k=6\/k=7\/k=8\/k=9\/k=10\/k=11\/k=12\/k=13\/k=14\/k=15\/k=16\/k=17) with rfl | rfl | rfl | rfl | rfl | rfl | rfl | rfl | rfl | rfl | rfl | rfl | rfl | rfl | rfl | rfl | rfl | rfl
 all_goals kernel_rfl
theorem sX {w:World}:Calls Tryz.prog 177 #[] w fun e w'=>∃ FA:Array Value,e=.returned (.agg FA)/\Hid (∀ k:Nat,k < 18->∀ w,(Instr.index 258 (.agg FA) (.int .i64 k)).run Tryz.prog w=.ok (.agg #[.int .i64 (frm k).1,.int .u8 (frm k).2.1,.int .u8 (frm k).2.2]) w)/\Below w.heap.size w w' :=
 nZ.mono fun _ _ h=>⟨_,h.1,wY,h.2⟩
theorem sY {w:World} {f0 f1 f2:Int}:Calls Tryz.prog 133 #[.agg #[.int .i64 f0,.int .u8 f1,.int .u8 f2]] w fun e w'=>(∃ r:Nat,e=.returned (.int .i64 r)/\((r < 18/\frm r=(f0,f1,f2))\/(r=0/\∀ j:Nat,j < 18->frm j≠(f0,f1,f2))))/\Below w.heap.size w w':=by
 go_enter Tryz.func133,Tryz.ntmps133;go_wp2_with (go_at_call 177; refine sX.mono ?_; rintro e u ⟨E,rfl,z,b1⟩);have b:=(aC w [.int .i64 f0,.int .u8 f1,.int .u8 f2] 209).keep b1;have v:=aj (ae w (.cells #[.int .i64 f0,.int .u8 f1,.int .u8 f2] 209)) b1;have x:=aX b;have a:=aX v;obtain⟨q,A⟩:∃ q,Hid (w.heap.size=q):=⟨_,rfl⟩
 rw[A.out] at x ⊢;clear b v b1;go_loopw [6] (fun s wr=>∃ k:Nat,k<=18/\s=.int .i64 k/\Hid (∀ j:Nat,j < k->frm j≠(f0,f1,f2))/\Hid (Below u.heap.size u wr)) (fun s _=>18 - (intOf s).toNat)
 case atStart=>exact⟨0,Nat.zero_le _,rfl,fun j h=>by omega,Below.refl _ _⟩
 case round =>
  obtain⟨k,F,rfl,m,c⟩:=hrel;by_cases d:k < 18
  ·have hi:=z.out k d
   have B:(k:Int) < 18:=by omega
   have b:=x.out.keep c.out;have q0:=b.cell (i:=0) rfl;have q1:=b.cell (i:=1) rfl;have G:=b.cell (i:=2) rfl;have C:=b.lt;obtain⟨⟨t,y,D⟩,f⟩:∃ p,Hid (frm k=p):=⟨_,rfl⟩
   rw[f.out] at hi;simp only at hi;clear b;by_cases n:t=f0
   ·by_cases e1:y=f1
    ·by_cases e2:D=f2
     ·subst n e1 e2;go_wp2;go_ret;refine⟨⟨k,rfl,.inl ⟨d,f.out⟩⟩,?_⟩;exact a.out.trans ((aj c.out (ae _ _)).mono a.out.size)
     ·subst n e1
      have g:Hid (frm k≠(t,y,f2)):=by show _≠_; rw[f.out]; intro e; cases e; exact e2 rfl
      go_wp2;go_roundw
      case rel =>
       refine⟨k + 1,by omega,by go_num,fun j o => ?_,aj c.out (ae _ _)⟩;by_cases l:j=k
       ·subst l; exact g.out
       ·exact m.out j (by omega)
      case measure=>simp[intOf]; omega
    ·subst n
     have g:Hid (frm k≠(t,f1,f2)):=by show _≠_; rw[f.out]; intro e; cases e; exact e1 rfl
     go_wp2;go_roundw
     case rel =>
      refine⟨k + 1,by omega,by go_num,fun j o => ?_,aj c.out (ae _ _)⟩;by_cases l:j=k
      ·subst l; exact g.out
      ·exact m.out j (by omega)
     case measure=>simp[intOf]; omega
   ·have g:Hid (frm k≠(f0,f1,f2)):=by show _≠_; rw[f.out]; intro e; cases e; exact n rfl
    go_wp2;go_roundw
    case rel =>
     refine⟨k + 1,by omega,by go_num,fun j o => ?_,aj c.out (ae _ _)⟩;by_cases l:j=k
     ·subst l; exact g.out
     ·exact m.out j (by omega)
    case measure=>simp[intOf]; omega
  ·obtain rfl:k=18:=by omega
   go_wp2;go_ret;refine⟨⟨0,rfl,.inr ⟨rfl,fun j o=>m.out j o⟩⟩,?_⟩;exact a.out.trans (c.out.mono a.out.size)
end Ky
end
section
namespace Ky
open Go.RowKit Go.Lib Pg
section
variable {w:World}{ao:Option Addr}{n c b o r g:Nat}{l:List Int}{a:Act}{x u:Value}{tmps:Array Value}
attribute [local go_sem] Oper.semAt_some pS
theorem By.lens(h:By w (.slice ao n c) l):l.length=n/\n<=c/\c<=9223372036854775807:=by
 obtain⟨ao',c',e,h2,h3,_⟩:=h.ex
 cases e;exact⟨rfl,h2,h3⟩
theorem By.drop(h:By w (.slice (some ⟨b,o,none⟩) n c) l)(j:Nat)(v:j<=n):By w (.slice (some ⟨b,o + j,none⟩) (n - j) (c - j)) (l.drop j):=by
 obtain⟨m,hc,hm⟩:=By.lens h;obtain⟨f,p,e,q,r,s,g,k⟩:=h.ex
 cases e;refine⟨some ⟨b,o + j,none⟩,c - j,by rw[List.length_drop],by rw[List.length_drop]; omega,by omega,(fun e=>by cases e),fun x hx=>g x (List.mem_of_mem_drop hx),?_⟩;rcases k with rfl | ⟨t,u,e,d,a⟩
 ·exact .inl (by simp)
 ·cases e;refine .inr ⟨b,o + j,rfl,d,fun i x hi => ?_⟩;rw[List.getElem?_drop] at hi;have:=a (j + i) x hi;rw[show o + (j + i)=o + j + i by omega] at this;exact this
theorem oG{op:Oper}{x:Nat}(g:op.op=.slice 96 (.tmp x) (some (.const (.int .i64 1))) none none)(hx:a.eval (.tmp x)=.slice (some ⟨b,o,none⟩) n c)(hn:1<=n)(hc:2<=c)(f:n<=c):(execOp a.eval op).run Tryz.prog w=.ok (.value (.slice (some ⟨b,o + 1,none⟩) (n - 1) (c - 1))) w:=by
 have j:¬ ((n:Int) < 1):=by omega
 have p:(1:Int)<=n:=by omega
 have i:¬ (c - 1=0):=by omega
 have m:(n:Int)<=c:=by omega
 have l:¬ (c<=1):=by omega
 have k:¬ ((c:Int)=1):=by omega
 have h7:¬ (c=1):=by omega
 obtain⟨i0,hi,h,e,d⟩:=info_parts (P:=Tryz.prog) KB.inf;simp only[execOp,g,hx];go_simp
def rdA(r:Nat)(l:List Int):Int:=if 8 < l.length then tn r (bv ((l.drop 1).take 8)) else 0
def rdB(l:List Int):Int:=if 16 < l.length then bv (l.drop (l.length - 8)) else 0
theorem vy:∀ i:Nat,i < 18->∀ j:Nat,j < 18->frm i=frm j->i=j:=by decide +kernel
theorem tu{f0 f1 f2:Int}(a:r < 18)(h:frm r=(f0,f1,f2)):Calls Tryz.prog 133 #[.agg #[.int .i64 f0,.int .u8 f1,.int .u8 f2]] w fun e w'=>e=.returned (.int .i64 r)/\Below w.heap.size w w':=by
 refine sY.mono ?_
 rintro e w' ⟨⟨b,rfl,c⟩,hb⟩;rcases c with⟨h1,h2⟩ | ⟨rfl,h2⟩
 ·have:=vy b h1 r a (h2.trans h.symm);subst this;exact⟨rfl,hb⟩
 ·exact absurd h (h2 r a)
theorem sc{y z:Value}(h:Blk w g [x,y,z] 151):(loadVar 151 ⟨g,0,none⟩).run Tryz.prog w=.ok (.agg #[x,y,z]) w:=by
 have c0:=h.cell (i:=0) rfl;have c1:=h.cell (i:=1) rfl;have c2:=h.cell (i:=2) rfl;go_simp
theorem gv{fn:Func}{p u:Tmp}{ty:TypeId}(h:fn.results=#[.cell p ty,.tmp u]){v:Value}(a:tmps.getD p undef=.pointer (some ⟨g,0,none⟩))(hu:tmps.getD u undef=x)(b:(loadVar ty ⟨g,0,none⟩).run Tryz.prog w=.ok v w):(results fn tmps).run Tryz.prog w=.ok (.tuple #[v,x]) w:=by
 rw[results_cell_tmp h,a,hu];simp[asAddr,b]
theorem Dm:∀ r:Nat,r < 18->0 < r->0 < (frm r).1:=by decide +kernel
theorem qW{o:Oper}(k q:Nat){off:Nat}{x:Int}(c:o.op=.store 22 (.tmp k) (.tmp q))(b:a.eval (.tmp k)=.pointer (some ⟨g,off,none⟩))(d:a.eval (.tmp q)=.int .u64 x)(hc:w.cell? ⟨g,off,none⟩=some u)(hf:w.frozen? ⟨g,off,none⟩=false) :
  (execOp a.eval o).run Tryz.prog w=.ok .skip (w.setCell ⟨g,off,none⟩ (.int .u64 x)):=by
 simp only[execOp,c,b,d];go_simp
theorem yL(h:By w (.slice ao n c) l)(a4:n<=1000000000)(hr:r < 18)(hr0:0 < r)(aZ:frm r=fIn l) :
  Calls Tryz.prog 84 #[.slice ao n c] w fun e w'=>e=.returned (.tuple #[.agg #[.int .i64 (r:Int),.int .u64 (rdA r l),.int .u64 (rdB l)],.int .i64 0])/\Below w.heap.size w w':=by
 obtain⟨hl,aY,hcm⟩:=By.lens h;have u1:=fun w' (hB:Below w.heap.size w w')=>uf (h.keep hB) hl a4
 have L:=Dm r hr hr0;obtain⟨⟨f0,f1,f2⟩,hf⟩:∃ f,Hid (fIn l=f):=⟨_,rfl⟩
 have hf0:f0=(n:Int):=by have:=hf.out; rw[fIn,hl] at this; cases this; rfl
 subst hf0;rw[hf.out] at u1 aZ;rw[aZ] at L;simp only[fv] at u1 L;have u2:=fun w'=>tu (w:=w') hr aZ
 obtain⟨x0,hx0⟩:∃ x,l[0]? = some x:=⟨l[0]'(by omega),List.getElem?_eq_getElem _⟩
 obtain⟨b,o,rfl,_⟩:=By.at h hx0;have HB:=aX h
 have nr:¬ ((r:Int)=0):=by omega
 clear h aZ hx0;by_cases h8:8 < n
 ·by_cases h16:16 < n
  ·have g8:((8:Int) < n):=by omega
   have M:=fun w=>fm (w:=w) (n:=n) (x:=f1) (y:=f2)
   rw[decide_eq_true g8] at M
   have g16:((16:Int) < n):=by omega
   have N:=fun w=>fV (w:=w) (n:=n) (x:=f1) (y:=f2)
   rw[decide_eq_true g16] at N
   have O:True:=trivial
   have P:True:=trivial
   have I:Hid (rdA r l=tn r (bv ((l.drop 1).take 8))):=by show _=_; rw[rdA,if_pos (by omega)]
   have J:Hid (rdB l=bv ((l.drop (n - 8)).take 8)):=by show _=_; rw[rdB,if_pos (by omega)]; rw[hl,List.take_of_length_le (by rw[List.length_drop]; omega)]
   rw[I.out,J.out];go_enter Tryz.func84,Tryz.ntmps84;go_wp2_with first
    | (go_at_call 132; refine(u1 _ (ae _ _)).mono ?_; rintro e G ⟨rfl,b1⟩)
    | (go_at_call 133; refine(u2 _).mono ?_; rintro e t ⟨rfl,b2⟩; have al:=ae t (.cells #[.int .i64 (r:Int),.int .u64 0,.int .u64 0] 151); have bf:=aj (ae G (.cells #[.int .i64 (n:Int),.int .u8 f1,.int .u8 f2] 209)) b2; have d:=(((aC w [.int .i64 0,.int .u64 0,.int .u64 0] 151).keep b1).keep bf).keep al; have q:=((aC G [.int .i64 (n:Int),.int .u8 f1,.int .u8 f2] 209).keep b2).keep al; have g:=aC t [.int .i64 (r:Int),.int .u64 0,.int .u64 0] 151; have D:=aj (aj (aj (ae w (.cells #[.int .i64 0,.int .u64 0,.int .u64 0] 151)) b1) bf) al; have lt1:w.heap.size < G.heap.size:=Nat.lt_of_lt_of_le (by simp) b1.size; have a9:G.heap.size < t.heap.size:=Nat.lt_of_lt_of_le (by simp) b2.size; have Q:=g.cell (i:=0) rfl; have R:=g.cell (i:=1) rfl; have T:=g.cell (i:=2) rfl; have U:=q.cell (i:=0) rfl; have V:=q.cell (i:=1) rfl; have W:=q.cell (i:=2) rfl; have X:=d.cell (i:=0) rfl; have Y:=d.cell (i:=1) rfl; have Z:=d.cell (i:=2) rfl; have aa:=d.free 0; have ab:=d.free 1; have ac:=d.free 2; have ad:=g.free 0; have af:=g.free 1; have ag:=g.free 2; replace g:=aX g; replace q:=aX q; replace d:=aX d; replace D:=aX D; clear b1 b2 bf al)
    | (go_at_call 134; have gate:=O; clear gate; go_must (refine(M _).mono ?_); clear O; rintro e H ⟨rfl,b3⟩; have a:=g.out.keep b3; have s:=q.out.keep b3; have j:=d.out.keep b3; have A:=aj D.out b3; have ah:=a.cell (i:=0) rfl; have ak:=a.cell (i:=1) rfl; have am:=a.cell (i:=2) rfl; have an:=s.cell (i:=0) rfl; have ap:=s.cell (i:=1) rfl; have aq:=s.cell (i:=2) rfl; have ar:=j.cell (i:=0) rfl; have au:=j.cell (i:=1) rfl; have av:=j.cell (i:=2) rfl; have aw:=j.free 0; have ax:=j.free 1; have ay:=j.free 2; have az:=a.free 0; have aA:=a.free 1; have aB:=a.free 2; replace a:=aX a; replace s:=aX s; replace j:=aX j; replace A:=aX A; clear b3)
   have hS:H.drew.cell? ⟨t.heap.size,0,none⟩=some (.int .i64 (r:Int)):=a.out.drew.cell rfl;have BY:=(HB.out.keep A.out).drew;have bb:=jo 8 ((l.drop 1).take 8) (fun y hy=>HB.out.oct y (List.mem_of_mem_drop (List.mem_of_mem_take hy))) (by rw[List.length_take,List.length_drop]; omega);rw[show (256:Int) ^ 8=18446744073709551616 by decide] at bb;refine bT (S:=fun w'=>w'.cell? ⟨t.heap.size,0,none⟩=some (.int .i64 (r:Int))) (by kernel_rfl) hS ?_
   refine ai 0 (some 17) (.pointer (some ⟨t.heap.size,0,none⟩)) (by kernel_rfl) (fun _ _=>by kernel_rfl) (fun _ _ _ h=>h) hS ?_
   refine aO 1 (some 18) (.int .i64 (r:Int)) 3 17 t.heap.size 0 (by kernel_rfl) (by kernel_rfl) (by kernel_rfl) (fun w' h=>gO h) (fun _ _ _ h=>h) hS ?_
   refine ai 2 (some 19) (.slice (some ⟨b,o,none⟩) n c) (by kernel_rfl) (fun _ _=>by kernel_rfl) (fun _ _ _ h=>h) hS ?_
   refine ai 3 (some 20) (.slice (some ⟨b,o + 1,none⟩) (n - 1) (c - 1)) (by kernel_rfl) (fun _ _=>oG (x:=19) (by kernel_rfl) (by kernel_rfl) (by omega) (by omega) aY) (fun _ _ _ h=>h) hS ?_
   refine bN 4 (some 21) 136 #[.slice (some ⟨b,o + 1,none⟩) (n - 1) (c - 1)] (by kernel_rfl) (by kernel_rfl) (gq (By.drop BY 1 (by omega)) (by rw[List.length_drop]; omega) (by omega) (by omega)) ?_
   rintro e' w4 ⟨rfl,rfl⟩;refine⟨_,rfl,hS,?_⟩;refine bN 5 (some 22) 135 #[.int .i64 (r:Int),.int .u64 (bv ((l.drop 1).take 8))] (by kernel_rfl) (by kernel_rfl) (gA bb.1 bb.2) ?_
   rintro e' w5 ⟨rfl,rfl⟩;refine⟨.int .u64 (tn r (bv ((l.drop 1).take 8))),rfl,hS,?_⟩;refine ai 6 (some 23) (.pointer (some ⟨t.heap.size,1,none⟩)) (by kernel_rfl) (fun _ _=>by kernel_rfl) (fun _ _ _ h=>h) hS ?_
   refine aK [7] (by kernel_rfl) (by simp) (dm 7 (H.drew.setCell ⟨t.heap.size,1,none⟩ (.int .u64 (tn r (bv ((l.drop 1).take 8))))) (by kernel_rfl) (qW 23 22 (by kernel_rfl) (by kernel_rfl) (by kernel_rfl) (a.out.drew.cell (i:=1) rfl) (a.out.drew.free 1)) ((a.out.drew.setCell (i:=1) _).cell (i:=0) rfl) ?_ aW);refine bF (by kernel_rfl) ?_
   simp only[Act.put,List.setIfInBounds_toArray,List.set_cons_zero,List.set_cons_succ]
   have u:Blk (H.drew.setCell ⟨t.heap.size,1,none⟩ (.int .u64 (tn r (bv ((l.drop 1).take 8))))) t.heap.size [.int .i64 (r:Int),.int .u64 (tn r (bv ((l.drop 1).take 8))),.int .u64 0] 151:=a.out.drew.setCell (i:=1) _;have B:=s.out.drew.off (g':=t.heap.size) (by omega) (i:=1) (.int .u64 (tn r (bv ((l.drop 1).take 8))));have v:=j.out.drew.off (g':=t.heap.size) (by omega) (i:=1) (.int .u64 (tn r (bv ((l.drop 1).take 8))));have F:=(aj A.out (bV H)).setCell (p:=⟨t.heap.size,1,none⟩) (show w.heap.size<=t.heap.size by omega) (.int .u64 (tn r (bv ((l.drop 1).take 8))));generalize aU:H.drew.setCell ⟨t.heap.size,1,none⟩ (.int .u64 (tn r (bv ((l.drop 1).take 8))))=X5 at *;clear aU;generalize K:tn r (bv ((l.drop 1).take 8))=AV at *;have aV:=aX K;clear K;have p0_5:=u.cell (i:=0) rfl;have a2:=u.cell (i:=1) rfl;have p2_5:=u.cell (i:=2) rfl;have g0_5:=B.cell (i:=0) rfl;have g1_5:=B.cell (i:=1) rfl;have g2_5:=B.cell (i:=2) rfl;have a8:=v.cell (i:=0) rfl;have a7:=v.cell (i:=1) rfl;have a3:=v.cell (i:=2) rfl;have y0_5:=v.free 0;have a5:=v.free 1;have a1:=v.free 2;have x0_5:=u.free 0;have a6:=u.free 1;have a0:=u.free 2;replace u:=aX u;replace B:=aX B;replace v:=aX v;replace F:=aX F;clear BY bb hS;have HB8:=aX HB.out;go_wp2_with first
    | (go_at_call 137; have gate:=P; clear gate; go_must (refine(N _).mono ?_); clear P; rintro e w6 ⟨rfl,E⟩; have m:=u.out.keep E; have z:=B.out.keep E; have k:=v.out.keep E; have C:=aj F.out E; have aD:=m.cell (i:=0) rfl; have aE:=m.cell (i:=1) rfl; have aF:=m.cell (i:=2) rfl; have aG:=z.cell (i:=0) rfl; have aH:=z.cell (i:=1) rfl; have aI:=z.cell (i:=2) rfl; have aJ:=k.cell (i:=0) rfl; have aL:=k.cell (i:=1) rfl; have aM:=k.cell (i:=2) rfl; have aN:=k.free 0; have aP:=k.free 1; have aQ:=k.free 2; have aR:=m.free 0; have aS:=m.free 1; have aT:=m.free 2; replace m:=aX m; replace z:=aX z; replace k:=aX k; replace C:=aX C; clear E)
    | (go_at_call 136; refine(gq (By.drop (HB8.out.keep C.out) (n - 8) (by omega)) (by rw[List.length_drop]; omega) (by omega) (by omega)).mono ?_; rintro e w7 ⟨rfl,rfl⟩)
   refine bodyPost_ret (gv rfl rfl rfl (sc (vO (k.out.off (g':=t.heap.size) (by omega) (i:=2) _) _ _ _))) rfl ?_
   refine⟨?_,j1 (C.out.setCell (p:=⟨t.heap.size,2,none⟩) (show w.heap.size<=t.heap.size by omega) _) _ _ _⟩
   show Ending.returned (.tuple #[.agg #[.int .i64 (r:Int),.int .u64 AV,.int .u64 (bv ((l.drop (n - 8)).take 8))],.int .i64 0])=_
   rw[<- aV.out]
  ·have g8:((8:Int) < n):=by omega
   have M:=fun w=>fm (w:=w) (n:=n) (x:=f1) (y:=f2)
   rw[decide_eq_true g8] at M
   have g16:¬ ((16:Int) < n):=by omega
   have N:=fun w=>fV (w:=w) (n:=n) (x:=f1) (y:=f2)
   rw[decide_eq_false g16] at N
   have O:True:=trivial
   have P:True:=trivial
   have I:Hid (rdA r l=tn r (bv ((l.drop 1).take 8))):=by show _=_; rw[rdA,if_pos (by omega)]
   have J:Hid (rdB l=0):=by show _=_; rw[rdB,if_neg (by omega)]
   rw[I.out,J.out];go_enter Tryz.func84,Tryz.ntmps84;go_wp2_with first
    | (go_at_call 132; refine(u1 _ (ae _ _)).mono ?_; rintro e G ⟨rfl,b1⟩)
    | (go_at_call 133; refine(u2 _).mono ?_; rintro e t ⟨rfl,b2⟩; have al:=ae t (.cells #[.int .i64 (r:Int),.int .u64 0,.int .u64 0] 151); have bf:=aj (ae G (.cells #[.int .i64 (n:Int),.int .u8 f1,.int .u8 f2] 209)) b2; have d:=(((aC w [.int .i64 0,.int .u64 0,.int .u64 0] 151).keep b1).keep bf).keep al; have q:=((aC G [.int .i64 (n:Int),.int .u8 f1,.int .u8 f2] 209).keep b2).keep al; have g:=aC t [.int .i64 (r:Int),.int .u64 0,.int .u64 0] 151; have D:=aj (aj (aj (ae w (.cells #[.int .i64 0,.int .u64 0,.int .u64 0] 151)) b1) bf) al; have lt1:w.heap.size < G.heap.size:=Nat.lt_of_lt_of_le (by simp) b1.size; have a9:G.heap.size < t.heap.size:=Nat.lt_of_lt_of_le (by simp) b2.size; have Q:=g.cell (i:=0) rfl; have R:=g.cell (i:=1) rfl; have T:=g.cell (i:=2) rfl; have U:=q.cell (i:=0) rfl; have V:=q.cell (i:=1) rfl; have W:=q.cell (i:=2) rfl; have X:=d.cell (i:=0) rfl; have Y:=d.cell (i:=1) rfl; have Z:=d.cell (i:=2) rfl; have aa:=d.free 0; have ab:=d.free 1; have ac:=d.free 2; have ad:=g.free 0; have af:=g.free 1; have ag:=g.free 2; replace g:=aX g; replace q:=aX q; replace d:=aX d; replace D:=aX D; clear b1 b2 bf al)
    | (go_at_call 134; have gate:=O; clear gate; go_must (refine(M _).mono ?_); clear O; rintro e H ⟨rfl,b3⟩; have a:=g.out.keep b3; have s:=q.out.keep b3; have j:=d.out.keep b3; have A:=aj D.out b3; have ah:=a.cell (i:=0) rfl; have ak:=a.cell (i:=1) rfl; have am:=a.cell (i:=2) rfl; have an:=s.cell (i:=0) rfl; have ap:=s.cell (i:=1) rfl; have aq:=s.cell (i:=2) rfl; have ar:=j.cell (i:=0) rfl; have au:=j.cell (i:=1) rfl; have av:=j.cell (i:=2) rfl; have aw:=j.free 0; have ax:=j.free 1; have ay:=j.free 2; have az:=a.free 0; have aA:=a.free 1; have aB:=a.free 2; replace a:=aX a; replace s:=aX s; replace j:=aX j; replace A:=aX A; clear b3)
   have hS:H.drew.cell? ⟨t.heap.size,0,none⟩=some (.int .i64 (r:Int)):=a.out.drew.cell rfl;have BY:=(HB.out.keep A.out).drew;have bb:=jo 8 ((l.drop 1).take 8) (fun y hy=>HB.out.oct y (List.mem_of_mem_drop (List.mem_of_mem_take hy))) (by rw[List.length_take,List.length_drop]; omega);rw[show (256:Int) ^ 8=18446744073709551616 by decide] at bb;refine bT (S:=fun w'=>w'.cell? ⟨t.heap.size,0,none⟩=some (.int .i64 (r:Int))) (by kernel_rfl) hS ?_
   refine ai 0 (some 17) (.pointer (some ⟨t.heap.size,0,none⟩)) (by kernel_rfl) (fun _ _=>by kernel_rfl) (fun _ _ _ h=>h) hS ?_
   refine aO 1 (some 18) (.int .i64 (r:Int)) 3 17 t.heap.size 0 (by kernel_rfl) (by kernel_rfl) (by kernel_rfl) (fun w' h=>gO h) (fun _ _ _ h=>h) hS ?_
   refine ai 2 (some 19) (.slice (some ⟨b,o,none⟩) n c) (by kernel_rfl) (fun _ _=>by kernel_rfl) (fun _ _ _ h=>h) hS ?_
   refine ai 3 (some 20) (.slice (some ⟨b,o + 1,none⟩) (n - 1) (c - 1)) (by kernel_rfl) (fun _ _=>oG (x:=19) (by kernel_rfl) (by kernel_rfl) (by omega) (by omega) aY) (fun _ _ _ h=>h) hS ?_
   refine bN 4 (some 21) 136 #[.slice (some ⟨b,o + 1,none⟩) (n - 1) (c - 1)] (by kernel_rfl) (by kernel_rfl) (gq (By.drop BY 1 (by omega)) (by rw[List.length_drop]; omega) (by omega) (by omega)) ?_
   rintro e' w4 ⟨rfl,rfl⟩;refine⟨_,rfl,hS,?_⟩;refine bN 5 (some 22) 135 #[.int .i64 (r:Int),.int .u64 (bv ((l.drop 1).take 8))] (by kernel_rfl) (by kernel_rfl) (gA bb.1 bb.2) ?_
   rintro e' w5 ⟨rfl,rfl⟩;refine⟨.int .u64 (tn r (bv ((l.drop 1).take 8))),rfl,hS,?_⟩;refine ai 6 (some 23) (.pointer (some ⟨t.heap.size,1,none⟩)) (by kernel_rfl) (fun _ _=>by kernel_rfl) (fun _ _ _ h=>h) hS ?_
   refine aK [7] (by kernel_rfl) (by simp) (dm 7 (H.drew.setCell ⟨t.heap.size,1,none⟩ (.int .u64 (tn r (bv ((l.drop 1).take 8))))) (by kernel_rfl) (qW 23 22 (by kernel_rfl) (by kernel_rfl) (by kernel_rfl) (a.out.drew.cell (i:=1) rfl) (a.out.drew.free 1)) ((a.out.drew.setCell (i:=1) _).cell (i:=0) rfl) ?_ aW);refine bF (by kernel_rfl) ?_
   simp only[Act.put,List.setIfInBounds_toArray,List.set_cons_zero,List.set_cons_succ]
   have u:Blk (H.drew.setCell ⟨t.heap.size,1,none⟩ (.int .u64 (tn r (bv ((l.drop 1).take 8))))) t.heap.size [.int .i64 (r:Int),.int .u64 (tn r (bv ((l.drop 1).take 8))),.int .u64 0] 151:=a.out.drew.setCell (i:=1) _;have B:=s.out.drew.off (g':=t.heap.size) (by omega) (i:=1) (.int .u64 (tn r (bv ((l.drop 1).take 8))));have v:=j.out.drew.off (g':=t.heap.size) (by omega) (i:=1) (.int .u64 (tn r (bv ((l.drop 1).take 8))));have F:=(aj A.out (bV H)).setCell (p:=⟨t.heap.size,1,none⟩) (show w.heap.size<=t.heap.size by omega) (.int .u64 (tn r (bv ((l.drop 1).take 8))));generalize aU:H.drew.setCell ⟨t.heap.size,1,none⟩ (.int .u64 (tn r (bv ((l.drop 1).take 8))))=X5 at *;clear aU;generalize K:tn r (bv ((l.drop 1).take 8))=AV at *;have aV:=aX K;clear K;have p0_5:=u.cell (i:=0) rfl;have a2:=u.cell (i:=1) rfl;have p2_5:=u.cell (i:=2) rfl;have g0_5:=B.cell (i:=0) rfl;have g1_5:=B.cell (i:=1) rfl;have g2_5:=B.cell (i:=2) rfl;have a8:=v.cell (i:=0) rfl;have a7:=v.cell (i:=1) rfl;have a3:=v.cell (i:=2) rfl;have y0_5:=v.free 0;have a5:=v.free 1;have a1:=v.free 2;have x0_5:=u.free 0;have a6:=u.free 1;have a0:=u.free 2;replace u:=aX u;replace B:=aX B;replace v:=aX v;replace F:=aX F;clear BY bb hS;go_wp2_with (go_at_call 137; have gate:=P; clear gate; go_must (refine(N _).mono ?_); clear P; rintro e w6 ⟨rfl,E⟩; have m:=u.out.keep E; have z:=B.out.keep E; have k:=v.out.keep E; have C:=aj F.out E; have aD:=m.cell (i:=0) rfl; have aE:=m.cell (i:=1) rfl; have aF:=m.cell (i:=2) rfl; have aG:=z.cell (i:=0) rfl; have aH:=z.cell (i:=1) rfl; have aI:=z.cell (i:=2) rfl; have aJ:=k.cell (i:=0) rfl; have aL:=k.cell (i:=1) rfl; have aM:=k.cell (i:=2) rfl; have aN:=k.free 0; have aP:=k.free 1; have aQ:=k.free 2; have aR:=m.free 0; have aS:=m.free 1; have aT:=m.free 2; replace m:=aX m; replace z:=aX z; replace k:=aX k; replace C:=aX C; clear E);refine bodyPost_ret (gv rfl rfl rfl (sc (vO k.out _ _ _))) rfl ?_
   refine⟨?_,j1 C.out _ _ _⟩
   show Ending.returned (.tuple #[.agg #[.int .i64 (r:Int),.int .u64 AV,.int .u64 0],.int .i64 0])=_
   rw[<- aV.out]
 ·have g8:¬ ((8:Int) < n):=by omega
  have M:=fun w=>fm (w:=w) (n:=n) (x:=f1) (y:=f2)
  rw[decide_eq_false g8] at M
  have g16:¬ ((16:Int) < n):=by omega
  have N:=fun w=>fV (w:=w) (n:=n) (x:=f1) (y:=f2)
  rw[decide_eq_false g16] at N
  have O:True:=trivial
  have P:True:=trivial
  have I:Hid (rdA r l=0):=by show _=_; rw[rdA,if_neg (by omega)]
  have J:Hid (rdB l=0):=by show _=_; rw[rdB,if_neg (by omega)]
  rw[I.out,J.out];go_enter Tryz.func84,Tryz.ntmps84;go_wp2_with first
   | (go_at_call 132; refine(u1 _ (ae _ _)).mono ?_; rintro e G ⟨rfl,b1⟩)
   | (go_at_call 133; refine(u2 _).mono ?_; rintro e t ⟨rfl,b2⟩; have al:=ae t (.cells #[.int .i64 (r:Int),.int .u64 0,.int .u64 0] 151); have bf:=aj (ae G (.cells #[.int .i64 (n:Int),.int .u8 f1,.int .u8 f2] 209)) b2; have d:=(((aC w [.int .i64 0,.int .u64 0,.int .u64 0] 151).keep b1).keep bf).keep al; have q:=((aC G [.int .i64 (n:Int),.int .u8 f1,.int .u8 f2] 209).keep b2).keep al; have g:=aC t [.int .i64 (r:Int),.int .u64 0,.int .u64 0] 151; have D:=aj (aj (aj (ae w (.cells #[.int .i64 0,.int .u64 0,.int .u64 0] 151)) b1) bf) al; have lt1:w.heap.size < G.heap.size:=Nat.lt_of_lt_of_le (by simp) b1.size; have a9:G.heap.size < t.heap.size:=Nat.lt_of_lt_of_le (by simp) b2.size; have Q:=g.cell (i:=0) rfl; have R:=g.cell (i:=1) rfl; have T:=g.cell (i:=2) rfl; have U:=q.cell (i:=0) rfl; have V:=q.cell (i:=1) rfl; have W:=q.cell (i:=2) rfl; have X:=d.cell (i:=0) rfl; have Y:=d.cell (i:=1) rfl; have Z:=d.cell (i:=2) rfl; have aa:=d.free 0; have ab:=d.free 1; have ac:=d.free 2; have ad:=g.free 0; have af:=g.free 1; have ag:=g.free 2; replace g:=aX g; replace q:=aX q; replace d:=aX d; replace D:=aX D; clear b1 b2 bf al)
   | (go_at_call 134; have gate:=O; clear gate; go_must (refine(M _).mono ?_); clear O; rintro e H ⟨rfl,b3⟩; have a:=g.out.keep b3; have s:=q.out.keep b3; have j:=d.out.keep b3; have A:=aj D.out b3; have ah:=a.cell (i:=0) rfl; have ak:=a.cell (i:=1) rfl; have am:=a.cell (i:=2) rfl; have an:=s.cell (i:=0) rfl; have ap:=s.cell (i:=1) rfl; have aq:=s.cell (i:=2) rfl; have ar:=j.cell (i:=0) rfl; have au:=j.cell (i:=1) rfl; have av:=j.cell (i:=2) rfl; have aw:=j.free 0; have ax:=j.free 1; have ay:=j.free 2; have az:=a.free 0; have aA:=a.free 1; have aB:=a.free 2; replace a:=aX a; replace s:=aX s; replace j:=aX j; replace A:=aX A; clear b3)
   | (go_at_call 137; have gate:=P; clear gate; go_must (refine(N _).mono ?_); clear P; rintro e w6 ⟨rfl,E⟩; have m:=a.out.keep E; have z:=s.out.keep E; have k:=j.out.keep E; have C:=aj A.out E; have aD:=m.cell (i:=0) rfl; have aE:=m.cell (i:=1) rfl; have aF:=m.cell (i:=2) rfl; have aG:=z.cell (i:=0) rfl; have aH:=z.cell (i:=1) rfl; have aI:=z.cell (i:=2) rfl; have aJ:=k.cell (i:=0) rfl; have aL:=k.cell (i:=1) rfl; have aM:=k.cell (i:=2) rfl; have aN:=k.free 0; have aP:=k.free 1; have aQ:=k.free 2; have aR:=m.free 0; have aS:=m.free 1; have aT:=m.free 2; replace m:=aX m; replace z:=aX z; replace k:=aX k; replace C:=aX C; clear E)
  refine bodyPost_ret (gv rfl rfl rfl (sc (vO k.out _ _ _))) rfl ?_
  refine⟨?_,j1 C.out _ _ _⟩;rfl
end
end Ky
end
end Go.Proofs.YthfepflplbahkaaGreatDoor
