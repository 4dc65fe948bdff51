import Derived.Test.YtgdohcdlkonhiaaGreatDoorJae
import Derived.Deep.WholeRow
set_option maxRecDepth 100000
set_option maxHeartbeats 8000000
namespace Go.Proofs.YtgdohcdlkonhiaaGreatDoor
section
namespace Ky
open Go.RowKit Go.Lib Pg
attribute [local go_sem] Oper.semAt_some
def frms:List (Int × Int × Int):=[(0,0,0),(1,112,0),(1,99,0),(1,109,0),(9,97,0),(10,118,48),(18,118,100),(18,118,104),(18,118,115),(9,116,0),(17,105,0),(9,98,0),(9,117,0),(9,114,0),(17,113,0),(17,101,0),(17,110,0),(17,107,0)]
def frm (k:Int):Int × Int × Int:=if 0<=k/\k < 18 then frms.getD k.toNat (0,0,0) else (0,0,0)
def fv (f:Int × Int × Int):Value:=.agg #[.int .i64 f.1,.int .u8 f.2.1,.int .u8 f.2.2]
def gQ:List Value:=[.int .i64 0,.int .u8 0,.int .u8 0,.int .i64 1,.int .u8 112,.int .u8 0,.int .i64 1,.int .u8 99,.int .u8 0,.int .i64 1,.int .u8 109,.int .u8 0,.int .i64 9,.int .u8 97,.int .u8 0,.int .i64 10,.int .u8 118,.int .u8 48,.int .i64 18,.int .u8 118,.int .u8 100,.int .i64 18,.int .u8 118,.int .u8 104,.int .i64 18,.int .u8 118,.int .u8 115,.int .i64 9,.int .u8 116,.int .u8 0,.int .i64 17,.int .u8 105,.int .u8 0,.int .i64 9,.int .u8 98,.int .u8 0,.int .i64 9,.int .u8 117,.int .u8 0,.int .i64 9,.int .u8 114,.int .u8 0,.int .i64 17,.int .u8 113,.int .u8 0,.int .i64 17,.int .u8 101,.int .u8 0,.int .i64 17,.int .u8 110,.int .u8 0,.int .i64 17,.int .u8 107,.int .u8 0]
section
variable {ops:Array Oper} {rest:List Oper} {o:Oper} {a:Act} {w w1:World} {Q:Exit->Act->World->Prop}
section
variable {c c':Array Value}
theorem qS(d:Option Tmp)(v:Value)(c:o.guard=none)(b:o.dst=d)(hrun:(execOp a.eval o).run Tryz.prog w=.ok (.value v) w1)(h:wpList Tryz.prog ops Q rest (a.put d v) w1):wpList Tryz.prog ops Q (o :: rest) a w :=
 wpList_plain c fun K e=>by
  unfold Oper.wp;rw[hrun];subst b;exact e _ _ h
theorem DE(d:Option Tmp)(v:Value)(c:o.guard=none)(b:o.dst=d)(hrun:(execOp a.eval o).run Tryz.prog w=.ok (.value v) w)(h:wpList Tryz.prog ops Q rest (a.put d v) w):wpList Tryz.prog ops Q (o :: rest) a w:=qS d v c b hrun h
theorem dJ(d:Nat)(v:Value)(h:wpList Tryz.prog ops Q rest (a.put (some d) v) w)(c:o.guard=none:=by rfl)(b:o.dst=some d:=by rfl)(hrun:(execOp a.eval o).run Tryz.prog w=.ok (.value v) w:=by kernel_rfl):wpList Tryz.prog ops Q (o :: rest) a w:=DE (some d) v c b hrun h
theorem vW(c:o.guard=none)(b:o.dst=none)(hrun:(execOp a.eval o).run Tryz.prog w=.ok .skip w1)(h:wpList Tryz.prog ops Q rest (a.put none undef) w1):wpList Tryz.prog ops Q (o :: rest) a w :=
 wpList_plain c fun K d=>by
  unfold Oper.wp;rw[hrun]
  show K (a.put o.dst undef) w1
  rw[b];exact d _ _ h
theorem oX{t:TypeId}{k q:Nat}(ho:o.op=.store t (.tmp k) (.tmp q))(hp:a.eval (.tmp k)=.pointer (some ⟨w.heap.size,0,none⟩))(hq:a.eval (.tmp q)=.agg c')(hi:(Tryz.prog.info? t).map (·.size)=some c'.size)(b:c.size=c'.size)(h1:c'.all (·.oneCell')=true):(execOp a.eval o).run Tryz.prog (w.alloc (.cells c t))=.ok .skip (w.alloc (.cells c' t)):=by
 simp only[execOp,ho,hp,hq,Sem.run_bind,run_storeAt_new w t c c' hi b h1,Result.andThen_ok,Sem.run_pure]
end
end
theorem oV {w:World}:Calls Tryz.prog 95 #[] w fun e w'=>e=.returned (.agg #[.int .i64 0,.int .u8 0,.int .u8 0,.int .i64 1,.int .u8 112,.int .u8 0,.int .i64 1,.int .u8 99,.int .u8 0,.int .i64 1,.int .u8 109,.int .u8 0,.int .i64 9,.int .u8 97,.int .u8 0,.int .i64 10,.int .u8 118,.int .u8 48,.int .i64 18,.int .u8 118,.int .u8 100,.int .i64 18,.int .u8 118,.int .u8 104,.int .i64 18,.int .u8 118,.int .u8 115,.int .i64 9,.int .u8 116,.int .u8 0,.int .i64 17,.int .u8 105,.int .u8 0,.int .i64 9,.int .u8 98,.int .u8 0,.int .i64 9,.int .u8 117,.int .u8 0,.int .i64 9,.int .u8 114,.int .u8 0,.int .i64 17,.int .u8 113,.int .u8 0,.int .i64 17,.int .u8 101,.int .u8 0,.int .i64 17,.int .u8 110,.int .u8 0,.int .i64 17,.int .u8 107,.int .u8 0])/\Below w.heap.size w w':=by
 go_enter Tryz.func95,Tryz.ntmps95;refine wp_seq ?_
 refine wp_region_lit ?_
 refine qS (some 0) (.pointer (some ⟨w.heap.size,0,none⟩)) rfl rfl (w1:=w.alloc (.cells #[.int .i64 0,.int .u8 0,.int .u8 0,.int .i64 0,.int .u8 0,.int .u8 0,.int .i64 0,.int .u8 0,.int .u8 0,.int .i64 0,.int .u8 0,.int .u8 0,.int .i64 0,.int .u8 0,.int .u8 0,.int .i64 0,.int .u8 0,.int .u8 0,.int .i64 0,.int .u8 0,.int .u8 0,.int .i64 0,.int .u8 0,.int .u8 0,.int .i64 0,.int .u8 0,.int .u8 0,.int .i64 0,.int .u8 0,.int .u8 0,.int .i64 0,.int .u8 0,.int .u8 0,.int .i64 0,.int .u8 0,.int .u8 0,.int .i64 0,.int .u8 0,.int .u8 0,.int .i64 0,.int .u8 0,.int .u8 0,.int .i64 0,.int .u8 0,.int .u8 0,.int .i64 0,.int .u8 0,.int .u8 0,.int .i64 0,.int .u8 0,.int .u8 0,.int .i64 0,.int .u8 0,.int .u8 0] 150)) (by kernel_rfl) ?_
 refine wpList_nil ?_
 refine wp_seq (x:=Code.region 1 _ false) ?_
 refine wp_region_lit ?_
 refine dJ 1 (.agg #[.int .u8 112,.int .u8 0]) ?_
 refine dJ 2 (.agg #[.int .i64 1,.int .u8 112,.int .u8 0]) ?_
 refine dJ 3 (.agg #[.int .u8 99,.int .u8 0]) ?_
 refine dJ 4 (.agg #[.int .i64 1,.int .u8 99,.int .u8 0]) ?_
 refine dJ 5 (.agg #[.int .u8 109,.int .u8 0]) ?_
 refine dJ 6 (.agg #[.int .i64 1,.int .u8 109,.int .u8 0]) ?_
 refine dJ 7 (.agg #[.int .u8 97,.int .u8 0]) ?_
 refine dJ 8 (.agg #[.int .i64 9,.int .u8 97,.int .u8 0]) ?_
 refine dJ 9 (.agg #[.int .u8 118,.int .u8 48]) ?_
 refine dJ 10 (.agg #[.int .i64 10,.int .u8 118,.int .u8 48]) ?_
 refine dJ 11 (.agg #[.int .u8 118,.int .u8 100]) ?_
 refine dJ 12 (.agg #[.int .i64 18,.int .u8 118,.int .u8 100]) ?_
 refine dJ 13 (.agg #[.int .u8 118,.int .u8 104]) ?_
 refine dJ 14 (.agg #[.int .i64 18,.int .u8 118,.int .u8 104]) ?_
 refine dJ 15 (.agg #[.int .u8 118,.int .u8 115]) ?_
 refine dJ 16 (.agg #[.int .i64 18,.int .u8 118,.int .u8 115]) ?_
 refine dJ 17 (.agg #[.int .u8 116,.int .u8 0]) ?_
 refine dJ 18 (.agg #[.int .i64 9,.int .u8 116,.int .u8 0]) ?_
 refine dJ 19 (.agg #[.int .u8 105,.int .u8 0]) ?_
 refine dJ 20 (.agg #[.int .i64 17,.int .u8 105,.int .u8 0]) ?_
 refine dJ 21 (.agg #[.int .u8 98,.int .u8 0]) ?_
 refine dJ 22 (.agg #[.int .i64 9,.int .u8 98,.int .u8 0]) ?_
 refine dJ 23 (.agg #[.int .u8 117,.int .u8 0]) ?_
 refine dJ 24 (.agg #[.int .i64 9,.int .u8 117,.int .u8 0]) ?_
 refine dJ 25 (.agg #[.int .u8 114,.int .u8 0]) ?_
 refine dJ 26 (.agg #[.int .i64 9,.int .u8 114,.int .u8 0]) ?_
 refine dJ 27 (.agg #[.int .u8 113,.int .u8 0]) ?_
 refine dJ 28 (.agg #[.int .i64 17,.int .u8 113,.int .u8 0]) ?_
 refine dJ 29 (.agg #[.int .u8 101,.int .u8 0]) ?_
 refine dJ 30 (.agg #[.int .i64 17,.int .u8 101,.int .u8 0]) ?_
 refine dJ 31 (.agg #[.int .u8 110,.int .u8 0]) ?_
 refine dJ 32 (.agg #[.int .i64 17,.int .u8 110,.int .u8 0]) ?_
 refine dJ 33 (.agg #[.int .u8 107,.int .u8 0]) ?_
 refine dJ 34 (.agg #[.int .i64 17,.int .u8 107,.int .u8 0]) ?_
 refine dJ 35 (.agg #[.int .i64 0,.int .u8 0,.int .u8 0,.int .i64 1,.int .u8 112,.int .u8 0,.int .i64 1,.int .u8 99,.int .u8 0,.int .i64 1,.int .u8 109,.int .u8 0,.int .i64 9,.int .u8 97,.int .u8 0,.int .i64 10,.int .u8 118,.int .u8 48,.int .i64 18,.int .u8 118,.int .u8 100,.int .i64 18,.int .u8 118,.int .u8 104,.int .i64 18,.int .u8 118,.int .u8 115,.int .i64 9,.int .u8 116,.int .u8 0,.int .i64 17,.int .u8 105,.int .u8 0,.int .i64 9,.int .u8 98,.int .u8 0,.int .i64 9,.int .u8 117,.int .u8 0,.int .i64 9,.int .u8 114,.int .u8 0,.int .i64 17,.int .u8 113,.int .u8 0,.int .i64 17,.int .u8 101,.int .u8 0,.int .i64 17,.int .u8 110,.int .u8 0,.int .i64 17,.int .u8 107,.int .u8 0]) ?_
 refine vW rfl rfl (oX (k:=0) (q:=35) (c':=#[.int .i64 0,.int .u8 0,.int .u8 0,.int .i64 1,.int .u8 112,.int .u8 0,.int .i64 1,.int .u8 99,.int .u8 0,.int .i64 1,.int .u8 109,.int .u8 0,.int .i64 9,.int .u8 97,.int .u8 0,.int .i64 10,.int .u8 118,.int .u8 48,.int .i64 18,.int .u8 118,.int .u8 100,.int .i64 18,.int .u8 118,.int .u8 104,.int .i64 18,.int .u8 118,.int .u8 115,.int .i64 9,.int .u8 116,.int .u8 0,.int .i64 17,.int .u8 105,.int .u8 0,.int .i64 9,.int .u8 98,.int .u8 0,.int .i64 9,.int .u8 117,.int .u8 0,.int .i64 9,.int .u8 114,.int .u8 0,.int .i64 17,.int .u8 113,.int .u8 0,.int .i64 17,.int .u8 101,.int .u8 0,.int .i64 17,.int .u8 110,.int .u8 0,.int .i64 17,.int .u8 107,.int .u8 0]) (by kernel_rfl) (by kernel_rfl) (by kernel_rfl) (by kernel_rfl) rfl (by kernel_rfl)) ?_
 refine wpList_nil ?_
 refine wp_ret ?_
 refine bodyPost_ret (results_cell_row rfl _ _ w.heap.size 150 _ _ (.array 18 95) (by kernel_rfl) (heap_alloc_new _ _) (by kernel_rfl) rfl (by kernel_rfl)) rfl ?_
 exact⟨rfl,ai _ _⟩
section
variable {ops:Array Oper} {rest:List Oper} {o:Oper} {a:Act} {w w1:World} {Q:Exit->Act->World->Prop}
theorem CT (d:Option Tmp) (f:FuncId) (args:Array Value) (g:o.guard=none) (c:o.dst=d) (hrun:(execOp a.eval o).run Tryz.prog w=.ok (.enter f args) w) {b:Ending->World->Prop} (hc:Calls Tryz.prog f args w b) (h:∀ e w',b e w'->∃ v,e=.returned v/\wpList Tryz.prog ops Q rest (a.put d v) w'):wpList Tryz.prog ops Q (o :: rest) a w :=
 wpList_plain g fun K i=>by
  unfold Oper.wp;rw[hrun,Oper.upon_enter];refine hc.mono ?_
  intro e w' hq;obtain⟨v,rfl,hv⟩:=h e w' hq;subst c;exact i _ _ hv
end
section
variable {w:World}{g:Nat}{tmps:Array Value}{v:Value}
theorem bQ{p:Prop}(h:p):Hid p:=h
theorem mU:gQ.toArray=#[.int .i64 0,.int .u8 0,.int .u8 0,.int .i64 1,.int .u8 112,.int .u8 0,.int .i64 1,.int .u8 99,.int .u8 0,.int .i64 1,.int .u8 109,.int .u8 0,.int .i64 9,.int .u8 97,.int .u8 0,.int .i64 10,.int .u8 118,.int .u8 48,.int .i64 18,.int .u8 118,.int .u8 100,.int .i64 18,.int .u8 118,.int .u8 104,.int .i64 18,.int .u8 118,.int .u8 115,.int .i64 9,.int .u8 116,.int .u8 0,.int .i64 17,.int .u8 105,.int .u8 0,.int .i64 9,.int .u8 98,.int .u8 0,.int .i64 9,.int .u8 117,.int .u8 0,.int .i64 9,.int .u8 114,.int .u8 0,.int .i64 17,.int .u8 113,.int .u8 0,.int .i64 17,.int .u8 101,.int .u8 0,.int .i64 17,.int .u8 110,.int .u8 0,.int .i64 17,.int .u8 107,.int .u8 0]:=rfl
theorem rX:∀ k:Nat,k < 18->gQ[k * 3]?=some (.int .i64 (frm k).1)/\gQ[k * 3+1]?=some (.int .u8 (frm k).2.1)/\gQ[k * 3+2]?=some (.int .u8 (frm k).2.2):=by
 intro k hk
 match k,hk with
 | 0,_=>exact⟨rfl,rfl,rfl⟩
 | 1,_=>exact⟨rfl,rfl,rfl⟩
 | 2,_=>exact⟨rfl,rfl,rfl⟩
 | 3,_=>exact⟨rfl,rfl,rfl⟩
 | 4,_=>exact⟨rfl,rfl,rfl⟩
 | 5,_=>exact⟨rfl,rfl,rfl⟩
 | 6,_=>exact⟨rfl,rfl,rfl⟩
 | 7,_=>exact⟨rfl,rfl,rfl⟩
 | 8,_=>exact⟨rfl,rfl,rfl⟩
 | 9,_=>exact⟨rfl,rfl,rfl⟩
 | 10,_=>exact⟨rfl,rfl,rfl⟩
 | 11,_=>exact⟨rfl,rfl,rfl⟩
 | 12,_=>exact⟨rfl,rfl,rfl⟩
 | 13,_=>exact⟨rfl,rfl,rfl⟩
 | 14,_=>exact⟨rfl,rfl,rfl⟩
 | 15,_=>exact⟨rfl,rfl,rfl⟩
 | 16,_=>exact⟨rfl,rfl,rfl⟩
 | 17,_=>exact⟨rfl,rfl,rfl⟩
 | n+18,h=>omega
theorem zh{k:Nat}(hb:Blk w g gQ 150)(h:k < 18):w.cell? ⟨g,k * 3,none⟩=some (.int .i64 (frm k).1)/\w.cell? ⟨g,k * 3+1,none⟩=some (.int .u8 (frm k).2.1)/\w.cell? ⟨g,k * 3+2,none⟩=some (.int .u8 (frm k).2.2):=by
 obtain⟨a,b,c⟩:=rX k h;exact⟨hb.cell a,hb.cell b,hb.cell c⟩
theorem BJ{x0 x1 x2:Value}{t:TypeId}(h:Blk w g [x0,x1,x2] t)(y0 y1 a:Value):Blk (((w.setCell ⟨g,0,none⟩ y0).setCell ⟨g,1,none⟩ y1).setCell ⟨g,2,none⟩ a) g [y0,y1,a] t:=((h.setCell (i:=0) y0).setCell (i:=1) y1).setCell (i:=2) a
theorem qf{x y z:Value}(h:Blk w g [x,y,z] 95):(loadVar 95 ⟨g,0,none⟩).run Tryz.prog w=.ok (.agg #[x,y,z]) w:=by
 have c0:=h.cell (i:=0) rfl;have c1:=h.cell (i:=1) rfl;have c2:=h.cell (i:=2) rfl;go_simp
theorem eD{fn:Func}{p:Tmp}{ty:TypeId}(h:fn.results=#[.cell p ty])(hp:tmps.getD p undef=.pointer (some ⟨g,0,none⟩))(b:(loadVar ty ⟨g,0,none⟩).run Tryz.prog w=.ok v w):(results fn tmps).run Tryz.prog w=.ok v w:=by
 have a:tmps[p]?.getD undef=.pointer (some ⟨g,0,none⟩):=by simpa using hp
 simp[results,h,a,asAddr,b]
theorem pR{W:World}{r:Nat}(h:Below r w W)(x y z:Value):Below r w (((W.setCell ⟨r,0,none⟩ x).setCell ⟨r,1,none⟩ y).setCell ⟨r,2,none⟩ z) :=
 ((h.setCell (Nat.le_refl _) _).setCell (Nat.le_refl _) _).setCell (Nat.le_refl _) _
theorem mT{k:Int}:Calls Tryz.prog 42 #[.int .i64 k] w fun e w'=>e=.returned (fv (frm k))/\Below w.heap.size w w':=by
 go_enter Tryz.func42,Tryz.ntmps42;refine wp_seq ?_
 refine wp_region_lit ?_
 refine qS (some 2) (.pointer (some ⟨w.heap.size,0,none⟩)) rfl rfl (w1:=w.alloc (.cells #[.int .i64 0,.int .u8 0,.int .u8 0] 95)) (by kernel_rfl) ?_
 refine wpList_nil ?_
 refine wp_seq (x:=Code.region 1 _ false) ?_
 refine wp_region_lit ?_
 refine CT (some 4) 95 #[] rfl rfl (by kernel_rfl) oV ?_
 rintro e w1 ⟨rfl,d⟩;refine⟨_,rfl,?_⟩;refine qS (some 3) (.pointer (some ⟨w1.heap.size,0,none⟩)) rfl rfl (w1:=w1.alloc (.cells #[.int .i64 0,.int .u8 0,.int .u8 0,.int .i64 0,.int .u8 0,.int .u8 0,.int .i64 0,.int .u8 0,.int .u8 0,.int .i64 0,.int .u8 0,.int .u8 0,.int .i64 0,.int .u8 0,.int .u8 0,.int .i64 0,.int .u8 0,.int .u8 0,.int .i64 0,.int .u8 0,.int .u8 0,.int .i64 0,.int .u8 0,.int .u8 0,.int .i64 0,.int .u8 0,.int .u8 0,.int .i64 0,.int .u8 0,.int .u8 0,.int .i64 0,.int .u8 0,.int .u8 0,.int .i64 0,.int .u8 0,.int .u8 0,.int .i64 0,.int .u8 0,.int .u8 0,.int .i64 0,.int .u8 0,.int .u8 0,.int .i64 0,.int .u8 0,.int .u8 0,.int .i64 0,.int .u8 0,.int .u8 0,.int .i64 0,.int .u8 0,.int .u8 0,.int .i64 0,.int .u8 0,.int .u8 0] 150)) (by kernel_rfl) ?_
 refine vW rfl rfl (oX (k:=3) (q:=4) (c':=#[.int .i64 0,.int .u8 0,.int .u8 0,.int .i64 1,.int .u8 112,.int .u8 0,.int .i64 1,.int .u8 99,.int .u8 0,.int .i64 1,.int .u8 109,.int .u8 0,.int .i64 9,.int .u8 97,.int .u8 0,.int .i64 10,.int .u8 118,.int .u8 48,.int .i64 18,.int .u8 118,.int .u8 100,.int .i64 18,.int .u8 118,.int .u8 104,.int .i64 18,.int .u8 118,.int .u8 115,.int .i64 9,.int .u8 116,.int .u8 0,.int .i64 17,.int .u8 105,.int .u8 0,.int .i64 9,.int .u8 98,.int .u8 0,.int .i64 9,.int .u8 117,.int .u8 0,.int .i64 9,.int .u8 114,.int .u8 0,.int .i64 17,.int .u8 113,.int .u8 0,.int .i64 17,.int .u8 101,.int .u8 0,.int .i64 17,.int .u8 110,.int .u8 0,.int .i64 17,.int .u8 107,.int .u8 0]) (by kernel_rfl) (by kernel_rfl) (by kernel_rfl) (by kernel_rfl) rfl (by kernel_rfl)) ?_
 refine wpList_nil ?_
 rw[<- mU];have b0:=aJ w [.int .i64 0,.int .u8 0,.int .u8 0] 95;have c0:=ai w (.cells #[.int .i64 0,.int .u8 0,.int .u8 0] 95);have l:=aJ w1 gQ 150;have c2:=ai w1 (.cells gQ.toArray 150);have j:=aj (aj c0 d) c2;have b1:=(b0.keep d).keep c2;obtain⟨r,b⟩:∃ r,Hid (w.heap.size=r):=⟨_,rfl⟩
 generalize w1.alloc (.cells gQ.toArray 150)=W at *;generalize hg:w1.heap.size=g at *;generalize Value.agg gQ.toArray=o;rw[b.out] at b1 ⊢;simp only[Act.put,List.setIfInBounds_toArray,List.set_cons_zero,List.set_cons_succ];have r0:=b1.cell (i:=0) rfl;have r1:=b1.cell (i:=1) rfl;have u:=b1.cell (i:=2) rfl;have f0:=b1.free 0;have f1:=b1.free 1;have f2:=b1.free 2;have H1:=bQ b1;have f:=bQ j;have m:=bQ l;clear b0 c0 d c2 hg b1 j l;refine(show Code.wp _ _ _ _ _ from ?_);by_cases s:k < 0
 ·have c:frm k=(0,0,0):=if_neg (by omega);rw[c];go_wp2;refine bodyPost_ret (eD rfl rfl (qf (BJ H1.out _ _ _))) rfl ?_
  exact⟨rfl,pR (by have:=f.out;rw[b.out] at this;exact this) _ _ _⟩
 ·by_cases t:k < 18
  ·obtain⟨n,rfl⟩:∃ n:Nat,k=n:=⟨k.toNat,by omega⟩
   obtain⟨q0,q1,p⟩:=zh m.out (k:=n) (by omega);go_wp2;refine bodyPost_ret (eD rfl rfl (qf (BJ H1.out _ _ _))) rfl ?_
   exact⟨rfl,pR (by have:=f.out;rw[b.out] at this;exact this) _ _ _⟩
  ·have c:frm k=(0,0,0):=if_neg (by omega);rw[c];go_wp2;refine bodyPost_ret (eD rfl rfl (qf (BJ H1.out _ _ _))) rfl ?_
   exact⟨rfl,pR (by have:=f.out;rw[b.out] at this;exact this) _ _ _⟩
end
end Ky
end
section
namespace Ky
open Kv (dS)
open Go.RowKit Go.Lib Pg
attribute [local go_sem] Oper.semAt_some
section
variable {w:World}{D:Nat->Prop}{v:Value}{l L:List Int}{x a n y:Int}
def be:Nat->Int->List Int
 | 0,_=>[]
 | n+1,x=>x / 256 ^ n % 256 :: be n x
theorem bC:∀ (n:Nat) (x:Int),(be n x).length=n
 | 0,_=>rfl
 | n+1,x=>by rw[be,List.length_cons,bC n x]
theorem iE:∀ (n j:Nat) (x:Int),j < n->(be n x).take (j+1)=(be n x).take j ++ [x / 256 ^ (n - 1 - j) % 256]
 | 0,j,x,h=>by omega
 | n+1,0,x,h=>by simp[be]
 | n + 1,j + 1,x,h=>by
  have ih:=iE n j x (by omega);rw[be,List.take_succ_cons,List.take_succ_cons,ih,List.cons_append]
  have e:n+1 - 1 - (j+1)=n - 1 - j:=by omega
  rw[e]
theorem pow8(h:Nat):(256:Int) ^ h=2 ^ (8 * h):=by rw[Int.pow_mul];rfl
theorem OB.sh(h:OB w D v l):∃ ao c,v=.slice ao l.length c:=by
 rcases h.ex with⟨rfl,rfl⟩ | ⟨b,c,rfl,_⟩
 ·exact⟨none,0,rfl⟩
 ·exact⟨_,c,rfl⟩
theorem db{B:Nat}(d:OB w (B <= ·) v L)(r:B<=w.heap.size)(E:L.length<=100000) :
  Calls Tryz.prog 47 #[v,.int .u64 x] w fun e w'=>∃ v',e=.returned v'/\OB w' (B <= ·) v' (L ++ be 8 x)/\Below B w w':=by
 have s:=bQ d;have o:=bQ r;clear d r;go_enter Tryz.func47,Tryz.ntmps47;go_wp2_with fail;go_loopw [0,6] (fun t n wr=>∃ j:Nat,j<=8/\n=.int .i64 j/\Hid (OB wr (B <= ·) t (L ++ (be 8 x).take j))/\Hid (Below B w wr)) (fun _ n _=>8 - (intOf n).toNat)
 case atStart=>exact⟨0,Nat.zero_le _,rfl,by rw[List.take_zero,List.append_nil];exact s,Below.refl _ _⟩
 case round =>
  obtain⟨j,F,rfl,b,c⟩:=hrel;by_cases l:j < 8
  ·obtain⟨h,H⟩:∃ h:Nat,(7:Int) - j=h:=⟨7 - j,by omega⟩
   have g:8 - 1 - j=h:=by omega
   have u:h < 8:=by omega
   have C:Hid ((be 8 x).take (j+1)=(be 8 x).take j ++ [x / 2 ^ (8 * h) % 256]):=by
    show _=_
    rw[iE 8 j x l,g,pow8]
   have hle:(L ++ (be 8 x).take j).length<=1000000000:=by rw[List.length_append,List.length_take,bC];omega
   obtain⟨v1,G,f,i,hS⟩:=dS (x:=x / 2 ^ (8 * h) % 256) b.out (Nat.le_trans o.out c.out.size) hle ⟨Int.emod_nonneg _ (by decide),Int.emod_lt_of_pos _ (by decide)⟩;obtain⟨I,D,rfl⟩:=OB.sh b.out;obtain⟨a1,c1,rfl⟩:=OB.sh i;generalize d:L ++ (be 8 x).take j=M at *;generalize hq:M.length=q at *;have z:=bQ i;have A:=bQ hS;have y:=bQ f;have m:=bQ d;clear i hS f hle d hq g;have f:=y.out;go_wp2_with (at_builtin;refine Lib.wpList_append_run _ rfl _ _ _ _ rfl _ _ rfl rfl _ _ f ?_;clear f);go_roundw
   case rel =>
    refine⟨j+1,by omega,by go_num,?_,c.out.trans A.out⟩;rw[C.out,<- List.append_assoc,m.out];have p:=z.out;rw[show (M ++ [x / 2 ^ (8 * h) % 256]).length=M.length+1 by simp] at p;exact p
   case measure=>simp[intOf];omega
  ·obtain rfl:j=8:=by omega
   rw[List.take_of_length_le (by rw[bC];omega)] at b;go_wp2;go_ret;exact⟨_,rfl,b.out,c.out⟩
theorem not64(n:Nat)(h:n < 2 ^ 64):(2 ^ 64 - 1) ^^^ n=2 ^ 64 - (n+1):=by
 apply Nat.eq_of_testBit_eq;intro i;rw[Nat.testBit_xor,Nat.testBit_two_pow_sub_one,Nat.testBit_two_pow_sub_succ h];by_cases hi:i < 64
 ·simp[hi]
 ·have:n.testBit i=false:=Nat.testBit_lt_two_pow (Nat.lt_of_lt_of_le h (Nat.pow_le_pow_right (by decide) (by omega)));simp[hi,this]
theorem not64i(b:0<=a)(h1:a < 18446744073709551616):bits .xor .u64 IntKind.u64.max a=18446744073709551615 - a:=by
 obtain⟨n,rfl⟩:=Int.eq_ofNat_of_zero_le b
 have e:IntKind.u64.max=((18446744073709551615:Nat):Int):=by kernel_rfl
 rw[e,bits_xor_u64_nat _ _ (by omega) (by omega)];have:=not64 n (by omega);rw[show (18446744073709551615:Nat)=2 ^ 64 - 1 by decide,this];omega
theorem nT{k:Int}(b:0<=a)(h1:a < 18446744073709551616):Calls Tryz.prog 46 #[.int .i64 k,.int .u64 a] w fun e w'=>e=.returned (.int .u64 (if k=10 then 18446744073709551615 - a else a))/\w'=w:=by
 by_cases h:k=10
 ·subst h;rw[if_pos rfl];go_enter Tryz.func46,Tryz.ntmps46;go_wp2;go_ret;refine⟨?_,rfl⟩
  show Ending.returned (.int .u64 (bits .xor .u64 IntKind.u64.max a))=_
  rw[not64i b h1]
 ·rw[if_neg h];go_enter Tryz.func46,Tryz.ntmps46;go_wp2;go_ret;exact⟨rfl,rfl⟩
theorem iL:Calls Tryz.prog 43 #[.agg #[.int .i64 n,.int .u8 x,.int .u8 y]] w fun e w'=>e=.returned (.bool (decide (8 < n)))/\Below w.heap.size w w':=by
 go_enter Tryz.func43,Tryz.ntmps43;go_wp2;go_ret;exact⟨rfl,ai _ _⟩
theorem oG:Calls Tryz.prog 44 #[.agg #[.int .i64 n,.int .u8 x,.int .u8 y]] w fun e w'=>e=.returned (.bool (decide (16 < n)))/\Below w.heap.size w w':=by
 go_enter Tryz.func44,Tryz.ntmps44;go_wp2;go_ret;exact⟨rfl,ai _ _⟩
end
end Ky
end
section
namespace Ky
open Kv (uD dS jW)
open Go.RowKit Go.Lib Pg
attribute [local go_sem] Oper.semAt_some
section
variable {w:World}{a:Act}{o:Oper}{x n g:Nat}{v:Int}
theorem cQ(w:World):Below w.heap.size w w.drew:=⟨rfl,rfl,rfl,Nat.le_refl _,fun _ _=>rfl⟩
theorem uP(n:Nat)(hn:n<=1000):∃ w',(Instr.makeSlice 42 (.int .i64 0) (.int .i64 n)).run Tryz.prog w=.ok (.slice (some ⟨w.heap.size,0,none⟩) 0 n) w'/\OB w' (w.heap.size <= ·) (.slice (some ⟨w.heap.size,0,none⟩) 0 n) []/\Below w.heap.size w w':=by
 obtain⟨i,hi,b,d,c⟩:=info_parts KB.inf;have a:=run_make (P:=Tryz.prog) w 42 5 i (.int .u8 0) KB.und hi b .i64 .i64 0 (n:Int) (by omega) (by omega) (by rw[c];omega) (by omega);refine⟨_,by simpa using a,⟨fun _ h=>by simp at h,.inr ⟨_,n,rfl,Nat.le_refl _,⟨(madeCells (Value.int .u8 0).cells (n * i.size)).toList,?_,rfl,?_,Nat.zero_le _,by simp only[maxLen];omega⟩⟩⟩,ai w _⟩
 ·exact⟨by simp only[List.map_nil,List.nil_append,Array.toArray_toList];exact heap_alloc_new _ _⟩
 ·simp[size_madeCells,d]
theorem vi{w':World}{v:Value}(hr:(Instr.makeSlice 42 (.int .i64 0) (.int .i64 n)).run Tryz.prog w=.ok v w')(ho:o.op=.makeSlice 42 (.const (.int .i64 0)) (.tmp x):=by kernel_rfl)(hx:a.eval (.tmp x)=.int .i64 n:=by kernel_rfl):(execOp a.eval o).run Tryz.prog w=.ok (.value v) w':=by
 have b:a.eval (.const (.int .i64 0))=.int .i64 0:=rfl;simp only[execOp,ho,hx,b];simp[hr,Result.andThen]
theorem zG{m:Int}(ho:o.op=.buildSlice 42 1 #[(0,.tmp x)])(hx:a.eval (.tmp x)=.int .u8 m):(execOp a.eval o).run Tryz.prog w=.ok (.value (.slice (some ⟨w.heap.size,0,none⟩) 1 1)) (w.alloc (.cells #[.int .u8 m] 5)):=by
 have b:a.tmps[x]?.getD undef=.int .u8 m:=by simpa[Act.eval] using hx
 simp only[execOp,ho];go_simp
theorem jz{o:Nat}(c:w.cell? ⟨g,o,none⟩=some (.int .i64 v)):(loadVar 3 ⟨g,o,none⟩).run Tryz.prog w=.ok (.int .i64 v) w:=by go_simp
theorem ld_u8{o:Nat}(c:w.cell? ⟨g,o,none⟩=some (.int .u8 v)):(loadVar 5 ⟨g,o,none⟩).run Tryz.prog w=.ok (.int .u8 v) w:=by go_simp
def mkb(f:Int × Int × Int)(a:Int):List Int:=[f.2.1] ++ (if 8 < f.1 then be 8 a else []) ++ (if f.2.2=0 then [] else [f.2.2])
theorem xf{m0 m1 a:Int}(hn:n<=1000)(h0:0<=m0/\m0 < 256)(h1:0<=m1/\m1 < 256) :
  Calls Tryz.prog 45 #[.agg #[.int .i64 n,.int .u8 m0,.int .u8 m1],.int .u64 a] w fun e w'=>∃ v,e=.returned v/\OB w' (w.heap.size <= ·) v (mkb (n,m0,m1) a)/\Below w.heap.size w w':=by
 have H0:=bQ h0;have H1:=bQ h1;clear h0 h1;go_enter Tryz.func45,Tryz.ntmps45;go_wp2_with fail;have kq:=aJ w [.int .i64 n,.int .u8 m0,.int .u8 m1] 95;have bq:=ai w (.cells #[.int .i64 n,.int .u8 m0,.int .u8 m1] 95)
 have K:(w.alloc (.cells #[.int .i64 n,.int .u8 m0,.int .u8 m1] 95)).heap.size=w.heap.size+1:=by simp
 generalize w.alloc (.cells #[.int .i64 n,.int .u8 m0,.int .u8 m1] 95)=X at *;generalize hq:w.heap.size=q at *;have hS:=kq.drew;refine cZ (S:=fun w'=>Blk w' q [.int .i64 n,.int .u8 m0,.int .u8 m1] 95) (by kernel_rfl) hS ?_
 refine aK 0 6 (.pointer (some ⟨q,0,none⟩)) hS ?_
 refine bh 1 (some 7) (.int .i64 n) 3 6 q 0 (fun w' h=>jz (h.cell (i:=0) rfl)) hS ?_
 refine aK 3 9 (.pointer (some ⟨q,1,none⟩)) hS ?_
 refine aK 4 10 (.pointer (some ⟨q,1,none⟩)) hS ?_
 refine bh 5 (some 11) (.int .u8 m0) 5 10 q 1 (fun w' h=>ld_u8 (h.cell (i:=1) rfl)) hS ?_
 have Xd:X.drew.heap.size=q+1:=K;obtain⟨Z,T,O3,b3⟩:=uP (w:=X.drew) n hn;have b4:=ai Z (.cells #[.int .u8 m0] 5);obtain⟨v5,w5,V,O5,B5⟩:=uD (B:=q+1) (p:=Z.heap.size) (x:=m0) ((O3.mono (D':=(q+1 <= ·)) (fun b _ h=>by omega)).keep b4) (by have:=b3.size;have:=b4.size;omega) (by simp) H0.out ((aJ Z [.int .u8 m0] 5).cell (i:=0) rfl);obtain⟨a5,c5,rfl⟩:=OB.sh O5;have k3:=hS.keep b3;have k4:=k3.keep b4;have k5:=k4.lG B5 (by omega)
 have d5:Below (q+1) X w5:=((cQ X).mono (Nat.le_of_eq K.symm)).trans (((aj b3 b4).mono (Nat.le_of_eq Xd.symm)).trans B5);have c:=ai X.drew (.cells #[.int .u8 m0] 5);obtain⟨w7,O,O7,b7⟩:=uP (w:=X.drew.alloc (.cells #[.int .u8 m0] 5)) n hn;obtain⟨v8,w8,P,O8,B8⟩:=uD (B:=q+1) (p:=X.drew.heap.size) (x:=m0) (O7.mono (D':=(q+1 <= ·)) (fun b _ h=>by have:=c.size;omega)) (by have:=c.size;have:=b7.size;omega) (by simp) H0.out (((aJ X.drew [.int .u8 m0] 5).keep b7).cell (i:=0) rfl);obtain⟨a8,c8,rfl⟩:=OB.sh O8;have k6:=hS.keep c;have k7:=k6.keep b7;have k8:=k7.lG B8 (by omega)
 have d8:Below (q+1) X w8:=((cQ X).mono (Nat.le_of_eq K.symm)).trans (((aj c b7).mono (Nat.le_of_eq Xd.symm)).trans B8);refine aR [2,6] (bO 2 (some 8) (.slice (some ⟨X.drew.heap.size,0,none⟩) 0 n) Z (vi (x:=7) T) k3 ?_ (bO 6 (some 12) (.slice (some ⟨X.drew.heap.size,0,none⟩) 1 1) (X.drew.alloc (.cells #[.int .u8 m0] 5)) (zG (x:=11) (by kernel_rfl) (by kernel_rfl)) k6 ?_ bE))
 ·refine aR [6] (bO 6 (some 12) (.slice (some ⟨Z.heap.size,0,none⟩) 1 1) (Z.alloc (.cells #[.int .u8 m0] 5)) (zG (x:=11) (by kernel_rfl) (by kernel_rfl)) k4 ?_ bE);refine aR [7] (bO 7 (some 13) (.slice a5 ([] ++ [m0]).length c5) w5 (jW (x:=8) (y:=12) rfl V) k5 ?_ bE);refine aK 8 5 (.slice a5 ([] ++ [m0]).length c5) k5 ?_
  refine bW ?_
  simp only[Act.put,List.setIfInBounds_toArray,List.set_cons_zero,List.set_cons_succ];have I:=bQ O5;have D:=bQ k5;have J:=bQ d5
  have f:q+1<=w5.heap.size:=by have:=d5.size;omega
  have r:=bQ hq;have o:=bQ bq;have HXS:=bQ K;clear hS Xd T O3 b3 b4 V O5 B5 k3 k4 k5 d5 c O O7 b7 P O8 B8 k6 k7 k8 d8 kq bq hq K;have q0:=D.out.cell (i:=0) rfl;have q1:=D.out.cell (i:=1) rfl;have q2:=D.out.cell (i:=2) rfl;have s:=iL (w:=w5) (n:=n) (x:=m0) (y:=m1);by_cases u:8 < n
  ·by_cases hm:m1=0
   ·have z:Hid (mkb ((n:Int),m0,m1) a=([] ++ [m0]) ++ be 8 a):=by have l:((8:Int) < n):=(by omega); show _=_; simp[mkb,l,hm]
    have u:(8:Int) < n:=by omega
    rw[decide_eq_true u] at s;subst hm;go_wp2_with first
     | (go_at_call 43;refine s.mono ?_;rintro e C ⟨rfl,c⟩;have j:=D.out.keep c;have Y:=j.cell (i:=0) rfl;have p1:=j.cell (i:=1) rfl;have L:=j.cell (i:=2) rfl;have F:=J.out.trans (c.mono f);have E:=I.out.keep c;have t:q+1<=C.heap.size:=Nat.le_trans f c.size)
     | (go_at_call 47;refine(db (x:=a) E t (by simp)).mono ?_;rintro e U ⟨v9,rfl,H,A⟩;obtain⟨a9,c9,rfl⟩:=OB.sh H;have z9:=j.lG A (Nat.lt_succ_self q);have r1:=z9.cell (i:=1) rfl;have r2:=z9.cell (i:=2) rfl;have R:=F.trans A;have s9:q+1<=U.heap.size:=Nat.le_trans t A.size)
    go_ret;exact⟨_,rfl,by rw[z.out];exact H.mono (fun b _ h=>by have:=r.out;omega),by have G:=R;rw[r.out];exact o.out.trans (G.mono (Nat.le_succ q))⟩
   ·have z:Hid (mkb ((n:Int),m0,m1) a=([] ++ [m0]) ++ be 8 a ++ [m1]):=by have l:((8:Int) < n):=(by omega); show _=_; simp[mkb,l,hm]
    have u:(8:Int) < n:=by omega
    rw[decide_eq_true u] at s
    have Q:m1≠0:=hm;go_wp2_with first
     | (go_at_call 43;refine s.mono ?_;rintro e C ⟨rfl,c⟩;have j:=D.out.keep c;have Y:=j.cell (i:=0) rfl;have p1:=j.cell (i:=1) rfl;have L:=j.cell (i:=2) rfl;have F:=J.out.trans (c.mono f);have E:=I.out.keep c;have t:q+1<=C.heap.size:=Nat.le_trans f c.size)
     | (go_at_call 47;refine(db (x:=a) E t (by simp)).mono ?_;rintro e U ⟨v9,rfl,H,A⟩;obtain⟨a9,c9,rfl⟩:=OB.sh H;have z9:=j.lG A (Nat.lt_succ_self q);have r1:=z9.cell (i:=1) rfl;have r2:=z9.cell (i:=2) rfl;have R:=F.trans A;have s9:q+1<=U.heap.size:=Nat.le_trans t A.size;obtain⟨v10,W,g,d,m⟩:=dS (x:=m1) H s9 (by simp[bC]) H1.out;obtain⟨M,N,rfl⟩:=OB.sh d;replace d:=bQ d;replace m:=bQ m)
     | (at_builtin;refine Lib.wpList_append_run _ rfl _ _ _ _ rfl _ _ rfl rfl _ _ g ?_;clear g)
    go_ret;exact⟨_,rfl,by rw[z.out];exact d.out.mono (fun b _ h=>by have:=r.out;omega),by have G:=R.trans m.out;rw[r.out];exact o.out.trans (G.mono (Nat.le_succ q))⟩
  ·by_cases hm:m1=0
   ·have z:Hid (mkb ((n:Int),m0,m1) a=([] ++ [m0])):=by have l:¬ ((8:Int) < n):=(by omega); show _=_; simp[mkb,l,hm]
    have u:¬ ((8:Int) < n):=by omega
    rw[decide_eq_false u] at s;subst hm;go_wp2_with first
     | (go_at_call 43;refine s.mono ?_;rintro e C ⟨rfl,c⟩;have j:=D.out.keep c;have Y:=j.cell (i:=0) rfl;have p1:=j.cell (i:=1) rfl;have L:=j.cell (i:=2) rfl;have F:=J.out.trans (c.mono f);have E:=I.out.keep c;have t:q+1<=C.heap.size:=Nat.le_trans f c.size)
    go_ret;exact⟨_,rfl,by rw[z.out];exact E.mono (fun b _ h=>by have:=r.out;omega),by have G:=F;rw[r.out];exact o.out.trans (G.mono (Nat.le_succ q))⟩
   ·have z:Hid (mkb ((n:Int),m0,m1) a=([] ++ [m0]) ++ [m1]):=by have l:¬ ((8:Int) < n):=(by omega); show _=_; simp[mkb,l,hm]
    have u:¬ ((8:Int) < n):=by omega
    rw[decide_eq_false u] at s
    have Q:m1≠0:=hm;go_wp2_with first
     | (go_at_call 43;refine s.mono ?_;rintro e C ⟨rfl,c⟩;have j:=D.out.keep c;have Y:=j.cell (i:=0) rfl;have p1:=j.cell (i:=1) rfl;have L:=j.cell (i:=2) rfl;have F:=J.out.trans (c.mono f);have E:=I.out.keep c;have t:q+1<=C.heap.size:=Nat.le_trans f c.size;obtain⟨v10,W,g,d,m⟩:=dS (x:=m1) E t (by simp) H1.out;obtain⟨M,N,rfl⟩:=OB.sh d;replace d:=bQ d;replace m:=bQ m)
     | (at_builtin;refine Lib.wpList_append_run _ rfl _ _ _ _ rfl _ _ rfl rfl _ _ g ?_;clear g)
    go_ret;exact⟨_,rfl,by rw[z.out];exact d.out.mono (fun b _ h=>by have:=r.out;omega),by have G:=F.trans m.out;rw[r.out];exact o.out.trans (G.mono (Nat.le_succ q))⟩
 ·refine aR [2] (bO 2 (some 8) (.slice (some ⟨(X.drew.alloc (.cells #[.int .u8 m0] 5)).heap.size,0,none⟩) 0 n) w7 (vi (x:=7) O) k7 ?_ bE);refine aR [7] (bO 7 (some 13) (.slice a8 ([] ++ [m0]).length c8) w8 (jW (x:=8) (y:=12) rfl P) k8 ?_ bE);refine aK 8 5 (.slice a8 ([] ++ [m0]).length c8) k8 ?_
  refine bW ?_
  simp only[Act.put,List.setIfInBounds_toArray,List.set_cons_zero,List.set_cons_succ];have I:=bQ O8;have D:=bQ k8;have J:=bQ d8
  have f:q+1<=w8.heap.size:=by have:=d8.size;omega
  have r:=bQ hq;have o:=bQ bq;have HXS:=bQ K;clear hS Xd T O3 b3 b4 V O5 B5 k3 k4 k5 d5 c O O7 b7 P O8 B8 k6 k7 k8 d8 kq bq hq K;have q0:=D.out.cell (i:=0) rfl;have q1:=D.out.cell (i:=1) rfl;have q2:=D.out.cell (i:=2) rfl;have s:=iL (w:=w8) (n:=n) (x:=m0) (y:=m1);by_cases u:8 < n
  ·by_cases hm:m1=0
   ·have z:Hid (mkb ((n:Int),m0,m1) a=([] ++ [m0]) ++ be 8 a):=by have l:((8:Int) < n):=(by omega); show _=_; simp[mkb,l,hm]
    have u:(8:Int) < n:=by omega
    rw[decide_eq_true u] at s;subst hm;go_wp2_with first
     | (go_at_call 43;refine s.mono ?_;rintro e C ⟨rfl,c⟩;have j:=D.out.keep c;have Y:=j.cell (i:=0) rfl;have p1:=j.cell (i:=1) rfl;have L:=j.cell (i:=2) rfl;have F:=J.out.trans (c.mono f);have E:=I.out.keep c;have t:q+1<=C.heap.size:=Nat.le_trans f c.size)
     | (go_at_call 47;refine(db (x:=a) E t (by simp)).mono ?_;rintro e U ⟨v9,rfl,H,A⟩;obtain⟨a9,c9,rfl⟩:=OB.sh H;have z9:=j.lG A (Nat.lt_succ_self q);have r1:=z9.cell (i:=1) rfl;have r2:=z9.cell (i:=2) rfl;have R:=F.trans A;have s9:q+1<=U.heap.size:=Nat.le_trans t A.size)
    go_ret;exact⟨_,rfl,by rw[z.out];exact H.mono (fun b _ h=>by have:=r.out;omega),by have G:=R;rw[r.out];exact o.out.trans (G.mono (Nat.le_succ q))⟩
   ·have z:Hid (mkb ((n:Int),m0,m1) a=([] ++ [m0]) ++ be 8 a ++ [m1]):=by have l:((8:Int) < n):=(by omega); show _=_; simp[mkb,l,hm]
    have u:(8:Int) < n:=by omega
    rw[decide_eq_true u] at s
    have Q:m1≠0:=hm;go_wp2_with first
     | (go_at_call 43;refine s.mono ?_;rintro e C ⟨rfl,c⟩;have j:=D.out.keep c;have Y:=j.cell (i:=0) rfl;have p1:=j.cell (i:=1) rfl;have L:=j.cell (i:=2) rfl;have F:=J.out.trans (c.mono f);have E:=I.out.keep c;have t:q+1<=C.heap.size:=Nat.le_trans f c.size)
     | (go_at_call 47;refine(db (x:=a) E t (by simp)).mono ?_;rintro e U ⟨v9,rfl,H,A⟩;obtain⟨a9,c9,rfl⟩:=OB.sh H;have z9:=j.lG A (Nat.lt_succ_self q);have r1:=z9.cell (i:=1) rfl;have r2:=z9.cell (i:=2) rfl;have R:=F.trans A;have s9:q+1<=U.heap.size:=Nat.le_trans t A.size;obtain⟨v10,W,g,d,m⟩:=dS (x:=m1) H s9 (by simp[bC]) H1.out;obtain⟨M,N,rfl⟩:=OB.sh d;replace d:=bQ d;replace m:=bQ m)
     | (at_builtin;refine Lib.wpList_append_run _ rfl _ _ _ _ rfl _ _ rfl rfl _ _ g ?_;clear g)
    go_ret;exact⟨_,rfl,by rw[z.out];exact d.out.mono (fun b _ h=>by have:=r.out;omega),by have G:=R.trans m.out;rw[r.out];exact o.out.trans (G.mono (Nat.le_succ q))⟩
  ·by_cases hm:m1=0
   ·have z:Hid (mkb ((n:Int),m0,m1) a=([] ++ [m0])):=by have l:¬ ((8:Int) < n):=(by omega); show _=_; simp[mkb,l,hm]
    have u:¬ ((8:Int) < n):=by omega
    rw[decide_eq_false u] at s;subst hm;go_wp2_with first
     | (go_at_call 43;refine s.mono ?_;rintro e C ⟨rfl,c⟩;have j:=D.out.keep c;have Y:=j.cell (i:=0) rfl;have p1:=j.cell (i:=1) rfl;have L:=j.cell (i:=2) rfl;have F:=J.out.trans (c.mono f);have E:=I.out.keep c;have t:q+1<=C.heap.size:=Nat.le_trans f c.size)
    go_ret;exact⟨_,rfl,by rw[z.out];exact E.mono (fun b _ h=>by have:=r.out;omega),by have G:=F;rw[r.out];exact o.out.trans (G.mono (Nat.le_succ q))⟩
   ·have z:Hid (mkb ((n:Int),m0,m1) a=([] ++ [m0]) ++ [m1]):=by have l:¬ ((8:Int) < n):=(by omega); show _=_; simp[mkb,l,hm]
    have u:¬ ((8:Int) < n):=by omega
    rw[decide_eq_false u] at s
    have Q:m1≠0:=hm;go_wp2_with first
     | (go_at_call 43;refine s.mono ?_;rintro e C ⟨rfl,c⟩;have j:=D.out.keep c;have Y:=j.cell (i:=0) rfl;have p1:=j.cell (i:=1) rfl;have L:=j.cell (i:=2) rfl;have F:=J.out.trans (c.mono f);have E:=I.out.keep c;have t:q+1<=C.heap.size:=Nat.le_trans f c.size;obtain⟨v10,W,g,d,m⟩:=dS (x:=m1) E t (by simp) H1.out;obtain⟨M,N,rfl⟩:=OB.sh d;replace d:=bQ d;replace m:=bQ m)
     | (at_builtin;refine Lib.wpList_append_run _ rfl _ _ _ _ rfl _ _ rfl rfl _ _ g ?_;clear g)
    go_ret;exact⟨_,rfl,by rw[z.out];exact d.out.mono (fun b _ h=>by have:=r.out;omega),by have G:=F.trans m.out;rw[r.out];exact o.out.trans (G.mono (Nat.le_succ q))⟩
end
end Ky
end
section
namespace Ky
open Go.RowKit Go.Lib Pg
attribute [local go_sem] Oper.semAt_some
theorem og (a b c d:Int) (w:World):(Op.equalIn 9999 93 (.agg #[.int .u8 a,.int .u8 b]) (.agg #[.int .u8 c,.int .u8 d])).run Tryz.prog w=.ok (a == c && b == d) w:=by
 rw[show (9999:Nat)=9998+1 from rfl,Op.equalIn];simp only[Sem.run_bind,run_underlying Tryz.underlying93,Result.andThen_ok];simp only[Std.Legacy.Range.forIn_eq_forIn_range',Std.Legacy.Range.size,Nat.sub_zero,Nat.add_sub_cancel,Nat.div_one,List.range'_succ,List.range'_zero,List.forIn_cons,List.forIn_nil];go_simp;by_cases g:a=c<;>by_cases f:b=d<;>simp[g,f]
attribute [local go_sem] og
theorem o7 (k:Int):∃ (n:Nat) (m0 m1:Int),frm k=((n:Int),m0,m1)/\n<=18/\(0<=m0/\m0 < 256)/\(0<=m1/\m1 < 256)/\(n=0->m0=0/\m1=0):=by
 by_cases h:0<=k/\k < 18
 ·obtain⟨j,rfl⟩:=Int.eq_ofNat_of_zero_le h.1
  have a:j < 18:=by omega
  match j,a with
  | 0,_=>exact⟨0,0,0,rfl,by decide,by decide,by decide,fun _=>⟨rfl,rfl⟩⟩
  | 1,_=>exact⟨1,112,0,rfl,by decide,by decide,by decide,fun h=>by omega⟩
  | 2,_=>exact⟨1,99,0,rfl,by decide,by decide,by decide,fun h=>by omega⟩
  | 3,_=>exact⟨1,109,0,rfl,by decide,by decide,by decide,fun h=>by omega⟩
  | 4,_=>exact⟨9,97,0,rfl,by decide,by decide,by decide,fun h=>by omega⟩
  | 5,_=>exact⟨10,118,48,rfl,by decide,by decide,by decide,fun h=>by omega⟩
  | 6,_=>exact⟨18,118,100,rfl,by decide,by decide,by decide,fun h=>by omega⟩
  | 7,_=>exact⟨18,118,104,rfl,by decide,by decide,by decide,fun h=>by omega⟩
  | 8,_=>exact⟨18,118,115,rfl,by decide,by decide,by decide,fun h=>by omega⟩
  | 9,_=>exact⟨9,116,0,rfl,by decide,by decide,by decide,fun h=>by omega⟩
  | 10,_=>exact⟨17,105,0,rfl,by decide,by decide,by decide,fun h=>by omega⟩
  | 11,_=>exact⟨9,98,0,rfl,by decide,by decide,by decide,fun h=>by omega⟩
  | 12,_=>exact⟨9,117,0,rfl,by decide,by decide,by decide,fun h=>by omega⟩
  | 13,_=>exact⟨9,114,0,rfl,by decide,by decide,by decide,fun h=>by omega⟩
  | 14,_=>exact⟨17,113,0,rfl,by decide,by decide,by decide,fun h=>by omega⟩
  | 15,_=>exact⟨17,101,0,rfl,by decide,by decide,by decide,fun h=>by omega⟩
  | 16,_=>exact⟨17,110,0,rfl,by decide,by decide,by decide,fun h=>by omega⟩
  | 17,_=>exact⟨17,107,0,rfl,by decide,by decide,by decide,fun h=>by omega⟩
  | j+18,h=>omega
 ·exact⟨0,0,0,if_neg h,by decide,by decide,by decide,fun _=>⟨rfl,rfl⟩⟩
def tn (k a:Int):Int:=if k=10 then 18446744073709551615 - a else a
def mkE (k a b:Int):Bool:=decide ((frm k).1=0) || (decide (a≠0) && decide ((frm k).1<=8)) || (decide (b≠0) && decide ((frm k).1<=16))
def mk (k a b:Int):List Int:=mkb (frm k) (tn k a) ++ (if 16 < (frm k).1 then be 8 b else [])
theorem vS (f:Int × Int × Int) (a:Int):(mkb f a).length<=10:=by
 unfold mkb;split<;>split<;>simp[bC]
end Ky
end
section
namespace Ky
open Go.RowKit Go.Lib Pg
attribute [local go_sem] Oper.semAt_some og
theorem ob_new (w:World) (x:Int) (hx:0<=x/\x < 256):OB (w.alloc (.cells #[.int .u8 x] 5)) (w.heap.size <= ·) (.slice (some ⟨w.heap.size,0,none⟩) 1 1) [x] :=
 ⟨fun y hy=>by simp at hy;subst hy;exact hx,.inr ⟨_,1,rfl,Nat.le_refl _,uC (n:=1) (aJ w [.int .u8 x] 5) rfl (by decide)⟩⟩
theorem qC (w:World) (D:Nat->Prop):OB w D (.slice none 0 0) []:=⟨fun _ h=>by simp at h,.inl ⟨rfl,rfl⟩⟩
theorem pY {w:World} {k:Int}:Calls Tryz.prog 293 #[.int .i64 k] w fun e w'=>∃ v,e=.returned (.tuple #[v,.int .i64 (if (frm k).1=0 then 70 else 0)])/\OB w' (w.heap.size <= ·) v (if (frm k).1=0 then [] else [(frm k).2.1])/\Below w.heap.size w w':=by
 obtain⟨n,m0,m1,hf,hn,c,g,m⟩:=o7 k;have i:=fun w=>mT (w:=w) (k:=k)
 rw[hf] at i;simp only[fv] at i;rw[hf];have l:=bQ c;by_cases j:n=0
 ·subst j;obtain⟨z0,z1⟩:=m rfl;subst z0 z1;simp only[show ((0:Nat):Int)=0 from rfl] at i ⊢;clear hf c g;go_enter Tryz.func293,Tryz.ntmps293;go_wp2_with (go_at_call 42;refine(i _).mono ?_;rintro e f ⟨rfl,b1⟩);go_ret2;exact⟨_,rfl,qC _ _,aj b1 (ai _ _)⟩
 ·have d:¬ ((n:Int)=0):=by omega
  have p:=bQ d;simp only;rw[if_neg d,if_neg d];clear hf c g m j;go_enter Tryz.func293,Tryz.ntmps293;go_wp2_with (go_at_call 42;refine(i _).mono ?_;rintro e f ⟨rfl,b1⟩);go_ret2;have al:=ai f (.cells #[.int .i64 (n:Int),.int .u8 m0,.int .u8 m1] 95);have o:=ob_new (f.alloc (.cells #[.int .i64 (n:Int),.int .u8 m0,.int .u8 m1] 95)) m0 l.out;rw[show (f.alloc (.cells #[.int .i64 (n:Int),.int .u8 m0,.int .u8 m1] 95)).heap.size=f.heap.size+1 by simp] at o;refine⟨_,rfl,o.mono (fun b _ h=>?_),aj b1 (aj al (ai _ _))⟩;have:=b1.size;omega
section
variable {w:World}{ao:Option Addr}{n c:Nat}{l:List Int}
def bv(l:List Int):Int:=l.foldl (fun n d=>n * 256+d) 0
theorem vy(l:List Int)(x:Int):bv (l ++ [x])=bv l * 256+x:=by simp[bv]
theorem mz:∀ (n:Nat) (l:List Int),Oct l->l.length=n->0<=bv l/\bv l < 256 ^ n
 | 0,l,_,h=>by
  have:l=[]:=List.eq_nil_of_length_eq_zero h;subst this;simp[bv]
 | n + 1,l,ho,h=>by
  obtain⟨b,x,rfl⟩:∃ b x,l=b ++ [x]:=by
   have a:l≠[]:=fun e=>by subst e;simp at h
   exact⟨l.dropLast,l.getLast a,(List.dropLast_concat_getLast a).symm⟩
  rw[vy];have c:=mz n b (fun y hy=>ho y (List.mem_append_left _ hy)) (by simpa using h);have hx:=ho x (by simp);rw[Int.pow_succ];omega
theorem or64(a b:Int)(d:0<=a)(h1:a < 72057594037927936)(c:0<=b)(f:b < 256):bits .or .u64 (IntKind.u64.wrap (a * 256)) b=a * 256+b:=by
 have e:IntKind.u64.wrap (a * 256)=a * 256:=by rw[IntKind.wrap_u64];omega
 rw[e];exact bits_join .u64 64 (by decide) (fun n d h1=>by rw[IntKind.wrap_u64];omega) 8 (a * 256) b (by omega) (by omega) (by omega) c (by omega) (by omega)
theorem pM(h:By w (.slice ao n c) l)(m:l.length=n)(hn:8<=n)(hc:n<=c) :
  Calls Tryz.prog 309 #[.slice ao n c] w fun e w'=>e=.returned (.int .u64 (bv (l.take 8)))/\w'=w:=by
 have u:=bQ h;have p:=bQ m
 have z:(8:Int)<=c:=by omega
 have j:Oct l:=h.oct;obtain⟨x0,f⟩:∃ x,l[0]?=some x:=⟨l[0]'(by omega),List.getElem?_eq_getElem _⟩
 obtain⟨b,o,rfl,_⟩:=By.at h f;clear h m f;go_enter Tryz.func309,Tryz.ntmps309;go_wp2_with fail;go_loopw [3,9] (fun q i wr=>∃ k:Nat,k<=8/\i=.int .i64 k/\q=.int .u64 (bv (l.take k))/\wr=w) (fun _ i _=>8 - (intOf i).toNat)
 case atStart=>exact⟨0,Nat.zero_le _,rfl,rfl,rfl⟩
 case round =>
  obtain⟨k,hk,rfl,rfl,rfl⟩:=hrel;by_cases s:k < 8
  ·obtain⟨x,hx⟩:∃ x,l[k]?=some x:=⟨l[k]'(by have:=p.out;omega),List.getElem?_eq_getElem _⟩
   obtain⟨B,C,e,A⟩:=By.at u.out hx
   cases e;have d:=j x (List.mem_of_getElem? hx)
   have r:Hid (bv (l.take (k+1))=bv (l.take k) * 256+x):=by
    show _=_
    rw[List.take_add_one,hx];exact vy _ _
   have hb:=mz k (l.take k) (fun y hy=>j y (List.mem_of_mem_take hy)) (by rw[List.length_take];have:=p.out;omega)
   have g:bv (l.take k) < 72057594037927936:=by
    have D:(256:Int) ^ k<=256 ^ 7:=by
     have:(256:Nat) ^ k<=256 ^ 7:=Nat.pow_le_pow_right (by decide) (by omega);exact_mod_cast this
    have:(256:Int) ^ 7=72057594037927936:=by decide
    omega
   have v:=or64 (bv (l.take k)) x hb.1 g d.1 d.2;generalize bv (l.take k)=V at *
   have t:(k:Int) < 8:=by omega
   clear hb g hx;go_wp2;go_roundw
   case rel =>
    refine⟨k+1,by omega,by go_num,?_,trivial⟩;rw[r.out]
   case measure=>simp[intOf];omega
  ·obtain rfl:k=8:=by omega
   go_wp2;go_ret;exact⟨rfl,rfl⟩
def fIn(l:List Int):Int × Int × Int:=((l.length:Int),(l[0]?).getD 0,if 9 < l.length/\l.length % 8=2 then (l[9]?).getD 0 else 0)
theorem ua(h:By w (.slice ao n c) l)(i:l.length=n)(s:n<=1000000000) :
  Calls Tryz.prog 307 #[.slice ao n c] w fun e w'=>e=.returned (fv (fIn l))/\Below w.heap.size w w':=by
 have B:=bQ i;by_cases y:n=0
 ·have f:fIn l=(0,0,0):=by
   have:l=[]:=List.eq_nil_of_length_eq_zero (by omega);subst this;simp[fIn]
  rw[f];subst y;clear h i;go_enter Tryz.func307,Tryz.ntmps307;go_wp2;refine bodyPost_ret (eD rfl rfl (qf ((aJ w [.int .i64 0,.int .u8 0,.int .u8 0] 95).keep (ai _ _)))) rfl ?_
  exact⟨rfl,aj (ai _ _) (ai _ _)⟩
 ·obtain⟨x0,d⟩:∃ x,l[0]?=some x:=⟨l[0]'(by omega),List.getElem?_eq_getElem _⟩
  obtain⟨b,o,rfl,c0⟩:=By.at h d
  have z:(0:Int) < n:=by omega
  have t:=aF c0;rw[Nat.add_zero] at c0;by_cases j:9 < n/\n % 8=2
  ·obtain⟨p,g⟩:∃ x,l[9]?=some x:=⟨l[9]'(by omega),List.getElem?_eq_getElem _⟩
   obtain⟨C,D,e,A⟩:=By.at h g
   cases e
   have f:fIn l=((n:Int),x0,p):=by rw[fIn,i,if_pos j,d,g];rfl
   rw[f]
   have m:(9:Int) < n:=by omega
   have q:Int.tmod (n:Int) 8=2:=by rw[Int.tmod_eq_emod_of_nonneg (by omega)];omega
   clear h i d g f j;go_enter Tryz.func307,Tryz.ntmps307;go_wp2;refine bodyPost_ret (eD rfl rfl (qf ((aJ w [.int .i64 (n:Int),.int .u8 x0,.int .u8 p] 95).keep (ai _ _)))) rfl ?_
   exact⟨rfl,aj (ai _ _) (ai _ _)⟩
  ·have f:fIn l=((n:Int),x0,0):=by rw[fIn,i,if_neg j,d]; rfl
   rw[f];clear h i d f;by_cases v:9 < n
   ·have m:(9:Int) < n:=by omega
    obtain⟨r,q⟩:∃ r,Int.tmod (n:Int) 8=r:=⟨_,rfl⟩
    have u:¬ r=2:=by rw[<- q,Int.tmod_eq_emod_of_nonneg (by omega)];omega
    clear j;go_enter Tryz.func307,Tryz.ntmps307;go_wp2;refine bodyPost_ret (eD rfl rfl (qf ((aJ w [.int .i64 (n:Int),.int .u8 x0,.int .u8 0] 95).keep (ai _ _)))) rfl ?_
    exact⟨rfl,aj (ai _ _) (ai _ _)⟩
   ·have m:¬ ((9:Int) < n):=by omega
    clear j;go_enter Tryz.func307,Tryz.ntmps307;go_wp2;refine bodyPost_ret (eD rfl rfl (qf ((aJ w [.int .i64 (n:Int),.int .u8 x0,.int .u8 0] 95).keep (ai _ _)))) rfl ?_
    exact⟨rfl,aj (ai _ _) (ai _ _)⟩
end
theorem xq:∀ k:Nat,k < 18->∀ w,(Instr.index 150 (.agg #[.int .i64 0,.int .u8 0,.int .u8 0,.int .i64 1,.int .u8 112,.int .u8 0,.int .i64 1,.int .u8 99,.int .u8 0,.int .i64 1,.int .u8 109,.int .u8 0,.int .i64 9,.int .u8 97,.int .u8 0,.int .i64 10,.int .u8 118,.int .u8 48,.int .i64 18,.int .u8 118,.int .u8 100,.int .i64 18,.int .u8 118,.int .u8 104,.int .i64 18,.int .u8 118,.int .u8 115,.int .i64 9,.int .u8 116,.int .u8 0,.int .i64 17,.int .u8 105,.int .u8 0,.int .i64 9,.int .u8 98,.int .u8 0,.int .i64 9,.int .u8 117,.int .u8 0,.int .i64 9,.int .u8 114,.int .u8 0,.int .i64 17,.int .u8 113,.int .u8 0,.int .i64 17,.int .u8 101,.int .u8 0,.int .i64 17,.int .u8 110,.int .u8 0,.int .i64 17,.int .u8 107,.int .u8 0]) (.int .i64 k)).run Tryz.prog w=.ok (.agg #[.int .i64 (frm k).1,.int .u8 (frm k).2.1,.int .u8 (frm k).2.2]) w:=by
 intro k hk w;rcases(by omega:k=0\/k=1\/k=2\/k=3\/k=4\/k=5\/k=6\/k=7\/k=8\/k=9\/k=10\/k=11\/k=12\/k=13\/k=14\/k=15\/k=16\/k=17) with rfl | rfl | rfl | rfl | rfl | rfl | rfl | rfl | rfl | rfl | rfl | rfl | rfl | rfl | rfl | rfl | rfl | rfl
 all_goals kernel_rfl
theorem tU {w:World}:Calls Tryz.prog 95 #[] w fun e w'=>∃ FA:Array Value,e=.returned (.agg FA)/\Hid (∀ k:Nat,k < 18->∀ w,(Instr.index 150 (.agg FA) (.int .i64 k)).run Tryz.prog w=.ok (.agg #[.int .i64 (frm k).1,.int .u8 (frm k).2.1,.int .u8 (frm k).2.2]) w)/\Below w.heap.size w w' :=
 oV.mono fun _ _ h=>⟨_,h.1,xq,h.2⟩
theorem uk {w:World} {f0 f1 f2:Int}:Calls Tryz.prog 308 #[.agg #[.int .i64 f0,.int .u8 f1,.int .u8 f2]] w fun e w'=>(∃ r:Nat,e=.returned (.int .i64 r)/\((r < 18/\frm r=(f0,f1,f2))\/(r=0/\∀ j:Nat,j < 18->frm j≠(f0,f1,f2))))/\Below w.heap.size w w':=by
 go_enter Tryz.func308,Tryz.ntmps308;go_wp2_with (go_at_call 95;refine tU.mono ?_;rintro e v ⟨C,rfl,B,b1⟩);have kq:=(aJ w [.int .i64 f0,.int .u8 f1,.int .u8 f2] 95).keep b1;have u:=aj (ai w (.cells #[.int .i64 f0,.int .u8 f1,.int .u8 f2] 95)) b1;have x:=bQ kq;have b:=bQ u;obtain⟨q,hq⟩:∃ q,Hid (w.heap.size=q):=⟨_,rfl⟩
 rw[hq.out] at x ⊢;clear kq u b1;go_loopw [6] (fun s wr=>∃ k:Nat,k<=18/\s=.int .i64 k/\Hid (∀ j:Nat,j < k->frm j≠(f0,f1,f2))/\Hid (Below v.heap.size v wr)) (fun s _=>18 - (intOf s).toNat)
 case atStart=>exact⟨0,Nat.zero_le _,rfl,fun j h=>by omega,Below.refl _ _⟩
 case round =>
  obtain⟨k,hk,rfl,o,c⟩:=hrel;by_cases f:k < 18
  ·have hi:=B.out k f
   have A:(k:Int) < 18:=by omega
   have kq:=x.out.keep c.out;have q0:=kq.cell (i:=0) rfl;have q1:=kq.cell (i:=1) rfl;have D:=kq.cell (i:=2) rfl;have z:=kq.lt;obtain⟨⟨t,p1,y⟩,g⟩:∃ p,Hid (frm k=p):=⟨_,rfl⟩
   rw[g.out] at hi;simp only at hi;clear kq;by_cases m:t=f0
   ·by_cases e1:p1=f1
    ·by_cases e2:y=f2
     ·subst m e1 e2;go_wp2;go_ret;refine⟨⟨k,rfl,.inl ⟨f,g.out⟩⟩,?_⟩;exact b.out.trans ((aj c.out (ai _ _)).mono b.out.size)
     ·subst m e1
      have d:Hid (frm k≠(t,p1,f2)):=by show _≠_;rw[g.out];intro e;cases e;exact e2 rfl
      go_wp2;go_roundw
      case rel =>
       refine⟨k+1,by omega,by go_num,fun j n=>?_,aj c.out (ai _ _)⟩;by_cases l:j=k
       ·subst l;exact d.out
       ·exact o.out j (by omega)
      case measure=>simp[intOf];omega
    ·subst m
     have d:Hid (frm k≠(t,f1,f2)):=by show _≠_;rw[g.out];intro e;cases e;exact e1 rfl
     go_wp2;go_roundw
     case rel =>
      refine⟨k+1,by omega,by go_num,fun j n=>?_,aj c.out (ai _ _)⟩;by_cases l:j=k
      ·subst l;exact d.out
      ·exact o.out j (by omega)
     case measure=>simp[intOf];omega
   ·have d:Hid (frm k≠(f0,f1,f2)):=by show _≠_; rw[g.out]; intro e; cases e; exact m rfl
    go_wp2;go_roundw
    case rel =>
     refine⟨k+1,by omega,by go_num,fun j n=>?_,aj c.out (ai _ _)⟩;by_cases l:j=k
     ·subst l;exact d.out
     ·exact o.out j (by omega)
    case measure=>simp[intOf];omega
  ·obtain rfl:k=18:=by omega
   go_wp2;go_ret;refine⟨⟨0,rfl,.inr ⟨rfl,fun j n=>o.out j n⟩⟩,?_⟩;exact b.out.trans (c.out.mono b.out.size)
section
variable {w:World}{ao:Option Addr}{n c b o g:Nat}{l:List Int}{a:Act}{x u:Value}{tmps:Array Value}
theorem By.lens(h:By w (.slice ao n c) l):l.length=n/\n<=c/\c<=9223372036854775807:=by
 obtain⟨ao',c',e,h2,h3,_⟩:=h.ex
 cases e;exact⟨rfl,h2,h3⟩
theorem By.drop(h:By w (.slice (some ⟨b,o,none⟩) n c) l)(j:Nat)(v:j<=n):By w (.slice (some ⟨b,o+j,none⟩) (n - j) (c - j)) (l.drop j):=by
 obtain⟨s,hc,hm⟩:=By.lens h;obtain⟨k,p,e,m,t,r,f,g⟩:=h.ex
 cases e;refine⟨some ⟨b,o+j,none⟩,c - j,by rw[List.length_drop],by rw[List.length_drop];omega,by omega,(fun e=>by cases e),fun x hx=>f x (List.mem_of_mem_drop hx),?_⟩;rcases g with rfl | ⟨q,u,e,d,a⟩
 ·exact .inl (by simp)
 ·cases e;refine .inr ⟨b,o+j,rfl,d,fun i x hi=>?_⟩;rw[List.getElem?_drop] at hi;have:=a (j+i) x hi;rw[show o+(j+i)=o+j+i by omega] at this;exact this
theorem wM{op:Oper}{x:Nat}(ho:op.op=.slice 42 (.tmp x) (some (.const (.int .i64 1))) none none)(hx:a.eval (.tmp x)=.slice (some ⟨b,o,none⟩) n c)(hn:1<=n)(hc:2<=c)(f:n<=c):(execOp a.eval op).run Tryz.prog w=.ok (.value (.slice (some ⟨b,o+1,none⟩) (n - 1) (c - 1))) w:=by
 have q:¬ ((n:Int) < 1):=by omega
 have j:(1:Int)<=n:=by omega
 have l:¬ (c - 1=0):=by omega
 have p:(n:Int)<=c:=by omega
 have s:¬ (c<=1):=by omega
 have m:¬ ((c:Int)=1):=by omega
 have r:¬ (c=1):=by omega
 obtain⟨i0,hi,g,i,d⟩:=info_parts (P:=Tryz.prog) KB.inf;simp only[execOp,ho,hx];go_simp
def rdA(r:Nat)(l:List Int):Int:=if 8 < l.length then tn r (bv ((l.drop 1).take 8)) else 0
def rdB(l:List Int):Int:=if 16 < l.length then bv (l.drop (l.length - 8)) else 0
theorem DS:∀ i:Nat,i < 18->∀ j:Nat,j < 18->frm i=frm j->i=j:=by decide +kernel
theorem sQ{f0 f1 f2:Int}{r:Nat}(hr:r < 18)(h:frm r=(f0,f1,f2)):Calls Tryz.prog 308 #[.agg #[.int .i64 f0,.int .u8 f1,.int .u8 f2]] w fun e w'=>e=.returned (.int .i64 r)/\Below w.heap.size w w':=by
 refine uk.mono ?_
 rintro e w' ⟨⟨a,rfl,b⟩,hb⟩;rcases b with⟨h1,h2⟩ | ⟨rfl,h2⟩
 ·have:=DS a h1 r hr (h2.trans h.symm);subst this;exact⟨rfl,hb⟩
 ·exact absurd h (h2 r hr)
theorem ld_key{y z:Value}(h:Blk w g [x,y,z] 46):(loadVar 46 ⟨g,0,none⟩).run Tryz.prog w=.ok (.agg #[x,y,z]) w:=by
 have c0:=h.cell (i:=0) rfl;have c1:=h.cell (i:=1) rfl;have c2:=h.cell (i:=2) rfl;go_simp
theorem pU{fn:Func}{p u:Tmp}{ty:TypeId}(h:fn.results=#[.cell p ty,.tmp u]){v:Value}(hp:tmps.getD p undef=.pointer (some ⟨g,0,none⟩))(hu:tmps.getD u undef=x)(a:(loadVar ty ⟨g,0,none⟩).run Tryz.prog w=.ok v w):(results fn tmps).run Tryz.prog w=.ok (.tuple #[v,x]) w:=by
 rw[results_cell_tmp h,hp,hu];simp[asAddr,a]
theorem DN:∀ r:Nat,r < 18->0 < r->0 < (frm r).1:=by decide +kernel
theorem xK{o:Oper}(k q:Nat){off:Nat}{x:Int}(ho:o.op=.store 22 (.tmp k) (.tmp q))(hp:a.eval (.tmp k)=.pointer (some ⟨g,off,none⟩))(hq:a.eval (.tmp q)=.int .u64 x)(hc:w.cell? ⟨g,off,none⟩=some u)(hf:w.frozen? ⟨g,off,none⟩=false) :
  (execOp a.eval o).run Tryz.prog w=.ok .skip (w.setCell ⟨g,off,none⟩ (.int .u64 x)):=by
 simp only[execOp,ho,hp,hq];go_simp
end
end Ky
end
end Go.Proofs.YtgdohcdlkonhiaaGreatDoor
