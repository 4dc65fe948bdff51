import Derived.Test.YtpoifdokmjhclaaGreatJyi
import Derived.Deep.WholeRow
set_option maxRecDepth 100000
set_option maxHeartbeats 8000000
namespace Go.Proofs.YtpoifdokmjhclaaGreat
section
namespace Ky
open Go.RowKit Go.Lib Pg
attribute [local go_sem] Oper.semAt_some
def frms:List (Int × Int × Int):=[(0,0,0),(1,112,0),(1,99,0),(1,109,0),(9,97,0),(10,118,48),(18,118,100),(18,118,104),(18,118,115),(9,116,0),(17,105,0),(9,98,0),(9,117,0),(9,114,0),(17,113,0),(17,101,0),(17,110,0),(17,107,0)]
def frm (k:Int):Int × Int × Int:=if 0<=k/\k < 18 then frms.getD k.toNat (0,0,0) else (0,0,0)
def fv (f:Int × Int × Int):Value:=.agg #[.int .i64 f.1,.int .u8 f.2.1,.int .u8 f.2.2]
def gR:List Value:=[.int .i64 0,.int .u8 0,.int .u8 0,.int .i64 1,.int .u8 112,.int .u8 0,.int .i64 1,.int .u8 99,.int .u8 0,.int .i64 1,.int .u8 109,.int .u8 0,.int .i64 9,.int .u8 97,.int .u8 0,.int .i64 10,.int .u8 118,.int .u8 48,.int .i64 18,.int .u8 118,.int .u8 100,.int .i64 18,.int .u8 118,.int .u8 104,.int .i64 18,.int .u8 118,.int .u8 115,.int .i64 9,.int .u8 116,.int .u8 0,.int .i64 17,.int .u8 105,.int .u8 0,.int .i64 9,.int .u8 98,.int .u8 0,.int .i64 9,.int .u8 117,.int .u8 0,.int .i64 9,.int .u8 114,.int .u8 0,.int .i64 17,.int .u8 113,.int .u8 0,.int .i64 17,.int .u8 101,.int .u8 0,.int .i64 17,.int .u8 110,.int .u8 0,.int .i64 17,.int .u8 107,.int .u8 0]
section
variable {ops:Array Oper} {rest:List Oper} {o:Oper} {a:Act} {w w1:World} {Q:Exit->Act->World->Prop}
section
variable {c c':Array Value}
theorem rI(d:Option Tmp)(v:Value)(c:o.guard=none)(b:o.dst=d)(hrun:(execOp a.eval o).run Tryz.prog w=.ok (.value v) w1)(h:wpList Tryz.prog ops Q rest (a.put d v) w1):wpList Tryz.prog ops Q (o :: rest) a w :=
 wpList_plain c λK e=>by
  unfold Oper.wp;rw[hrun];subst b;exact e _ _ h
theorem F4(d:Option Tmp)(v:Value)(c:o.guard=none)(b:o.dst=d)(hrun:(execOp a.eval o).run Tryz.prog w=.ok (.value v) w)(h:wpList Tryz.prog ops Q rest (a.put d v) w):wpList Tryz.prog ops Q (o :: rest) a w:=rI d v c b hrun h
theorem dK(d:Nat)(v:Value)(h:wpList Tryz.prog ops Q rest (a.put (some d) v) w)(c:o.guard=none:=by rfl)(b:o.dst=some d:=by rfl)(hrun:(execOp a.eval o).run Tryz.prog w=.ok (.value v) w:=by kernel_rfl):wpList Tryz.prog ops Q (o :: rest) a w:=F4 (some d) v c b hrun h
theorem xi(c:o.guard=none)(b:o.dst=none)(hrun:(execOp a.eval o).run Tryz.prog w=.ok .skip w1)(h:wpList Tryz.prog ops Q rest (a.put none undef) w1):wpList Tryz.prog ops Q (o :: rest) a w :=
 wpList_plain c λK d=>by
  unfold Oper.wp;rw[hrun]
  show K (a.put o.dst undef) w1
  rw[b];exact d _ _ h
theorem po{t:TypeId}{k q:Nat}(ho:o.op=.store t (.tmp k) (.tmp q))(hp:a.eval (.tmp k)=.pointer (some ⟨w.heap.size,0,none⟩))(hq:a.eval (.tmp q)=.agg c')(hi:(Tryz.prog.info? t).map (·.size)=some c'.size)(hs:c.size=c'.size)(h1:c'.all (·.oneCell')=true):(execOp a.eval o).run Tryz.prog (w.alloc (.cells c t))=.ok .skip (w.alloc (.cells c' t)):=by
 simp only[execOp,ho,hp,hq,Sem.run_bind,run_storeAt_new w t c c' hi hs h1,Result.andThen_ok,Sem.run_pure]
end
end
theorem pk {w:World}:Calls Tryz.prog 153 #[] w λe w'=>e=.returned (.agg #[.int .i64 0,.int .u8 0,.int .u8 0,.int .i64 1,.int .u8 112,.int .u8 0,.int .i64 1,.int .u8 99,.int .u8 0,.int .i64 1,.int .u8 109,.int .u8 0,.int .i64 9,.int .u8 97,.int .u8 0,.int .i64 10,.int .u8 118,.int .u8 48,.int .i64 18,.int .u8 118,.int .u8 100,.int .i64 18,.int .u8 118,.int .u8 104,.int .i64 18,.int .u8 118,.int .u8 115,.int .i64 9,.int .u8 116,.int .u8 0,.int .i64 17,.int .u8 105,.int .u8 0,.int .i64 9,.int .u8 98,.int .u8 0,.int .i64 9,.int .u8 117,.int .u8 0,.int .i64 9,.int .u8 114,.int .u8 0,.int .i64 17,.int .u8 113,.int .u8 0,.int .i64 17,.int .u8 101,.int .u8 0,.int .i64 17,.int .u8 110,.int .u8 0,.int .i64 17,.int .u8 107,.int .u8 0])/\BW w w':=by
 go_enter Tryz.func153,Tryz.ntmps153;refine wp_seq ?_
 refine wp_region_lit ?_
 refine rI (some 0) (.pointer (some ⟨w.heap.size,0,none⟩)) rfl rfl (w1:=w.alloc (.cells #[.int .i64 0,.int .u8 0,.int .u8 0,.int .i64 0,.int .u8 0,.int .u8 0,.int .i64 0,.int .u8 0,.int .u8 0,.int .i64 0,.int .u8 0,.int .u8 0,.int .i64 0,.int .u8 0,.int .u8 0,.int .i64 0,.int .u8 0,.int .u8 0,.int .i64 0,.int .u8 0,.int .u8 0,.int .i64 0,.int .u8 0,.int .u8 0,.int .i64 0,.int .u8 0,.int .u8 0,.int .i64 0,.int .u8 0,.int .u8 0,.int .i64 0,.int .u8 0,.int .u8 0,.int .i64 0,.int .u8 0,.int .u8 0,.int .i64 0,.int .u8 0,.int .u8 0,.int .i64 0,.int .u8 0,.int .u8 0,.int .i64 0,.int .u8 0,.int .u8 0,.int .i64 0,.int .u8 0,.int .u8 0,.int .i64 0,.int .u8 0,.int .u8 0,.int .i64 0,.int .u8 0,.int .u8 0] 248)) (by kernel_rfl) ?_
 refine wpList_nil ?_
 refine wp_seq (x:=Code.region 1 _ false) ?_
 refine wp_region_lit ?_
 refine dK 1 (.agg #[.int .u8 112,.int .u8 0]) ?_
 refine dK 2 (.agg #[.int .i64 1,.int .u8 112,.int .u8 0]) ?_
 refine dK 3 (.agg #[.int .u8 99,.int .u8 0]) ?_
 refine dK 4 (.agg #[.int .i64 1,.int .u8 99,.int .u8 0]) ?_
 refine dK 5 (.agg #[.int .u8 109,.int .u8 0]) ?_
 refine dK 6 (.agg #[.int .i64 1,.int .u8 109,.int .u8 0]) ?_
 refine dK 7 (.agg #[.int .u8 97,.int .u8 0]) ?_
 refine dK 8 (.agg #[.int .i64 9,.int .u8 97,.int .u8 0]) ?_
 refine dK 9 (.agg #[.int .u8 118,.int .u8 48]) ?_
 refine dK 10 (.agg #[.int .i64 10,.int .u8 118,.int .u8 48]) ?_
 refine dK 11 (.agg #[.int .u8 118,.int .u8 100]) ?_
 refine dK 12 (.agg #[.int .i64 18,.int .u8 118,.int .u8 100]) ?_
 refine dK 13 (.agg #[.int .u8 118,.int .u8 104]) ?_
 refine dK 14 (.agg #[.int .i64 18,.int .u8 118,.int .u8 104]) ?_
 refine dK 15 (.agg #[.int .u8 118,.int .u8 115]) ?_
 refine dK 16 (.agg #[.int .i64 18,.int .u8 118,.int .u8 115]) ?_
 refine dK 17 (.agg #[.int .u8 116,.int .u8 0]) ?_
 refine dK 18 (.agg #[.int .i64 9,.int .u8 116,.int .u8 0]) ?_
 refine dK 19 (.agg #[.int .u8 105,.int .u8 0]) ?_
 refine dK 20 (.agg #[.int .i64 17,.int .u8 105,.int .u8 0]) ?_
 refine dK 21 (.agg #[.int .u8 98,.int .u8 0]) ?_
 refine dK 22 (.agg #[.int .i64 9,.int .u8 98,.int .u8 0]) ?_
 refine dK 23 (.agg #[.int .u8 117,.int .u8 0]) ?_
 refine dK 24 (.agg #[.int .i64 9,.int .u8 117,.int .u8 0]) ?_
 refine dK 25 (.agg #[.int .u8 114,.int .u8 0]) ?_
 refine dK 26 (.agg #[.int .i64 9,.int .u8 114,.int .u8 0]) ?_
 refine dK 27 (.agg #[.int .u8 113,.int .u8 0]) ?_
 refine dK 28 (.agg #[.int .i64 17,.int .u8 113,.int .u8 0]) ?_
 refine dK 29 (.agg #[.int .u8 101,.int .u8 0]) ?_
 refine dK 30 (.agg #[.int .i64 17,.int .u8 101,.int .u8 0]) ?_
 refine dK 31 (.agg #[.int .u8 110,.int .u8 0]) ?_
 refine dK 32 (.agg #[.int .i64 17,.int .u8 110,.int .u8 0]) ?_
 refine dK 33 (.agg #[.int .u8 107,.int .u8 0]) ?_
 refine dK 34 (.agg #[.int .i64 17,.int .u8 107,.int .u8 0]) ?_
 refine dK 35 (.agg #[.int .i64 0,.int .u8 0,.int .u8 0,.int .i64 1,.int .u8 112,.int .u8 0,.int .i64 1,.int .u8 99,.int .u8 0,.int .i64 1,.int .u8 109,.int .u8 0,.int .i64 9,.int .u8 97,.int .u8 0,.int .i64 10,.int .u8 118,.int .u8 48,.int .i64 18,.int .u8 118,.int .u8 100,.int .i64 18,.int .u8 118,.int .u8 104,.int .i64 18,.int .u8 118,.int .u8 115,.int .i64 9,.int .u8 116,.int .u8 0,.int .i64 17,.int .u8 105,.int .u8 0,.int .i64 9,.int .u8 98,.int .u8 0,.int .i64 9,.int .u8 117,.int .u8 0,.int .i64 9,.int .u8 114,.int .u8 0,.int .i64 17,.int .u8 113,.int .u8 0,.int .i64 17,.int .u8 101,.int .u8 0,.int .i64 17,.int .u8 110,.int .u8 0,.int .i64 17,.int .u8 107,.int .u8 0]) ?_
 refine xi rfl rfl (po (k:=0) (q:=35) (c':=#[.int .i64 0,.int .u8 0,.int .u8 0,.int .i64 1,.int .u8 112,.int .u8 0,.int .i64 1,.int .u8 99,.int .u8 0,.int .i64 1,.int .u8 109,.int .u8 0,.int .i64 9,.int .u8 97,.int .u8 0,.int .i64 10,.int .u8 118,.int .u8 48,.int .i64 18,.int .u8 118,.int .u8 100,.int .i64 18,.int .u8 118,.int .u8 104,.int .i64 18,.int .u8 118,.int .u8 115,.int .i64 9,.int .u8 116,.int .u8 0,.int .i64 17,.int .u8 105,.int .u8 0,.int .i64 9,.int .u8 98,.int .u8 0,.int .i64 9,.int .u8 117,.int .u8 0,.int .i64 9,.int .u8 114,.int .u8 0,.int .i64 17,.int .u8 113,.int .u8 0,.int .i64 17,.int .u8 101,.int .u8 0,.int .i64 17,.int .u8 110,.int .u8 0,.int .i64 17,.int .u8 107,.int .u8 0]) (by kernel_rfl) (by kernel_rfl) (by kernel_rfl) (by kernel_rfl) rfl (by kernel_rfl)) ?_
 refine wpList_nil ?_
 refine wp_ret ?_
 refine bodyPost_ret (results_cell_row rfl _ _ w.heap.size 248 _ _ (.array 18 204) (by kernel_rfl) (heap_alloc_new _ _) (by kernel_rfl) rfl (by kernel_rfl)) rfl ?_
 exact⟨rfl,aa _ _⟩
section
variable {ops:Array Oper} {rest:List Oper} {o:Oper} {a:Act} {w w1:World} {Q:Exit->Act->World->Prop}
theorem Fe (d:Option Tmp) (f:FuncId) (args:Array Value) (g:o.guard=none) (c:o.dst=d) (hrun:(execOp a.eval o).run Tryz.prog w=.ok (.enter f args) w) {b:Ending->World->Prop} (hc:CP f args w b) (h:∀ e w',b e w'->∃ v,e=.returned v/\wpList Tryz.prog ops Q rest (a.put d v) w'):wpList Tryz.prog ops Q (o :: rest) a w :=
 wpList_plain g λK i=>by
  unfold Oper.wp;rw[hrun,Oper.upon_enter];refine hc.mono ?_
  intro e w' hq;obtain⟨v,rfl,hv⟩:=h e w' hq;subst c;exact i _ _ hv
end
section
variable {w:World}{g:Nat}{tmps:Array Value}{v:Value}
theorem aZ{p:Prop}(h:p):Hid p:=h
theorem nI:gR.toArray=#[.int .i64 0,.int .u8 0,.int .u8 0,.int .i64 1,.int .u8 112,.int .u8 0,.int .i64 1,.int .u8 99,.int .u8 0,.int .i64 1,.int .u8 109,.int .u8 0,.int .i64 9,.int .u8 97,.int .u8 0,.int .i64 10,.int .u8 118,.int .u8 48,.int .i64 18,.int .u8 118,.int .u8 100,.int .i64 18,.int .u8 118,.int .u8 104,.int .i64 18,.int .u8 118,.int .u8 115,.int .i64 9,.int .u8 116,.int .u8 0,.int .i64 17,.int .u8 105,.int .u8 0,.int .i64 9,.int .u8 98,.int .u8 0,.int .i64 9,.int .u8 117,.int .u8 0,.int .i64 9,.int .u8 114,.int .u8 0,.int .i64 17,.int .u8 113,.int .u8 0,.int .i64 17,.int .u8 101,.int .u8 0,.int .i64 17,.int .u8 110,.int .u8 0,.int .i64 17,.int .u8 107,.int .u8 0]:=rfl
theorem sQ:∀ k:Nat,k < 18->gR[k * 3]?=some (.int .i64 (frm k).1)/\gR[k * 3+1]?=some (.int .u8 (frm k).2.1)/\gR[k * 3+2]?=some (.int .u8 (frm k).2.2):=by
 intro k hk
 match k,hk with
 | 0,_=>exact⟨rfl,rfl,rfl⟩
 | 1,_=>exact⟨rfl,rfl,rfl⟩
 | 2,_=>exact⟨rfl,rfl,rfl⟩
 | 3,_=>exact⟨rfl,rfl,rfl⟩
 | 4,_=>exact⟨rfl,rfl,rfl⟩
 | 5,_=>exact⟨rfl,rfl,rfl⟩
 | 6,_=>exact⟨rfl,rfl,rfl⟩
 | 7,_=>exact⟨rfl,rfl,rfl⟩
 | 8,_=>exact⟨rfl,rfl,rfl⟩
 | 9,_=>exact⟨rfl,rfl,rfl⟩
 | 10,_=>exact⟨rfl,rfl,rfl⟩
 | 11,_=>exact⟨rfl,rfl,rfl⟩
 | 12,_=>exact⟨rfl,rfl,rfl⟩
 | 13,_=>exact⟨rfl,rfl,rfl⟩
 | 14,_=>exact⟨rfl,rfl,rfl⟩
 | 15,_=>exact⟨rfl,rfl,rfl⟩
 | 16,_=>exact⟨rfl,rfl,rfl⟩
 | 17,_=>exact⟨rfl,rfl,rfl⟩
 | n+18,h=>omega
theorem Bj{k:Nat}(hb:Blk w g gR 248)(h:k < 18):w.cell? ⟨g,k * 3,none⟩=some (.int .i64 (frm k).1)/\w.cell? ⟨g,k * 3+1,none⟩=some (.int .u8 (frm k).2.1)/\w.cell? ⟨g,k * 3+2,none⟩=some (.int .u8 (frm k).2.2):=by
 obtain⟨a,b,c⟩:=sQ k h;exact⟨hb.cell a,hb.cell b,hb.cell c⟩
theorem xy{x0 x1 x2:Value}{t:TypeId}(h:Blk w g [x0,x1,x2] t)(a b c:Value):Blk (((w.setCell ⟨g,0,none⟩ a).setCell ⟨g,1,none⟩ b).setCell ⟨g,2,none⟩ c) g [a,b,c] t:=((h.setCell (i:=0) a).setCell (i:=1) b).setCell (i:=2) c
theorem qA{x y z:Value}(h:Blk w g [x,y,z] 204):(loadVar 204 ⟨g,0,none⟩).run Tryz.prog w=.ok (.agg #[x,y,z]) w:=by
 have c0:=h.cell (i:=0) rfl;have c1:=h.cell (i:=1) rfl;have c2:=h.cell (i:=2) rfl;go_simp
theorem fL{fn:Func}{p:Tmp}{ty:TypeId}(h:fn.results=#[.cell p ty])(hp:tmps.getD p undef=.pointer (some ⟨g,0,none⟩))(b:(loadVar ty ⟨g,0,none⟩).run Tryz.prog w=.ok v w):(results fn tmps).run Tryz.prog w=.ok v w:=by
 have a:tmps[p]?.getD undef=.pointer (some ⟨g,0,none⟩):=by simpa using hp
 simp[results,h,a,asAddr,b]
theorem kU{W:World}{r:Nat}(h:Below r w W)(x y z:Value):Below r w (((W.setCell ⟨r,0,none⟩ x).setCell ⟨r,1,none⟩ y).setCell ⟨r,2,none⟩ z) :=
 ((h.setCell (Nat.le_refl _) _).setCell (Nat.le_refl _) _).setCell (Nat.le_refl _) _
theorem nF{k:Int}:Calls Tryz.prog 105 #[.int .i64 k] w λe w'=>e=.returned (fv (frm k))/\BW w w':=by
 go_enter Tryz.func105,Tryz.ntmps105;refine wp_seq ?_
 refine wp_region_lit ?_
 refine rI (some 2) (.pointer (some ⟨w.heap.size,0,none⟩)) rfl rfl (w1:=w.alloc (.cells #[.int .i64 0,.int .u8 0,.int .u8 0] 204)) (by kernel_rfl) ?_
 refine wpList_nil ?_
 refine wp_seq (x:=Code.region 1 _ false) ?_
 refine wp_region_lit ?_
 refine Fe (some 4) 153 #[] rfl rfl (by kernel_rfl) pk ?_
 rintro e w1 ⟨rfl,d⟩;refine⟨_,rfl,rI (some 3) (.pointer (some ⟨w1.heap.size,0,none⟩)) rfl rfl (w1:=w1.alloc (.cells #[.int .i64 0,.int .u8 0,.int .u8 0,.int .i64 0,.int .u8 0,.int .u8 0,.int .i64 0,.int .u8 0,.int .u8 0,.int .i64 0,.int .u8 0,.int .u8 0,.int .i64 0,.int .u8 0,.int .u8 0,.int .i64 0,.int .u8 0,.int .u8 0,.int .i64 0,.int .u8 0,.int .u8 0,.int .i64 0,.int .u8 0,.int .u8 0,.int .i64 0,.int .u8 0,.int .u8 0,.int .i64 0,.int .u8 0,.int .u8 0,.int .i64 0,.int .u8 0,.int .u8 0,.int .i64 0,.int .u8 0,.int .u8 0,.int .i64 0,.int .u8 0,.int .u8 0,.int .i64 0,.int .u8 0,.int .u8 0,.int .i64 0,.int .u8 0,.int .u8 0,.int .i64 0,.int .u8 0,.int .u8 0,.int .i64 0,.int .u8 0,.int .u8 0,.int .i64 0,.int .u8 0,.int .u8 0] 248)) (by kernel_rfl) ?_⟩;refine xi rfl rfl (po (k:=3) (q:=4) (c':=#[.int .i64 0,.int .u8 0,.int .u8 0,.int .i64 1,.int .u8 112,.int .u8 0,.int .i64 1,.int .u8 99,.int .u8 0,.int .i64 1,.int .u8 109,.int .u8 0,.int .i64 9,.int .u8 97,.int .u8 0,.int .i64 10,.int .u8 118,.int .u8 48,.int .i64 18,.int .u8 118,.int .u8 100,.int .i64 18,.int .u8 118,.int .u8 104,.int .i64 18,.int .u8 118,.int .u8 115,.int .i64 9,.int .u8 116,.int .u8 0,.int .i64 17,.int .u8 105,.int .u8 0,.int .i64 9,.int .u8 98,.int .u8 0,.int .i64 9,.int .u8 117,.int .u8 0,.int .i64 9,.int .u8 114,.int .u8 0,.int .i64 17,.int .u8 113,.int .u8 0,.int .i64 17,.int .u8 101,.int .u8 0,.int .i64 17,.int .u8 110,.int .u8 0,.int .i64 17,.int .u8 107,.int .u8 0]) (by kernel_rfl) (by kernel_rfl) (by kernel_rfl) (by kernel_rfl) rfl (by kernel_rfl)) ?_
 refine wpList_nil ?_
 rw[<- nI];have b0:=ay w [.int .i64 0,.int .u8 0,.int .u8 0] 204;have c0:=aa w (.cells #[.int .i64 0,.int .u8 0,.int .u8 0] 204);have l:=ay w1 gR 248;have c2:=aa w1 (.cells gR.toArray 248);have j:=ae (ae c0 d) c2;have b1:=(b0.keep d).keep c2;obtain⟨r,b⟩:∃ r,Hid (w.heap.size=r):=⟨_,rfl⟩
 generalize w1.alloc (.cells gR.toArray 248)=W at *;generalize hg:w1.heap.size=g at *;generalize Value.agg gR.toArray=o;rw[b.out] at b1 ⊢;simp only[Act.put,List.setIfInBounds_toArray,List.set_cons_zero,List.set_cons_succ];have r0:=b1.cell (i:=0) rfl;have r1:=b1.cell (i:=1) rfl;have u:=b1.cell (i:=2) rfl;have f0:=b1.free 0;have f1:=b1.free 1;have f2:=b1.free 2;have H1:=aZ b1;have f:=aZ j;have m:=aZ l;clear b0 c0 d c2 hg b1 j l;refine(show Code.wp _ _ _ _ _ from ?_);by_cases s:k < 0
 ·have c:frm k=(0,0,0):=if_neg (by omega);rw[c];go_wp2;refine bodyPost_ret (fL rfl rfl (qA (xy H1.out _ _ _))) rfl ?_
  exact⟨rfl,by unfold BW;rw[b.out];exact kU (by have:=f.out;unfold BW at this;rw[b.out] at this;exact this) _ _ _⟩
 by_cases t:k < 18
 ·obtain⟨n,rfl⟩:∃ n:Nat,k=n:=⟨k.toNat,by omega⟩
  obtain⟨q0,q1,p⟩:=Bj m.out (k:=n) (by omega);go_wp2;refine bodyPost_ret (fL rfl rfl (qA (xy H1.out _ _ _))) rfl ?_
  exact⟨rfl,by unfold BW;rw[b.out];exact kU (by have:=f.out;unfold BW at this;rw[b.out] at this;exact this) _ _ _⟩
 have c:frm k=(0,0,0):=if_neg (by omega);rw[c];go_wp2;refine bodyPost_ret (fL rfl rfl (qA (xy H1.out _ _ _))) rfl ?_
 exact⟨rfl,by unfold BW;rw[b.out];exact kU (by have:=f.out;unfold BW at this;rw[b.out] at this;exact this) _ _ _⟩
end
end Ky
end
section
namespace Ky
open Kv (eU)
open Go.RowKit Go.Lib Pg
attribute [local go_sem] Oper.semAt_some
section
variable {w:World}{D:Nat->Prop}{v:Value}{l L:List Int}{x a n y:Int}
def be:Nat->Int->List Int
 | 0,_=>[]
 | n+1,x=>x / 256 ^ n % 256 :: be n x
theorem ax:∀ (n:Nat) (x:Int),(be n x).length=n
 | 0,_=>rfl
 | n+1,x=>by rw[be,List.length_cons,ax n x]
theorem fS:∀ (n j:Nat) (x:Int),j < n->(be n x).take (j+1)=(be n x).take j ++ [x / 256 ^ (n - 1 - j) % 256]
 | 0,j,x,h=>by omega
 | n+1,0,x,h=>by simp[be]
 | n + 1,j + 1,x,h=>by
  have ih:=fS n j x (by omega);rw[be,List.take_succ_cons,List.take_succ_cons,ih,List.cons_append]
  have e:n+1 - 1 - (j+1)=n - 1 - j:=by omega
  rw[e]
theorem pow8(h:Nat):(256:Int) ^ h=2 ^ (8 * h):=by rw[Int.pow_mul];rfl
theorem OB.sh(h:OB w D v l):∃ ao c,v=.slice ao l.length c:=by
 rcases h.ex with⟨rfl,rfl⟩ | ⟨b,c,rfl,_⟩
 ·exact⟨none,0,rfl⟩
 exact⟨_,c,rfl⟩
theorem dh{B:Nat}(d:OB w (B <= ·) v L)(r:B<=w.heap.size)(hL:L.length<=100000) :
  Calls Tryz.prog 110 #[v,.int .u64 x] w λe w'=>∃ v',e=.returned v'/\OB w' (B <= ·) v' (L ++ be 8 x)/\Below B w w':=by
 have s:=aZ d;have o:=aZ r;clear d r;go_enter Tryz.func110,Tryz.ntmps110;go_wp2_with fail;go_loopw [0,6] (λtv n wr=>∃ j:Nat,j<=8/\n=.int .i64 j/\Hid (OB wr (B <= ·) tv (L ++ (be 8 x).take j))/\Hid (Below B w wr)) (λ_ n _=>8 - (intOf n).toNat)
 case atStart=>exact⟨0,Nat.zero_le _,rfl,by rw[List.take_zero,List.append_nil];exact s,Below.refl _ _⟩
 case round =>
  obtain⟨j,D,rfl,b,c⟩:=hrel;by_cases l:j < 8
  ·obtain⟨h,F⟩:∃ h:Nat,(7:Int) - j=h:=⟨7 - j,by omega⟩
   have g:8 - 1 - j=h:=by omega
   have t:h < 8:=by omega
   have A:Hid ((be 8 x).take (j+1)=(be 8 x).take j ++ [x / 2 ^ (8 * h) % 256]):=by
    show _=_
    rw[fS 8 j x l,g,pow8]
   have hle:(L ++ (be 8 x).take j).length<=1000000000:=by rw[List.length_append,List.length_take,ax];omega
   obtain⟨v1,E,f,i,hS⟩:=eU (x:=x / 2 ^ (8 * h) % 256) b.out (Nat.le_trans o.out c.out.size) hle ⟨Int.emod_nonneg _ (by decide),Int.emod_lt_of_pos _ (by decide)⟩;obtain⟨G,C,rfl⟩:=OB.sh b.out;obtain⟨a1,c1,rfl⟩:=OB.sh i;generalize d:L ++ (be 8 x).take j=M at *;generalize hq:M.length=q at *;have y:=aZ i;have z:=aZ hS;have u:=aZ f;have m:=aZ d;clear i hS f hle d hq g;have f:=u.out;go_wp2_with (at_builtin;refine Lib.wpList_append_run _ rfl _ _ _ _ rfl _ _ rfl rfl _ _ f ?_;clear f);go_roundw
   case rel =>
    refine⟨j+1,by omega,by go_num,?_,c.out.trans z.out⟩;rw[A.out,<- List.append_assoc,m.out];have p:=y.out;rw[show (M ++ [x / 2 ^ (8 * h) % 256]).length=M.length+1 by simp] at p;exact p
   case measure=>simp[intOf];omega
  obtain rfl:j=8:=by omega
  rw[List.take_of_length_le (by rw[ax];omega)] at b;go_wp2;go_ret;exact⟨_,rfl,b.out,c.out⟩
theorem not64(n:Nat)(h:n < 2 ^ 64):(2 ^ 64 - 1) ^^^ n=2 ^ 64 - (n+1):=by
 apply Nat.eq_of_testBit_eq;intro i;rw[Nat.testBit_xor,Nat.testBit_two_pow_sub_one,Nat.testBit_two_pow_sub_succ h];by_cases hi:i < 64
 ·simp[hi]
 have:n.testBit i=false:=Nat.testBit_lt_two_pow (Nat.lt_of_lt_of_le h (Nat.pow_le_pow_right (by decide) (by omega)));simp[hi,this]
theorem not64i(h0:0<=a)(h1:a < 18446744073709551616):bits .xor .u64 IntKind.u64.max a=18446744073709551615 - a:=by
 obtain⟨n,rfl⟩:=Int.eq_ofNat_of_zero_le h0
 have e:IntKind.u64.max=((18446744073709551615:Nat):Int):=by kernel_rfl
 rw[e,bits_xor_u64_nat _ _ (by omega) (by omega)];have:=not64 n (by omega);rw[show (18446744073709551615:Nat)=2 ^ 64 - 1 by decide,this];omega
theorem jE{k:Int}(h0:0<=a)(h1:a < 18446744073709551616):Calls Tryz.prog 109 #[.int .i64 k,.int .u64 a] w λe w'=>e=.returned (.int .u64 (if k=10 then 18446744073709551615 - a else a))/\w'=w:=by
 by_cases h:k=10
 ·subst h;rw[if_pos rfl];go_enter Tryz.func109,Tryz.ntmps109;go_wp2;go_ret;refine⟨?_,rfl⟩
  show Ending.returned (.int .u64 (bits .xor .u64 IntKind.u64.max a))=_
  rw[not64i h0 h1]
 rw[if_neg h];go_enter Tryz.func109,Tryz.ntmps109;go_wp2;go_ret;exact⟨rfl,rfl⟩
theorem fx:Calls Tryz.prog 106 #[.agg #[.int .i64 n,.int .u8 x,.int .u8 y]] w λe w'=>e=.returned (.bool (decide (8 < n)))/\BW w w':=by
 go_enter Tryz.func106,Tryz.ntmps106;go_wp2;go_ret;exact⟨rfl,aa _ _⟩
theorem iD:Calls Tryz.prog 107 #[.agg #[.int .i64 n,.int .u8 x,.int .u8 y]] w λe w'=>e=.returned (.bool (decide (16 < n)))/\BW w w':=by
 go_enter Tryz.func107,Tryz.ntmps107;go_wp2;go_ret;exact⟨rfl,aa _ _⟩
end
end Ky
end
section
namespace Ky
open Kv (vx eU iH)
open Go.RowKit Go.Lib Pg
attribute [local go_sem] Oper.semAt_some
section
variable {w:World}{a:Act}{o:Oper}{x n g:Nat}{v:Int}
theorem cT(w:World):BW w w.drew:=⟨rfl,rfl,rfl,Nat.le_refl _,λ_ _=>rfl⟩
theorem vL(n:Nat)(hn:n<=1000):∃ w',(Instr.makeSlice 29 (.int .i64 0) (.int .i64 n)).run Tryz.prog w=.ok (.slice (some ⟨w.heap.size,0,none⟩) 0 n) w'/\OB w' (w.heap.size <= ·) (.slice (some ⟨w.heap.size,0,none⟩) 0 n) []/\BW w w':=by
 obtain⟨i,hi,b,d,c⟩:=info_parts KB.inf;have a:=run_make (P:=Tryz.prog) w 29 5 i (.int .u8 0) KB.und hi b .i64 .i64 0 (n:Int) (by omega) (by omega) (by rw[c];omega) (by omega);refine⟨_,by simpa using a,⟨λ_ h=>by simp at h,.inr ⟨_,n,rfl,Nat.le_refl _,⟨(madeCells (Value.int .u8 0).cells (n * i.size)).toList,?_,rfl,?_,Nat.zero_le _,by simp only[maxLen];omega⟩⟩⟩,aa w _⟩
 ·exact⟨by simp only[List.map_nil,List.nil_append,Array.toArray_toList];exact heap_alloc_new _ _⟩
 simp[size_madeCells,d]
theorem we{w':World}{v:Value}(hr:(Instr.makeSlice 29 (.int .i64 0) (.int .i64 n)).run Tryz.prog w=.ok v w')(ho:o.op=.makeSlice 29 (.const (.int .i64 0)) (.tmp x):=by kernel_rfl)(hx:a.eval (.tmp x)=.int .i64 n:=by kernel_rfl):(execOp a.eval o).run Tryz.prog w=.ok (.value v) w':=by
 have b:a.eval (.const (.int .i64 0))=.int .i64 0:=rfl;simp only[execOp,ho,hx,b];simp[hr,Result.andThen]
theorem BH{m:Int}(ho:o.op=.buildSlice 29 1 #[(0,.tmp x)])(hx:a.eval (.tmp x)=.int .u8 m):(execOp a.eval o).run Tryz.prog w=.ok (.value (.slice (some ⟨w.heap.size,0,none⟩) 1 1)) (w.alloc (.cells #[.int .u8 m] 5)):=by
 have b:a.tmps[x]?.getD undef=.int .u8 m:=by simpa[Act.eval] using hx
 simp only[execOp,ho];go_simp
theorem iq{o:Nat}(c:w.cell? ⟨g,o,none⟩=some (.int .i64 v)):(loadVar 3 ⟨g,o,none⟩).run Tryz.prog w=.ok (.int .i64 v) w:=by go_simp
theorem ld_u8{o:Nat}(c:w.cell? ⟨g,o,none⟩=some (.int .u8 v)):(loadVar 5 ⟨g,o,none⟩).run Tryz.prog w=.ok (.int .u8 v) w:=by go_simp
def mkb(f:Int × Int × Int)(a:Int):List Int:=[f.2.1] ++ (if 8 < f.1 then be 8 a else []) ++ (if f.2.2=0 then [] else [f.2.2])
theorem yn{m0 m1 a:Int}(hn:n<=1000)(h0:0<=m0/\m0 < 256)(h1:0<=m1/\m1 < 256) :
  Calls Tryz.prog 108 #[.agg #[.int .i64 n,.int .u8 m0,.int .u8 m1],.int .u64 a] w λe w'=>∃ v,e=.returned v/\OB w' (w.heap.size <= ·) v (mkb (n,m0,m1) a)/\BW w w':=by
 have H0:=aZ h0;have H1:=aZ h1;clear h0 h1;go_enter Tryz.func108,Tryz.ntmps108;go_wp2_with fail;have kq:=ay w [.int .i64 n,.int .u8 m0,.int .u8 m1] 204;have bq:=aa w (.cells #[.int .i64 n,.int .u8 m0,.int .u8 m1] 204)
 have L:(w.alloc (.cells #[.int .i64 n,.int .u8 m0,.int .u8 m1] 204)).heap.size=w.heap.size+1:=by simp
 generalize w.alloc (.cells #[.int .i64 n,.int .u8 m0,.int .u8 m1] 204)=X at *;generalize hq:w.heap.size=q at *;have hS:=kq.drew;refine cZ (S:=λw'=>Blk w' q [.int .i64 n,.int .u8 m0,.int .u8 m1] 204) (by kernel_rfl) hS ?_
 refine aI 0 6 (.pointer (some ⟨q,0,none⟩)) hS ?_
 refine aV 1 (some 7) (.int .i64 n) 3 6 q 0 (λw' h=>iq (h.cell (i:=0) rfl)) hS ?_
 refine aI 3 9 (.pointer (some ⟨q,1,none⟩)) hS ?_
 refine aI 4 10 (.pointer (some ⟨q,1,none⟩)) hS ?_
 refine aV 5 (some 11) (.int .u8 m0) 5 10 q 1 (λw' h=>ld_u8 (h.cell (i:=1) rfl)) hS ?_
 have Xd:X.drew.heap.size=q+1:=L;obtain⟨w3,U,O3,b3⟩:=vL (w:=X.drew) n hn;have b4:=aa w3 (.cells #[.int .u8 m0] 5);obtain⟨v5,w5,W,O5,B5⟩:=vx (B:=q+1) (p:=w3.heap.size) (x:=m0) ((O3.mono (D':=(q+1 <= ·)) (λb _ h=>by omega)).keep b4) (by have:=b3.size;have:=b4.size;omega) (by simp) H0.out ((ay w3 [.int .u8 m0] 5).cell (i:=0) rfl);obtain⟨a5,c5,rfl⟩:=OB.sh O5;have k3:=hS.keep b3;have k4:=k3.keep b4;have k5:=k4.nA B5 (by omega)
 have d5:Below (q+1) X w5:=((cT X).mono (Nat.le_of_eq L.symm)).trans (((ae b3 b4).mono (Nat.le_of_eq Xd.symm)).trans B5);have c:=aa X.drew (.cells #[.int .u8 m0] 5);obtain⟨w7,P,O7,b7⟩:=vL (w:=X.drew.alloc (.cells #[.int .u8 m0] 5)) n hn;obtain⟨v8,w8,Q,O8,B8⟩:=vx (B:=q+1) (p:=X.drew.heap.size) (x:=m0) (O7.mono (D':=(q+1 <= ·)) (λb _ h=>by have:=c.size;omega)) (by have:=c.size;have:=b7.size;omega) (by simp) H0.out (((ay X.drew [.int .u8 m0] 5).keep b7).cell (i:=0) rfl);obtain⟨a8,c8,rfl⟩:=OB.sh O8;have k6:=hS.keep c;have k7:=k6.keep b7;have k8:=k7.nA B8 (by omega)
 have d8:Below (q+1) X w8:=((cT X).mono (Nat.le_of_eq L.symm)).trans (((ae c b7).mono (Nat.le_of_eq Xd.symm)).trans B8);refine aQ [2,6] (bU 2 (some 8) (.slice (some ⟨X.drew.heap.size,0,none⟩) 0 n) w3 (we (x:=7) U) k3 ?_ (bU 6 (some 12) (.slice (some ⟨X.drew.heap.size,0,none⟩) 1 1) (X.drew.alloc (.cells #[.int .u8 m0] 5)) (BH (x:=11) (by kernel_rfl) (by kernel_rfl)) k6 ?_ aY))
 ·refine aQ [6] (bU 6 (some 12) (.slice (some ⟨w3.heap.size,0,none⟩) 1 1) (w3.alloc (.cells #[.int .u8 m0] 5)) (BH (x:=11) (by kernel_rfl) (by kernel_rfl)) k4 ?_ aY);refine aQ [7] (bU 7 (some 13) (.slice a5 ([] ++ [m0]).length c5) w5 (iH (x:=8) (y:=12) rfl W) k5 ?_ aY);refine aI 8 5 (.slice a5 ([] ++ [m0]).length c5) k5 ?_
  refine cn ?_
  simp only[Act.put,List.setIfInBounds_toArray,List.set_cons_zero,List.set_cons_succ];have J:=aZ O5;have D:=aZ k5;have K:=aZ d5
  have f:q+1<=w5.heap.size:=by have:=d5.size;omega
  have r:=aZ hq;have o:=aZ bq;have HXS:=aZ L;clear hS Xd U O3 b3 b4 W O5 B5 k3 k4 k5 d5 c P O7 b7 Q O8 B8 k6 k7 k8 d8 kq bq hq L;have q0:=D.out.cell (i:=0) rfl;have q1:=D.out.cell (i:=1) rfl;have q2:=D.out.cell (i:=2) rfl;have s:=fx (w:=w5) (n:=n) (x:=m0) (y:=m1);by_cases u:8 < n
  ·by_cases hm:m1=0
   ·have z:Hid (mkb ((n:Int),m0,m1) a=([] ++ [m0]) ++ be 8 a):=by have l:((8:Int) < n):=(by omega); show _=_; simp[mkb,l,hm]
    have u:(8:Int) < n:=by omega
    rw[decide_eq_true u] at s;subst hm;go_wp2_with first
     | (go_at_call 106;refine s.mono ?_;rintro e C ⟨rfl,c⟩;have j:=D.out.keep c;have Z:=j.cell (i:=0) rfl;have p1:=j.cell (i:=1) rfl;have M:=j.cell (i:=2) rfl;have F:=K.out.trans (c.mono f);have E:=J.out.keep c;have t:q+1<=C.heap.size:=Nat.le_trans f c.size)
     | (go_at_call 110;refine(dh (x:=a) E t (by simp)).mono ?_;rintro e V ⟨v9,rfl,I,A⟩;obtain⟨a9,c9,rfl⟩:=OB.sh I;have H:=j.nA A (Nat.lt_succ_self q);have r1:=H.cell (i:=1) rfl;have r2:=H.cell (i:=2) rfl;have T:=F.trans A;have s9:q+1<=V.heap.size:=Nat.le_trans t A.size)
    go_ret;exact⟨_,rfl,by rw[z.out];exact I.mono (λb _ h=>by have:=r.out;omega),by have G:=T;exact o.out.trans (G.mono (by have:=r.out;omega))⟩
   have z:Hid (mkb ((n:Int),m0,m1) a=([] ++ [m0]) ++ be 8 a ++ [m1]):=by have l:((8:Int) < n):=(by omega); show _=_; simp[mkb,l,hm]
   have u:(8:Int) < n:=by omega
   rw[decide_eq_true u] at s
   have R:m1≠0:=hm;go_wp2_with first
    | (go_at_call 106;refine s.mono ?_;rintro e C ⟨rfl,c⟩;have j:=D.out.keep c;have Z:=j.cell (i:=0) rfl;have p1:=j.cell (i:=1) rfl;have M:=j.cell (i:=2) rfl;have F:=K.out.trans (c.mono f);have E:=J.out.keep c;have t:q+1<=C.heap.size:=Nat.le_trans f c.size)
    | (go_at_call 110;refine(dh (x:=a) E t (by simp)).mono ?_;rintro e V ⟨v9,rfl,I,A⟩;obtain⟨a9,c9,rfl⟩:=OB.sh I;have H:=j.nA A (Nat.lt_succ_self q);have r1:=H.cell (i:=1) rfl;have r2:=H.cell (i:=2) rfl;have T:=F.trans A;have s9:q+1<=V.heap.size:=Nat.le_trans t A.size;obtain⟨v10,Y,g,d,m⟩:=eU (x:=m1) I s9 (by simp[ax]) H1.out;obtain⟨N,O,rfl⟩:=OB.sh d;replace d:=aZ d;replace m:=aZ m)
    | (at_builtin;refine Lib.wpList_append_run _ rfl _ _ _ _ rfl _ _ rfl rfl _ _ g ?_;clear g)
   go_ret;exact⟨_,rfl,by rw[z.out];exact d.out.mono (λb _ h=>by have:=r.out;omega),by have G:=T.trans m.out;exact o.out.trans (G.mono (by have:=r.out;omega))⟩
  by_cases hm:m1=0
  ·have z:Hid (mkb ((n:Int),m0,m1) a=([] ++ [m0])):=by have l:¬ ((8:Int) < n):=(by omega); show _=_; simp[mkb,l,hm]
   have u:¬ ((8:Int) < n):=by omega
   rw[decide_eq_false u] at s;subst hm;go_wp2_with first
    | (go_at_call 106;refine s.mono ?_;rintro e C ⟨rfl,c⟩;have j:=D.out.keep c;have Z:=j.cell (i:=0) rfl;have p1:=j.cell (i:=1) rfl;have M:=j.cell (i:=2) rfl;have F:=K.out.trans (c.mono f);have E:=J.out.keep c;have t:q+1<=C.heap.size:=Nat.le_trans f c.size)
   go_ret;exact⟨_,rfl,by rw[z.out];exact E.mono (λb _ h=>by have:=r.out;omega),by have G:=F;exact o.out.trans (G.mono (by have:=r.out;omega))⟩
  have z:Hid (mkb ((n:Int),m0,m1) a=([] ++ [m0]) ++ [m1]):=by have l:¬ ((8:Int) < n):=(by omega); show _=_; simp[mkb,l,hm]
  have u:¬ ((8:Int) < n):=by omega
  rw[decide_eq_false u] at s
  have R:m1≠0:=hm;go_wp2_with first
   | (go_at_call 106;refine s.mono ?_;rintro e C ⟨rfl,c⟩;have j:=D.out.keep c;have Z:=j.cell (i:=0) rfl;have p1:=j.cell (i:=1) rfl;have M:=j.cell (i:=2) rfl;have F:=K.out.trans (c.mono f);have E:=J.out.keep c;have t:q+1<=C.heap.size:=Nat.le_trans f c.size;obtain⟨v10,Y,g,d,m⟩:=eU (x:=m1) E t (by simp) H1.out;obtain⟨N,O,rfl⟩:=OB.sh d;replace d:=aZ d;replace m:=aZ m)
   | (at_builtin;refine Lib.wpList_append_run _ rfl _ _ _ _ rfl _ _ rfl rfl _ _ g ?_;clear g)
  go_ret;exact⟨_,rfl,by rw[z.out];exact d.out.mono (λb _ h=>by have:=r.out;omega),by have G:=F.trans m.out;exact o.out.trans (G.mono (by have:=r.out;omega))⟩
 refine aQ [2] (bU 2 (some 8) (.slice (some ⟨(X.drew.alloc (.cells #[.int .u8 m0] 5)).heap.size,0,none⟩) 0 n) w7 (we (x:=7) P) k7 ?_ aY);refine aQ [7] (bU 7 (some 13) (.slice a8 ([] ++ [m0]).length c8) w8 (iH (x:=8) (y:=12) rfl Q) k8 ?_ aY);refine aI 8 5 (.slice a8 ([] ++ [m0]).length c8) k8 ?_
 refine cn ?_
 simp only[Act.put,List.setIfInBounds_toArray,List.set_cons_zero,List.set_cons_succ];have J:=aZ O8;have D:=aZ k8;have K:=aZ d8
 have f:q+1<=w8.heap.size:=by have:=d8.size;omega
 have r:=aZ hq;have o:=aZ bq;have HXS:=aZ L;clear hS Xd U O3 b3 b4 W O5 B5 k3 k4 k5 d5 c P O7 b7 Q O8 B8 k6 k7 k8 d8 kq bq hq L;have q0:=D.out.cell (i:=0) rfl;have q1:=D.out.cell (i:=1) rfl;have q2:=D.out.cell (i:=2) rfl;have s:=fx (w:=w8) (n:=n) (x:=m0) (y:=m1);by_cases u:8 < n
 ·by_cases hm:m1=0
  ·have z:Hid (mkb ((n:Int),m0,m1) a=([] ++ [m0]) ++ be 8 a):=by have l:((8:Int) < n):=(by omega); show _=_; simp[mkb,l,hm]
   have u:(8:Int) < n:=by omega
   rw[decide_eq_true u] at s;subst hm;go_wp2_with first
    | (go_at_call 106;refine s.mono ?_;rintro e C ⟨rfl,c⟩;have j:=D.out.keep c;have Z:=j.cell (i:=0) rfl;have p1:=j.cell (i:=1) rfl;have M:=j.cell (i:=2) rfl;have F:=K.out.trans (c.mono f);have E:=J.out.keep c;have t:q+1<=C.heap.size:=Nat.le_trans f c.size)
    | (go_at_call 110;refine(dh (x:=a) E t (by simp)).mono ?_;rintro e V ⟨v9,rfl,I,A⟩;obtain⟨a9,c9,rfl⟩:=OB.sh I;have H:=j.nA A (Nat.lt_succ_self q);have r1:=H.cell (i:=1) rfl;have r2:=H.cell (i:=2) rfl;have T:=F.trans A;have s9:q+1<=V.heap.size:=Nat.le_trans t A.size)
   go_ret;exact⟨_,rfl,by rw[z.out];exact I.mono (λb _ h=>by have:=r.out;omega),by have G:=T;exact o.out.trans (G.mono (by have:=r.out;omega))⟩
  have z:Hid (mkb ((n:Int),m0,m1) a=([] ++ [m0]) ++ be 8 a ++ [m1]):=by have l:((8:Int) < n):=(by omega); show _=_; simp[mkb,l,hm]
  have u:(8:Int) < n:=by omega
  rw[decide_eq_true u] at s
  have R:m1≠0:=hm;go_wp2_with first
   | (go_at_call 106;refine s.mono ?_;rintro e C ⟨rfl,c⟩;have j:=D.out.keep c;have Z:=j.cell (i:=0) rfl;have p1:=j.cell (i:=1) rfl;have M:=j.cell (i:=2) rfl;have F:=K.out.trans (c.mono f);have E:=J.out.keep c;have t:q+1<=C.heap.size:=Nat.le_trans f c.size)
   | (go_at_call 110;refine(dh (x:=a) E t (by simp)).mono ?_;rintro e V ⟨v9,rfl,I,A⟩;obtain⟨a9,c9,rfl⟩:=OB.sh I;have H:=j.nA A (Nat.lt_succ_self q);have r1:=H.cell (i:=1) rfl;have r2:=H.cell (i:=2) rfl;have T:=F.trans A;have s9:q+1<=V.heap.size:=Nat.le_trans t A.size;obtain⟨v10,Y,g,d,m⟩:=eU (x:=m1) I s9 (by simp[ax]) H1.out;obtain⟨N,O,rfl⟩:=OB.sh d;replace d:=aZ d;replace m:=aZ m)
   | (at_builtin;refine Lib.wpList_append_run _ rfl _ _ _ _ rfl _ _ rfl rfl _ _ g ?_;clear g)
  go_ret;exact⟨_,rfl,by rw[z.out];exact d.out.mono (λb _ h=>by have:=r.out;omega),by have G:=T.trans m.out;exact o.out.trans (G.mono (by have:=r.out;omega))⟩
 by_cases hm:m1=0
 ·have z:Hid (mkb ((n:Int),m0,m1) a=([] ++ [m0])):=by have l:¬ ((8:Int) < n):=(by omega); show _=_; simp[mkb,l,hm]
  have u:¬ ((8:Int) < n):=by omega
  rw[decide_eq_false u] at s;subst hm;go_wp2_with first
   | (go_at_call 106;refine s.mono ?_;rintro e C ⟨rfl,c⟩;have j:=D.out.keep c;have Z:=j.cell (i:=0) rfl;have p1:=j.cell (i:=1) rfl;have M:=j.cell (i:=2) rfl;have F:=K.out.trans (c.mono f);have E:=J.out.keep c;have t:q+1<=C.heap.size:=Nat.le_trans f c.size)
  go_ret;exact⟨_,rfl,by rw[z.out];exact E.mono (λb _ h=>by have:=r.out;omega),by have G:=F;exact o.out.trans (G.mono (by have:=r.out;omega))⟩
 have z:Hid (mkb ((n:Int),m0,m1) a=([] ++ [m0]) ++ [m1]):=by have l:¬ ((8:Int) < n):=(by omega); show _=_; simp[mkb,l,hm]
 have u:¬ ((8:Int) < n):=by omega
 rw[decide_eq_false u] at s
 have R:m1≠0:=hm;go_wp2_with first
  | (go_at_call 106;refine s.mono ?_;rintro e C ⟨rfl,c⟩;have j:=D.out.keep c;have Z:=j.cell (i:=0) rfl;have p1:=j.cell (i:=1) rfl;have M:=j.cell (i:=2) rfl;have F:=K.out.trans (c.mono f);have E:=J.out.keep c;have t:q+1<=C.heap.size:=Nat.le_trans f c.size;obtain⟨v10,Y,g,d,m⟩:=eU (x:=m1) E t (by simp) H1.out;obtain⟨N,O,rfl⟩:=OB.sh d;replace d:=aZ d;replace m:=aZ m)
  | (at_builtin;refine Lib.wpList_append_run _ rfl _ _ _ _ rfl _ _ rfl rfl _ _ g ?_;clear g)
 go_ret;exact⟨_,rfl,by rw[z.out];exact d.out.mono (λb _ h=>by have:=r.out;omega),by have G:=F.trans m.out;exact o.out.trans (G.mono (by have:=r.out;omega))⟩
end
end Ky
end
section
namespace Ky
open Go.RowKit Go.Lib Pg
attribute [local go_sem] Oper.semAt_some
theorem qU (a b c d:Int) (w:World):(Op.equalIn 9999 202 (.agg #[.int .u8 a,.int .u8 b]) (.agg #[.int .u8 c,.int .u8 d])).run Tryz.prog w=.ok (a == c && b == d) w:=by
 rw[show (9999:Nat)=9998+1 from rfl,Op.equalIn];simp only[Sem.run_bind,run_underlying Tryz.underlying202,Result.andThen_ok];simp only[Std.Legacy.Range.forIn_eq_forIn_range',Std.Legacy.Range.size,Nat.sub_zero,Nat.add_sub_cancel,Nat.div_one,List.range'_succ,List.range'_zero,List.forIn_cons,List.forIn_nil];go_simp;by_cases g:a=c<;>by_cases f:b=d<;>simp[g,f]
attribute [local go_sem] qU
theorem pF (k:Int):∃ (n:Nat) (m0 m1:Int),frm k=((n:Int),m0,m1)/\n<=18/\(0<=m0/\m0 < 256)/\(0<=m1/\m1 < 256)/\(n=0->m0=0/\m1=0):=by
 by_cases h:0<=k/\k < 18
 ·obtain⟨j,rfl⟩:=Int.eq_ofNat_of_zero_le h.1
  have a:j < 18:=by omega
  match j,a with
  | 0,_=>exact⟨0,0,0,rfl,by decide,by decide,by decide,λ_=>⟨rfl,rfl⟩⟩
  | 1,_=>exact⟨1,112,0,rfl,by decide,by decide,by decide,λh=>by omega⟩
  | 2,_=>exact⟨1,99,0,rfl,by decide,by decide,by decide,λh=>by omega⟩
  | 3,_=>exact⟨1,109,0,rfl,by decide,by decide,by decide,λh=>by omega⟩
  | 4,_=>exact⟨9,97,0,rfl,by decide,by decide,by decide,λh=>by omega⟩
  | 5,_=>exact⟨10,118,48,rfl,by decide,by decide,by decide,λh=>by omega⟩
  | 6,_=>exact⟨18,118,100,rfl,by decide,by decide,by decide,λh=>by omega⟩
  | 7,_=>exact⟨18,118,104,rfl,by decide,by decide,by decide,λh=>by omega⟩
  | 8,_=>exact⟨18,118,115,rfl,by decide,by decide,by decide,λh=>by omega⟩
  | 9,_=>exact⟨9,116,0,rfl,by decide,by decide,by decide,λh=>by omega⟩
  | 10,_=>exact⟨17,105,0,rfl,by decide,by decide,by decide,λh=>by omega⟩
  | 11,_=>exact⟨9,98,0,rfl,by decide,by decide,by decide,λh=>by omega⟩
  | 12,_=>exact⟨9,117,0,rfl,by decide,by decide,by decide,λh=>by omega⟩
  | 13,_=>exact⟨9,114,0,rfl,by decide,by decide,by decide,λh=>by omega⟩
  | 14,_=>exact⟨17,113,0,rfl,by decide,by decide,by decide,λh=>by omega⟩
  | 15,_=>exact⟨17,101,0,rfl,by decide,by decide,by decide,λh=>by omega⟩
  | 16,_=>exact⟨17,110,0,rfl,by decide,by decide,by decide,λh=>by omega⟩
  | 17,_=>exact⟨17,107,0,rfl,by decide,by decide,by decide,λh=>by omega⟩
  | j+18,h=>omega
 exact⟨0,0,0,if_neg h,by decide,by decide,by decide,λ_=>⟨rfl,rfl⟩⟩
def tn (k a:Int):Int:=if k=10 then 18446744073709551615 - a else a
def mkE (k a b:Int):Bool:=decide ((frm k).1=0) || (decide (a≠0) && decide ((frm k).1<=8)) || (decide (b≠0) && decide ((frm k).1<=16))
def mk (k a b:Int):List Int:=mkb (frm k) (tn k a) ++ (if 16 < (frm k).1 then be 8 b else [])
theorem xa (f:Int × Int × Int) (a:Int):(mkb f a).length<=10:=by
 unfold mkb;split<;>split<;>simp[ax]
end Ky
end
section
namespace Ky
open Go.RowKit Go.Lib Pg
attribute [local go_sem] Oper.semAt_some qU
theorem ob_new (w:World) (x:Int) (hx:0<=x/\x < 256):OB (w.alloc (.cells #[.int .u8 x] 5)) (w.heap.size <= ·) (.slice (some ⟨w.heap.size,0,none⟩) 1 1) [x] :=
 ⟨λy hy=>by simp at hy;subst hy;exact hx,.inr ⟨_,1,rfl,Nat.le_refl _,vw (n:=1) (ay w [.int .u8 x] 5) rfl⟩⟩
theorem vi (w:World) (D:Nat->Prop):OB w D (.slice none 0 0) []:=⟨λ_ h=>by simp at h,.inl ⟨rfl,rfl⟩⟩
theorem np {w:World} {k:Int}:Calls Tryz.prog 194 #[.int .i64 k] w λe w'=>∃ v,e=.returned (.tuple #[v,.int .i64 (if (frm k).1=0 then 70 else 0)])/\OB w' (w.heap.size <= ·) v (if (frm k).1=0 then [] else [(frm k).2.1])/\BW w w':=by
 obtain⟨n,l,o,hf,hn,c,g,p⟩:=pF k;have i:=λw=>nF (w:=w) (k:=k)
 rw[hf] at i;simp only[fv] at i;rw[hf];have m:=aZ c;by_cases j:n=0
 ·subst j;obtain⟨z0,z1⟩:=p rfl;subst z0 z1;simp only[show ((0:Nat):Int)=0 from rfl] at i ⊢;clear hf c g;go_enter Tryz.func194,Tryz.ntmps194;go_wp2_with (go_at_call 105;refine(i _).mono ?_;rintro e f ⟨rfl,b1⟩);go_ret2;exact⟨_,rfl,vi _ _,ae b1 (aa _ _)⟩
 have d:¬ ((n:Int)=0):=by omega
 have r:=aZ d;simp only;rw[if_neg d,if_neg d];clear hf c g p j;go_enter Tryz.func194,Tryz.ntmps194;go_wp2_with (go_at_call 105;refine(i _).mono ?_;rintro e f ⟨rfl,b1⟩);go_ret2;have al:=aa f (.cells #[.int .i64 (n:Int),.int .u8 l,.int .u8 o] 204);have q:=ob_new (f.alloc (.cells #[.int .i64 (n:Int),.int .u8 l,.int .u8 o] 204)) l m.out;rw[show (f.alloc (.cells #[.int .i64 (n:Int),.int .u8 l,.int .u8 o] 204)).heap.size=f.heap.size+1 by simp] at q;refine⟨_,rfl,q.mono (λb _ h=>?_),ae b1 (ae al (aa _ _))⟩;have:=b1.size;omega
section
variable {w:World}{ao:Option Addr}{n c:Nat}{l:List Int}
def bv(l:List Int):Int:=l.foldl (λn d=>n * 256+d) 0
theorem wH(l:List Int)(x:Int):bv (l ++ [x])=bv l * 256+x:=by simp[bv]
theorem jN:∀ (n:Nat) (l:List Int),Oct l->l.length=n->0<=bv l/\bv l < 256 ^ n
 | 0,l,_,h=>by
  have:l=[]:=List.eq_nil_of_length_eq_zero h;subst this;simp[bv]
 | n + 1,l,ho,h=>by
  obtain⟨b,x,rfl⟩:∃ b x,l=b ++ [x]:=by
   have a:l≠[]:=λe=>by subst e;simp at h
   exact⟨l.dropLast,l.getLast a,(List.dropLast_concat_getLast a).symm⟩
  rw[wH];have c:=jN n b (λy hy=>ho y (List.mem_append_left _ hy)) (by simpa using h);have hx:=ho x (by simp);rw[Int.pow_succ];omega
theorem or64(a b:Int)(h0:0<=a)(h1:a < 72057594037927936)(c:0<=b)(d:b < 256):bits .or .u64 (IntKind.u64.wrap (a * 256)) b=a * 256+b:=by
 have e:IntKind.u64.wrap (a * 256)=a * 256:=by rw[IntKind.wrap_u64];omega
 rw[e];exact bits_join .u64 64 (by decide) (λn h0 h1=>by rw[IntKind.wrap_u64];omega) 8 (a * 256) b (by omega) (by omega) (by omega) c (by omega) (by omega)
theorem gJ(h:By w (.slice ao n c) l)(m:l.length=n)(hn:8≤n:=by omega)(hc:n≤c:=by omega) :
    Calls Tryz.prog 248 #[.slice ao n c] w λe w'=>e=.returned (.int .u64 (bv (l.take 8)))∧w'=w:=by
  have t:=aZ h;have p:=aZ m
  have v:(8:Int)≤c:=by omega
  have j:Oct l:=h.oct;obtain⟨A,f⟩:∃ x,l[0]?=some x:=⟨l[0]'(by omega),List.getElem?_eq_getElem _⟩;obtain⟨b,o,rfl,_⟩:= By.at h f;clear h m f;go_enter Tryz.func248,Tryz.ntmps248;go_wp2_with fail;go_loopw [3,9] (λtv i wr=>∃ k:Nat,k≤8∧i=.int .i64 k∧tv=.int .u64 (bv (l.take k))∧wr=w) (λ_ i _=>8 - (intOf i).toNat)
  case atStart=>exact⟨0,Nat.zero_le _,rfl,rfl,rfl⟩
  case round =>
    obtain⟨k,hk,rfl,rfl,rfl⟩:= hrel;by_cases r:k < 8
    · obtain⟨x,hx⟩:∃ x,l[k]?=some x:=⟨l[k]'(by have:=p.out;omega),List.getElem?_eq_getElem _⟩
      obtain⟨B,C,e,z⟩:= By.at t.out hx
      cases e;have d:=j x (List.mem_of_getElem? hx)
      have q:Hid (bv (l.take (k+1))=bv (l.take k) * 256+x):=by
        show _=_
        rw[List.take_add_one,hx];exact wH _ _
      have hb:=jN k (l.take k) (λy hy=>j y (List.mem_of_mem_take hy)) (by rw[List.length_take];have:=p.out;omega)
      have g:bv (l.take k) < 72057594037927936:=by
        have D:(256:Int) ^ k≤256 ^ 7:=by
          have:(256:Nat) ^ k≤256 ^ 7:=Nat.pow_le_pow_right (by decide) (by omega);exact_mod_cast this
        have:(256:Int) ^ 7=72057594037927936:=by decide
        omega
      have u:=or64 (bv (l.take k)) x hb.1 g d.1 d.2;generalize bv (l.take k)=V at *
      have s:(k:Int) < 8:=by omega
      clear hb g hx;go_wp2;go_roundw
      case rel =>
        refine⟨k+1,by omega,by go_num,?_,trivial⟩;rw[q.out]
      case measure=>simp[intOf];omega
    · obtain rfl : k = 8 := by omega
      go_wp2;go_ret;exact⟨rfl,rfl⟩
def fIn(l:List Int):Int × Int × Int:=((l.length:Int),(l[0]?).getD 0,if 9 < l.length/\l.length % 8=2 then (l[9]?).getD 0 else 0)
theorem uN(h:By w (.slice ao n c) l)(i:l.length=n)(hbig:n<=1000000000) :
  Calls Tryz.prog 246 #[.slice ao n c] w λe w'=>e=.returned (fv (fIn l))/\BW w w':=by
 have B:=aZ i;by_cases y:n=0
 ·have f:fIn l=(0,0,0):=by
   have:l=[]:=List.eq_nil_of_length_eq_zero (by omega);subst this;simp[fIn]
  rw[f];subst y;clear h i;go_enter Tryz.func246,Tryz.ntmps246;go_wp2;refine bodyPost_ret (fL rfl rfl (qA ((ay w [.int .i64 0,.int .u8 0,.int .u8 0] 204).keep (aa _ _)))) rfl ?_
  exact⟨rfl,ae (aa _ _) (aa _ _)⟩
 obtain⟨j,d⟩:∃ x,l[0]?=some x:=⟨l[0]'(by omega),List.getElem?_eq_getElem _⟩
 obtain⟨b,o,rfl,c0⟩:=By.at h d
 have z:(0:Int) < n:=by omega
 have t:=aC c0;rw[Nat.add_zero] at c0;by_cases m:9 < n/\n % 8=2
 ·obtain⟨q,g⟩:∃ x,l[9]?=some x:=⟨l[9]'(by omega),List.getElem?_eq_getElem _⟩
  obtain⟨C,D,e,A⟩:=By.at h g
  cases e
  have f:fIn l=((n:Int),j,q):=by rw[fIn,i,if_pos m,d,g];rfl
  rw[f]
  have p:(9:Int) < n:=by omega
  have s:Int.tmod (n:Int) 8=2:=by rw[Int.tmod_eq_emod_of_nonneg (by omega)];omega
  clear h i d g f m;go_enter Tryz.func246,Tryz.ntmps246;go_wp2;refine bodyPost_ret (fL rfl rfl (qA ((ay w [.int .i64 (n:Int),.int .u8 j,.int .u8 q] 204).keep (aa _ _)))) rfl ?_
  exact⟨rfl,ae (aa _ _) (aa _ _)⟩
 have f:fIn l=((n:Int),j,0):=by rw[fIn,i,if_neg m,d]; rfl
 rw[f];clear h i d f;by_cases v:9 < n
 ·have p:(9:Int) < n:=by omega
  obtain⟨r,s⟩:∃ r,Int.tmod (n:Int) 8=r:=⟨_,rfl⟩
  have u:¬ r=2:=by rw[<- s,Int.tmod_eq_emod_of_nonneg (by omega)];omega
  clear m;go_enter Tryz.func246,Tryz.ntmps246;go_wp2;refine bodyPost_ret (fL rfl rfl (qA ((ay w [.int .i64 (n:Int),.int .u8 j,.int .u8 0] 204).keep (aa _ _)))) rfl ?_
  exact⟨rfl,ae (aa _ _) (aa _ _)⟩
 have p:¬ ((9:Int) < n):=by omega
 clear m;go_enter Tryz.func246,Tryz.ntmps246;go_wp2;refine bodyPost_ret (fL rfl rfl (qA ((ay w [.int .i64 (n:Int),.int .u8 j,.int .u8 0] 204).keep (aa _ _)))) rfl ?_
 exact⟨rfl,ae (aa _ _) (aa _ _)⟩
end
theorem yH:∀ k:Nat,k < 18->∀ w,(Instr.index 248 (.agg #[.int .i64 0,.int .u8 0,.int .u8 0,.int .i64 1,.int .u8 112,.int .u8 0,.int .i64 1,.int .u8 99,.int .u8 0,.int .i64 1,.int .u8 109,.int .u8 0,.int .i64 9,.int .u8 97,.int .u8 0,.int .i64 10,.int .u8 118,.int .u8 48,.int .i64 18,.int .u8 118,.int .u8 100,.int .i64 18,.int .u8 118,.int .u8 104,.int .i64 18,.int .u8 118,.int .u8 115,.int .i64 9,.int .u8 116,.int .u8 0,.int .i64 17,.int .u8 105,.int .u8 0,.int .i64 9,.int .u8 98,.int .u8 0,.int .i64 9,.int .u8 117,.int .u8 0,.int .i64 9,.int .u8 114,.int .u8 0,.int .i64 17,.int .u8 113,.int .u8 0,.int .i64 17,.int .u8 101,.int .u8 0,.int .i64 17,.int .u8 110,.int .u8 0,.int .i64 17,.int .u8 107,.int .u8 0]) (.int .i64 k)).run Tryz.prog w=.ok (.agg #[.int .i64 (frm k).1,.int .u8 (frm k).2.1,.int .u8 (frm k).2.2]) w:=by
 intro k hk w;rcases(by omega:k=0\/k=1\/k=2\/k=3\/k=4\/k=5\/k=6\/k=7\/k=8\/k=9\/k=10\/k=11\/k=12\/k=13\/k=14\/k=15\/k=16\/k=17) with rfl | rfl | rfl | rfl | rfl | rfl | rfl | rfl | rfl | rfl | rfl | rfl | rfl | rfl | rfl | rfl | rfl | rfl
 all_goals kernel_rfl
theorem uH {w:World}:CP 153 #[] w λe w'=>∃ FA:Array Value,e=.returned (.agg FA)/\Hid (∀ k:Nat,k < 18->∀ w,(Instr.index 248 (.agg FA) (.int .i64 k)).run Tryz.prog w=.ok (.agg #[.int .i64 (frm k).1,.int .u8 (frm k).2.1,.int .u8 (frm k).2.2]) w)/\BW w w' :=
 pk.mono λ_ _ h=>⟨_,h.1,yH,h.2⟩
theorem uU {w:World} {f0 f1 f2:Int}:Calls Tryz.prog 247 #[.agg #[.int .i64 f0,.int .u8 f1,.int .u8 f2]] w λe w'=>(∃ r:Nat,e=.returned (.int .i64 r)/\((r < 18/\frm r=(f0,f1,f2))\/(r=0/\∀ j:Nat,j < 18->frm j≠(f0,f1,f2))))/\BW w w':=by
 go_enter Tryz.func247,Tryz.ntmps247;go_wp2_with (go_at_call 153;refine uH.mono ?_;rintro e A ⟨D,rfl,C,b1⟩);have c:=(ay w [.int .i64 f0,.int .u8 f1,.int .u8 f2] 204).keep b1;have v:=ae (aa w (.cells #[.int .i64 f0,.int .u8 f1,.int .u8 f2] 204)) b1;have x:=aZ c;have b:=aZ v;obtain⟨q,hq⟩:∃ q,Hid (w.heap.size=q):=⟨_,rfl⟩
 rw[hq.out] at x ⊢;clear c v b1;go_loopw [6] (λt wr=>∃ k:Nat,k<=18/\t=.int .i64 k/\Hid (∀ j:Nat,j < k->frm j≠(f0,f1,f2))/\Hid (BW A wr)) (λt _=>18 - (intOf t).toNat)
 case atStart=>exact⟨0,Nat.zero_le _,rfl,λj h=>by omega,Below.refl _ _⟩
 case round =>
  obtain⟨k,hk,rfl,s,d⟩:=hrel;by_cases g:k < 18
  ·have hi:=C.out k g
   have B:(k:Int) < 18:=by omega
   have c:=x.out.keep d.out;have q0:=c.cell (i:=0) rfl;have q1:=c.cell (i:=1) rfl;have E:=c.cell (i:=2) rfl;have z:=c.lt;obtain⟨⟨u,p1,y⟩,l⟩:∃ p,Hid (frm k=p):=⟨_,rfl⟩
   rw[l.out] at hi;simp only at hi;clear c;by_cases n:u=f0
   ·by_cases e1:p1=f1
    ·by_cases e2:y=f2
     ·subst n e1 e2;go_wp2;go_ret;exact⟨⟨k,rfl,.inl ⟨g,l.out⟩⟩,b.out.trans ((ae d.out (aa _ _)).mono b.out.size)⟩
     subst n e1
     have f:Hid (frm k≠(u,p1,f2)):=by show _≠_;rw[l.out];intro e;cases e;exact e2 rfl
     go_wp2;go_roundw
     case rel =>
      refine⟨k+1,by omega,by go_num,λj o=>?_,ae d.out (aa _ _)⟩;by_cases m:j=k
      ·subst m;exact f.out
      exact s.out j (by omega)
     case measure=>simp[intOf];omega
    subst n
    have f:Hid (frm k≠(u,f1,f2)):=by show _≠_;rw[l.out];intro e;cases e;exact e1 rfl
    go_wp2;go_roundw
    case rel =>
     refine⟨k+1,by omega,by go_num,λj o=>?_,ae d.out (aa _ _)⟩;by_cases m:j=k
     ·subst m;exact f.out
     exact s.out j (by omega)
    case measure=>simp[intOf];omega
   have f:Hid (frm k≠(f0,f1,f2)):=by show _≠_; rw[l.out]; intro e; cases e; exact n rfl
   go_wp2;go_roundw
   case rel =>
    refine⟨k+1,by omega,by go_num,λj o=>?_,ae d.out (aa _ _)⟩;by_cases m:j=k
    ·subst m;exact f.out
    exact s.out j (by omega)
   case measure=>simp[intOf];omega
  obtain rfl:k=18:=by omega
  go_wp2;go_ret;refine⟨⟨0,rfl,.inr ⟨rfl,λj o=>s.out j o⟩⟩,?_⟩;exact b.out.trans (d.out.mono b.out.size)
section
variable {w:World}{ao:Option Addr}{n c b o r g:Nat}{l:List Int}{a:Act}{x u:Value}{tmps:Array Value}
theorem By.lens(h:By w (.slice ao n c) l):l.length=n/\n<=c/\c<=9223372036854775807:=by
 obtain⟨ao',c',e,h2,h3,_⟩:=h.ex
 cases e;exact⟨rfl,h2,h3⟩
theorem By.drop(h:By w (.slice (some ⟨b,o,none⟩) n c) l)(j:Nat)(v:j<=n):By w (.slice (some ⟨b,o+j,none⟩) (n - j) (c - j)) (l.drop j):=by
 obtain⟨s,hc,hm⟩:=By.lens h;obtain⟨k,p,e,m,t,r,f,g⟩:=h.ex
 cases e;refine⟨some ⟨b,o+j,none⟩,c - j,by rw[List.length_drop],by rw[List.length_drop];omega,by omega,(λe=>by cases e),λx hx=>f x (List.mem_of_mem_drop hx),?_⟩;rcases g with rfl | ⟨q,u,e,d,a⟩
 ·exact .inl (by simp)
 cases e;refine .inr ⟨b,o+j,rfl,d,λi x hi=>?_⟩;rw[List.getElem?_drop] at hi;have:=a (j+i) x hi;rw[show o+(j+i)=o+j+i by omega] at this;exact this
theorem oX{op:Oper}{x:Nat}(ho:op.op=.slice 29 (.tmp x) (some (.const (.int .i64 1))) none none)(hx:a.eval (.tmp x)=.slice (some ⟨b,o,none⟩) n c)(f:n<=c)(hn:1<=n:=by omega)(hc:2<=c:=by omega):(execOp a.eval op).run Tryz.prog w=.ok (.value (.slice (some ⟨b,o+1,none⟩) (n - 1) (c - 1))) w:=by
 have q:¬ ((n:Int) < 1):=by omega
 have j:(1:Int)<=n:=by omega
 have l:¬ (c - 1=0):=by omega
 have p:(n:Int)<=c:=by omega
 have s:¬ (c<=1):=by omega
 have m:¬ ((c:Int)=1):=by omega
 have r:¬ (c=1):=by omega
 obtain⟨i0,hi,g,i,d⟩:=info_parts (P:=Tryz.prog) KB.inf;simp only[execOp,ho,hx];go_simp
def rdA(r:Nat)(l:List Int):Int:=if 8 < l.length then tn r (bv ((l.drop 1).take 8)) else 0
def rdB(l:List Int):Int:=if 16 < l.length then bv (l.drop (l.length - 8)) else 0
theorem Gu:∀ i:Nat,i < 18->∀ j:Nat,j < 18->frm i=frm j->i=j:=by decide +kernel
theorem uu{f0 f1 f2:Int}(hr:r < 18)(h:frm r=(f0,f1,f2)):CP 247 #[.agg #[.int .i64 f0,.int .u8 f1,.int .u8 f2]] w λe w'=>e=.returned (.int .i64 r)/\BW w w':=by
 refine uU.mono ?_
 rintro e w' ⟨⟨a,rfl,b⟩,hb⟩;rcases b with⟨h1,h2⟩ | ⟨rfl,h2⟩
 ·have:=Gu a h1 r hr (h2.trans h.symm);subst this;exact⟨rfl,hb⟩
 exact absurd h (h2 r hr)
theorem uz{y z:Value}(h:Blk w g [x,y,z] 103):(loadVar 103 ⟨g,0,none⟩).run Tryz.prog w=.ok (.agg #[x,y,z]) w:=by
 have c0:=h.cell (i:=0) rfl;have c1:=h.cell (i:=1) rfl;have c2:=h.cell (i:=2) rfl;go_simp
theorem gM{fn:Func}{p u:Tmp}{ty:TypeId}(h:fn.results=#[.cell p ty,.tmp u]){v:Value}(hp:tmps.getD p undef=.pointer (some ⟨g,0,none⟩))(hu:tmps.getD u undef=x)(a:(loadVar ty ⟨g,0,none⟩).run Tryz.prog w=.ok v w):(results fn tmps).run Tryz.prog w=.ok (.tuple #[v,x]) w:=by
 rw[results_cell_tmp h,hp,hu];simp[asAddr,a]
theorem Gj:∀ r:Nat,r < 18->0 < r->0 < (frm r).1:=by decide +kernel
theorem rQ{o:Oper}(k q:Nat){off:Nat}{x:Int}(ho:o.op=.store 22 (.tmp k) (.tmp q))(hp:a.eval (.tmp k)=.pointer (some ⟨g,off,none⟩))(hq:a.eval (.tmp q)=.int .u64 x)(hc:w.cell? ⟨g,off,none⟩=some u)(hf:w.frozen? ⟨g,off,none⟩=false) :
  (execOp a.eval o).run Tryz.prog w=.ok .skip (w.setCell ⟨g,off,none⟩ (.int .u64 x)):=by
 simp only[execOp,ho,hp,hq];go_simp
theorem CZ(h:By w (.slice ao n c) l)(hbig:n<=1000000000)(hr:r < 18)(hr0:0 < r)(Q:frm r=fIn l) :
  Calls Tryz.prog 196 #[.slice ao n c] w λe w'=>e=.returned (.tuple #[.agg #[.int .i64 (r:Int),.int .u64 (rdA r l),.int .u64 (rdB l)],.int .i64 0])/\BW w w':=by
 obtain⟨hl,hnc,hcm⟩:=By.lens h;have u1:=λw' (hB:BW w w')=>uN (h.keep hB) hl hbig
 have an:=Gj r hr hr0;obtain⟨⟨f0,f1,f2⟩,hf⟩:∃ f,Hid (fIn l=f):=⟨_,rfl⟩
 have hf0:f0=(n:Int):=by have:=hf.out;rw[fIn,hl] at this;cases this;rfl
 subst hf0;rw[hf.out] at u1 Q;rw[Q] at an;simp only[fv] at u1 an;have u2:=λw'=>uu (w:=w') hr Q
 obtain⟨x0,hx0⟩:∃ x,l[0]?=some x:=⟨l[0]'(by omega),List.getElem?_eq_getElem _⟩
 obtain⟨b,o,rfl,_⟩:=By.at h hx0;have HB:=aZ h
 have nr:¬ ((r:Int)=0):=by omega
 clear h Q hx0;by_cases h8:8 < n
 ·by_cases h16:16 < n
  ·have g8:((8:Int) < n):=by omega
   have V:=λw=>fx (w:=w) (n:=n) (x:=f1) (y:=f2)
   rw[decide_eq_true g8] at V
   have O:((16:Int) < n):=by omega
   have vB:=λw=>iD (w:=w) (n:=n) (x:=f1) (y:=f2)
   rw[decide_eq_true O] at vB
   have mA:True:=trivial
   have mB:True:=trivial
   have P:Hid (rdA r l=tn r (bv ((l.drop 1).take 8))):=by show _=_;rw[rdA,if_pos (by omega)]
   have M:Hid (rdB l=bv ((l.drop (n - 8)).take 8)):=by show _=_;rw[rdB,if_pos (by omega)];rw[hl,List.take_of_length_le (by rw[List.length_drop];omega)]
   rw[P.out,M.out];go_enter Tryz.func196,Tryz.ntmps196;go_wp2_with first
    | (go_at_call 246;refine(u1 _ (aa _ _)).mono ?_;rintro e J ⟨rfl,b1⟩)
    | (go_at_call 247;refine(u2 _).mono ?_;rintro e v ⟨rfl,K⟩;have al:=aa v (.cells #[.int .i64 (r:Int),.int .u64 0,.int .u64 0] 103);have N:=ae (aa J (.cells #[.int .i64 (n:Int),.int .u8 f1,.int .u8 f2] 204)) K;have m:=(((ay w [.int .i64 0,.int .u64 0,.int .u64 0] 103).keep b1).keep N).keep al;have t:=((ay J [.int .i64 (n:Int),.int .u8 f1,.int .u8 f2] 204).keep K).keep al;have g:=ay v [.int .i64 (r:Int),.int .u64 0,.int .u64 0] 103;have F:=ae (ae (ae (aa w (.cells #[.int .i64 0,.int .u64 0,.int .u64 0] 103)) b1) N) al;have lt1:w.heap.size < J.heap.size:=Nat.lt_of_lt_of_le (by simp) b1.size;have lt2:J.heap.size < v.heap.size:=Nat.lt_of_lt_of_le (by simp) K.size;have au:=g.cell (i:=0) rfl;have p1_2:=g.cell (i:=1) rfl;have af:=g.cell (i:=2) rfl;have g0_2:=t.cell (i:=0) rfl;have X:=t.cell (i:=1) rfl;have g2_2:=t.cell (i:=2) rfl;have aj:=m.cell (i:=0) rfl;have ad:=m.cell (i:=1) rfl;have ah:=m.cell (i:=2) rfl;have aw:=m.free 0;have T:=m.free 1;have y2_2:=m.free 2;have x0_2:=g.free 0;have Y:=g.free 1;have x2_2:=g.free 2;replace g:=aZ g;replace t:=aZ t;replace m:=aZ m;replace F:=aZ F;clear b1 K N al)
    | (go_at_call 106;have gate:=mA;clear gate;go_must (refine(V _).mono ?_);clear mA;rintro e L ⟨rfl,G⟩;have d:=g.out.keep G;have u:=t.out.keep G;have j:=m.out.keep G;have C:=ae F.out G;have R:=d.cell (i:=0) rfl;have p1_3:=d.cell (i:=1) rfl;have p2_3:=d.cell (i:=2) rfl;have av:=u.cell (i:=0) rfl;have g1_3:=u.cell (i:=1) rfl;have am:=u.cell (i:=2) rfl;have q0_3:=j.cell (i:=0) rfl;have ap:=j.cell (i:=1) rfl;have q2_3:=j.cell (i:=2) rfl;have y0_3:=j.free 0;have ar:=j.free 1;have y2_3:=j.free 2;have U:=d.free 0;have ac:=d.free 1;have x2_3:=d.free 2;replace d:=aZ d;replace u:=aZ u;replace j:=aZ j;replace C:=aZ C;clear G)
   have hS:L.drew.cell? ⟨v.heap.size,0,none⟩=some (.int .i64 (r:Int)):=d.out.drew.cell rfl;have BY:=(HB.out.keep C.out).drew;have bb:=jN 8 ((l.drop 1).take 8) (λy hy=>HB.out.oct y (List.mem_of_mem_drop (List.mem_of_mem_take hy))) (by rw[List.length_take,List.length_drop];omega);rw[show (256:Int) ^ 8=18446744073709551616 by decide] at bb;refine cZ (S:=λw'=>w'.cell? ⟨v.heap.size,0,none⟩=some (.int .i64 (r:Int))) (by kernel_rfl) hS ?_
   refine aI 0 17 (.pointer (some ⟨v.heap.size,0,none⟩)) hS ?_
   refine aV 1 (some 18) (.int .i64 (r:Int)) 3 17 v.heap.size 0 (λw' h=>iq h) hS ?_
   refine aI 2 19 (.slice (some ⟨b,o,none⟩) n c) hS ?_
   refine aI 3 20 (.slice (some ⟨b,o+1,none⟩) (n - 1) (c - 1)) hS ?_ (hy:=λ_ _=>oX (x:=19) (by kernel_rfl) (by kernel_rfl) hnc);refine da 4 (some 21) 248 #[.slice (some ⟨b,o+1,none⟩) (n - 1) (c - 1)] (gJ (By.drop BY 1 (by omega)) (by rw[List.length_drop];omega)) ?_
   rintro e' w4 ⟨rfl,rfl⟩;refine⟨_,rfl,hS,da 5 (some 22) 109 #[.int .i64 (r:Int),.int .u64 (bv ((l.drop 1).take 8))] (jE bb.1 bb.2) ?_⟩;rintro e' w5 ⟨rfl,rfl⟩;refine⟨.int .u64 (tn r (bv ((l.drop 1).take 8))),rfl,hS,aI 6 23 (.pointer (some ⟨v.heap.size,1,none⟩)) hS ?_⟩;refine aQ [7] (dy 7 (L.drew.setCell ⟨v.heap.size,1,none⟩ (.int .u64 (tn r (bv ((l.drop 1).take 8))))) (rQ 23 22 (by kernel_rfl) (by kernel_rfl) (by kernel_rfl) (d.out.drew.cell (i:=1) rfl) (d.out.drew.free 1)) ((d.out.drew.setCell (i:=1) _).cell (i:=0) rfl) ?_ aY);refine cn ?_
   simp only[Act.put,List.setIfInBounds_toArray,List.set_cons_zero,List.set_cons_succ]
   have A:Blk (L.drew.setCell ⟨v.heap.size,1,none⟩ (.int .u64 (tn r (bv ((l.drop 1).take 8))))) v.heap.size [.int .i64 (r:Int),.int .u64 (tn r (bv ((l.drop 1).take 8))),.int .u64 0] 103:=d.out.drew.setCell (i:=1) _;have D:=u.out.drew.off (g':=v.heap.size) (by omega) (i:=1) (.int .u64 (tn r (bv ((l.drop 1).take 8))));have z:=j.out.drew.off (g':=v.heap.size) (by omega) (i:=1) (.int .u64 (tn r (bv ((l.drop 1).take 8))));have I:=(ae C.out (cT L)).setCell (p:=⟨v.heap.size,1,none⟩) (show w.heap.size<=v.heap.size by omega) (.int .u64 (tn r (bv ((l.drop 1).take 8))));generalize hX5:L.drew.setCell ⟨v.heap.size,1,none⟩ (.int .u64 (tn r (bv ((l.drop 1).take 8))))=X5 at *;clear hX5;generalize hAV:tn r (bv ((l.drop 1).take 8))=AV at *;have HAV:=aZ hAV;clear hAV;have p0_5:=A.cell (i:=0) rfl;have p1_5:=A.cell (i:=1) rfl;have p2_5:=A.cell (i:=2) rfl;have g0_5:=D.cell (i:=0) rfl;have g1_5:=D.cell (i:=1) rfl;have g2_5:=D.cell (i:=2) rfl;have q0_5:=z.cell (i:=0) rfl;have q1_5:=z.cell (i:=1) rfl;have q2_5:=z.cell (i:=2) rfl;have y0_5:=z.free 0;have y1_5:=z.free 1;have y2_5:=z.free 2;have x0_5:=A.free 0;have x1_5:=A.free 1;have x2_5:=A.free 2;replace A:=aZ A;replace D:=aZ D;replace z:=aZ z;replace I:=aZ I;clear BY bb hS;have HB8:=aZ HB.out;go_wp2_with first
    | (go_at_call 107;have gate:=mB;clear gate;go_must (refine(vB _).mono ?_);clear mB;rintro e w6 ⟨rfl,H⟩;have s:=A.out.keep H;have B:=D.out.keep H;have q:=z.out.keep H;have E:=ae I.out H;have p0_6:=s.cell (i:=0) rfl;have p1_6:=s.cell (i:=1) rfl;have ai:=s.cell (i:=2) rfl;have Z:=B.cell (i:=0) rfl;have ab:=B.cell (i:=1) rfl;have W:=B.cell (i:=2) rfl;have aq:=q.cell (i:=0) rfl;have q1_6:=q.cell (i:=1) rfl;have q2_6:=q.cell (i:=2) rfl;have y0_6:=q.free 0;have y1_6:=q.free 1;have ag:=q.free 2;have x0_6:=s.free 0;have x1_6:=s.free 1;have ak:=s.free 2;replace s:=aZ s;replace B:=aZ B;replace q:=aZ q;replace E:=aZ E;clear H)
    | (go_at_call 248;refine(gJ (By.drop (HB8.out.keep E.out) (n - 8) (by omega)) (by rw[List.length_drop];omega)).mono ?_;rintro e w7 ⟨rfl,rfl⟩)
   refine bodyPost_ret (gM rfl rfl rfl (uz (xy (q.out.off (g':=v.heap.size) (by omega) (i:=2) _) _ _ _))) rfl ?_
   refine⟨?_,kU (E.out.setCell (p:=⟨v.heap.size,2,none⟩) (show w.heap.size<=v.heap.size by omega) _) _ _ _⟩
   show Ending.returned (.tuple #[.agg #[.int .i64 (r:Int),.int .u64 AV,.int .u64 (bv ((l.drop (n - 8)).take 8))],.int .i64 0])=_
   rw[<- HAV.out]
  have g8:((8:Int) < n):=by omega
  have V:=λw=>fx (w:=w) (n:=n) (x:=f1) (y:=f2)
  rw[decide_eq_true g8] at V
  have O:¬ ((16:Int) < n):=by omega
  have vB:=λw=>iD (w:=w) (n:=n) (x:=f1) (y:=f2)
  rw[decide_eq_false O] at vB
  have mA:True:=trivial
  have mB:True:=trivial
  have P:Hid (rdA r l=tn r (bv ((l.drop 1).take 8))):=by show _=_;rw[rdA,if_pos (by omega)]
  have M:Hid (rdB l=0):=by show _=_;rw[rdB,if_neg (by omega)]
  rw[P.out,M.out];go_enter Tryz.func196,Tryz.ntmps196;go_wp2_with first
   | (go_at_call 246;refine(u1 _ (aa _ _)).mono ?_;rintro e J ⟨rfl,b1⟩)
   | (go_at_call 247;refine(u2 _).mono ?_;rintro e v ⟨rfl,K⟩;have al:=aa v (.cells #[.int .i64 (r:Int),.int .u64 0,.int .u64 0] 103);have N:=ae (aa J (.cells #[.int .i64 (n:Int),.int .u8 f1,.int .u8 f2] 204)) K;have m:=(((ay w [.int .i64 0,.int .u64 0,.int .u64 0] 103).keep b1).keep N).keep al;have t:=((ay J [.int .i64 (n:Int),.int .u8 f1,.int .u8 f2] 204).keep K).keep al;have g:=ay v [.int .i64 (r:Int),.int .u64 0,.int .u64 0] 103;have F:=ae (ae (ae (aa w (.cells #[.int .i64 0,.int .u64 0,.int .u64 0] 103)) b1) N) al;have lt1:w.heap.size < J.heap.size:=Nat.lt_of_lt_of_le (by simp) b1.size;have lt2:J.heap.size < v.heap.size:=Nat.lt_of_lt_of_le (by simp) K.size;have au:=g.cell (i:=0) rfl;have p1_2:=g.cell (i:=1) rfl;have af:=g.cell (i:=2) rfl;have g0_2:=t.cell (i:=0) rfl;have X:=t.cell (i:=1) rfl;have g2_2:=t.cell (i:=2) rfl;have aj:=m.cell (i:=0) rfl;have ad:=m.cell (i:=1) rfl;have ah:=m.cell (i:=2) rfl;have aw:=m.free 0;have T:=m.free 1;have y2_2:=m.free 2;have x0_2:=g.free 0;have Y:=g.free 1;have x2_2:=g.free 2;replace g:=aZ g;replace t:=aZ t;replace m:=aZ m;replace F:=aZ F;clear b1 K N al)
   | (go_at_call 106;have gate:=mA;clear gate;go_must (refine(V _).mono ?_);clear mA;rintro e L ⟨rfl,G⟩;have d:=g.out.keep G;have u:=t.out.keep G;have j:=m.out.keep G;have C:=ae F.out G;have R:=d.cell (i:=0) rfl;have p1_3:=d.cell (i:=1) rfl;have p2_3:=d.cell (i:=2) rfl;have av:=u.cell (i:=0) rfl;have g1_3:=u.cell (i:=1) rfl;have am:=u.cell (i:=2) rfl;have q0_3:=j.cell (i:=0) rfl;have ap:=j.cell (i:=1) rfl;have q2_3:=j.cell (i:=2) rfl;have y0_3:=j.free 0;have ar:=j.free 1;have y2_3:=j.free 2;have U:=d.free 0;have ac:=d.free 1;have x2_3:=d.free 2;replace d:=aZ d;replace u:=aZ u;replace j:=aZ j;replace C:=aZ C;clear G)
  have hS:L.drew.cell? ⟨v.heap.size,0,none⟩=some (.int .i64 (r:Int)):=d.out.drew.cell rfl;have BY:=(HB.out.keep C.out).drew;have bb:=jN 8 ((l.drop 1).take 8) (λy hy=>HB.out.oct y (List.mem_of_mem_drop (List.mem_of_mem_take hy))) (by rw[List.length_take,List.length_drop];omega);rw[show (256:Int) ^ 8=18446744073709551616 by decide] at bb;refine cZ (S:=λw'=>w'.cell? ⟨v.heap.size,0,none⟩=some (.int .i64 (r:Int))) (by kernel_rfl) hS ?_
  refine aI 0 17 (.pointer (some ⟨v.heap.size,0,none⟩)) hS ?_
  refine aV 1 (some 18) (.int .i64 (r:Int)) 3 17 v.heap.size 0 (λw' h=>iq h) hS ?_
  refine aI 2 19 (.slice (some ⟨b,o,none⟩) n c) hS ?_
  refine aI 3 20 (.slice (some ⟨b,o+1,none⟩) (n - 1) (c - 1)) hS ?_ (hy:=λ_ _=>oX (x:=19) (by kernel_rfl) (by kernel_rfl) hnc);refine da 4 (some 21) 248 #[.slice (some ⟨b,o+1,none⟩) (n - 1) (c - 1)] (gJ (By.drop BY 1 (by omega)) (by rw[List.length_drop];omega)) ?_
  rintro e' w4 ⟨rfl,rfl⟩;refine⟨_,rfl,hS,da 5 (some 22) 109 #[.int .i64 (r:Int),.int .u64 (bv ((l.drop 1).take 8))] (jE bb.1 bb.2) ?_⟩;rintro e' w5 ⟨rfl,rfl⟩;refine⟨.int .u64 (tn r (bv ((l.drop 1).take 8))),rfl,hS,aI 6 23 (.pointer (some ⟨v.heap.size,1,none⟩)) hS ?_⟩;refine aQ [7] (dy 7 (L.drew.setCell ⟨v.heap.size,1,none⟩ (.int .u64 (tn r (bv ((l.drop 1).take 8))))) (rQ 23 22 (by kernel_rfl) (by kernel_rfl) (by kernel_rfl) (d.out.drew.cell (i:=1) rfl) (d.out.drew.free 1)) ((d.out.drew.setCell (i:=1) _).cell (i:=0) rfl) ?_ aY);refine cn ?_
  simp only[Act.put,List.setIfInBounds_toArray,List.set_cons_zero,List.set_cons_succ]
  have A:Blk (L.drew.setCell ⟨v.heap.size,1,none⟩ (.int .u64 (tn r (bv ((l.drop 1).take 8))))) v.heap.size [.int .i64 (r:Int),.int .u64 (tn r (bv ((l.drop 1).take 8))),.int .u64 0] 103:=d.out.drew.setCell (i:=1) _;have D:=u.out.drew.off (g':=v.heap.size) (by omega) (i:=1) (.int .u64 (tn r (bv ((l.drop 1).take 8))));have z:=j.out.drew.off (g':=v.heap.size) (by omega) (i:=1) (.int .u64 (tn r (bv ((l.drop 1).take 8))));have I:=(ae C.out (cT L)).setCell (p:=⟨v.heap.size,1,none⟩) (show w.heap.size<=v.heap.size by omega) (.int .u64 (tn r (bv ((l.drop 1).take 8))));generalize hX5:L.drew.setCell ⟨v.heap.size,1,none⟩ (.int .u64 (tn r (bv ((l.drop 1).take 8))))=X5 at *;clear hX5;generalize hAV:tn r (bv ((l.drop 1).take 8))=AV at *;have HAV:=aZ hAV;clear hAV;have p0_5:=A.cell (i:=0) rfl;have p1_5:=A.cell (i:=1) rfl;have p2_5:=A.cell (i:=2) rfl;have g0_5:=D.cell (i:=0) rfl;have g1_5:=D.cell (i:=1) rfl;have g2_5:=D.cell (i:=2) rfl;have q0_5:=z.cell (i:=0) rfl;have q1_5:=z.cell (i:=1) rfl;have q2_5:=z.cell (i:=2) rfl;have y0_5:=z.free 0;have y1_5:=z.free 1;have y2_5:=z.free 2;have x0_5:=A.free 0;have x1_5:=A.free 1;have x2_5:=A.free 2;replace A:=aZ A;replace D:=aZ D;replace z:=aZ z;replace I:=aZ I;clear BY bb hS;go_wp2_with (go_at_call 107;have gate:=mB;clear gate;go_must (refine(vB _).mono ?_);clear mB;rintro e w6 ⟨rfl,H⟩;have s:=A.out.keep H;have B:=D.out.keep H;have q:=z.out.keep H;have E:=ae I.out H;have p0_6:=s.cell (i:=0) rfl;have p1_6:=s.cell (i:=1) rfl;have ai:=s.cell (i:=2) rfl;have Z:=B.cell (i:=0) rfl;have ab:=B.cell (i:=1) rfl;have W:=B.cell (i:=2) rfl;have aq:=q.cell (i:=0) rfl;have q1_6:=q.cell (i:=1) rfl;have q2_6:=q.cell (i:=2) rfl;have y0_6:=q.free 0;have y1_6:=q.free 1;have ag:=q.free 2;have x0_6:=s.free 0;have x1_6:=s.free 1;have ak:=s.free 2;replace s:=aZ s;replace B:=aZ B;replace q:=aZ q;replace E:=aZ E;clear H);refine bodyPost_ret (gM rfl rfl rfl (uz (xy q.out _ _ _))) rfl ?_
  refine⟨?_,kU E.out _ _ _⟩
  show Ending.returned (.tuple #[.agg #[.int .i64 (r:Int),.int .u64 AV,.int .u64 0],.int .i64 0])=_
  rw[<- HAV.out]
 have g8:¬ ((8:Int) < n):=by omega
 have V:=λw=>fx (w:=w) (n:=n) (x:=f1) (y:=f2)
 rw[decide_eq_false g8] at V
 have O:¬ ((16:Int) < n):=by omega
 have vB:=λw=>iD (w:=w) (n:=n) (x:=f1) (y:=f2)
 rw[decide_eq_false O] at vB
 have mA:True:=trivial
 have mB:True:=trivial
 have P:Hid (rdA r l=0):=by show _=_;rw[rdA,if_neg (by omega)]
 have M:Hid (rdB l=0):=by show _=_;rw[rdB,if_neg (by omega)]
 rw[P.out,M.out];go_enter Tryz.func196,Tryz.ntmps196;go_wp2_with first
  | (go_at_call 246;refine(u1 _ (aa _ _)).mono ?_;rintro e J ⟨rfl,b1⟩)
  | (go_at_call 247;refine(u2 _).mono ?_;rintro e v ⟨rfl,K⟩;have al:=aa v (.cells #[.int .i64 (r:Int),.int .u64 0,.int .u64 0] 103);have N:=ae (aa J (.cells #[.int .i64 (n:Int),.int .u8 f1,.int .u8 f2] 204)) K;have m:=(((ay w [.int .i64 0,.int .u64 0,.int .u64 0] 103).keep b1).keep N).keep al;have t:=((ay J [.int .i64 (n:Int),.int .u8 f1,.int .u8 f2] 204).keep K).keep al;have g:=ay v [.int .i64 (r:Int),.int .u64 0,.int .u64 0] 103;have F:=ae (ae (ae (aa w (.cells #[.int .i64 0,.int .u64 0,.int .u64 0] 103)) b1) N) al;have lt1:w.heap.size < J.heap.size:=Nat.lt_of_lt_of_le (by simp) b1.size;have lt2:J.heap.size < v.heap.size:=Nat.lt_of_lt_of_le (by simp) K.size;have au:=g.cell (i:=0) rfl;have p1_2:=g.cell (i:=1) rfl;have af:=g.cell (i:=2) rfl;have g0_2:=t.cell (i:=0) rfl;have X:=t.cell (i:=1) rfl;have g2_2:=t.cell (i:=2) rfl;have aj:=m.cell (i:=0) rfl;have ad:=m.cell (i:=1) rfl;have ah:=m.cell (i:=2) rfl;have aw:=m.free 0;have T:=m.free 1;have y2_2:=m.free 2;have x0_2:=g.free 0;have Y:=g.free 1;have x2_2:=g.free 2;replace g:=aZ g;replace t:=aZ t;replace m:=aZ m;replace F:=aZ F;clear b1 K N al)
  | (go_at_call 106;have gate:=mA;clear gate;go_must (refine(V _).mono ?_);clear mA;rintro e L ⟨rfl,G⟩;have d:=g.out.keep G;have u:=t.out.keep G;have j:=m.out.keep G;have C:=ae F.out G;have R:=d.cell (i:=0) rfl;have p1_3:=d.cell (i:=1) rfl;have p2_3:=d.cell (i:=2) rfl;have av:=u.cell (i:=0) rfl;have g1_3:=u.cell (i:=1) rfl;have am:=u.cell (i:=2) rfl;have q0_3:=j.cell (i:=0) rfl;have ap:=j.cell (i:=1) rfl;have q2_3:=j.cell (i:=2) rfl;have y0_3:=j.free 0;have ar:=j.free 1;have y2_3:=j.free 2;have U:=d.free 0;have ac:=d.free 1;have x2_3:=d.free 2;replace d:=aZ d;replace u:=aZ u;replace j:=aZ j;replace C:=aZ C;clear G)
  | (go_at_call 107;have gate:=mB;clear gate;go_must (refine(vB _).mono ?_);clear mB;rintro e w6 ⟨rfl,H⟩;have s:=d.out.keep H;have B:=u.out.keep H;have q:=j.out.keep H;have E:=ae C.out H;have p0_6:=s.cell (i:=0) rfl;have p1_6:=s.cell (i:=1) rfl;have ai:=s.cell (i:=2) rfl;have Z:=B.cell (i:=0) rfl;have ab:=B.cell (i:=1) rfl;have W:=B.cell (i:=2) rfl;have aq:=q.cell (i:=0) rfl;have q1_6:=q.cell (i:=1) rfl;have q2_6:=q.cell (i:=2) rfl;have y0_6:=q.free 0;have y1_6:=q.free 1;have ag:=q.free 2;have x0_6:=s.free 0;have x1_6:=s.free 1;have ak:=s.free 2;replace s:=aZ s;replace B:=aZ B;replace q:=aZ q;replace E:=aZ E;clear H)
 refine bodyPost_ret (gM rfl rfl rfl (uz (xy q.out _ _ _))) rfl ?_
 refine⟨?_,kU E.out _ _ _⟩;rfl
end
end Ky
end
end Go.Proofs.YtpoifdokmjhclaaGreat
