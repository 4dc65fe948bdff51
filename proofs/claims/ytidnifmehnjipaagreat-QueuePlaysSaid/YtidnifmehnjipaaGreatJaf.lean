import Derived.Test.YtidnifmehnjipaaGreatJae
import Derived.Laws.Rows
import Derived.Laws.ResultCell
import Derived.Deep.WholeRow
import Derived.Laws.Bits64
import Derived.Laws.MakeOwn
import Derived.Laws.BitsLemmas
set_option maxRecDepth 100000
set_option maxHeartbeats 8000000
namespace Go.Proofs.YtidnifmehnjipaaGreat
section
namespace Ky
open Go.RowKit Go.Lib Pg
attribute [local go_sem] Oper.semAt_some
def frms:List (Int × Int × Int):=[(0,0,0),(1,112,0),(1,99,0),(1,109,0),(9,97,0),(10,118,48),(18,118,100),(18,118,104),(18,118,115),(9,116,0),(17,105,0),(9,98,0),(9,117,0),(9,114,0),(17,113,0),(17,101,0),(17,110,0),(17,107,0)]
def frm (k:Int):Int × Int × Int:=if 0<=k/\k < 18 then frms.getD k.toNat (0,0,0) else (0,0,0)
def fv (f:Int × Int × Int):Value:=.agg #[.int .i64 f.1,.int .u8 f.2.1,.int .u8 f.2.2]
def gj:List Value:=[.int .i64 0,.int .u8 0,.int .u8 0,.int .i64 1,.int .u8 112,.int .u8 0,.int .i64 1,.int .u8 99,.int .u8 0,.int .i64 1,.int .u8 109,.int .u8 0,.int .i64 9,.int .u8 97,.int .u8 0,.int .i64 10,.int .u8 118,.int .u8 48,.int .i64 18,.int .u8 118,.int .u8 100,.int .i64 18,.int .u8 118,.int .u8 104,.int .i64 18,.int .u8 118,.int .u8 115,.int .i64 9,.int .u8 116,.int .u8 0,.int .i64 17,.int .u8 105,.int .u8 0,.int .i64 9,.int .u8 98,.int .u8 0,.int .i64 9,.int .u8 117,.int .u8 0,.int .i64 9,.int .u8 114,.int .u8 0,.int .i64 17,.int .u8 113,.int .u8 0,.int .i64 17,.int .u8 101,.int .u8 0,.int .i64 17,.int .u8 110,.int .u8 0,.int .i64 17,.int .u8 107,.int .u8 0]
section
variable {ops:Array Oper} {rest:List Oper} {o:Oper} {a:Act} {w w1:World} {Q:Exit->Act->World->Prop}
section
variable {c c':Array Value}
theorem ru(d:Option Tmp)(v:Value)(e:o.guard=none)(c:o.dst=d)(b:(execOp a.eval o).run Tryz.prog w=.ok (.value v) w1)(h:wpList Tryz.prog ops Q rest (a.put d v) w1):wpList Tryz.prog ops Q (o :: rest) a w :=
 wpList_plain e fun K f=>by
  unfold Oper.wp;rw[b];subst c;exact f _ _ h
theorem ED(d:Option Tmp)(v:Value)(e:o.guard=none)(c:o.dst=d)(b:(execOp a.eval o).run Tryz.prog w=.ok (.value v) w)(h:wpList Tryz.prog ops Q rest (a.put d v) w):wpList Tryz.prog ops Q (o :: rest) a w:=ru d v e c b h
theorem dy(d:Nat)(v:Value)(h:wpList Tryz.prog ops Q rest (a.put (some d) v) w)(e:o.guard=none:=by rfl)(c:o.dst=some d:=by rfl)(b:(execOp a.eval o).run Tryz.prog w=.ok (.value v) w:=by kernel_rfl):wpList Tryz.prog ops Q (o :: rest) a w:=ED (some d) v e c b h
theorem wM(d:o.guard=none)(c:o.dst=none)(b:(execOp a.eval o).run Tryz.prog w=.ok .skip w1)(h:wpList Tryz.prog ops Q rest (a.put none undef) w1):wpList Tryz.prog ops Q (o :: rest) a w :=
 wpList_plain d fun K e=>by
  unfold Oper.wp;rw[b]
  show K (a.put o.dst undef) w1
  rw[c];exact e _ _ h
theorem oU{t:TypeId}{k q:Nat}(d:o.op=.store t (.tmp k) (.tmp q))(b:a.eval (.tmp k)=.pointer (some ⟨w.heap.size,0,none⟩))(f:a.eval (.tmp q)=.agg c')(hi:(Tryz.prog.info? t).map (·.size)=some c'.size)(e:c.size=c'.size)(g:c'.all (·.oneCell')=true):(execOp a.eval o).run Tryz.prog (w.alloc (.cells c t))=.ok .skip (w.alloc (.cells c' t)):=by
 simp only[execOp,d,b,f,Sem.run_bind,run_storeAt_new w t c c' hi e g,Result.andThen_ok,Sem.run_pure]
end
end
theorem oT {w:World}:Calls Tryz.prog 125 #[] w fun e w'=>e=.returned (.agg #[.int .i64 0,.int .u8 0,.int .u8 0,.int .i64 1,.int .u8 112,.int .u8 0,.int .i64 1,.int .u8 99,.int .u8 0,.int .i64 1,.int .u8 109,.int .u8 0,.int .i64 9,.int .u8 97,.int .u8 0,.int .i64 10,.int .u8 118,.int .u8 48,.int .i64 18,.int .u8 118,.int .u8 100,.int .i64 18,.int .u8 118,.int .u8 104,.int .i64 18,.int .u8 118,.int .u8 115,.int .i64 9,.int .u8 116,.int .u8 0,.int .i64 17,.int .u8 105,.int .u8 0,.int .i64 9,.int .u8 98,.int .u8 0,.int .i64 9,.int .u8 117,.int .u8 0,.int .i64 9,.int .u8 114,.int .u8 0,.int .i64 17,.int .u8 113,.int .u8 0,.int .i64 17,.int .u8 101,.int .u8 0,.int .i64 17,.int .u8 110,.int .u8 0,.int .i64 17,.int .u8 107,.int .u8 0])/\Below w.heap.size w w':=by
 go_enter Tryz.func125,Tryz.ntmps125;refine wp_seq ?_
 refine wp_region_lit ?_
 refine ru (some 0) (.pointer (some ⟨w.heap.size,0,none⟩)) rfl rfl (w1:=w.alloc (.cells #[.int .i64 0,.int .u8 0,.int .u8 0,.int .i64 0,.int .u8 0,.int .u8 0,.int .i64 0,.int .u8 0,.int .u8 0,.int .i64 0,.int .u8 0,.int .u8 0,.int .i64 0,.int .u8 0,.int .u8 0,.int .i64 0,.int .u8 0,.int .u8 0,.int .i64 0,.int .u8 0,.int .u8 0,.int .i64 0,.int .u8 0,.int .u8 0,.int .i64 0,.int .u8 0,.int .u8 0,.int .i64 0,.int .u8 0,.int .u8 0,.int .i64 0,.int .u8 0,.int .u8 0,.int .i64 0,.int .u8 0,.int .u8 0,.int .i64 0,.int .u8 0,.int .u8 0,.int .i64 0,.int .u8 0,.int .u8 0,.int .i64 0,.int .u8 0,.int .u8 0,.int .i64 0,.int .u8 0,.int .u8 0,.int .i64 0,.int .u8 0,.int .u8 0,.int .i64 0,.int .u8 0,.int .u8 0] 202)) (by kernel_rfl) ?_
 refine wpList_nil ?_
 refine wp_seq (x:=Code.region 1 _ false) ?_
 refine wp_region_lit ?_
 refine dy 1 (.agg #[.int .u8 112,.int .u8 0]) ?_
 refine dy 2 (.agg #[.int .i64 1,.int .u8 112,.int .u8 0]) ?_
 refine dy 3 (.agg #[.int .u8 99,.int .u8 0]) ?_
 refine dy 4 (.agg #[.int .i64 1,.int .u8 99,.int .u8 0]) ?_
 refine dy 5 (.agg #[.int .u8 109,.int .u8 0]) ?_
 refine dy 6 (.agg #[.int .i64 1,.int .u8 109,.int .u8 0]) ?_
 refine dy 7 (.agg #[.int .u8 97,.int .u8 0]) ?_
 refine dy 8 (.agg #[.int .i64 9,.int .u8 97,.int .u8 0]) ?_
 refine dy 9 (.agg #[.int .u8 118,.int .u8 48]) ?_
 refine dy 10 (.agg #[.int .i64 10,.int .u8 118,.int .u8 48]) ?_
 refine dy 11 (.agg #[.int .u8 118,.int .u8 100]) ?_
 refine dy 12 (.agg #[.int .i64 18,.int .u8 118,.int .u8 100]) ?_
 refine dy 13 (.agg #[.int .u8 118,.int .u8 104]) ?_
 refine dy 14 (.agg #[.int .i64 18,.int .u8 118,.int .u8 104]) ?_
 refine dy 15 (.agg #[.int .u8 118,.int .u8 115]) ?_
 refine dy 16 (.agg #[.int .i64 18,.int .u8 118,.int .u8 115]) ?_
 refine dy 17 (.agg #[.int .u8 116,.int .u8 0]) ?_
 refine dy 18 (.agg #[.int .i64 9,.int .u8 116,.int .u8 0]) ?_
 refine dy 19 (.agg #[.int .u8 105,.int .u8 0]) ?_
 refine dy 20 (.agg #[.int .i64 17,.int .u8 105,.int .u8 0]) ?_
 refine dy 21 (.agg #[.int .u8 98,.int .u8 0]) ?_
 refine dy 22 (.agg #[.int .i64 9,.int .u8 98,.int .u8 0]) ?_
 refine dy 23 (.agg #[.int .u8 117,.int .u8 0]) ?_
 refine dy 24 (.agg #[.int .i64 9,.int .u8 117,.int .u8 0]) ?_
 refine dy 25 (.agg #[.int .u8 114,.int .u8 0]) ?_
 refine dy 26 (.agg #[.int .i64 9,.int .u8 114,.int .u8 0]) ?_
 refine dy 27 (.agg #[.int .u8 113,.int .u8 0]) ?_
 refine dy 28 (.agg #[.int .i64 17,.int .u8 113,.int .u8 0]) ?_
 refine dy 29 (.agg #[.int .u8 101,.int .u8 0]) ?_
 refine dy 30 (.agg #[.int .i64 17,.int .u8 101,.int .u8 0]) ?_
 refine dy 31 (.agg #[.int .u8 110,.int .u8 0]) ?_
 refine dy 32 (.agg #[.int .i64 17,.int .u8 110,.int .u8 0]) ?_
 refine dy 33 (.agg #[.int .u8 107,.int .u8 0]) ?_
 refine dy 34 (.agg #[.int .i64 17,.int .u8 107,.int .u8 0]) ?_
 refine dy 35 (.agg #[.int .i64 0,.int .u8 0,.int .u8 0,.int .i64 1,.int .u8 112,.int .u8 0,.int .i64 1,.int .u8 99,.int .u8 0,.int .i64 1,.int .u8 109,.int .u8 0,.int .i64 9,.int .u8 97,.int .u8 0,.int .i64 10,.int .u8 118,.int .u8 48,.int .i64 18,.int .u8 118,.int .u8 100,.int .i64 18,.int .u8 118,.int .u8 104,.int .i64 18,.int .u8 118,.int .u8 115,.int .i64 9,.int .u8 116,.int .u8 0,.int .i64 17,.int .u8 105,.int .u8 0,.int .i64 9,.int .u8 98,.int .u8 0,.int .i64 9,.int .u8 117,.int .u8 0,.int .i64 9,.int .u8 114,.int .u8 0,.int .i64 17,.int .u8 113,.int .u8 0,.int .i64 17,.int .u8 101,.int .u8 0,.int .i64 17,.int .u8 110,.int .u8 0,.int .i64 17,.int .u8 107,.int .u8 0]) ?_
 refine wM rfl rfl (oU (k:=0) (q:=35) (c':=#[.int .i64 0,.int .u8 0,.int .u8 0,.int .i64 1,.int .u8 112,.int .u8 0,.int .i64 1,.int .u8 99,.int .u8 0,.int .i64 1,.int .u8 109,.int .u8 0,.int .i64 9,.int .u8 97,.int .u8 0,.int .i64 10,.int .u8 118,.int .u8 48,.int .i64 18,.int .u8 118,.int .u8 100,.int .i64 18,.int .u8 118,.int .u8 104,.int .i64 18,.int .u8 118,.int .u8 115,.int .i64 9,.int .u8 116,.int .u8 0,.int .i64 17,.int .u8 105,.int .u8 0,.int .i64 9,.int .u8 98,.int .u8 0,.int .i64 9,.int .u8 117,.int .u8 0,.int .i64 9,.int .u8 114,.int .u8 0,.int .i64 17,.int .u8 113,.int .u8 0,.int .i64 17,.int .u8 101,.int .u8 0,.int .i64 17,.int .u8 110,.int .u8 0,.int .i64 17,.int .u8 107,.int .u8 0]) (by kernel_rfl) (by kernel_rfl) (by kernel_rfl) (by kernel_rfl) rfl (by kernel_rfl)) ?_
 refine wpList_nil ?_
 refine wp_ret ?_
 refine bodyPost_ret (results_cell_row rfl _ _ w.heap.size 202 _ _ (.array 18 154) (by kernel_rfl) (heap_alloc_new _ _) (by kernel_rfl) rfl (by kernel_rfl)) rfl ?_
 exact⟨rfl,af _ _⟩
section
variable {ops:Array Oper} {rest:List Oper} {o:Oper} {a:Act} {w w1:World} {Q:Exit->Act->World->Prop}
theorem DP (d:Option Tmp) (f:FuncId) (args:Array Value) (i:o.guard=none) (g:o.dst=d) (b:(execOp a.eval o).run Tryz.prog w=.ok (.enter f args) w) {c:Ending->World->Prop} (hc:Calls Tryz.prog f args w c) (h:∀ e w',c e w'->∃ v,e=.returned v/\wpList Tryz.prog ops Q rest (a.put d v) w'):wpList Tryz.prog ops Q (o :: rest) a w :=
 wpList_plain i fun K l=>by
  unfold Oper.wp;rw[b,Oper.upon_enter];refine hc.mono ?_
  intro e w' j;obtain⟨v,rfl,k⟩:=h e w' j;subst g;exact l _ _ k
end
section
variable {w:World}{g:Nat}{tmps:Array Value}{v:Value}
theorem aQ{p:Prop}(h:p):Hid p:=h
theorem mQ:gj.toArray=#[.int .i64 0,.int .u8 0,.int .u8 0,.int .i64 1,.int .u8 112,.int .u8 0,.int .i64 1,.int .u8 99,.int .u8 0,.int .i64 1,.int .u8 109,.int .u8 0,.int .i64 9,.int .u8 97,.int .u8 0,.int .i64 10,.int .u8 118,.int .u8 48,.int .i64 18,.int .u8 118,.int .u8 100,.int .i64 18,.int .u8 118,.int .u8 104,.int .i64 18,.int .u8 118,.int .u8 115,.int .i64 9,.int .u8 116,.int .u8 0,.int .i64 17,.int .u8 105,.int .u8 0,.int .i64 9,.int .u8 98,.int .u8 0,.int .i64 9,.int .u8 117,.int .u8 0,.int .i64 9,.int .u8 114,.int .u8 0,.int .i64 17,.int .u8 113,.int .u8 0,.int .i64 17,.int .u8 101,.int .u8 0,.int .i64 17,.int .u8 110,.int .u8 0,.int .i64 17,.int .u8 107,.int .u8 0]:=rfl
theorem sj:∀ k:Nat,k < 18->gj[k * 3]?=some (.int .i64 (frm k).1)/\gj[k * 3+1]?=some (.int .u8 (frm k).2.1)/\gj[k * 3+2]?=some (.int .u8 (frm k).2.2):=by
 intro k a
 match k,a with
 | 0,_=>exact⟨rfl,rfl,rfl⟩
 | 1,_=>exact⟨rfl,rfl,rfl⟩
 | 2,_=>exact⟨rfl,rfl,rfl⟩
 | 3,_=>exact⟨rfl,rfl,rfl⟩
 | 4,_=>exact⟨rfl,rfl,rfl⟩
 | 5,_=>exact⟨rfl,rfl,rfl⟩
 | 6,_=>exact⟨rfl,rfl,rfl⟩
 | 7,_=>exact⟨rfl,rfl,rfl⟩
 | 8,_=>exact⟨rfl,rfl,rfl⟩
 | 9,_=>exact⟨rfl,rfl,rfl⟩
 | 10,_=>exact⟨rfl,rfl,rfl⟩
 | 11,_=>exact⟨rfl,rfl,rfl⟩
 | 12,_=>exact⟨rfl,rfl,rfl⟩
 | 13,_=>exact⟨rfl,rfl,rfl⟩
 | 14,_=>exact⟨rfl,rfl,rfl⟩
 | 15,_=>exact⟨rfl,rfl,rfl⟩
 | 16,_=>exact⟨rfl,rfl,rfl⟩
 | 17,_=>exact⟨rfl,rfl,rfl⟩
 | n+18,h=>omega
theorem An{k:Nat}(hb:Blk w g gj 202)(h:k < 18):w.cell? ⟨g,k * 3,none⟩=some (.int .i64 (frm k).1)/\w.cell? ⟨g,k * 3+1,none⟩=some (.int .u8 (frm k).2.1)/\w.cell? ⟨g,k * 3+2,none⟩=some (.int .u8 (frm k).2.2):=by
 obtain⟨a,b,c⟩:=sj k h;exact⟨hb.cell a,hb.cell b,hb.cell c⟩
theorem xe{x0 x1 x2:Value}{t:TypeId}(h:Blk w g [x0,x1,x2] t)(a b c:Value):Blk (((w.setCell ⟨g,0,none⟩ a).setCell ⟨g,1,none⟩ b).setCell ⟨g,2,none⟩ c) g [a,b,c] t:=((h.setCell (i:=0) a).setCell (i:=1) b).setCell (i:=2) c
theorem oq{x y z:Value}(h:Blk w g [x,y,z] 154):(loadVar 154 ⟨g,0,none⟩).run Tryz.prog w=.ok (.agg #[x,y,z]) w:=by
 have c0:=h.cell (i:=0) rfl;have c1:=h.cell (i:=1) rfl;have c2:=h.cell (i:=2) rfl;go_simp
theorem dV{fn:Func}{p:Tmp}{ty:TypeId}(h:fn.results=#[.cell p ty])(b:tmps.getD p undef=.pointer (some ⟨g,0,none⟩))(c:(loadVar ty ⟨g,0,none⟩).run Tryz.prog w=.ok v w):(results fn tmps).run Tryz.prog w=.ok v w:=by
 have a:tmps[p]?.getD undef=.pointer (some ⟨g,0,none⟩):=by simpa using b
 simp[results,h,a,asAddr,c]
theorem j9{W:World}{r:Nat}(h:Below r w W)(x y z:Value):Below r w (((W.setCell ⟨r,0,none⟩ x).setCell ⟨r,1,none⟩ y).setCell ⟨r,2,none⟩ z) :=
 ((h.setCell (Nat.le_refl _) _).setCell (Nat.le_refl _) _).setCell (Nat.le_refl _) _
theorem iW{k:Int}:Calls Tryz.prog 76 #[.int .i64 k] w fun e w'=>e=.returned (fv (frm k))/\Below w.heap.size w w':=by
 go_enter Tryz.func76,Tryz.ntmps76;refine wp_seq ?_
 refine wp_region_lit ?_
 refine ru (some 2) (.pointer (some ⟨w.heap.size,0,none⟩)) rfl rfl (w1:=w.alloc (.cells #[.int .i64 0,.int .u8 0,.int .u8 0] 154)) (by kernel_rfl) ?_
 refine wpList_nil ?_
 refine wp_seq (x:=Code.region 1 _ false) ?_
 refine wp_region_lit ?_
 refine DP (some 4) 125 #[] rfl rfl (by kernel_rfl) oT ?_
 rintro e w1 ⟨rfl,f⟩;refine⟨_,rfl,?_⟩;refine ru (some 3) (.pointer (some ⟨w1.heap.size,0,none⟩)) rfl rfl (w1:=w1.alloc (.cells #[.int .i64 0,.int .u8 0,.int .u8 0,.int .i64 0,.int .u8 0,.int .u8 0,.int .i64 0,.int .u8 0,.int .u8 0,.int .i64 0,.int .u8 0,.int .u8 0,.int .i64 0,.int .u8 0,.int .u8 0,.int .i64 0,.int .u8 0,.int .u8 0,.int .i64 0,.int .u8 0,.int .u8 0,.int .i64 0,.int .u8 0,.int .u8 0,.int .i64 0,.int .u8 0,.int .u8 0,.int .i64 0,.int .u8 0,.int .u8 0,.int .i64 0,.int .u8 0,.int .u8 0,.int .i64 0,.int .u8 0,.int .u8 0,.int .i64 0,.int .u8 0,.int .u8 0,.int .i64 0,.int .u8 0,.int .u8 0,.int .i64 0,.int .u8 0,.int .u8 0,.int .i64 0,.int .u8 0,.int .u8 0,.int .i64 0,.int .u8 0,.int .u8 0,.int .i64 0,.int .u8 0,.int .u8 0] 202)) (by kernel_rfl) ?_
 refine wM rfl rfl (oU (k:=3) (q:=4) (c':=#[.int .i64 0,.int .u8 0,.int .u8 0,.int .i64 1,.int .u8 112,.int .u8 0,.int .i64 1,.int .u8 99,.int .u8 0,.int .i64 1,.int .u8 109,.int .u8 0,.int .i64 9,.int .u8 97,.int .u8 0,.int .i64 10,.int .u8 118,.int .u8 48,.int .i64 18,.int .u8 118,.int .u8 100,.int .i64 18,.int .u8 118,.int .u8 104,.int .i64 18,.int .u8 118,.int .u8 115,.int .i64 9,.int .u8 116,.int .u8 0,.int .i64 17,.int .u8 105,.int .u8 0,.int .i64 9,.int .u8 98,.int .u8 0,.int .i64 9,.int .u8 117,.int .u8 0,.int .i64 9,.int .u8 114,.int .u8 0,.int .i64 17,.int .u8 113,.int .u8 0,.int .i64 17,.int .u8 101,.int .u8 0,.int .i64 17,.int .u8 110,.int .u8 0,.int .i64 17,.int .u8 107,.int .u8 0]) (by kernel_rfl) (by kernel_rfl) (by kernel_rfl) (by kernel_rfl) rfl (by kernel_rfl)) ?_
 refine wpList_nil ?_
 rw[<- mQ];have l:=aj w [.int .i64 0,.int .u8 0,.int .u8 0] 154;have c0:=af w (.cells #[.int .i64 0,.int .u8 0,.int .u8 0] 154);have o:=aj w1 gj 202;have c2:=af w1 (.cells gj.toArray 202);have m:=ai (ai c0 f) c2;have b:=(l.keep f).keep c2;obtain⟨r,c⟩:∃ r,Hid (w.heap.size=r):=⟨_,rfl⟩
 generalize w1.alloc (.cells gj.toArray 202)=W at *;generalize hg:w1.heap.size=g at *;generalize Value.agg gj.toArray=s;rw[c.out] at b ⊢;simp only[Act.put,List.setIfInBounds_toArray,List.set_cons_zero,List.set_cons_succ];have r0:=b.cell (i:=0) rfl;have r1:=b.cell (i:=1) rfl;have A:=b.cell (i:=2) rfl;have f0:=b.free 0;have f1:=b.free 1;have f2:=b.free 2;have H1:=aQ b;have j:=aQ m;have p:=aQ o;clear l c0 f c2 hg b m o;refine(show Code.wp _ _ _ _ _ from ?_);by_cases v:k < 0
 ·have d:frm k=(0,0,0):=if_neg (by omega);rw[d];go_wp2;refine bodyPost_ret (dV rfl rfl (oq (xe H1.out _ _ _))) rfl ?_
  exact⟨rfl,j9 (by have:=j.out;rw[c.out] at this;exact this) _ _ _⟩
 ·by_cases z:k < 18
  ·obtain⟨n,rfl⟩:∃ n:Nat,k=n:=⟨k.toNat,by omega⟩
   obtain⟨u,y,t⟩:=An p.out (k:=n) (by omega);go_wp2;refine bodyPost_ret (dV rfl rfl (oq (xe H1.out _ _ _))) rfl ?_
   exact⟨rfl,j9 (by have:=j.out;rw[c.out] at this;exact this) _ _ _⟩
  ·have d:frm k=(0,0,0):=if_neg (by omega);rw[d];go_wp2;refine bodyPost_ret (dV rfl rfl (oq (xe H1.out _ _ _))) rfl ?_
   exact⟨rfl,j9 (by have:=j.out;rw[c.out] at this;exact this) _ _ _⟩
end
end Ky
end
section
namespace Ky
open Kv (cT)
open Go.RowKit Go.Lib Pg
attribute [local go_sem] Oper.semAt_some
section
variable {w:World}{D:Nat->Prop}{v:Value}{l L:List Int}{B:Nat}{n x a y:Int}
def be:Nat->Int->List Int
 | 0,_=>[]
 | n+1,x=>x / 256 ^ n % 256 :: be n x
theorem aD:∀ (n:Nat) (x:Int),(be n x).length=n
 | 0,_=>rfl
 | n+1,x=>by rw[be,List.length_cons,aD n x]
theorem dE:∀ (n:Nat) (x:Int),Oct (be n x)
 | 0,_=>fun _ h=>by simp[be] at h
 | n + 1,x=>fun y h=>by
  rw[be,List.mem_cons] at h;rcases h with rfl | h
  ·exact⟨Int.emod_nonneg _ (by decide),Int.emod_lt_of_pos _ (by decide)⟩
  ·exact dE n x y h
theorem fV:∀ (n j:Nat) (x:Int),j < n->(be n x).take (j+1)=(be n x).take j ++ [x / 256 ^ (n - 1 - j) % 256]
 | 0,j,x,h=>by omega
 | n+1,0,x,h=>by simp[be]
 | n + 1,j + 1,x,h=>by
  have ih:=fV n j x (by omega);rw[be,List.take_succ_cons,List.take_succ_cons,ih,List.cons_append]
  have e:n+1 - 1 - (j+1)=n - 1 - j:=by omega
  rw[e]
theorem pow8(h:Nat):(256:Int) ^ h=2 ^ (8 * h):=by rw[Int.pow_mul];rfl
theorem OB.sh(h:OB w D v l):∃ ao c,v=.slice ao l.length c:=by
 rcases h.ex with⟨rfl,rfl⟩ | ⟨b,c,rfl,_⟩
 ·exact⟨none,0,rfl⟩
 ·exact⟨_,c,rfl⟩
theorem et{n:Nat}(d:OB w (B <= ·) v L)(t:B<=w.heap.size)(hn:n<=8)(I:L.length<=100000) :
  Calls Tryz.prog 89 #[v,.int .i64 n,.int .u64 x] w fun e w'=>∃ v',e=.returned v'/\OB w' (B <= ·) v' (L ++ be n x)/\Below B w w':=by
 have u:=aQ d;have p:=aQ t
 have C:(n:Int)<=8:=by omega
 clear d t;go_enter Tryz.func89,Tryz.ntmps89;go_wp2_with fail;go_loopw [0,7] (fun y o wr=>∃ j:Nat,j<=n/\o=.int .i64 ((n:Int) - 1 - j)/\Hid (OB wr (B <= ·) y (L ++ (be n x).take j))/\Hid (Below B w wr)) (fun _ o _=>(intOf o+1).toNat)
 case atStart=>exact⟨0,Nat.zero_le _,by simp,by rw[List.take_zero,List.append_nil];exact u,Below.refl _ _⟩
 case round =>
  obtain⟨j,J,rfl,b,c⟩:=hrel;by_cases l:j < n
  ·obtain⟨h,E⟩:∃ h:Nat,(n:Int) - 1 - j=h:=⟨n - 1 - j,by omega⟩
   have g:n - 1 - j=h:=by omega
   have z:h < 8:=by omega
   have G:Hid ((be n x).take (j+1)=(be n x).take j ++ [x / 2 ^ (8 * h) % 256]):=by
    show _=_
    rw[fV n j x l,g,pow8]
   have hle:(L ++ (be n x).take j).length<=1000000000:=by rw[List.length_append,List.length_take,aD];omega
   obtain⟨v1,K,f,i,hS⟩:=cT (x:=x / 2 ^ (8 * h) % 256) b.out (Nat.le_trans p.out c.out.size) hle ⟨Int.emod_nonneg _ (by decide),Int.emod_lt_of_pos _ (by decide)⟩;obtain⟨N,H,rfl⟩:=OB.sh b.out;obtain⟨O,c1,rfl⟩:=OB.sh i;generalize d:L ++ (be n x).take j=M at *;generalize hq:M.length=q at *;have D:=aQ i;have F:=aQ hS;have A:=aQ f;have m:=aQ d;rw[E];clear i hS f hle d hq g;have f:=A.out;go_wp2_with (at_builtin;refine Lib.wpList_append_run _ rfl _ _ _ _ rfl _ _ rfl rfl _ _ f ?_;clear f);go_roundw
   case rel =>
    refine⟨j+1,by omega,by go_num,?_,c.out.trans F.out⟩;rw[G.out,<- List.append_assoc,m.out];have s:=D.out;rw[show (M ++ [x / 2 ^ (8 * h) % 256]).length=M.length+1 by simp] at s;exact s
   case measure=>simp[intOf]
  ·obtain rfl:j=n:=by omega
   rw[List.take_of_length_le (by rw[aD];omega)] at b
   have r:(j:Int) - 1 - j=-1:=by omega
   rw[r];clear r;go_wp2;go_ret;exact⟨_,rfl,b.out,c.out⟩
theorem cZ(d:OB w (B <= ·) v L)(r:B<=w.heap.size)(E:L.length<=100000) :
  Calls Tryz.prog 81 #[v,.int .u64 x] w fun e w'=>∃ v',e=.returned v'/\OB w' (B <= ·) v' (L ++ be 8 x)/\Below B w w':=by
 have s:=aQ d;have o:=aQ r;clear d r;go_enter Tryz.func81,Tryz.ntmps81;go_wp2_with fail;go_loopw [0,6] (fun t n wr=>∃ j:Nat,j<=8/\n=.int .i64 j/\Hid (OB wr (B <= ·) t (L ++ (be 8 x).take j))/\Hid (Below B w wr)) (fun _ n _=>8 - (intOf n).toNat)
 case atStart=>exact⟨0,Nat.zero_le _,rfl,by rw[List.take_zero,List.append_nil];exact s,Below.refl _ _⟩
 case round =>
  obtain⟨j,F,rfl,b,c⟩:=hrel;by_cases l:j < 8
  ·obtain⟨h,H⟩:∃ h:Nat,(7:Int) - j=h:=⟨7 - j,by omega⟩
   have g:8 - 1 - j=h:=by omega
   have u:h < 8:=by omega
   have C:Hid ((be 8 x).take (j+1)=(be 8 x).take j ++ [x / 2 ^ (8 * h) % 256]):=by
    show _=_
    rw[fV 8 j x l,g,pow8]
   have hle:(L ++ (be 8 x).take j).length<=1000000000:=by rw[List.length_append,List.length_take,aD];omega
   obtain⟨v1,G,f,i,hS⟩:=cT (x:=x / 2 ^ (8 * h) % 256) b.out (Nat.le_trans o.out c.out.size) hle ⟨Int.emod_nonneg _ (by decide),Int.emod_lt_of_pos _ (by decide)⟩;obtain⟨I,D,rfl⟩:=OB.sh b.out;obtain⟨J,c1,rfl⟩:=OB.sh i;generalize d:L ++ (be 8 x).take j=M at *;generalize hq:M.length=q at *;have z:=aQ i;have A:=aQ hS;have y:=aQ f;have m:=aQ d;clear i hS f hle d hq g;have f:=y.out;go_wp2_with (at_builtin;refine Lib.wpList_append_run _ rfl _ _ _ _ rfl _ _ rfl rfl _ _ f ?_;clear f);go_roundw
   case rel =>
    refine⟨j+1,by omega,by go_num,?_,c.out.trans A.out⟩;rw[C.out,<- List.append_assoc,m.out];have p:=z.out;rw[show (M ++ [x / 2 ^ (8 * h) % 256]).length=M.length+1 by simp] at p;exact p
   case measure=>simp[intOf];omega
  ·obtain rfl:j=8:=by omega
   rw[List.take_of_length_le (by rw[aD];omega)] at b;go_wp2;go_ret;exact⟨_,rfl,b.out,c.out⟩
theorem not64(n:Nat)(h:n < 2 ^ 64):(2 ^ 64 - 1) ^^^ n=2 ^ 64 - (n+1):=by
 apply Nat.eq_of_testBit_eq;intro i;rw[Nat.testBit_xor,Nat.testBit_two_pow_sub_one,Nat.testBit_two_pow_sub_succ h];by_cases hi:i < 64
 ·simp[hi]
 ·have:n.testBit i=false:=Nat.testBit_lt_two_pow (Nat.lt_of_lt_of_le h (Nat.pow_le_pow_right (by decide) (by omega)));simp[hi,this]
theorem not64i(b:0<=a)(c:a < 18446744073709551616):bits .xor .u64 IntKind.u64.max a=18446744073709551615 - a:=by
 obtain⟨n,rfl⟩:=Int.eq_ofNat_of_zero_le b
 have e:IntKind.u64.max=((18446744073709551615:Nat):Int):=by kernel_rfl
 rw[e,bits_xor_u64_nat _ _ (by omega) (by omega)];have:=not64 n (by omega);rw[show (18446744073709551615:Nat)=2 ^ 64 - 1 by decide,this];omega
theorem gw{k:Int}(b:0<=a)(c:a < 18446744073709551616):Calls Tryz.prog 80 #[.int .i64 k,.int .u64 a] w fun e w'=>e=.returned (.int .u64 (if k=10 then 18446744073709551615 - a else a))/\w'=w:=by
 by_cases h:k=10
 ·subst h;rw[if_pos rfl];go_enter Tryz.func80,Tryz.ntmps80;go_wp2;go_ret;refine⟨?_,rfl⟩
  show Ending.returned (.int .u64 (bits .xor .u64 IntKind.u64.max a))=_
  rw[not64i b c]
 ·rw[if_neg h];go_enter Tryz.func80,Tryz.ntmps80;go_wp2;go_ret;exact⟨rfl,rfl⟩
theorem eQ:Calls Tryz.prog 77 #[.agg #[.int .i64 n,.int .u8 x,.int .u8 y]] w fun e w'=>e=.returned (.bool (decide (8 < n)))/\Below w.heap.size w w':=by
 go_enter Tryz.func77,Tryz.ntmps77;go_wp2;go_ret;exact⟨rfl,af _ _⟩
theorem fI:Calls Tryz.prog 78 #[.agg #[.int .i64 n,.int .u8 x,.int .u8 y]] w fun e w'=>e=.returned (.bool (decide (16 < n)))/\Below w.heap.size w w':=by
 go_enter Tryz.func78,Tryz.ntmps78;go_wp2;go_ret;exact⟨rfl,af _ _⟩
end
end Ky
end
section
namespace Ky
open Kv (jE uT cT)
open Go.RowKit Go.Lib Pg
attribute [local go_sem] Oper.semAt_some
section
variable {w:World}{a:Act}{o:Oper}{x n g:Nat}{v:Int}
theorem cy(w:World):Below w.heap.size w w.drew:=⟨rfl,rfl,rfl,Nat.le_refl _,fun _ _=>rfl⟩
theorem vj(n:Nat)(hn:n<=1000):∃ w',(Instr.makeSlice 36 (.int .i64 0) (.int .i64 n)).run Tryz.prog w=.ok (.slice (some ⟨w.heap.size,0,none⟩) 0 n) w'/\OB w' (w.heap.size <= ·) (.slice (some ⟨w.heap.size,0,none⟩) 0 n) []/\Below w.heap.size w w':=by
 obtain⟨i,hi,b,d,c⟩:=info_parts KB.inf;have a:=run_make (P:=Tryz.prog) w 36 5 i (.int .u8 0) KB.und hi b .i64 .i64 0 (n:Int) (by omega) (by omega) (by rw[c];omega) (by omega);refine⟨_,by simpa using a,⟨fun _ h=>by simp at h,.inr ⟨_,n,rfl,Nat.le_refl _,⟨(madeCells (Value.int .u8 0).cells (n * i.size)).toList,?_,rfl,?_,Nat.zero_le _,by simp only[maxLen];omega⟩⟩⟩,af w _⟩
 ·exact⟨by simp only[List.map_nil,List.nil_append,Array.toArray_toList];exact heap_alloc_new _ _⟩
 ·simp[size_madeCells,d]
theorem vE{w':World}{v:Value}(b:o.op=.makeSlice 36 (.const (.int .i64 0)) (.tmp x))(hx:a.eval (.tmp x)=.int .i64 n)(c:(Instr.makeSlice 36 (.int .i64 0) (.int .i64 n)).run Tryz.prog w=.ok v w'):(execOp a.eval o).run Tryz.prog w=.ok (.value v) w':=by
 have d:a.eval (.const (.int .i64 0))=.int .i64 0:=rfl;simp only[execOp,b,hx,d];simp[c,Result.andThen]
theorem AG{m:Int}(c:o.op=.buildSlice 36 1 #[(0,.tmp x)])(hx:a.eval (.tmp x)=.int .u8 m):(execOp a.eval o).run Tryz.prog w=.ok (.value (.slice (some ⟨w.heap.size,0,none⟩) 1 1)) (w.alloc (.cells #[.int .u8 m] 5)):=by
 have b:a.tmps[x]?.getD undef=.int .u8 m:=by simpa[Act.eval] using hx
 simp only[execOp,c];go_simp
theorem gS{o:Nat}(c:w.cell? ⟨g,o,none⟩=some (.int .i64 v)):(loadVar 3 ⟨g,o,none⟩).run Tryz.prog w=.ok (.int .i64 v) w:=by go_simp
theorem ld_u8{o:Nat}(c:w.cell? ⟨g,o,none⟩=some (.int .u8 v)):(loadVar 5 ⟨g,o,none⟩).run Tryz.prog w=.ok (.int .u8 v) w:=by go_simp
def mkb(f:Int × Int × Int)(a:Int):List Int:=[f.2.1] ++ (if 8 < f.1 then be 8 a else []) ++ (if f.2.2=0 then [] else [f.2.2])
theorem oS{m0 m1 a:Int}(hn:n<=1000)(h0:0<=m0/\m0 < 256)(h1:0<=m1/\m1 < 256) :
  Calls Tryz.prog 79 #[.agg #[.int .i64 n,.int .u8 m0,.int .u8 m1],.int .u64 a] w fun e w'=>∃ v,e=.returned v/\OB w' (w.heap.size <= ·) v (mkb (n,m0,m1) a)/\Below w.heap.size w w':=by
 have H0:=aQ h0;have H1:=aQ h1;clear h0 h1;go_enter Tryz.func79,Tryz.ntmps79;go_wp2_with fail;have kq:=aj w [.int .i64 n,.int .u8 m0,.int .u8 m1] 154;have bq:=af w (.cells #[.int .i64 n,.int .u8 m0,.int .u8 m1] 154)
 have K:(w.alloc (.cells #[.int .i64 n,.int .u8 m0,.int .u8 m1] 154)).heap.size=w.heap.size+1:=by simp
 generalize w.alloc (.cells #[.int .i64 n,.int .u8 m0,.int .u8 m1] 154)=X at *;generalize hq:w.heap.size=q at *;have hS:=kq.drew;refine bJ (S:=fun w'=>Blk w' q [.int .i64 n,.int .u8 m0,.int .u8 m1] 154) (by kernel_rfl) hS ?_
 refine ax 0 6 (.pointer (some ⟨q,0,none⟩)) (by kernel_rfl) (fun _ _=>by kernel_rfl) i3 hS ?_
 refine aN 1 (some 7) (.int .i64 n) 3 6 q 0 (by kernel_rfl) (by kernel_rfl) (by kernel_rfl) (fun w' h=>gS (h.cell (i:=0) rfl)) i3 hS ?_
 refine ax 3 9 (.pointer (some ⟨q,1,none⟩)) (by kernel_rfl) (fun _ _=>by kernel_rfl) i3 hS ?_
 refine ax 4 10 (.pointer (some ⟨q,1,none⟩)) (by kernel_rfl) (fun _ _=>by kernel_rfl) i3 hS ?_
 refine aN 5 (some 11) (.int .u8 m0) 5 10 q 1 (by kernel_rfl) (by kernel_rfl) (by kernel_rfl) (fun w' h=>ld_u8 (h.cell (i:=1) rfl)) i3 hS ?_
 have Xd:X.drew.heap.size=q+1:=K;obtain⟨Z,T,O3,b3⟩:=vj (w:=X.drew) n hn;have b4:=af Z (.cells #[.int .u8 m0] 5);obtain⟨v5,w5,V,O5,B5⟩:=uT (B:=q+1) (p:=Z.heap.size) (x:=m0) ((O3.mono (D':=(q+1 <= ·)) (fun b _ h=>by omega)).keep b4) (by have:=b3.size;have:=b4.size;omega) (by simp) H0.out ((aj Z [.int .u8 m0] 5).cell (i:=0) rfl);obtain⟨a5,c5,rfl⟩:=OB.sh O5;have k3:=hS.keep b3;have k4:=k3.keep b4;have k5:=k4.eV B5 (by omega)
 have d5:Below (q+1) X w5:=((cy X).mono (Nat.le_of_eq K.symm)).trans (((ai b3 b4).mono (Nat.le_of_eq Xd.symm)).trans B5);have c:=af X.drew (.cells #[.int .u8 m0] 5);obtain⟨w7,O,O7,b7⟩:=vj (w:=X.drew.alloc (.cells #[.int .u8 m0] 5)) n hn;obtain⟨v8,w8,P,O8,B8⟩:=uT (B:=q+1) (p:=X.drew.heap.size) (x:=m0) (O7.mono (D':=(q+1 <= ·)) (fun b _ h=>by have:=c.size;omega)) (by have:=c.size;have:=b7.size;omega) (by simp) H0.out (((aj X.drew [.int .u8 m0] 5).keep b7).cell (i:=0) rfl);obtain⟨a8,c8,rfl⟩:=OB.sh O8;have k6:=hS.keep c;have k7:=k6.keep b7;have k8:=k7.eV B8 (by omega)
 have d8:Below (q+1) X w8:=((cy X).mono (Nat.le_of_eq K.symm)).trans (((ai c b7).mono (Nat.le_of_eq Xd.symm)).trans B8);refine aB [2,6] (by kernel_rfl) (by simp) (aO 2 (some 8) (.slice (some ⟨X.drew.heap.size,0,none⟩) 0 n) Z (by kernel_rfl) (vE (x:=7) (by kernel_rfl) (by kernel_rfl) T) k3 ?_ (aO 6 (some 12) (.slice (some ⟨X.drew.heap.size,0,none⟩) 1 1) (X.drew.alloc (.cells #[.int .u8 m0] 5)) (by kernel_rfl) (AG (x:=11) (by kernel_rfl) (by kernel_rfl)) k6 ?_ aL))
 ·refine aB [6] (by kernel_rfl) (by simp) (aO 6 (some 12) (.slice (some ⟨Z.heap.size,0,none⟩) 1 1) (Z.alloc (.cells #[.int .u8 m0] 5)) (by kernel_rfl) (AG (x:=11) (by kernel_rfl) (by kernel_rfl)) k4 ?_ aL);refine aB [7] (by kernel_rfl) (by simp) (aO 7 (some 13) (.slice a5 ([] ++ [m0]).length c5) w5 (by kernel_rfl) (jE (x:=8) (y:=12) rfl (by kernel_rfl) (by kernel_rfl) (by kernel_rfl) V) k5 ?_ aL);refine ax 8 5 (.slice a5 ([] ++ [m0]).length c5) (by kernel_rfl) (fun _ _=>by kernel_rfl) i3 k5 ?_
  refine bh (by kernel_rfl) ?_
  simp only[Act.put,List.setIfInBounds_toArray,List.set_cons_zero,List.set_cons_succ];have I:=aQ O5;have C:=aQ k5;have J:=aQ d5
  have f:q+1<=w5.heap.size:=by have:=d5.size;omega
  have r:=aQ hq;have o:=aQ bq;have HXS:=aQ K;clear hS Xd T O3 b3 b4 V O5 B5 k3 k4 k5 d5 c O O7 b7 P O8 B8 k6 k7 k8 d8 kq bq hq K;have q0:=C.out.cell (i:=0) rfl;have q1:=C.out.cell (i:=1) rfl;have q2:=C.out.cell (i:=2) rfl;have u1:=eQ (w:=w5) (n:=n) (x:=m0) (y:=m1);by_cases t:8 < n
  ·by_cases hm:m1=0
   ·have u:Hid (mkb ((n:Int),m0,m1) a=([] ++ [m0]) ++ be 8 a):=by have l:((8:Int) < n):=(by omega); show _=_; simp[mkb,l,hm]
    have t:(8:Int) < n:=by omega
    rw[decide_eq_true t] at u1;subst hm;go_wp2_with first
     | (go_at_call 77;refine u1.mono ?_;rintro e A ⟨rfl,c⟩;have j:=C.out.keep c;have Y:=j.cell (i:=0) rfl;have p1:=j.cell (i:=1) rfl;have L:=j.cell (i:=2) rfl;have E:=J.out.trans (c.mono f);have D:=I.out.keep c;have s:q+1<=A.heap.size:=Nat.le_trans f c.size)
     | (go_at_call 81;refine(cZ (x:=a) D s (by simp)).mono ?_;rintro e U ⟨v9,rfl,H,z⟩;obtain⟨a9,c9,rfl⟩:=OB.sh H;have G:=j.eV z (Nat.lt_succ_self q);have r1:=G.cell (i:=1) rfl;have r2:=G.cell (i:=2) rfl;have R:=E.trans z;have s9:q+1<=U.heap.size:=Nat.le_trans s z.size)
    go_ret;exact⟨_,rfl,by rw[u.out];exact H.mono (fun b _ h=>by have:=r.out;omega),by have F:=R;rw[r.out];exact o.out.trans (F.mono (Nat.le_succ q))⟩
   ·have u:Hid (mkb ((n:Int),m0,m1) a=([] ++ [m0]) ++ be 8 a ++ [m1]):=by have l:((8:Int) < n):=(by omega); show _=_; simp[mkb,l,hm]
    have t:(8:Int) < n:=by omega
    rw[decide_eq_true t] at u1
    have Q:m1≠0:=hm;go_wp2_with first
     | (go_at_call 77;refine u1.mono ?_;rintro e A ⟨rfl,c⟩;have j:=C.out.keep c;have Y:=j.cell (i:=0) rfl;have p1:=j.cell (i:=1) rfl;have L:=j.cell (i:=2) rfl;have E:=J.out.trans (c.mono f);have D:=I.out.keep c;have s:q+1<=A.heap.size:=Nat.le_trans f c.size)
     | (go_at_call 81;refine(cZ (x:=a) D s (by simp)).mono ?_;rintro e U ⟨v9,rfl,H,z⟩;obtain⟨a9,c9,rfl⟩:=OB.sh H;have G:=j.eV z (Nat.lt_succ_self q);have r1:=G.cell (i:=1) rfl;have r2:=G.cell (i:=2) rfl;have R:=E.trans z;have s9:q+1<=U.heap.size:=Nat.le_trans s z.size;obtain⟨v10,W,g,d,m⟩:=cT (x:=m1) H s9 (by simp[aD]) H1.out;obtain⟨M,N,rfl⟩:=OB.sh d;replace d:=aQ d;replace m:=aQ m)
     | (at_builtin;refine Lib.wpList_append_run _ rfl _ _ _ _ rfl _ _ rfl rfl _ _ g ?_;clear g)
    go_ret;exact⟨_,rfl,by rw[u.out];exact d.out.mono (fun b _ h=>by have:=r.out;omega),by have F:=R.trans m.out;rw[r.out];exact o.out.trans (F.mono (Nat.le_succ q))⟩
  ·by_cases hm:m1=0
   ·have u:Hid (mkb ((n:Int),m0,m1) a=([] ++ [m0])):=by have l:¬ ((8:Int) < n):=(by omega); show _=_; simp[mkb,l,hm]
    have t:¬ ((8:Int) < n):=by omega
    rw[decide_eq_false t] at u1;subst hm;go_wp2_with first
     | (go_at_call 77;refine u1.mono ?_;rintro e A ⟨rfl,c⟩;have j:=C.out.keep c;have Y:=j.cell (i:=0) rfl;have p1:=j.cell (i:=1) rfl;have L:=j.cell (i:=2) rfl;have E:=J.out.trans (c.mono f);have D:=I.out.keep c;have s:q+1<=A.heap.size:=Nat.le_trans f c.size)
    go_ret;exact⟨_,rfl,by rw[u.out];exact D.mono (fun b _ h=>by have:=r.out;omega),by have F:=E;rw[r.out];exact o.out.trans (F.mono (Nat.le_succ q))⟩
   ·have u:Hid (mkb ((n:Int),m0,m1) a=([] ++ [m0]) ++ [m1]):=by have l:¬ ((8:Int) < n):=(by omega); show _=_; simp[mkb,l,hm]
    have t:¬ ((8:Int) < n):=by omega
    rw[decide_eq_false t] at u1
    have Q:m1≠0:=hm;go_wp2_with first
     | (go_at_call 77;refine u1.mono ?_;rintro e A ⟨rfl,c⟩;have j:=C.out.keep c;have Y:=j.cell (i:=0) rfl;have p1:=j.cell (i:=1) rfl;have L:=j.cell (i:=2) rfl;have E:=J.out.trans (c.mono f);have D:=I.out.keep c;have s:q+1<=A.heap.size:=Nat.le_trans f c.size;obtain⟨v10,W,g,d,m⟩:=cT (x:=m1) D s (by simp) H1.out;obtain⟨M,N,rfl⟩:=OB.sh d;replace d:=aQ d;replace m:=aQ m)
     | (at_builtin;refine Lib.wpList_append_run _ rfl _ _ _ _ rfl _ _ rfl rfl _ _ g ?_;clear g)
    go_ret;exact⟨_,rfl,by rw[u.out];exact d.out.mono (fun b _ h=>by have:=r.out;omega),by have F:=E.trans m.out;rw[r.out];exact o.out.trans (F.mono (Nat.le_succ q))⟩
 ·refine aB [2] (by kernel_rfl) (by simp) (aO 2 (some 8) (.slice (some ⟨(X.drew.alloc (.cells #[.int .u8 m0] 5)).heap.size,0,none⟩) 0 n) w7 (by kernel_rfl) (vE (x:=7) (by kernel_rfl) (by kernel_rfl) O) k7 ?_ aL);refine aB [7] (by kernel_rfl) (by simp) (aO 7 (some 13) (.slice a8 ([] ++ [m0]).length c8) w8 (by kernel_rfl) (jE (x:=8) (y:=12) rfl (by kernel_rfl) (by kernel_rfl) (by kernel_rfl) P) k8 ?_ aL);refine ax 8 5 (.slice a8 ([] ++ [m0]).length c8) (by kernel_rfl) (fun _ _=>by kernel_rfl) i3 k8 ?_
  refine bh (by kernel_rfl) ?_
  simp only[Act.put,List.setIfInBounds_toArray,List.set_cons_zero,List.set_cons_succ];have I:=aQ O8;have C:=aQ k8;have J:=aQ d8
  have f:q+1<=w8.heap.size:=by have:=d8.size;omega
  have r:=aQ hq;have o:=aQ bq;have HXS:=aQ K;clear hS Xd T O3 b3 b4 V O5 B5 k3 k4 k5 d5 c O O7 b7 P O8 B8 k6 k7 k8 d8 kq bq hq K;have q0:=C.out.cell (i:=0) rfl;have q1:=C.out.cell (i:=1) rfl;have q2:=C.out.cell (i:=2) rfl;have u1:=eQ (w:=w8) (n:=n) (x:=m0) (y:=m1);by_cases t:8 < n
  ·by_cases hm:m1=0
   ·have u:Hid (mkb ((n:Int),m0,m1) a=([] ++ [m0]) ++ be 8 a):=by have l:((8:Int) < n):=(by omega); show _=_; simp[mkb,l,hm]
    have t:(8:Int) < n:=by omega
    rw[decide_eq_true t] at u1;subst hm;go_wp2_with first
     | (go_at_call 77;refine u1.mono ?_;rintro e A ⟨rfl,c⟩;have j:=C.out.keep c;have Y:=j.cell (i:=0) rfl;have p1:=j.cell (i:=1) rfl;have L:=j.cell (i:=2) rfl;have E:=J.out.trans (c.mono f);have D:=I.out.keep c;have s:q+1<=A.heap.size:=Nat.le_trans f c.size)
     | (go_at_call 81;refine(cZ (x:=a) D s (by simp)).mono ?_;rintro e U ⟨v9,rfl,H,z⟩;obtain⟨a9,c9,rfl⟩:=OB.sh H;have G:=j.eV z (Nat.lt_succ_self q);have r1:=G.cell (i:=1) rfl;have r2:=G.cell (i:=2) rfl;have R:=E.trans z;have s9:q+1<=U.heap.size:=Nat.le_trans s z.size)
    go_ret;exact⟨_,rfl,by rw[u.out];exact H.mono (fun b _ h=>by have:=r.out;omega),by have F:=R;rw[r.out];exact o.out.trans (F.mono (Nat.le_succ q))⟩
   ·have u:Hid (mkb ((n:Int),m0,m1) a=([] ++ [m0]) ++ be 8 a ++ [m1]):=by have l:((8:Int) < n):=(by omega); show _=_; simp[mkb,l,hm]
    have t:(8:Int) < n:=by omega
    rw[decide_eq_true t] at u1
    have Q:m1≠0:=hm;go_wp2_with first
     | (go_at_call 77;refine u1.mono ?_;rintro e A ⟨rfl,c⟩;have j:=C.out.keep c;have Y:=j.cell (i:=0) rfl;have p1:=j.cell (i:=1) rfl;have L:=j.cell (i:=2) rfl;have E:=J.out.trans (c.mono f);have D:=I.out.keep c;have s:q+1<=A.heap.size:=Nat.le_trans f c.size)
     | (go_at_call 81;refine(cZ (x:=a) D s (by simp)).mono ?_;rintro e U ⟨v9,rfl,H,z⟩;obtain⟨a9,c9,rfl⟩:=OB.sh H;have G:=j.eV z (Nat.lt_succ_self q);have r1:=G.cell (i:=1) rfl;have r2:=G.cell (i:=2) rfl;have R:=E.trans z;have s9:q+1<=U.heap.size:=Nat.le_trans s z.size;obtain⟨v10,W,g,d,m⟩:=cT (x:=m1) H s9 (by simp[aD]) H1.out;obtain⟨M,N,rfl⟩:=OB.sh d;replace d:=aQ d;replace m:=aQ m)
     | (at_builtin;refine Lib.wpList_append_run _ rfl _ _ _ _ rfl _ _ rfl rfl _ _ g ?_;clear g)
    go_ret;exact⟨_,rfl,by rw[u.out];exact d.out.mono (fun b _ h=>by have:=r.out;omega),by have F:=R.trans m.out;rw[r.out];exact o.out.trans (F.mono (Nat.le_succ q))⟩
  ·by_cases hm:m1=0
   ·have u:Hid (mkb ((n:Int),m0,m1) a=([] ++ [m0])):=by have l:¬ ((8:Int) < n):=(by omega); show _=_; simp[mkb,l,hm]
    have t:¬ ((8:Int) < n):=by omega
    rw[decide_eq_false t] at u1;subst hm;go_wp2_with first
     | (go_at_call 77;refine u1.mono ?_;rintro e A ⟨rfl,c⟩;have j:=C.out.keep c;have Y:=j.cell (i:=0) rfl;have p1:=j.cell (i:=1) rfl;have L:=j.cell (i:=2) rfl;have E:=J.out.trans (c.mono f);have D:=I.out.keep c;have s:q+1<=A.heap.size:=Nat.le_trans f c.size)
    go_ret;exact⟨_,rfl,by rw[u.out];exact D.mono (fun b _ h=>by have:=r.out;omega),by have F:=E;rw[r.out];exact o.out.trans (F.mono (Nat.le_succ q))⟩
   ·have u:Hid (mkb ((n:Int),m0,m1) a=([] ++ [m0]) ++ [m1]):=by have l:¬ ((8:Int) < n):=(by omega); show _=_; simp[mkb,l,hm]
    have t:¬ ((8:Int) < n):=by omega
    rw[decide_eq_false t] at u1
    have Q:m1≠0:=hm;go_wp2_with first
     | (go_at_call 77;refine u1.mono ?_;rintro e A ⟨rfl,c⟩;have j:=C.out.keep c;have Y:=j.cell (i:=0) rfl;have p1:=j.cell (i:=1) rfl;have L:=j.cell (i:=2) rfl;have E:=J.out.trans (c.mono f);have D:=I.out.keep c;have s:q+1<=A.heap.size:=Nat.le_trans f c.size;obtain⟨v10,W,g,d,m⟩:=cT (x:=m1) D s (by simp) H1.out;obtain⟨M,N,rfl⟩:=OB.sh d;replace d:=aQ d;replace m:=aQ m)
     | (at_builtin;refine Lib.wpList_append_run _ rfl _ _ _ _ rfl _ _ rfl rfl _ _ g ?_;clear g)
    go_ret;exact⟨_,rfl,by rw[u.out];exact d.out.mono (fun b _ h=>by have:=r.out;omega),by have F:=E.trans m.out;rw[r.out];exact o.out.trans (F.mono (Nat.le_succ q))⟩
end
end Ky
end
section
namespace Ky
open Go.RowKit Go.Lib Pg
attribute [local go_sem] Oper.semAt_some
theorem lG (a b c d:Int) (w:World):(Op.equalIn 9999 152 (.agg #[.int .u8 a,.int .u8 b]) (.agg #[.int .u8 c,.int .u8 d])).run Tryz.prog w=.ok (a == c && b == d) w:=by
 rw[show (9999:Nat)=9998+1 from rfl,Op.equalIn];simp only[Sem.run_bind,run_underlying Tryz.underlying152,Result.andThen_ok];simp only[Std.Legacy.Range.forIn_eq_forIn_range',Std.Legacy.Range.size,Nat.sub_zero,Nat.add_sub_cancel,Nat.div_one,List.range'_succ,List.range'_zero,List.forIn_cons,List.forIn_nil];go_simp;by_cases g:a=c<;>by_cases f:b=d<;>simp[g,f]
attribute [local go_sem] lG
theorem kM (k:Int):∃ (n:Nat) (m0 m1:Int),frm k=((n:Int),m0,m1)/\n<=18/\(0<=m0/\m0 < 256)/\(0<=m1/\m1 < 256)/\(n=0->m0=0/\m1=0):=by
 by_cases h:0<=k/\k < 18
 ·obtain⟨j,rfl⟩:=Int.eq_ofNat_of_zero_le h.1
  have a:j < 18:=by omega
  match j,a with
  | 0,_=>exact⟨0,0,0,rfl,by decide,by decide,by decide,fun _=>⟨rfl,rfl⟩⟩
  | 1,_=>exact⟨1,112,0,rfl,by decide,by decide,by decide,fun h=>by omega⟩
  | 2,_=>exact⟨1,99,0,rfl,by decide,by decide,by decide,fun h=>by omega⟩
  | 3,_=>exact⟨1,109,0,rfl,by decide,by decide,by decide,fun h=>by omega⟩
  | 4,_=>exact⟨9,97,0,rfl,by decide,by decide,by decide,fun h=>by omega⟩
  | 5,_=>exact⟨10,118,48,rfl,by decide,by decide,by decide,fun h=>by omega⟩
  | 6,_=>exact⟨18,118,100,rfl,by decide,by decide,by decide,fun h=>by omega⟩
  | 7,_=>exact⟨18,118,104,rfl,by decide,by decide,by decide,fun h=>by omega⟩
  | 8,_=>exact⟨18,118,115,rfl,by decide,by decide,by decide,fun h=>by omega⟩
  | 9,_=>exact⟨9,116,0,rfl,by decide,by decide,by decide,fun h=>by omega⟩
  | 10,_=>exact⟨17,105,0,rfl,by decide,by decide,by decide,fun h=>by omega⟩
  | 11,_=>exact⟨9,98,0,rfl,by decide,by decide,by decide,fun h=>by omega⟩
  | 12,_=>exact⟨9,117,0,rfl,by decide,by decide,by decide,fun h=>by omega⟩
  | 13,_=>exact⟨9,114,0,rfl,by decide,by decide,by decide,fun h=>by omega⟩
  | 14,_=>exact⟨17,113,0,rfl,by decide,by decide,by decide,fun h=>by omega⟩
  | 15,_=>exact⟨17,101,0,rfl,by decide,by decide,by decide,fun h=>by omega⟩
  | 16,_=>exact⟨17,110,0,rfl,by decide,by decide,by decide,fun h=>by omega⟩
  | 17,_=>exact⟨17,107,0,rfl,by decide,by decide,by decide,fun h=>by omega⟩
  | j+18,h=>omega
 ·exact⟨0,0,0,if_neg h,by decide,by decide,by decide,fun _=>⟨rfl,rfl⟩⟩
def tn (k a:Int):Int:=if k=10 then 18446744073709551615 - a else a
def mkE (k a b:Int):Bool:=decide ((frm k).1=0) || (decide (a≠0) && decide ((frm k).1<=8)) || (decide (b≠0) && decide ((frm k).1<=16))
def mk (k a b:Int):List Int:=mkb (frm k) (tn k a) ++ (if 16 < (frm k).1 then be 8 b else [])
theorem jV (f:Int × Int × Int) (a:Int):(mkb f a).length<=10:=by
 unfold mkb;split<;>split<;>simp[aD]
end Ky
end
section
namespace Ky
open Go.RowKit Go.Lib Pg
attribute [local go_sem] Oper.semAt_some lG
theorem ja (w:World) (x:Int) (hx:0<=x/\x < 256):OB (w.alloc (.cells #[.int .u8 x] 5)) (w.heap.size <= ·) (.slice (some ⟨w.heap.size,0,none⟩) 1 1) [x] :=
 ⟨fun y hy=>by simp at hy;subst hy;exact hx,.inr ⟨_,1,rfl,Nat.le_refl _,uR (n:=1) (aj w [.int .u8 x] 5) rfl (by decide)⟩⟩
theorem gp (w:World) (D:Nat->Prop):OB w D (.slice none 0 0) []:=⟨fun _ h=>by simp at h,.inl ⟨rfl,rfl⟩⟩
theorem of_any {w:World} {k:Int}:Calls Tryz.prog 69 #[.int .i64 k] w fun e w'=>∃ v,e=.returned (.tuple #[v,.int .i64 (if (frm k).1=0 then 70 else 0)])/\OB w' (w.heap.size <= ·) v (if (frm k).1=0 then [] else [(frm k).2.1])/\Below w.heap.size w w':=by
 obtain⟨n,m0,m1,hf,hn,c,g,m⟩:=kM k;have u1:=fun w=>iW (w:=w) (k:=k)
 rw[hf] at u1;simp only[fv] at u1;rw[hf];have l:=aQ c;by_cases i:n=0
 ·subst i;obtain⟨p,z1⟩:=m rfl;subst p z1;simp only[show ((0:Nat):Int)=0 from rfl] at u1 ⊢;clear hf c g;go_enter Tryz.func69,Tryz.ntmps69;go_wp2_with (go_at_call 76;refine(u1 _).mono ?_;rintro e f ⟨rfl,j⟩);go_ret2;exact⟨_,rfl,gp _ _,ai j (af _ _)⟩
 ·have d:¬ ((n:Int)=0):=by omega
  have q:=aQ d;simp only;rw[if_neg d,if_neg d];clear hf c g m i;go_enter Tryz.func69,Tryz.ntmps69;go_wp2_with (go_at_call 76;refine(u1 _).mono ?_;rintro e f ⟨rfl,j⟩);go_ret2;have al:=af f (.cells #[.int .i64 (n:Int),.int .u8 m0,.int .u8 m1] 154);have o:=ja (f.alloc (.cells #[.int .i64 (n:Int),.int .u8 m0,.int .u8 m1] 154)) m0 l.out;rw[show (f.alloc (.cells #[.int .i64 (n:Int),.int .u8 m0,.int .u8 m1] 154)).heap.size=f.heap.size+1 by simp] at o;refine⟨_,rfl,o.mono (fun b _ h=>?_),ai j (ai al (af _ _))⟩;have:=j.size;omega
theorem oM {w:World} {k a:Int} (s:0<=a) (u:a < 18446744073709551616):Calls Tryz.prog 70 #[.int .i64 k,.int .u64 a] w fun e w'=>∃ v,e=.returned (.tuple #[v,.int .i64 (if 16 < (frm k).1 then 0 else 70)])/\OB w' (w.heap.size <= ·) v (if 16 < (frm k).1 then mkb (frm k) (tn k a) else [])/\Below w.heap.size w w':=by
 obtain⟨n,m0,m1,hf,hn,g,i,B⟩:=kM k;have u1:=fun w=>iW (w:=w) (k:=k)
 rw[hf] at u1;simp only[fv] at u1;rw[hf];simp only;have q:=aQ (And.intro s u);have m:=aQ g;have p:=aQ i;have C:=aQ hn;have l:=fun w=>fI (w:=w) (n:=n) (x:=m0) (y:=m1)
 clear hf g i B s u;by_cases c:16 < (n:Int)
 ·rw[decide_eq_true c] at l;rw[if_pos c,if_pos c];go_enter Tryz.func70,Tryz.ntmps70;go_wp2_with first
   | (go_at_call 76;refine(u1 _).mono ?_;rintro e f ⟨rfl,o⟩)
   | (go_at_call 78;refine(l _).mono ?_;rintro e G ⟨rfl,j⟩)
  have F:=(aj f [.int .i64 (n:Int),.int .u8 m0,.int .u8 m1] 154).keep j;have t:=ai o (ai (af f (.cells #[.int .i64 (n:Int),.int .u8 m0,.int .u8 m1] 154)) j);have hS:=F.drew;refine bJ (S:=fun w'=>Blk w' f.heap.size [.int .i64 (n:Int),.int .u8 m0,.int .u8 m1] 154) (by kernel_rfl) hS ?_
  refine aN 0 (some 12) (.agg #[.int .i64 (n:Int),.int .u8 m0,.int .u8 m1]) 154 6 f.heap.size 0 (by kernel_rfl) (by kernel_rfl) (by kernel_rfl) (fun w' h=>oq h) i3 hS ?_
  refine ax 1 13 (.int .i64 k) (by kernel_rfl) (fun _ _=>by kernel_rfl) i3 hS ?_
  refine ax 2 14 (.int .u64 a) (by kernel_rfl) (fun _ _=>by kernel_rfl) i3 hS ?_
  refine bQ 3 (some 15) 80 #[.int .i64 k,.int .u64 a] (by kernel_rfl) (by kernel_rfl) (gw q.out.1 q.out.2) ?_
  rintro D H ⟨rfl,rfl⟩;refine⟨.int .u64 (tn k a),rfl,hS,?_⟩;refine bQ 4 (some 16) 79 #[.agg #[.int .i64 (n:Int),.int .u8 m0,.int .u8 m1],.int .u64 (tn k a)] (by kernel_rfl) (by kernel_rfl) (oS (n:=n) (a:=tn k a) (Nat.le_trans C.out (by decide)) m.out p.out) ?_
  rintro D I ⟨J,rfl,z,r⟩;obtain⟨A,E,rfl⟩:=OB.sh z;have d:=hS.keep r;refine⟨_,rfl,d,?_⟩;refine ax 5 4 (.slice A (mkb ((n:Int),m0,m1) (tn k a)).length E) (by kernel_rfl) (fun _ _=>by kernel_rfl) i3 d ?_
  refine ax 6 5 (.int .i64 0) (by kernel_rfl) (fun _ _=>by kernel_rfl) i3 d ?_
  refine bh (by kernel_rfl) ?_
  simp only[Act.put,List.setIfInBounds_toArray,List.set_cons_zero,List.set_cons_succ];go_wp2;go_ret2;exact⟨_,rfl,z.mono (fun b _ h=>Nat.le_trans t.size h),ai t (ai (cy _) r)⟩
 ·rw[decide_eq_false c] at l;rw[if_neg c,if_neg c];go_enter Tryz.func70,Tryz.ntmps70;go_wp2_with first
   | (go_at_call 76;refine(u1 _).mono ?_;rintro e f ⟨rfl,o⟩)
   | (go_at_call 78;refine(l _).mono ?_;rintro e G ⟨rfl,j⟩)
  go_ret2;exact⟨_,rfl,gp _ _,ai o (ai (af _ _) j)⟩
section
variable {w:World}{ao:Option Addr}{n c:Nat}{l:List Int}
def bv(l:List Int):Int:=l.foldl (fun n d=>n * 256+d) 0
theorem jG(l:List Int)(x:Int):bv (l ++ [x])=bv l * 256+x:=by simp[bv]
theorem fK:∀ (n:Nat) (l:List Int),Oct l->l.length=n->0<=bv l/\bv l < 256 ^ n
 | 0,l,_,h=>by
  have:l=[]:=List.eq_nil_of_length_eq_zero h;subst this;simp[bv]
 | n + 1,l,ho,h=>by
  obtain⟨b,x,rfl⟩:∃ b x,l=b ++ [x]:=by
   have a:l≠[]:=fun e=>by subst e;simp at h
   exact⟨l.dropLast,l.getLast a,(List.dropLast_concat_getLast a).symm⟩
  rw[jG];have c:=fK n b (fun y hy=>ho y (List.mem_append_left _ hy)) (by simpa using h);have hx:=ho x (by simp);rw[Int.pow_succ];omega
theorem or64(a b:Int)(d:0<=a)(f:a < 72057594037927936)(c:0<=b)(g:b < 256):bits .or .u64 (IntKind.u64.wrap (a * 256)) b=a * 256+b:=by
 have e:IntKind.u64.wrap (a * 256)=a * 256:=by rw[IntKind.wrap_u64];omega
 rw[e];exact bits_join .u64 64 (by decide) (fun n d f=>by rw[IntKind.wrap_u64];omega) 8 (a * 256) b (by omega) (by omega) (by omega) c (by omega) (by omega)
theorem fX(h:By w (.slice ao n c) l)(m:l.length=n)(hn:8<=n)(hc:n<=c) :
  Calls Tryz.prog 172 #[.slice ao n c] w fun e w'=>e=.returned (.int .u64 (bv (l.take 8)))/\w'=w:=by
 have u:=aQ h;have p:=aQ m
 have z:(8:Int)<=c:=by omega
 have j:Oct l:=h.oct;obtain⟨B,f⟩:∃ x,l[0]?=some x:=⟨l[0]'(by omega),List.getElem?_eq_getElem _⟩
 obtain⟨b,o,rfl,_⟩:=By.at h f;clear h m f;go_enter Tryz.func172,Tryz.ntmps172;go_wp2_with fail;go_loopw [3,9] (fun q i wr=>∃ k:Nat,k<=8/\i=.int .i64 k/\q=.int .u64 (bv (l.take k))/\wr=w) (fun _ i _=>8 - (intOf i).toNat)
 case atStart=>exact⟨0,Nat.zero_le _,rfl,rfl,rfl⟩
 case round =>
  obtain⟨k,D,rfl,rfl,rfl⟩:=hrel;by_cases s:k < 8
  ·obtain⟨x,hx⟩:∃ x,l[k]?=some x:=⟨l[k]'(by have:=p.out;omega),List.getElem?_eq_getElem _⟩
   obtain⟨C,E,e,A⟩:=By.at u.out hx
   cases e;have d:=j x (List.mem_of_getElem? hx)
   have r:Hid (bv (l.take (k+1))=bv (l.take k) * 256+x):=by
    show _=_
    rw[List.take_add_one,hx];exact jG _ _
   have hb:=fK k (l.take k) (fun y hy=>j y (List.mem_of_mem_take hy)) (by rw[List.length_take];have:=p.out;omega)
   have g:bv (l.take k) < 72057594037927936:=by
    have F:(256:Int) ^ k<=256 ^ 7:=by
     have:(256:Nat) ^ k<=256 ^ 7:=Nat.pow_le_pow_right (by decide) (by omega);exact_mod_cast this
    have:(256:Int) ^ 7=72057594037927936:=by decide
    omega
   have v:=or64 (bv (l.take k)) x hb.1 g d.1 d.2;generalize bv (l.take k)=V at *
   have t:(k:Int) < 8:=by omega
   clear hb g hx;go_wp2;go_roundw
   case rel =>
    refine⟨k+1,by omega,by go_num,?_,trivial⟩;rw[r.out]
   case measure=>simp[intOf];omega
  ·obtain rfl:k=8:=by omega
   go_wp2;go_ret;exact⟨rfl,rfl⟩
def fIn(l:List Int):Int × Int × Int:=((l.length:Int),(l[0]?).getD 0,if 9 < l.length/\l.length % 8=2 then (l[9]?).getD 0 else 0)
theorem tY(h:By w (.slice ao n c) l)(i:l.length=n)(t:n<=1000000000) :
  Calls Tryz.prog 170 #[.slice ao n c] w fun e w'=>e=.returned (fv (fIn l))/\Below w.heap.size w w':=by
 have C:=aQ i;by_cases z:n=0
 ·have f:fIn l=(0,0,0):=by
   have:l=[]:=List.eq_nil_of_length_eq_zero (by omega);subst this;simp[fIn]
  rw[f];subst z;clear h i;go_enter Tryz.func170,Tryz.ntmps170;go_wp2;refine bodyPost_ret (dV rfl rfl (oq ((aj w [.int .i64 0,.int .u8 0,.int .u8 0] 154).keep (af _ _)))) rfl ?_
  exact⟨rfl,ai (af _ _) (af _ _)⟩
 ·obtain⟨j,d⟩:∃ x,l[0]?=some x:=⟨l[0]'(by omega),List.getElem?_eq_getElem _⟩
  obtain⟨b,o,rfl,c0⟩:=By.at h d
  have A:(0:Int) < n:=by omega
  have u:=aH c0;rw[Nat.add_zero] at c0;by_cases m:9 < n/\n % 8=2
  ·obtain⟨q,g⟩:∃ x,l[9]?=some x:=⟨l[9]'(by omega),List.getElem?_eq_getElem _⟩
   obtain⟨D,E,e,B⟩:=By.at h g
   cases e
   have f:fIn l=((n:Int),j,q):=by rw[fIn,i,if_pos m,d,g];rfl
   rw[f]
   have p:(9:Int) < n:=by omega
   have s:Int.tmod (n:Int) 8=2:=by rw[Int.tmod_eq_emod_of_nonneg (by omega)];omega
   clear h i d g f m;go_enter Tryz.func170,Tryz.ntmps170;go_wp2;refine bodyPost_ret (dV rfl rfl (oq ((aj w [.int .i64 (n:Int),.int .u8 j,.int .u8 q] 154).keep (af _ _)))) rfl ?_
   exact⟨rfl,ai (af _ _) (af _ _)⟩
  ·have f:fIn l=((n:Int),j,0):=by rw[fIn,i,if_neg m,d]; rfl
   rw[f];clear h i d f;by_cases y:9 < n
   ·have p:(9:Int) < n:=by omega
    obtain⟨r,s⟩:∃ r,Int.tmod (n:Int) 8=r:=⟨_,rfl⟩
    have v:¬ r=2:=by rw[<- s,Int.tmod_eq_emod_of_nonneg (by omega)];omega
    clear m;go_enter Tryz.func170,Tryz.ntmps170;go_wp2;refine bodyPost_ret (dV rfl rfl (oq ((aj w [.int .i64 (n:Int),.int .u8 j,.int .u8 0] 154).keep (af _ _)))) rfl ?_
    exact⟨rfl,ai (af _ _) (af _ _)⟩
   ·have p:¬ ((9:Int) < n):=by omega
    clear m;go_enter Tryz.func170,Tryz.ntmps170;go_wp2;refine bodyPost_ret (dV rfl rfl (oq ((aj w [.int .i64 (n:Int),.int .u8 j,.int .u8 0] 154).keep (af _ _)))) rfl ?_
    exact⟨rfl,ai (af _ _) (af _ _)⟩
end
theorem yf:∀ k:Nat,k < 18->∀ w,(Instr.index 202 (.agg #[.int .i64 0,.int .u8 0,.int .u8 0,.int .i64 1,.int .u8 112,.int .u8 0,.int .i64 1,.int .u8 99,.int .u8 0,.int .i64 1,.int .u8 109,.int .u8 0,.int .i64 9,.int .u8 97,.int .u8 0,.int .i64 10,.int .u8 118,.int .u8 48,.int .i64 18,.int .u8 118,.int .u8 100,.int .i64 18,.int .u8 118,.int .u8 104,.int .i64 18,.int .u8 118,.int .u8 115,.int .i64 9,.int .u8 116,.int .u8 0,.int .i64 17,.int .u8 105,.int .u8 0,.int .i64 9,.int .u8 98,.int .u8 0,.int .i64 9,.int .u8 117,.int .u8 0,.int .i64 9,.int .u8 114,.int .u8 0,.int .i64 17,.int .u8 113,.int .u8 0,.int .i64 17,.int .u8 101,.int .u8 0,.int .i64 17,.int .u8 110,.int .u8 0,.int .i64 17,.int .u8 107,.int .u8 0]) (.int .i64 k)).run Tryz.prog w=.ok (.agg #[.int .i64 (frm k).1,.int .u8 (frm k).2.1,.int .u8 (frm k).2.2]) w:=by
 intro k a w;rcases(by omega:k=0\/k=1\/k=2\/k=3\/k=4\/k=5\/k=6\/k=7\/k=8\/k=9\/k=10\/k=11\/k=12\/k=13\/k=14\/k=15\/k=16\/k=17) with rfl | rfl | rfl | rfl | rfl | rfl | rfl | rfl | rfl | rfl | rfl | rfl | rfl | rfl | rfl | rfl | rfl | rfl
 all_goals kernel_rfl
theorem tQ {w:World}:Calls Tryz.prog 125 #[] w fun e w'=>∃ FA:Array Value,e=.returned (.agg FA)/\Hid (∀ k:Nat,k < 18->∀ w,(Instr.index 202 (.agg FA) (.int .i64 k)).run Tryz.prog w=.ok (.agg #[.int .i64 (frm k).1,.int .u8 (frm k).2.1,.int .u8 (frm k).2.2]) w)/\Below w.heap.size w w' :=
 oT.mono fun _ _ h=>⟨_,h.1,yf,h.2⟩
theorem uj {w:World} {f0 f1 f2:Int}:Calls Tryz.prog 171 #[.agg #[.int .i64 f0,.int .u8 f1,.int .u8 f2]] w fun e w'=>(∃ r:Nat,e=.returned (.int .i64 r)/\((r < 18/\frm r=(f0,f1,f2))\/(r=0/\∀ j:Nat,j < 18->frm j≠(f0,f1,f2))))/\Below w.heap.size w w':=by
 go_enter Tryz.func171,Tryz.ntmps171;go_wp2_with (go_at_call 125;refine tQ.mono ?_;rintro e y ⟨F,rfl,E,t⟩);have c:=(aj w [.int .i64 f0,.int .u8 f1,.int .u8 f2] 154).keep t;have x:=ai (af w (.cells #[.int .i64 f0,.int .u8 f1,.int .u8 f2] 154)) t;have z:=aQ c;have b:=aQ x;obtain⟨q,C⟩:∃ q,Hid (w.heap.size=q):=⟨_,rfl⟩
 rw[C.out] at z ⊢;clear c x t;go_loopw [6] (fun u wr=>∃ k:Nat,k<=18/\u=.int .i64 k/\Hid (∀ j:Nat,j < k->frm j≠(f0,f1,f2))/\Hid (Below y.heap.size y wr)) (fun u _=>18 - (intOf u).toNat)
 case atStart=>exact⟨0,Nat.zero_le _,rfl,fun j h=>by omega,Below.refl _ _⟩
 case round =>
  obtain⟨k,I,rfl,s,d⟩:=hrel;by_cases g:k < 18
  ·have hi:=E.out k g
   have D:(k:Int) < 18:=by omega
   have c:=z.out.keep d.out;have H:=c.cell (i:=0) rfl;have J:=c.cell (i:=1) rfl;have G:=c.cell (i:=2) rfl;have B:=c.lt;obtain⟨⟨v,p1,A⟩,l⟩:∃ p,Hid (frm k=p):=⟨_,rfl⟩
   rw[l.out] at hi;simp only at hi;clear c;by_cases n:v=f0
   ·by_cases e1:p1=f1
    ·by_cases e2:A=f2
     ·subst n e1 e2;go_wp2;go_ret;refine⟨⟨k,rfl,.inl ⟨g,l.out⟩⟩,?_⟩;exact b.out.trans ((ai d.out (af _ _)).mono b.out.size)
     ·subst n e1
      have f:Hid (frm k≠(v,p1,f2)):=by show _≠_;rw[l.out];intro e;cases e;exact e2 rfl
      go_wp2;go_roundw
      case rel =>
       refine⟨k+1,by omega,by go_num,fun j o=>?_,ai d.out (af _ _)⟩;by_cases m:j=k
       ·subst m;exact f.out
       ·exact s.out j (by omega)
      case measure=>simp[intOf];omega
    ·subst n
     have f:Hid (frm k≠(v,f1,f2)):=by show _≠_;rw[l.out];intro e;cases e;exact e1 rfl
     go_wp2;go_roundw
     case rel =>
      refine⟨k+1,by omega,by go_num,fun j o=>?_,ai d.out (af _ _)⟩;by_cases m:j=k
      ·subst m;exact f.out
      ·exact s.out j (by omega)
     case measure=>simp[intOf];omega
   ·have f:Hid (frm k≠(f0,f1,f2)):=by show _≠_; rw[l.out]; intro e; cases e; exact n rfl
    go_wp2;go_roundw
    case rel =>
     refine⟨k+1,by omega,by go_num,fun j o=>?_,ai d.out (af _ _)⟩;by_cases m:j=k
     ·subst m;exact f.out
     ·exact s.out j (by omega)
    case measure=>simp[intOf];omega
  ·obtain rfl:k=18:=by omega
   go_wp2;go_ret;refine⟨⟨0,rfl,.inr ⟨rfl,fun j o=>s.out j o⟩⟩,?_⟩;exact b.out.trans (d.out.mono b.out.size)
section
variable {w:World}{ao:Option Addr}{n c b o r g:Nat}{l:List Int}{a:Act}{x u:Value}{tmps:Array Value}
theorem By.lens(h:By w (.slice ao n c) l):l.length=n/\n<=c/\c<=9223372036854775807:=by
 obtain⟨ao',c',e,h2,h3,_⟩:=h.ex
 cases e;exact⟨rfl,h2,h3⟩
theorem By.drop(h:By w (.slice (some ⟨b,o,none⟩) n c) l)(j:Nat)(v:j<=n):By w (.slice (some ⟨b,o+j,none⟩) (n - j) (c - j)) (l.drop j):=by
 obtain⟨s,hc,hm⟩:=By.lens h;obtain⟨k,p,e,m,t,r,f,g⟩:=h.ex
 cases e;refine⟨some ⟨b,o+j,none⟩,c - j,by rw[List.length_drop],by rw[List.length_drop];omega,by omega,(fun e=>by cases e),fun x hx=>f x (List.mem_of_mem_drop hx),?_⟩;rcases g with rfl | ⟨q,u,e,d,a⟩
 ·exact .inl (by simp)
 ·cases e;refine .inr ⟨b,o+j,rfl,d,fun i x hi=>?_⟩;rw[List.getElem?_drop] at hi;have:=a (j+i) x hi;rw[show o+(j+i)=o+j+i by omega] at this;exact this
theorem oK{op:Oper}{x:Nat}(f:op.op=.slice 36 (.tmp x) (some (.const (.int .i64 1))) none none)(hx:a.eval (.tmp x)=.slice (some ⟨b,o,none⟩) n c)(hn:1<=n)(hc:2<=c)(g:n<=c):(execOp a.eval op).run Tryz.prog w=.ok (.value (.slice (some ⟨b,o+1,none⟩) (n - 1) (c - 1))) w:=by
 have r:¬ ((n:Int) < 1):=by omega
 have l:(1:Int)<=n:=by omega
 have m:¬ (c - 1=0):=by omega
 have q:(n:Int)<=c:=by omega
 have t:¬ (c<=1):=by omega
 have p:¬ ((c:Int)=1):=by omega
 have s:¬ (c=1):=by omega
 obtain⟨i0,hi,i,j,d⟩:=info_parts (P:=Tryz.prog) KB.inf;simp only[execOp,f,hx];go_simp
def rdA(r:Nat)(l:List Int):Int:=if 8 < l.length then tn r (bv ((l.drop 1).take 8)) else 0
def rdB(l:List Int):Int:=if 16 < l.length then bv (l.drop (l.length - 8)) else 0
theorem wO:∀ i:Nat,i < 18->∀ j:Nat,j < 18->frm i=frm j->i=j:=by decide +kernel
theorem sQ{f0 f1 f2:Int}(a:r < 18)(h:frm r=(f0,f1,f2)):Calls Tryz.prog 171 #[.agg #[.int .i64 f0,.int .u8 f1,.int .u8 f2]] w fun e w'=>e=.returned (.int .i64 r)/\Below w.heap.size w w':=by
 refine uj.mono ?_
 rintro e w' ⟨⟨b,rfl,c⟩,hb⟩;rcases c with⟨h1,h2⟩ | ⟨rfl,h2⟩
 ·have:=wO b h1 r a (h2.trans h.symm);subst this;exact⟨rfl,hb⟩
 ·exact absurd h (h2 r a)
theorem sY{y z:Value}(h:Blk w g [x,y,z] 90):(loadVar 90 ⟨g,0,none⟩).run Tryz.prog w=.ok (.agg #[x,y,z]) w:=by
 have c0:=h.cell (i:=0) rfl;have c1:=h.cell (i:=1) rfl;have c2:=h.cell (i:=2) rfl;go_simp
theorem gb{fn:Func}{p u:Tmp}{ty:TypeId}(h:fn.results=#[.cell p ty,.tmp u]){v:Value}(a:tmps.getD p undef=.pointer (some ⟨g,0,none⟩))(hu:tmps.getD u undef=x)(b:(loadVar ty ⟨g,0,none⟩).run Tryz.prog w=.ok v w):(results fn tmps).run Tryz.prog w=.ok (.tuple #[v,x]) w:=by
 rw[results_cell_tmp h,a,hu];simp[asAddr,b]
theorem wK:∀ r:Nat,r < 18->0 < r->0 < (frm r).1:=by decide +kernel
theorem rz{o:Oper}(k q:Nat){off:Nat}{x:Int}(c:o.op=.store 22 (.tmp k) (.tmp q))(b:a.eval (.tmp k)=.pointer (some ⟨g,off,none⟩))(d:a.eval (.tmp q)=.int .u64 x)(hc:w.cell? ⟨g,off,none⟩=some u)(hf:w.frozen? ⟨g,off,none⟩=false) :
  (execOp a.eval o).run Tryz.prog w=.ok .skip (w.setCell ⟨g,off,none⟩ (.int .u64 x)):=by
 simp only[execOp,c,b,d];go_simp
theorem BQ(h:By w (.slice ao n c) l)(hbig:n<=1000000000)(hr:r < 18)(hr0:0 < r)(N:frm r=fIn l) :
  Calls Tryz.prog 121 #[.slice ao n c] w fun e w'=>e=.returned (.tuple #[.agg #[.int .i64 (r:Int),.int .u64 (rdA r l),.int .u64 (rdB l)],.int .i64 0])/\Below w.heap.size w w':=by
 obtain⟨hl,hnc,hcm⟩:=By.lens h;have u1:=fun w' (hB:Below w.heap.size w w')=>tY (h.keep hB) hl hbig
 have am:=wK r hr hr0;obtain⟨⟨f0,f1,f2⟩,hf⟩:∃ f,Hid (fIn l=f):=⟨_,rfl⟩
 have hf0:f0=(n:Int):=by have:=hf.out;rw[fIn,hl] at this;cases this;rfl
 subst hf0;rw[hf.out] at u1 N;rw[N] at am;simp only[fv] at u1 am;have u2:=fun w'=>sQ (w:=w') hr N
 obtain⟨x0,hx0⟩:∃ x,l[0]?=some x:=⟨l[0]'(by omega),List.getElem?_eq_getElem _⟩
 obtain⟨b,o,rfl,_⟩:=By.at h hx0;have HB:=aQ h
 have nr:¬ ((r:Int)=0):=by omega
 clear h N hx0;by_cases h8:8 < n
 ·by_cases h16:16 < n
  ·have g8:((8:Int) < n):=by omega
   have R:=fun w=>eQ (w:=w) (n:=n) (x:=f1) (y:=f2)
   rw[decide_eq_true g8] at R
   have L:((16:Int) < n):=by omega
   have U:=fun w=>fI (w:=w) (n:=n) (x:=f1) (y:=f2)
   rw[decide_eq_true L] at U
   have mA:True:=trivial
   have mB:True:=trivial
   have M:Hid (rdA r l=tn r (bv ((l.drop 1).take 8))):=by show _=_;rw[rdA,if_pos (by omega)]
   have J:Hid (rdB l=bv ((l.drop (n - 8)).take 8)):=by show _=_;rw[rdB,if_pos (by omega)];rw[hl,List.take_of_length_le (by rw[List.length_drop];omega)]
   rw[M.out,J.out];go_enter Tryz.func121,Tryz.ntmps121;go_wp2_with first
    | (go_at_call 170;refine(u1 _ (af _ _)).mono ?_;rintro e G ⟨rfl,F⟩)
    | (go_at_call 171;refine(u2 _).mono ?_;rintro e t ⟨rfl,H⟩;have al:=af t (.cells #[.int .i64 (r:Int),.int .u64 0,.int .u64 0] 90);have K:=ai (af G (.cells #[.int .i64 (n:Int),.int .u8 f1,.int .u8 f2] 154)) H;have m:=(((aj w [.int .i64 0,.int .u64 0,.int .u64 0] 90).keep F).keep K).keep al;have kf2:=((aj G [.int .i64 (n:Int),.int .u8 f1,.int .u8 f2] 154).keep H).keep al;have g:=aj t [.int .i64 (r:Int),.int .u64 0,.int .u64 0] 90;have B:=ai (ai (ai (af w (.cells #[.int .i64 0,.int .u64 0,.int .u64 0] 90)) F) K) al;have lt1:w.heap.size < G.heap.size:=Nat.lt_of_lt_of_le (by simp) F.size;have lt2:G.heap.size < t.heap.size:=Nat.lt_of_lt_of_le (by simp) H.size;have ar:=g.cell (i:=0) rfl;have az:=g.cell (i:=1) rfl;have ab:=g.cell (i:=2) rfl;have g0_2:=kf2.cell (i:=0) rfl;have V:=kf2.cell (i:=1) rfl;have g2_2:=kf2.cell (i:=2) rfl;have ag:=m.cell (i:=0) rfl;have aa:=m.cell (i:=1) rfl;have ad:=m.cell (i:=2) rfl;have av:=m.free 0;have P:=m.free 1;have y2_2:=m.free 2;have x0_2:=g.free 0;have W:=g.free 1;have x2_2:=g.free 2;replace g:=aQ g;replace kf2:=aQ kf2;replace m:=aQ m;replace B:=aQ B;clear F H K al)
    | (go_at_call 77;have gate:=mA;clear gate;go_must (refine(R _).mono ?_);clear mA;rintro e I ⟨rfl,C⟩;have d:=g.out.keep C;have kf3:=kf2.out.keep C;have j:=m.out.keep C;have z:=ai B.out C;have O:=d.cell (i:=0) rfl;have p1_3:=d.cell (i:=1) rfl;have p2_3:=d.cell (i:=2) rfl;have au:=kf3.cell (i:=0) rfl;have g1_3:=kf3.cell (i:=1) rfl;have ak:=kf3.cell (i:=2) rfl;have q0_3:=j.cell (i:=0) rfl;have an:=j.cell (i:=1) rfl;have q2_3:=j.cell (i:=2) rfl;have y0_3:=j.free 0;have aq:=j.free 1;have ay:=j.free 2;have Q:=d.free 0;have Z:=d.free 1;have aA:=d.free 2;replace d:=aQ d;replace kf3:=aQ kf3;replace j:=aQ j;replace z:=aQ z;clear C)
   have hS:I.drew.cell? ⟨t.heap.size,0,none⟩=some (.int .i64 (r:Int)):=d.out.drew.cell rfl;have BY:=(HB.out.keep z.out).drew;have bb:=fK 8 ((l.drop 1).take 8) (fun y hy=>HB.out.oct y (List.mem_of_mem_drop (List.mem_of_mem_take hy))) (by rw[List.length_take,List.length_drop];omega);rw[show (256:Int) ^ 8=18446744073709551616 by decide] at bb;refine bJ (S:=fun w'=>w'.cell? ⟨t.heap.size,0,none⟩=some (.int .i64 (r:Int))) (by kernel_rfl) hS ?_
   refine ax 0 17 (.pointer (some ⟨t.heap.size,0,none⟩)) (by kernel_rfl) (fun _ _=>by kernel_rfl) i3 hS ?_
   refine aN 1 (some 18) (.int .i64 (r:Int)) 3 17 t.heap.size 0 (by kernel_rfl) (by kernel_rfl) (by kernel_rfl) (fun w' h=>gS h) i3 hS ?_
   refine ax 2 19 (.slice (some ⟨b,o,none⟩) n c) (by kernel_rfl) (fun _ _=>by kernel_rfl) i3 hS ?_
   refine ax 3 20 (.slice (some ⟨b,o+1,none⟩) (n - 1) (c - 1)) (by kernel_rfl) (fun _ _=>oK (x:=19) (by kernel_rfl) (by kernel_rfl) (by omega) (by omega) hnc) i3 hS ?_
   refine bQ 4 (some 21) 172 #[.slice (some ⟨b,o+1,none⟩) (n - 1) (c - 1)] (by kernel_rfl) (by kernel_rfl) (fX (By.drop BY 1 (by omega)) (by rw[List.length_drop];omega) (by omega) (by omega)) ?_
   rintro e' w4 ⟨rfl,rfl⟩;refine⟨_,rfl,hS,?_⟩;refine bQ 5 (some 22) 80 #[.int .i64 (r:Int),.int .u64 (bv ((l.drop 1).take 8))] (by kernel_rfl) (by kernel_rfl) (gw bb.1 bb.2) ?_
   rintro e' w5 ⟨rfl,rfl⟩;refine⟨.int .u64 (tn r (bv ((l.drop 1).take 8))),rfl,hS,?_⟩;refine ax 6 23 (.pointer (some ⟨t.heap.size,1,none⟩)) (by kernel_rfl) (fun _ _=>by kernel_rfl) i3 hS ?_
   refine aB [7] (by kernel_rfl) (by simp) (cB 7 (I.drew.setCell ⟨t.heap.size,1,none⟩ (.int .u64 (tn r (bv ((l.drop 1).take 8))))) (by kernel_rfl) (rz 23 22 (by kernel_rfl) (by kernel_rfl) (by kernel_rfl) (d.out.drew.cell (i:=1) rfl) (d.out.drew.free 1)) ((d.out.drew.setCell (i:=1) _).cell (i:=0) rfl) ?_ aL);refine bh (by kernel_rfl) ?_
   simp only[Act.put,List.setIfInBounds_toArray,List.set_cons_zero,List.set_cons_succ]
   have v:Blk (I.drew.setCell ⟨t.heap.size,1,none⟩ (.int .u64 (tn r (bv ((l.drop 1).take 8))))) t.heap.size [.int .i64 (r:Int),.int .u64 (tn r (bv ((l.drop 1).take 8))),.int .u64 0] 90:=d.out.drew.setCell (i:=1) _;have kf5:=kf3.out.drew.off (g':=t.heap.size) (by omega) (i:=1) (.int .u64 (tn r (bv ((l.drop 1).take 8))));have u:=j.out.drew.off (g':=t.heap.size) (by omega) (i:=1) (.int .u64 (tn r (bv ((l.drop 1).take 8))));have E:=(ai z.out (cy I)).setCell (p:=⟨t.heap.size,1,none⟩) (show w.heap.size<=t.heap.size by omega) (.int .u64 (tn r (bv ((l.drop 1).take 8))));generalize hX5:I.drew.setCell ⟨t.heap.size,1,none⟩ (.int .u64 (tn r (bv ((l.drop 1).take 8))))=X5 at *;clear hX5;generalize hAV:tn r (bv ((l.drop 1).take 8))=AV at *;have HAV:=aQ hAV;clear hAV;have p0_5:=v.cell (i:=0) rfl;have p1_5:=v.cell (i:=1) rfl;have p2_5:=v.cell (i:=2) rfl;have g0_5:=kf5.cell (i:=0) rfl;have g1_5:=kf5.cell (i:=1) rfl;have g2_5:=kf5.cell (i:=2) rfl;have q0_5:=u.cell (i:=0) rfl;have q1_5:=u.cell (i:=1) rfl;have q2_5:=u.cell (i:=2) rfl;have y0_5:=u.free 0;have y1_5:=u.free 1;have y2_5:=u.free 2;have x0_5:=v.free 0;have x1_5:=v.free 1;have x2_5:=v.free 2;replace v:=aQ v;replace kf5:=aQ kf5;replace u:=aQ u;replace E:=aQ E;clear BY bb hS;have HB8:=aQ HB.out;go_wp2_with first
    | (go_at_call 78;have gate:=mB;clear gate;go_must (refine(U _).mono ?_);clear mB;rintro e w6 ⟨rfl,D⟩;have s:=v.out.keep D;have kf6:=kf5.out.keep D;have q:=u.out.keep D;have A:=ai E.out D;have p0_6:=s.cell (i:=0) rfl;have aw:=s.cell (i:=1) rfl;have ae:=s.cell (i:=2) rfl;have X:=kf6.cell (i:=0) rfl;have Y:=kf6.cell (i:=1) rfl;have T:=kf6.cell (i:=2) rfl;have ap:=q.cell (i:=0) rfl;have q1_6:=q.cell (i:=1) rfl;have q2_6:=q.cell (i:=2) rfl;have y0_6:=q.free 0;have y1_6:=q.free 1;have ac:=q.free 2;have x0_6:=s.free 0;have x1_6:=s.free 1;have ah:=s.free 2;replace s:=aQ s;replace kf6:=aQ kf6;replace q:=aQ q;replace A:=aQ A;clear D)
    | (go_at_call 172;refine(fX (By.drop (HB8.out.keep A.out) (n - 8) (by omega)) (by rw[List.length_drop];omega) (by omega) (by omega)).mono ?_;rintro e w7 ⟨rfl,rfl⟩)
   refine bodyPost_ret (gb rfl rfl rfl (sY (xe (q.out.off (g':=t.heap.size) (by omega) (i:=2) _) _ _ _))) rfl ?_
   refine⟨?_,j9 (A.out.setCell (p:=⟨t.heap.size,2,none⟩) (show w.heap.size<=t.heap.size by omega) _) _ _ _⟩
   show Ending.returned (.tuple #[.agg #[.int .i64 (r:Int),.int .u64 AV,.int .u64 (bv ((l.drop (n - 8)).take 8))],.int .i64 0])=_
   rw[<- HAV.out]
  ·have g8:((8:Int) < n):=by omega
   have R:=fun w=>eQ (w:=w) (n:=n) (x:=f1) (y:=f2)
   rw[decide_eq_true g8] at R
   have L:¬ ((16:Int) < n):=by omega
   have U:=fun w=>fI (w:=w) (n:=n) (x:=f1) (y:=f2)
   rw[decide_eq_false L] at U
   have mA:True:=trivial
   have mB:True:=trivial
   have M:Hid (rdA r l=tn r (bv ((l.drop 1).take 8))):=by show _=_;rw[rdA,if_pos (by omega)]
   have J:Hid (rdB l=0):=by show _=_;rw[rdB,if_neg (by omega)]
   rw[M.out,J.out];go_enter Tryz.func121,Tryz.ntmps121;go_wp2_with first
    | (go_at_call 170;refine(u1 _ (af _ _)).mono ?_;rintro e G ⟨rfl,F⟩)
    | (go_at_call 171;refine(u2 _).mono ?_;rintro e t ⟨rfl,H⟩;have al:=af t (.cells #[.int .i64 (r:Int),.int .u64 0,.int .u64 0] 90);have K:=ai (af G (.cells #[.int .i64 (n:Int),.int .u8 f1,.int .u8 f2] 154)) H;have m:=(((aj w [.int .i64 0,.int .u64 0,.int .u64 0] 90).keep F).keep K).keep al;have kf2:=((aj G [.int .i64 (n:Int),.int .u8 f1,.int .u8 f2] 154).keep H).keep al;have g:=aj t [.int .i64 (r:Int),.int .u64 0,.int .u64 0] 90;have B:=ai (ai (ai (af w (.cells #[.int .i64 0,.int .u64 0,.int .u64 0] 90)) F) K) al;have lt1:w.heap.size < G.heap.size:=Nat.lt_of_lt_of_le (by simp) F.size;have lt2:G.heap.size < t.heap.size:=Nat.lt_of_lt_of_le (by simp) H.size;have ar:=g.cell (i:=0) rfl;have az:=g.cell (i:=1) rfl;have ab:=g.cell (i:=2) rfl;have g0_2:=kf2.cell (i:=0) rfl;have V:=kf2.cell (i:=1) rfl;have g2_2:=kf2.cell (i:=2) rfl;have ag:=m.cell (i:=0) rfl;have aa:=m.cell (i:=1) rfl;have ad:=m.cell (i:=2) rfl;have av:=m.free 0;have P:=m.free 1;have y2_2:=m.free 2;have x0_2:=g.free 0;have W:=g.free 1;have x2_2:=g.free 2;replace g:=aQ g;replace kf2:=aQ kf2;replace m:=aQ m;replace B:=aQ B;clear F H K al)
    | (go_at_call 77;have gate:=mA;clear gate;go_must (refine(R _).mono ?_);clear mA;rintro e I ⟨rfl,C⟩;have d:=g.out.keep C;have kf3:=kf2.out.keep C;have j:=m.out.keep C;have z:=ai B.out C;have O:=d.cell (i:=0) rfl;have p1_3:=d.cell (i:=1) rfl;have p2_3:=d.cell (i:=2) rfl;have au:=kf3.cell (i:=0) rfl;have g1_3:=kf3.cell (i:=1) rfl;have ak:=kf3.cell (i:=2) rfl;have q0_3:=j.cell (i:=0) rfl;have an:=j.cell (i:=1) rfl;have q2_3:=j.cell (i:=2) rfl;have y0_3:=j.free 0;have aq:=j.free 1;have ay:=j.free 2;have Q:=d.free 0;have Z:=d.free 1;have aA:=d.free 2;replace d:=aQ d;replace kf3:=aQ kf3;replace j:=aQ j;replace z:=aQ z;clear C)
   have hS:I.drew.cell? ⟨t.heap.size,0,none⟩=some (.int .i64 (r:Int)):=d.out.drew.cell rfl;have BY:=(HB.out.keep z.out).drew;have bb:=fK 8 ((l.drop 1).take 8) (fun y hy=>HB.out.oct y (List.mem_of_mem_drop (List.mem_of_mem_take hy))) (by rw[List.length_take,List.length_drop];omega);rw[show (256:Int) ^ 8=18446744073709551616 by decide] at bb;refine bJ (S:=fun w'=>w'.cell? ⟨t.heap.size,0,none⟩=some (.int .i64 (r:Int))) (by kernel_rfl) hS ?_
   refine ax 0 17 (.pointer (some ⟨t.heap.size,0,none⟩)) (by kernel_rfl) (fun _ _=>by kernel_rfl) i3 hS ?_
   refine aN 1 (some 18) (.int .i64 (r:Int)) 3 17 t.heap.size 0 (by kernel_rfl) (by kernel_rfl) (by kernel_rfl) (fun w' h=>gS h) i3 hS ?_
   refine ax 2 19 (.slice (some ⟨b,o,none⟩) n c) (by kernel_rfl) (fun _ _=>by kernel_rfl) i3 hS ?_
   refine ax 3 20 (.slice (some ⟨b,o+1,none⟩) (n - 1) (c - 1)) (by kernel_rfl) (fun _ _=>oK (x:=19) (by kernel_rfl) (by kernel_rfl) (by omega) (by omega) hnc) i3 hS ?_
   refine bQ 4 (some 21) 172 #[.slice (some ⟨b,o+1,none⟩) (n - 1) (c - 1)] (by kernel_rfl) (by kernel_rfl) (fX (By.drop BY 1 (by omega)) (by rw[List.length_drop];omega) (by omega) (by omega)) ?_
   rintro e' w4 ⟨rfl,rfl⟩;refine⟨_,rfl,hS,?_⟩;refine bQ 5 (some 22) 80 #[.int .i64 (r:Int),.int .u64 (bv ((l.drop 1).take 8))] (by kernel_rfl) (by kernel_rfl) (gw bb.1 bb.2) ?_
   rintro e' w5 ⟨rfl,rfl⟩;refine⟨.int .u64 (tn r (bv ((l.drop 1).take 8))),rfl,hS,?_⟩;refine ax 6 23 (.pointer (some ⟨t.heap.size,1,none⟩)) (by kernel_rfl) (fun _ _=>by kernel_rfl) i3 hS ?_
   refine aB [7] (by kernel_rfl) (by simp) (cB 7 (I.drew.setCell ⟨t.heap.size,1,none⟩ (.int .u64 (tn r (bv ((l.drop 1).take 8))))) (by kernel_rfl) (rz 23 22 (by kernel_rfl) (by kernel_rfl) (by kernel_rfl) (d.out.drew.cell (i:=1) rfl) (d.out.drew.free 1)) ((d.out.drew.setCell (i:=1) _).cell (i:=0) rfl) ?_ aL);refine bh (by kernel_rfl) ?_
   simp only[Act.put,List.setIfInBounds_toArray,List.set_cons_zero,List.set_cons_succ]
   have v:Blk (I.drew.setCell ⟨t.heap.size,1,none⟩ (.int .u64 (tn r (bv ((l.drop 1).take 8))))) t.heap.size [.int .i64 (r:Int),.int .u64 (tn r (bv ((l.drop 1).take 8))),.int .u64 0] 90:=d.out.drew.setCell (i:=1) _;have kf5:=kf3.out.drew.off (g':=t.heap.size) (by omega) (i:=1) (.int .u64 (tn r (bv ((l.drop 1).take 8))));have u:=j.out.drew.off (g':=t.heap.size) (by omega) (i:=1) (.int .u64 (tn r (bv ((l.drop 1).take 8))));have E:=(ai z.out (cy I)).setCell (p:=⟨t.heap.size,1,none⟩) (show w.heap.size<=t.heap.size by omega) (.int .u64 (tn r (bv ((l.drop 1).take 8))));generalize hX5:I.drew.setCell ⟨t.heap.size,1,none⟩ (.int .u64 (tn r (bv ((l.drop 1).take 8))))=X5 at *;clear hX5;generalize hAV:tn r (bv ((l.drop 1).take 8))=AV at *;have HAV:=aQ hAV;clear hAV;have p0_5:=v.cell (i:=0) rfl;have p1_5:=v.cell (i:=1) rfl;have p2_5:=v.cell (i:=2) rfl;have g0_5:=kf5.cell (i:=0) rfl;have g1_5:=kf5.cell (i:=1) rfl;have g2_5:=kf5.cell (i:=2) rfl;have q0_5:=u.cell (i:=0) rfl;have q1_5:=u.cell (i:=1) rfl;have q2_5:=u.cell (i:=2) rfl;have y0_5:=u.free 0;have y1_5:=u.free 1;have y2_5:=u.free 2;have x0_5:=v.free 0;have x1_5:=v.free 1;have x2_5:=v.free 2;replace v:=aQ v;replace kf5:=aQ kf5;replace u:=aQ u;replace E:=aQ E;clear BY bb hS;go_wp2_with (go_at_call 78;have gate:=mB;clear gate;go_must (refine(U _).mono ?_);clear mB;rintro e w6 ⟨rfl,D⟩;have s:=v.out.keep D;have kf6:=kf5.out.keep D;have q:=u.out.keep D;have A:=ai E.out D;have p0_6:=s.cell (i:=0) rfl;have aw:=s.cell (i:=1) rfl;have ae:=s.cell (i:=2) rfl;have X:=kf6.cell (i:=0) rfl;have Y:=kf6.cell (i:=1) rfl;have T:=kf6.cell (i:=2) rfl;have ap:=q.cell (i:=0) rfl;have q1_6:=q.cell (i:=1) rfl;have q2_6:=q.cell (i:=2) rfl;have y0_6:=q.free 0;have y1_6:=q.free 1;have ac:=q.free 2;have x0_6:=s.free 0;have x1_6:=s.free 1;have ah:=s.free 2;replace s:=aQ s;replace kf6:=aQ kf6;replace q:=aQ q;replace A:=aQ A;clear D);refine bodyPost_ret (gb rfl rfl rfl (sY (xe q.out _ _ _))) rfl ?_
   refine⟨?_,j9 A.out _ _ _⟩
   show Ending.returned (.tuple #[.agg #[.int .i64 (r:Int),.int .u64 AV,.int .u64 0],.int .i64 0])=_
   rw[<- HAV.out]
 ·have g8:¬ ((8:Int) < n):=by omega
  have R:=fun w=>eQ (w:=w) (n:=n) (x:=f1) (y:=f2)
  rw[decide_eq_false g8] at R
  have L:¬ ((16:Int) < n):=by omega
  have U:=fun w=>fI (w:=w) (n:=n) (x:=f1) (y:=f2)
  rw[decide_eq_false L] at U
  have mA:True:=trivial
  have mB:True:=trivial
  have M:Hid (rdA r l=0):=by show _=_;rw[rdA,if_neg (by omega)]
  have J:Hid (rdB l=0):=by show _=_;rw[rdB,if_neg (by omega)]
  rw[M.out,J.out];go_enter Tryz.func121,Tryz.ntmps121;go_wp2_with first
   | (go_at_call 170;refine(u1 _ (af _ _)).mono ?_;rintro e G ⟨rfl,F⟩)
   | (go_at_call 171;refine(u2 _).mono ?_;rintro e t ⟨rfl,H⟩;have al:=af t (.cells #[.int .i64 (r:Int),.int .u64 0,.int .u64 0] 90);have K:=ai (af G (.cells #[.int .i64 (n:Int),.int .u8 f1,.int .u8 f2] 154)) H;have m:=(((aj w [.int .i64 0,.int .u64 0,.int .u64 0] 90).keep F).keep K).keep al;have kf2:=((aj G [.int .i64 (n:Int),.int .u8 f1,.int .u8 f2] 154).keep H).keep al;have g:=aj t [.int .i64 (r:Int),.int .u64 0,.int .u64 0] 90;have B:=ai (ai (ai (af w (.cells #[.int .i64 0,.int .u64 0,.int .u64 0] 90)) F) K) al;have lt1:w.heap.size < G.heap.size:=Nat.lt_of_lt_of_le (by simp) F.size;have lt2:G.heap.size < t.heap.size:=Nat.lt_of_lt_of_le (by simp) H.size;have ar:=g.cell (i:=0) rfl;have az:=g.cell (i:=1) rfl;have ab:=g.cell (i:=2) rfl;have g0_2:=kf2.cell (i:=0) rfl;have V:=kf2.cell (i:=1) rfl;have g2_2:=kf2.cell (i:=2) rfl;have ag:=m.cell (i:=0) rfl;have aa:=m.cell (i:=1) rfl;have ad:=m.cell (i:=2) rfl;have av:=m.free 0;have P:=m.free 1;have y2_2:=m.free 2;have x0_2:=g.free 0;have W:=g.free 1;have x2_2:=g.free 2;replace g:=aQ g;replace kf2:=aQ kf2;replace m:=aQ m;replace B:=aQ B;clear F H K al)
   | (go_at_call 77;have gate:=mA;clear gate;go_must (refine(R _).mono ?_);clear mA;rintro e I ⟨rfl,C⟩;have d:=g.out.keep C;have kf3:=kf2.out.keep C;have j:=m.out.keep C;have z:=ai B.out C;have O:=d.cell (i:=0) rfl;have p1_3:=d.cell (i:=1) rfl;have p2_3:=d.cell (i:=2) rfl;have au:=kf3.cell (i:=0) rfl;have g1_3:=kf3.cell (i:=1) rfl;have ak:=kf3.cell (i:=2) rfl;have q0_3:=j.cell (i:=0) rfl;have an:=j.cell (i:=1) rfl;have q2_3:=j.cell (i:=2) rfl;have y0_3:=j.free 0;have aq:=j.free 1;have ay:=j.free 2;have Q:=d.free 0;have Z:=d.free 1;have aA:=d.free 2;replace d:=aQ d;replace kf3:=aQ kf3;replace j:=aQ j;replace z:=aQ z;clear C)
   | (go_at_call 78;have gate:=mB;clear gate;go_must (refine(U _).mono ?_);clear mB;rintro e w6 ⟨rfl,D⟩;have s:=d.out.keep D;have kf6:=kf3.out.keep D;have q:=j.out.keep D;have A:=ai z.out D;have p0_6:=s.cell (i:=0) rfl;have aw:=s.cell (i:=1) rfl;have ae:=s.cell (i:=2) rfl;have X:=kf6.cell (i:=0) rfl;have Y:=kf6.cell (i:=1) rfl;have T:=kf6.cell (i:=2) rfl;have ap:=q.cell (i:=0) rfl;have q1_6:=q.cell (i:=1) rfl;have q2_6:=q.cell (i:=2) rfl;have y0_6:=q.free 0;have y1_6:=q.free 1;have ac:=q.free 2;have x0_6:=s.free 0;have x1_6:=s.free 1;have ah:=s.free 2;replace s:=aQ s;replace kf6:=aQ kf6;replace q:=aQ q;replace A:=aQ A;clear D)
  refine bodyPost_ret (gb rfl rfl rfl (sY (xe q.out _ _ _))) rfl ?_
  refine⟨?_,j9 A.out _ _ _⟩;rfl
end
end Ky
end
end Go.Proofs.YtidnifmehnjipaaGreat
