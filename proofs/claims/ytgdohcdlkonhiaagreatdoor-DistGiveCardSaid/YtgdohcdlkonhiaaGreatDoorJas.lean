import Derived.Test.YtgdohcdlkonhiaaGreatDoorJar
set_option maxRecDepth 100000
set_option maxHeartbeats 8000000
namespace Go.Proofs.YtgdohcdlkonhiaaGreatDoor
namespace Sd
open Go.RowKit Go.Lib Pg Lim Gl Kv Bk Pw
def Mt (B:Nat) (K:Nat->Prop) (g:Nat) (E:aC) (Wn:List aC) (x N c:Nat) (w:World) (v:Value):Prop :=
 ∃ gf lb,v=.func (.func gf) #[] lb/\(∀ args w,(callFunc gf args).run Tryz.prog w=.ok (.enter gf args) w)/\∀ V l,Below w.heap.size w V->Calls Tryz.prog gf (#[.func (.yield l) #[] #[]] ++ lb) V fun e V'=>(∃ u,e=.returned u)/\Sx B V' K g E Wn (x+c) N/\Chg (·=g) V V'
section
variable {B:Nat} {K:Nat->Prop} {g:Nat} {E:aC} {Wn:List aC} {x N c:Nat} {w w':World} {v:Value}
theorem iy {C:Nat} (h:Sx B w K g E Wn x N) (r:Rec C w w'):Sx B w' K g E Wn x N:=⟨tu h.sa r,Nat.le_trans h.lo r.size,h.kb⟩
theorem vG (h:Sx B w K g E Wn x N):Sx B (tick g w x) K g E Wn (x+1) N:=⟨h.sa.tick,by rw[eL];exact h.lo,h.kb⟩
end
def col (D:Nat):Deferred:={ target:=.collected D,args:=#[] }
structure Dfs (b:Nat) (Ds:List Nat) (w:World):Prop where
 mem:∀ D∈Ds,b<=D/\w.heap[D]?=some (.deferred (some []))
 nd:Ds.Nodup
section
variable {b:Nat} {Ds:List Nat} {w w':World}
theorem Dfs.nil (b:Nat) (w:World):Dfs b [] w:=⟨fun _ h=>absurd h (by simp),List.nodup_nil⟩
theorem jx {fn:Func} {tmps:Array Value} {R:Ending->World->Prop}:∀ {Ds:List Nat} {w:World},Dfs b Ds w->(∀ W,Rec b w W->LeavesInM Fence.wide 0 Tryz.prog fn tmps R [] .returning W)->LeavesInM Fence.wide 0 Tryz.prog fn tmps R (Ds.map col) .returning w
 | [],w,_,hR=>hR w ⟨rfl,rfl,rfl,Nat.le_refl _,fun _ _ h _=>h⟩
 | D :: Ds,w,h,hR=>by
  have hK:=(h.mem D (List.mem_cons_self ..)).2;have hb:=(h.mem D (List.mem_cons_self ..)).1;refine⟨by simp,.inl ⟨_,_,rfl,run_takeDeferred hK,jx (Ds:=Ds) ⟨fun d a=>⟨(h.mem d (List.mem_cons_of_mem _ a)).1,?_⟩,(List.nodup_cons.1 h.nd).2⟩ (fun W r=>hR W ((Rec.put hK rfl hb _).trans r))⟩⟩;rw[World.putObj_heap_other (fun e=>(List.nodup_cons.1 h.nd).1 (by subst e;exact a))];exact(h.mem d (List.mem_cons_of_mem _ a)).2
end
def okS (Q:Exit->Act->World->Prop):Exit->Act->World->Prop
 | .normal,a,w=>Q .normal a w
 | .ret,a,w=>Q .ret a w
 | _,_,_=>False
theorem weakS {c:Code} {a:Act} {w:World} {Q:Exit->Act->World->Prop} (h:c.wp Tryz.prog (okS Q) a w):c.wp Tryz.prog Q a w :=
 Code.wp_mono (fun e d b h=>by
  cases e<;>first
   | exact h
   | exact h.elim) h
section
variable {n:Nat} {l:Fr} {fn:Func} {R:Ending->World->Prop} {w:World} {b:Nat}
section
variable {v:Value}{f:FuncId}{vs:List Value}
theorem pJ(Ds:List Nat)(h:Dfs b Ds w)(hr:∀ W a,Rec b w W->Rd n (Ds.map col) l a->(results fn a.tmps).run Tryz.prog W=.ok v W)(d:∀ W,Rec b w W->R (.returned v) W):GE n (Ds.map col) (okS (bodyPostM Fence.wide 0 Tryz.prog fn R)) .ret l w:=⟨fun a r=>by
 have c:=fun W q=>hr W a q r
 obtain⟨tmps,dfs⟩:=a
 have e:dfs=Ds.map col:=r.dfs;subst e
 show LeavesInM Fence.wide 0 Tryz.prog fn tmps R (Ds.map col) .returning w
 exact jx h (fun W q=>⟨_,c W q,d W q⟩)⟩
theorem uU(Ds:List Nat)(h:Dfs b Ds w)(hr:fn.results=#[])(c:∀ W,Rec b w W->R (.returned (.tuple #[])) W):GE n (Ds.map col) (okS (bodyPostM Fence.wide 0 Tryz.prog fn R)) .normal l w:=⟨fun a r=>by
 obtain⟨tmps,dfs⟩:=a
 have e:dfs=Ds.map col:=r.dfs;subst e
 show LeavesInM Fence.wide 0 Tryz.prog fn tmps R (Ds.map col) .returning w
 exact jx h (fun W q=>⟨_,by simp[results,hr],c W q⟩)⟩
theorem rsM{ds:List Deferred}(k:Nat)(h:fn.results=#[.tmp k])(hv:lk l k=some v)(W:World)(a:Act)(_:Rec b w W)(r:Rd n ds l a):(results fn a.tmps).run Tryz.prog W=.ok v W:=by
 have c:=r.gD hv;simp at c;simp[results,h,c]
theorem gu{c:Code}(hf:Tryz.prog.funcs[f]?=some fn)(hb:fn.body=some c)(h:GC Tryz.prog n [] c (okS (bodyPostM Fence.wide 0 Tryz.prog fn R)) (en 0 vs) w)(hn:fn.ntmps=n:=by kernel_rfl)(d:Nat.ble vs.length n=true:=by kernel_rfl):Calls Tryz.prog f vs.toArray w R:=by
 refine(callsIn_wide (n:=0)).1 (callsIn_of_wp_marks hf hb trivial ?_ rfl);refine wpIn_wide.2 (weakS (h.out _ ?_));subst hn;have d:=Nat.le_of_ble_eq_true d;refine⟨?_,rfl,fun k v hk=>?_⟩
 ·simp;omega
 ·obtain⟨_,b⟩:=zm vs 0 k v hk;rw[Nat.sub_zero] at b;have a:=(List.getElem?_eq_some_iff.1 b).1;simp only;rw[Array.getElem?_append_left (by simpa using a)];simpa using b
end
end
section
variable {n:Nat} {ds:List Deferred} {l:Fr} {Q:Exit->Act->World->Prop} {w:World} {B:Nat} {K:Nat->Prop} {g:Nat} {E:aC} {Wn:List aC} {x N c:Nat} {v:Value}
theorem D0 {t:Nat} {ps:Array Tmp} {b body:Code} (M:Mt B K g E Wn x N c w v) (I:g < w.heap.size) (h:∀ D w',w.heap.size<=D->w'.heap[D]? = some (.deferred (some []))->Sx B w' K g E Wn (x + c) N->Chg (· = g) w w'->GE n (col D :: ds) Q .normal l w') (hv:lk l t=some v:=by kernel_rfl):GC Tryz.prog n ds (Code.rangeFunc (.tmp t) ps b body) Q l w:=⟨fun a r=>by
 obtain⟨q,o,rfl,C,M⟩:=M
 have ev:a.eval (.tmp t)=.func (.func q) #[] o:=by
  have z:=r.gD hv;simp at z;simp[Act.eval,z]
 refine wpIn_wide.1 (wpIn_rangeFunc (F:=Fence.wide) (n:=0) ?_);intro fn _;obtain⟨f,d⟩:∃ f,(w.alloc (.deferred (some []))).alloc (.loop (bU fn a.tmps ps b body w.heap.size .ready none))=f:=⟨_,rfl⟩
 have i:Below w.heap.size w f:=by rw[<- d];exact aj (ai w _) (ai _ _)
 have m:f.heap[w.heap.size+1]?=some (.loop (bU fn a.tmps ps b body w.heap.size .ready none)):=by
  rw[<- d];have:=World.alloc_heap_new (w.alloc (.deferred (some []))) (.loop (bU fn a.tmps ps b body w.heap.size .ready none));rwa [World.size_alloc] at this
 have j:f.heap[w.heap.size]?=some (.deferred (some [])):=by
  rw[<- d];exact(Below.heap_alloc _ _ _ (by simp)).trans (World.alloc_heap_new w _)
 refine⟨w.heap.size + 1,[{ target:=.collected w.heap.size,args:=#[] }],f,{ target:=.fn (.func q) o,args:=#[.func (.yield (w.heap.size + 1)) #[] #[]] },f,q,
  #[.func (.yield (w.heap.size+1)) #[] #[]] ++ o,f,?_,?_,?_,?_,fun h=>(by cases h),?_⟩
 ·rw[<- d];exact run_enterLoop_outer _ _ _ _ _
 ·simp only[resolve,ev];simp[go_sem]
 ·intro H _;trivial
 ·simp[invoke,go_sem,C]
 ·refine callsIn_wide.2 ((M f (w.heap.size+1) i).mono ?_);rintro e y ⟨⟨u,rfl⟩,G,p⟩
  have s:y.heap[w.heap.size+1]?=some (.loop (bU fn a.tmps ps b body w.heap.size .ready none)):=(p.same _ (lt_of_block m) (by omega)).trans m
  have hk:y.heap[w.heap.size]?=some (.deferred (some [])):=(p.same _ (lt_of_block j) (by omega)).trans j;have A:=Rec.put (B:=w.heap.size) s rfl (by omega) (.loop { bU fn a.tmps ps b body w.heap.size .ready none with state:=.exhausted });refine⟨none,_,run_endLoop (P:=Tryz.prog) s (by simp[bU]),(h w.heap.size _ (Nat.le_refl _) ((World.putObj_heap_other (by omega)).trans hk) (iy G A) (eV ((Chg.of (F:=(·=g)) i).trans p (fun _ _ h=>h)) A (Nat.le_refl _))).out _ ⟨r.1,?_,r.3⟩⟩
  show _ :: a.defers=_ :: ds
  rw[r.dfs]
  rfl⟩
end
end Sd
end Go.Proofs.YtgdohcdlkonhiaaGreatDoor
