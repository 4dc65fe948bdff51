import Derived.Test.YtgdohcdlkonhiaaGreatDoorJat
import Derived.Test.YtgdohcdlkonhiaaGreatDoorJaz
set_option maxRecDepth 100000
set_option maxHeartbeats 8000000
namespace Go.Proofs.YtgdohcdlkonhiaaGreatDoor
section
namespace Fo
open Go.RowKit Go.Lib Pg Lim Gl Kv Bk Pw Sd Di
set_option linter.unusedVariables false
section
variable {w:World}{K:Nat->Prop}{z n c:Nat}{ao:Option Addr}{x:Int}
theorem Nq.at(h:Nq w K z ao n c x)(hn:n≠0):∃ o y,w.cell? ⟨z,o,none⟩=some (.int .u64 y):=by
 obtain⟨d,e⟩:∃ d:World,d={ w with heap:=w.heap.mapIdx (fun i o=>if i=z then o else .deferred none) }:=⟨_,rfl⟩
 have j:d.heap[z]?=w.heap[z]?:=by
  rw[e];simp only[Array.getElem?_mapIdx,if_true]
  cases w.heap[z]? <;> rfl
 obtain⟨b,o,l,p,m,q,k⟩:=(h.to d (fun _=>j)).ex;have f:=k.cell 0 (by omega);by_cases hb:b=z
 ·subst hb;rw[World.cell?_of_block (w:=w) (a:=⟨b,o+0,none⟩) j] at f;exact⟨_,_,f⟩
 ·exfalso
  have g:d.heap[b]?=none\/d.heap[b]?=some (.deferred none):=by
   rw[e];simp only[Array.getElem?_mapIdx,if_neg hb]
   cases w.heap[b]? with
   | none=>exact .inl rfl
   | some o=>exact .inr rfl
  unfold World.cell? at f;rcases g with g | g<;>simp[g] at f
theorem Nq.rcd{C:Nat}{w':World}(h:Nq w K z ao n c x)(hr:Rec C w w'):Nq w' K z ao n c x:=by
 have g:n≠0->w'.heap[z]? = w.heap[z]? := fun hn=>by
  obtain⟨o,y,a⟩:=h.at hn;unfold World.cell? at a;split at a
  ·rename_i cs t f e
   have b:w.heap[z]?=some (.cells cs t f):=e;rw[b];exact hr.same z _ b (.inr rfl)
  ·cases a
 exact⟨h.lt.imp_right fun h=>Nat.lt_of_lt_of_le h hr.size,h.out,fun i d=>h.to i fun hn=>(d hn).trans (g hn)⟩
end
section
variable {w0 w w' w1:World} {B g0 n N n' N' g i C:Nat} {K0 K K':Nat->Prop} {W:List aC} {E E':aC} {bs:List Bx} {qs:List Nx} {cs cs':List Value} {t:TypeId}
section
variable {F:Nat->Prop}{z k d:Nat}{a:Option Addr}{x:Int}
theorem Ut.rcd(h:Ut w0 K0 B g0 W w K E n N bs qs)(r:Rec C w w')(c:w0.heap.size<=C):Ut w0 K0 B g0 W w' K E n N bs qs:=⟨⟨iy h.ta.sx r,h.ta.km,eV h.ta.cc r c⟩,fun p a=>⟨r.blk (h.b p a).1,(h.b p a).2⟩,fun q hq=>(h.q q hq).rcd r,h.e,h.d⟩
theorem Ut.Ah(h:Ut w0 K0 B g0 W w K E n N bs qs)(S:Sx B w' K' g0 E' W n' N')(i:∀ b,K' b->K b\/w.heap.size<=b)(c:Chg K w w')(X:Blk w' g cs t)(hb:w.heap.size<=g)(nk:¬ K' g):Ut w0 K0 B g0 W w' K' E' n' N' ((g,cs,t) :: bs) qs:=by
 have u:=h.op S i c;exact⟨u.ta,List.forall_mem_cons.2 ⟨⟨X,nk,Nat.le_trans h.ta.size hb⟩,u.b⟩,u.q,List.forall_mem_cons.2 ⟨fun r f=>ne1 (h.q r f).lt hb,u.e⟩,List.pairwise_cons.2 ⟨fun p a e=>by have:=h.lt p a;have j:g=p.1:=e;omega,u.d⟩⟩
theorem Ut.drop(h:Ut w0 K0 B g0 W w K E n N bs qs)(k:Nat):Ut w0 K0 B g0 W w K E n N (bs.drop k) qs:=⟨h.ta,fun p a=>h.b p (List.mem_of_mem_drop a),h.q,fun p a=>h.e p (List.mem_of_mem_drop a),h.d.drop⟩
theorem Ut.tail{p:Bx}(h:Ut w0 K0 B g0 W w K E n N (p :: bs) qs):Ut w0 K0 B g0 W w K E n N bs qs:=h.drop 1
abbrev Rs(C:Nat)(w w':World):Prop:=aX (fun _=>True) C w w'
theorem Rs.refl(C:Nat)(w:World):Rs C w w:=⟨Nat.le_refl _,fun _ _ _ h _=>h⟩
theorem Rs.chg(h:Chg F w w')(hF:∀ b,F b->∃ cs t,Blk w b cs t):Rs C w w':=⟨h.size,fun k o _ a c=>(h.same k (lt_of_block a) (fun f=>by
 obtain⟨cs,t,X⟩:=hF k f;have e:=a.symm.trans X.blk
 cases e
 exact c _ _ _ rfl trivial)).trans a⟩
theorem Ee(S:Sx B w K g0 E W n N):∀ b,K b->∃ cs t,Blk w b cs t:=fun b hb=>by
 obtain⟨cs,t,h,_⟩:=S.sa.kind b hb;exact⟨cs,t,h⟩
structure Uy(w1:World)(C:Nat)(w0:World)(K0:Nat->Prop)(B g0:Nat)(W:List aC)(w:World)(K:Nat->Prop)(E:aC)(n N:Nat)(bs:List Bx)(qs:List Nx):Prop where
 u:Ut w0 K0 B g0 W w K E n N bs qs
 k:Rs C w1 w
theorem Uy.ta(h:Uy w1 C w0 K0 B g0 W w K E n N bs qs):Bk.At B w0 K0 w K g0 E W n N:=h.u.ta
theorem Uy.lt(h:Uy w1 C w0 K0 B g0 W w K E n N bs qs):∀ p∈bs,p.1 < w.heap.size:=h.u.lt
theorem Uy.keep(h:Uy w1 C w0 K0 B g0 W w K E n N bs qs)(b:Below w.heap.size w w'):Uy w1 C w0 K0 B g0 W w' K E n N bs qs:=⟨h.u.keep b,h.k.trans (aX.of b)⟩
theorem Uy.drew(h:Uy w1 C w0 K0 B g0 W w K E n N bs qs):Uy w1 C w0 K0 B g0 W w.drew K E n N bs qs:=h.keep (Below.refl _ _).drew
theorem Uy.op(h:Uy w1 C w0 K0 B g0 W w K E n N bs qs)(S:Sx B w' K' g0 E' W n' N')(c:∀ b,K' b->K b\/w.heap.size<=b)(a:Chg K w w'):Uy w1 C w0 K0 B g0 W w' K' E' n' N' bs qs:=⟨h.u.op S c a,h.k.trans (Rs.chg a (Ee h.u.ta.sx))⟩
theorem Uy.add{s:Nat}(h:Uy w1 C w0 K0 B g0 W w K E n N bs qs)(L:∀ p∈bs,p.1 < s)(Q:Nq w K z a k d x)(hz:k=0\/s<=z):Uy w1 C w0 K0 B g0 W w K E n N bs ((z,a,k,d,x) :: qs):=⟨h.u.add L Q hz,h.k⟩
theorem Uy.num(h:Uy w1 C w0 K0 B g0 W w K E n N bs qs)(M:Nf w' z a k d x)(c:k=0\/w.heap.size<=z)(b:Below w.heap.size w w'):Uy w1 C w0 K0 B g0 W w' K E n N bs ((z,a,k,d,x) :: qs):=⟨h.u.num M c b,h.k.trans (aX.of b)⟩
theorem Uy.new(h:Uy w1 C w0 K0 B g0 W w K E n N bs qs)(X:Blk w' g cs t)(a:w.heap.size<=g)(b:Below w.heap.size w w'):Uy w1 C w0 K0 B g0 W w' K E n N ((g,cs,t) :: bs) qs:=⟨h.u.new X a b,h.k.trans (aX.of b)⟩
theorem Uy.bk(h:Uy w1 C w0 K0 B g0 W w K E n N bs qs)(i:Nat)(hi:bs[i]?=some (g,cs,t)):Blk w g cs t:=h.u.bk i hi
theorem Uy.nq(h:Uy w1 C w0 K0 B g0 W w K E n N bs qs)(i:Nat)(hi:qs[i]?=some (z,a,k,d,x)):Nq w K z a k d x:=h.u.nq i hi
theorem Uy.put(h:Uy w1 C w0 K0 B g0 W w K E n N bs qs)(i:Nat)(hi:bs[i]?=some (g,cs,t))(D:Chg (·=g) w w')(Y:Blk w' g cs' t)(ht:t≠5):Uy w1 C w0 K0 B g0 W w' K E n N (bs.set i (g,cs',t)) qs:=⟨h.u.put i hi D Y ht,h.k.trans (Rs.chg D (fun b e=>⟨cs,t,(show b=g from e)▸h.u.bk i hi⟩))⟩
theorem Uy.val{y:Int}(h:Uy w1 C w0 K0 B g0 W w K E n N bs qs)(i:Nat)(hi:qs[i]?=some (z,a,k,d,x))(e:x=y):Uy w1 C w0 K0 B g0 W w K E n N bs (qs.set i (z,a,k,d,y)):=⟨h.u.val i hi e,h.k⟩
theorem Uy.sel(h:Uy w1 C w0 K0 B g0 W w K E n N bs qs)(is js:List Nat)(hn:is.Nodup:=by decide):Uy w1 C w0 K0 B g0 W w K E n N (is.filterMap (bs[·]?)) (js.filterMap (qs[·]?)):=⟨h.u.sel is js hn,h.k⟩
theorem Uy.Ah(h:Uy w1 C w0 K0 B g0 W w K E n N bs qs)(S:Sx B w' K' g0 E' W n' N')(c:∀ b,K' b->K b\/w.heap.size<=b)(a:Chg K w w')(X:Blk w' g cs t)(hb:w.heap.size<=g)(nk:¬ K' g):Uy w1 C w0 K0 B g0 W w' K' E' n' N' ((g,cs,t) :: bs) qs:=⟨h.u.Ah S c a X hb nk,h.k.trans (Rs.chg a (Ee h.u.ta.sx))⟩
theorem ie(h:Ut w0 K0 B g0 W w K E n N bs qs):Uy w C w0 K0 B g0 W w K E n N bs qs:=⟨h,Rs.refl _ _⟩
end
end
section
variable {lo D C B0 n:Nat}{V V' w:World}{R:World->Prop}{body asn:Code}{fn:FuncId}{tmps args lb:Array Value}{ps:Array Tmp}
structure Mk(lo D:Nat)(R0:Loop)(V:World):Prop where
 l:V.heap[lo]?=some (.loop R0)
 d:V.heap[D]?=some (.deferred (some []))
theorem Mk.rs{R0:Loop}(h:Mk lo D R0 V)(r:Rs C V V')(h1:C<=lo)(h2:C<=D):Mk lo D R0 V':=⟨r.same _ _ h1 h.l oH,r.same _ _ h2 h.d gA⟩
theorem Mk.rcd{R0:Loop}(h:Mk lo D R0 V)(r:Rec C V V')(h1:lo < C)(h2:D < C):Mk lo D R0 V':=⟨r.same _ _ h.l (.inl h1),r.same _ _ h.d (.inl h2)⟩
def asq(lo B0:Nat)(V:World)(R:World->Prop)(body:Code)(a1:Act)(W1:World):Prop:=Below V.heap.size V W1/\∀ V2 W2,Rec B0 V V2->V2.heap.size=V.heap.size->Below V2.heap.size V2 W2->(∀ b,b≠lo->W2.heap[b]?=W1.heap[b]?)->body.wpIn (Fence.wide.inRound lo) 0 Tryz.prog (j9 (fun _=>True) B0 (fun j V'=>(j=0->Rec B0 V V')/\(j=1->R V')) (fun _ _ _=>False) 1 W2) a1 W2
theorem qO{c:World}{l:Fr}(g:Below V.heap.size V c)(h:∀ V2 W2,Rec B0 V V2->V2.heap.size=V.heap.size->Below V2.heap.size V2 W2->(∀ b,b≠lo->W2.heap[b]?=c.heap[b]?)->GR lo n [] body (j9 (fun _=>True) B0 (fun j V'=>(j=0->Rec B0 V V')/\(j=1->R V')) (fun _ _ _=>False) 1 W2) l W2):GE n [] (Exit.then (asq lo B0 V R body) (fun _ _ _=>False)) .normal l c:=⟨fun a r=>⟨g,fun V2 W2 f d i e=>(h V2 W2 f d i e).out a r⟩⟩
theorem vK{b a:World}{l:Fr}(hk:Rs B0 b a)(c:R a):GE n [] (j9 (fun _=>True) B0 (fun j V'=>(j=0->Rec B0 V V')/\(j=1->R V')) (fun _ _ _=>False) 1 b) .normal l a:=⟨fun _ _=>⟨hk,fun e=>absurd e (by decide),fun _=>c⟩⟩
theorem j3{l : Fr}{R:World → Prop}(h1 : B0 ≤ lo)(m : B0 ≤ D)(b : D ≠ lo)(mk : Mk lo D (bU fn tmps ps asn body D .ready none) V)(f : args.size = ps.size)(w : St B0 R)(rd : Rd n [] l { tmps := (ps.zip args).foldl (fun t (p, v) => t.setIfInBounds p v) tmps, defers := [] })(h : GR lo n [] asn (Exit.then (asq lo B0 V R body) (fun _ _ _ => False)) l V) : YieldAt Fence.wide 0 Tryz.prog lo args V fun e V' => e = .returned (.bool true) ∧ R V' ∧ Mk lo D (bU fn tmps ps asn body D .ready none) V' := by
  refine(gO (Tp:=fun _=>True) (B:=B0) (i:=0) (n:=0) (I:=fun j V'=>(j=0→Rec B0 V V')∧(j=1→R V')) (Ix:=fun _ _ _=>False) (Ar:=fun _ a _ _=>a=args) (fun _ _ _ _ _ h _=>h) (fun i A C hx g=>⟨fun e=>(hx.1 e).trans g,fun e=>w _ _ (hx.2 e) g⟩) (fun _ _ _ _ h _=>h) h1 mk.l ⟨fun _=>⟨rfl,rfl,rfl,Nat.le_refl _,fun _ _ h _=>h⟩,fun e=>absurd e (by decide)⟩ (Below.refl _ _) rfl f ?_).mono ?_
  · refine wpIn_mono (h.out _ rd) ?_
    intro e a1 x hq
    cases e with
    | normal=>exact⟨hq.1,fun o u hi hb _ q _ s _=>hq.2 o u (hi.1 rfl) s hb q⟩
    | _=>exact hq
  · rintro e V' ⟨k,⟨rfl,hi,r⟩ | ⟨_,c,hc,_⟩⟩
    · exact⟨rfl,hi.2 rfl,r,k.same D _ m b mk.d gA⟩
    · exact hc.elim
theorem jZ{p q:Nat}{ds:List Deferred}{l:Fr}{a:Act}(r:Rd n ds l a)(u v:Value)(hp:p < n)(hq:q < n):Rd n [] ((q,v) :: (p,u) :: l) { tmps:=((#[p,q]:Array Tmp).zip #[u,v]).foldl (fun t (p,v)=>t.setIfInBounds p v) a.tmps,defers:=[] }:=by
 have r1:Rd n [] l { tmps:=a.tmps,defers:=[] }:=⟨r.size,rfl,r.get⟩
 have e:((#[p,q]:Array Tmp).zip #[u,v]).foldl (fun t (p,v)=>t.setIfInBounds p v) a.tmps=(a.tmps.setIfInBounds p u).setIfInBounds q v:=by simp
 rw[e];exact(r1.put (some p) u (fun k e=>by cases e;exact hp)).put (some q) v (fun k e=>by cases e;exact hq)
theorem vL{t f:Nat}{ds:List Deferred}{l:Fr}{Q:Exit->Act->World->Prop}(I:World->Prop)(o:∀ args w,(callFunc f args).run Tryz.prog w=.ok (.enter f args) w)(hrun:∀ a fn,Rd n ds l a->∀ W,Below w.heap.size w W->w.heap.size + 2<=W.heap.size->Mk (w.heap.size + 1) w.heap.size (bU fn a.tmps ps asn body w.heap.size .ready none) W->Calls Tryz.prog f (#[.func (.yield (w.heap.size + 1)) #[] #[]] ++ lb) W fun e W'=>(∃ v,e=.returned v)/\I W'/\Mk (w.heap.size + 1) w.heap.size (bU fn a.tmps ps asn body w.heap.size .ready none) W')(s:St w.heap.size I)(h:∀ W,W.heap[w.heap.size]? = some (.deferred (some []))->I W->GE n (col w.heap.size :: ds) Q .normal l W)(hv:lk l t=some (.func (.func f) #[] lb):=by kernel_rfl):GC Tryz.prog n ds (Code.rangeFunc (.tmp t) ps asn body) Q l w:=⟨fun a r=>by
 have ev:a.eval (.tmp t)=.func (.func f) #[] lb:=by
  have m:=r.gD hv;simp at m;simp[Act.eval,m]
 refine wpIn_wide.1 (wpIn_rangeFunc (F:=Fence.wide) (n:=0) ?_);intro fn _;obtain⟨c,b⟩:∃ c,(w.alloc (.deferred (some []))).alloc (.loop (bU fn a.tmps ps asn body w.heap.size .ready none))=c:=⟨_,rfl⟩
 have g:Below w.heap.size w c:=by rw[<- b];exact aj (ai w _) (ai _ _)
 have p:c.heap.size=w.heap.size+1+1:=by rw[<- b];simp
 have j:c.heap[w.heap.size+1]?=some (.loop (bU fn a.tmps ps asn body w.heap.size .ready none)):=by
  rw[<- b];have:=World.alloc_heap_new (w.alloc (.deferred (some []))) (.loop (bU fn a.tmps ps asn body w.heap.size .ready none));rwa [World.size_alloc] at this
 have i:c.heap[w.heap.size]?=some (.deferred (some [])):=by
  rw[<- b];exact(Below.heap_alloc _ _ _ (by simp)).trans (World.alloc_heap_new w _)
 refine⟨w.heap.size + 1,[{ target:=.collected w.heap.size,args:=#[] }],c,{ target:=.fn (.func f) lb,args:=#[.func (.yield (w.heap.size + 1)) #[] #[]] },c,f,
  #[.func (.yield (w.heap.size+1)) #[] #[]] ++ lb,c,?_,?_,?_,?_,fun h=>(by cases h),?_⟩
 ·rw[<- b];exact run_enterLoop_outer _ _ _ _ _
 ·simp only[resolve,ev];simp[go_sem]
 ·intro x _;trivial
 ·simp[invoke,go_sem,o]
 ·refine callsIn_wide.2 ((hrun a fn r c g (by omega) ⟨j,i⟩).mono ?_);rintro e y ⟨⟨u,rfl⟩,hi,mk⟩;have q:=Rec.put (B:=w.heap.size) mk.l rfl (by omega) (.loop { bU fn a.tmps ps asn body w.heap.size .ready none with state:=.exhausted });refine⟨none,_,run_endLoop (P:=Tryz.prog) mk.l (by simp[bU]),(h _ ((World.putObj_heap_other (by omega)).trans mk.d) (s _ _ hi q)).out _ ⟨r.1,?_,r.3⟩⟩
  show _ :: a.defers=_ :: ds
  rw[r.dfs]
  rfl⟩
end
end Fo
end
section
namespace Fo
open Go.RowKit Go.Lib Pg Lim Gl Kv Bk Pw Sd Di
attribute [local go_sem] Oper.semAt_some
set_option linter.unusedVariables false
set_option linter.unusedSimpArgs false
section
variable {n g B N bs:Nat}{w w0:World}{c:Code}{K K0:Nat->Prop}{E:aC}{W:List aC}{sp:List Value}
theorem xO{P:Program}{ds:List Deferred}{l:Gl.Fr}{Q:Exit->Act->World->Prop}(k:Nat)(h:GC P n ds c (Exit.then (Code.rounds P c Q k) Q) l w):GC P n ds (Code.loop c) Q l w:=⟨fun a r=>wp_loop_rounds (k+1) (h.out a r)⟩
theorem uT{P:Program}{ds:List Deferred}{l:Gl.Fr}{Q b:Exit->Act->World->Prop}{k:Nat}(h:GC P n ds c (Exit.then (Code.rounds P c Q k) Q) l w):GE n ds (Exit.then (Code.rounds P c Q (k+1)) b) .normal l w:=⟨fun a r=>h.out a r⟩
theorem oW:Calls Tryz.prog 127 #[pg g] w fun e w'=>∃ b,e=.returned (.func (.func 192) #[] #[pg b])/\Blk w' b [pg g] 40/\w.heap.size<=b/\Below w.heap.size w w':=by
 have a:=Below.refl w.heap.size w;refine ax (n:=4) Tryz.func127 rfl ?_
 refine ae (ah (ta 1 [pg g] 40 (pg) ?_));intro v1 g2 c d B;replace a:=aj a B;refine t 2 (.nilFunc) (af (aa (ae (ah (t 3 (.func (.func 192) #[] #[pg g2]) (t 2 (.func (.func 192) #[] #[pg g2]) (af (aa (ay (aA (.func (.func 192) #[] #[pg g2]) (rs1 2) ?_))))))))));exact⟨_,rfl,c,d,a⟩
theorem Da(h:Sx B w K g E W n N)(hp:(pks 11 98 E).map Prod.fst=[16,17])(a:∀ x∈E,[98] <+: x.1->Ky.frm (11:Nat)=Ky.fIn x.1)(f:N<=100000000)(hx:n + N<=2000000000000000000):Calls Tryz.prog 193 #[pg g] w fun e w'=>∃ b c sp,e=.returned (.slice (some ⟨b,0,none⟩) 2 c)/\w.heap.size<=b/\Blk w' b (.int .u64 16 :: .int .u64 17 :: sp) 22/\¬ K b/\Sx B w' K g E W (n + 3) N/\Chg (· = g) w w':=by
 refine(oo h.sa a f hx).mono ?_
 rintro e w' ⟨v,j,rfl,U,rfl,S,C⟩
 have d:(pks 11 98 E).length=2:=by have:=congrArg List.length hp;simpa using this
 rw[hp] at U;rw[d] at S;rcases U.ex with⟨_,e⟩ | ⟨b,c,rfl,hb,R⟩
 ·cases e
 ·obtain⟨sp,X,_⟩:=R.ex;exact⟨b,c,sp,rfl,hb,X,fun q=>by have:=h.sa.lt q;omega,⟨S,Nat.le_trans h.lo C.size,h.kb⟩,C⟩
def Rz{σ:Type}(w0:World)(K0:Nat->Prop)(B g bs:Nat)(P:σ->Prop)(own:σ->List Bx)(nums:σ->List Nx)(E:aC)(n N ib:Nat)(sp:List Value)(V:World):Prop:=∃ s K n' N',P s/\n'<=n+10/\N'<=N+10/\Ut w0 K0 B g [] V K E n' N' ((ib,.int .u64 16 :: .int .u64 17 :: sp,22) :: (bs,[pg g],40) :: own s) (nums s)
theorem Rz.st{σ:Type}{P:σ->Prop}{own:σ->List Bx}{nums:σ->List Nx}{e C:Nat}(b:w0.heap.size<=C):St C (Rz w0 K0 B g bs P own nums E n N e sp):=fun _ _ h r=>by
 obtain⟨s,K,a,d,i,c,f,U⟩:=h;exact⟨s,K,a,d,i,c,f,U.rcd r b⟩
def Yi{σ:Type}(w0:World)(K0:Nat->Prop)(B g bs lo D:Nat)(R0:Loop)(id rt tk un pe x0 x1 x2 x3:Int)(jl bo:Bool)(P P':σ->Prop)(own own':σ->List Bx)(nums nums':σ->List Nx)(E E':aC):Prop :=
 ∀ s V K n N ib sp a0 n0 c0 z0 a1 n1 c1 z1 a2 n2 c2 z2 a3 n3 c3 z3,P s->n<=2000000->N<=2000000->n0<=510->n1<=510->n2<=510->n3<=510->Ut w0 K0 B g [] V K E n N ((ib,.int .u64 16 :: .int .u64 17 :: sp,22) :: (bs,[pg g],40) :: own s) ((z3,a3,n3,c3,x3) :: (z2,a2,n2,c2,x2) :: (z1,a1,n1,c1,x1) :: (z0,a0,n0,c0,x0) :: nums s)->Mk lo D R0 V ->
  YieldAt Fence.wide 0 Tryz.prog lo #[.int .u64 id,.agg #[.int .u64 rt,.int .u64 tk,.slice a0 n0 c0,.bool jl,.int .u64 un,.bool bo,.int .u64 pe,.slice a1 n1 c1,.slice a2 n2 c2,.slice a3 n3 c3]] V fun e V'=>e=.returned (.bool true)/\Rz w0 K0 B g bs P' own' nums' E' n N ib sp V'/\Mk lo D R0 V'
theorem mE{σ:Type}{W:World}{lo D:Nat}{R0:Loop}(P:Nat->σ->Prop)(own:Nat->σ->List Bx)(nums:Nat->σ->List Nx){E0 E1 E2:aC}{rt0 tk0 un0 pe0 x00 x01 x02 x03:Int}{jl0 bo0:Bool}{rt1 tk1 un1 pe1 x10 x11 x12 x13:Int}{jl1 bo1:Bool}(hp:(pks 11 98 E0).map Prod.fst=[16,17])(hRk:∀ x∈E0,[98] <+: x.1->Ky.frm (11:Nat)=Ky.fIn x.1)(hv0:ml (got E0 (Ky.mk 5 16 0))=([rt0,tk0,x00,(bi jl0),un0,(bi bo0),pe0,x01,x02,x03],0))(hv1:ml (got E1 (Ky.mk 5 17 0))=([rt1,tk1,x10,(bi jl1),un1,(bi bo1),pe1,x11,x12,x13],0))(s:σ)(hP:P 0 s)(U0:Ut w0 K0 B g [] W K E0 n N ((bs,[pg g],40) :: own 0 s) (nums 0 s))(hn:n<=1000000)(hN:N<=1000000)(mk:Mk lo D R0 W)(hlo:lo < W.heap.size)(hD:D < W.heap.size)(Y0:Yi w0 K0 B g bs lo D R0 16 rt0 tk0 un0 pe0 x00 x01 x02 x03 jl0 bo0 (P 0) (P 1) (own 0) (own 1) (nums 0) (nums 1) E0 E1)(Y1:Yi w0 K0 B g bs lo D R0 17 rt1 tk1 un1 pe1 x10 x11 x12 x13 jl1 bo1 (P 1) (P 2) (own 1) (own 2) (nums 1) (nums 2) E1 E2) :
  Calls Tryz.prog 192 #[.func (.yield lo) #[] #[],pg bs] W fun e W'=>(∃ v,e=.returned v)/\(∃ s K n' N',P 2 s/\n'<=n+60/\N'<=N+60/\Ut w0 K0 B g [] W' K E2 n' N' ((bs,[pg g],40) :: own 2 s) (nums 2 s))/\Mk lo D R0 W':=by
 have U:=ie (C:=0) U0;refine gu (n:=29) Tryz.func192 rfl ?_
 refine ae (ah (tl 7 (pg g) (U.bk 0 rfl) 0 (tc 8 193 #[pg g] (Da U.ta.sx hp hRk (by omega) (by omega)) ?_)));rintro _ v1 ⟨T,ic,sp,rfl,hib,X,nk,S,C⟩;refine⟨_,rfl,?_⟩;replace U:=U.Ah S (fun _ h=>.inl h) (C.mono (fun b _ (e:b=g)=>e▸U.ta.sx.sa.top)) X hib nk;clear S C X hib nk;refine t 9 (iI 2) (t 10 (iI 0) (af (aa (dU (xO 2 ?_)))));refine ae (ah (t 11 (bT) (af (aa (ae (bJ (aM (aa (ae (dU (ae (ah (t 12 (pg T) (tl 13 (iU 16) (U.bk 0 rfl) 0 (t 4 (iU 16) (af (aa (ae (ah (tl 15 (pg g) (U.bk 1 rfl) 0 (t 16 (iU 16) (tc 17 27 #[pg g,iU 16] (uG (th:=true) U.ta.sx ⟨by decide,by decide⟩ hv0 rfl (by omega) (by omega)) ?_))))))))))))))))))))));rintro _ v9 ⟨E,z,F,zq2,Q,G,y,zq3,M,O,J,zq4,A,H,I,zq5,K6,n7,N8,rfl,S,qn7,qN8,hK,hC,Q0,mq2,h0,Q1,mq3,h1,Q2,mq4,h2,Q3,mq5,h3⟩;refine⟨_,rfl,?_⟩;have fq2:=ne3 h0 U.ta.size;have fq3:=ne3 h1 U.ta.size;have fq4:=ne3 h2 U.ta.size;have fq5:=ne3 h3 U.ta.size;have L:=U.lt;replace U:=((((U.op S hK hC).add L Q0 h0).add L Q1 h1).add L Q2 h2).add L Q3 h3;clear L S hK hC Q0 h0 Q1 h1 Q2 h2 Q3 h3;refine t 14 (.tuple #[.agg #[iU rt0,iU tk0,.slice E z F,.bool jl0,iU un0,.bool bo0,iU pe0,.slice Q G y,.slice M O J,.slice A H I],bT]) (t 18 (.agg #[iU rt0,iU tk0,.slice E z F,.bool jl0,iU un0,.bool bo0,iU pe0,.slice Q G y,.slice M O J,.slice A H I]) (t 19 (bT) (ta 5 [iU 0,iU 0,.slice none 0 0,bF,iU 0,bF,iU 0,.slice none 0 0,.slice none 0 0,.slice none 0 0] 28 (pg) ?_)));intro v10 g11 ac Z B;replace U:=U.new ac Z B;clear ac Z B;refine ts (U.bk 0 rfl) 0 (.agg #[iU rt0,iU tk0,.slice E z F,.bool jl0,iU un0,.bool bo0,iU pe0,.slice Q G y,.slice M O J,.slice A H I]) [iU rt0,iU tk0,.slice E z F,.bool jl0,iU un0,.bool bo0,iU pe0,.slice Q G y,.slice M O J,.slice A H I] [iU rt0,iU tk0,.slice E z F,.bool jl0,iU un0,.bool bo0,iU pe0,.slice Q G y,.slice M O J,.slice A H I] ?_
 intro v12 Y C;replace U:=U.put 0 rfl C Y (by decide);clear Y C;refine t 6 (bT) (af (aa (aD [(0,.func (.yield lo) #[] #[]),(1,pg bs),(4,iU 16),(5,pg g11),(6,bT),(8,.slice (some ⟨T,0,none⟩) 2 ic),(9,iI 2),(10,iI 0),(11,bT),(12,pg T),(13,iU 16),(14,.tuple #[.agg #[iU rt0,iU tk0,.slice E z F,.bool jl0,iU un0,.bool bo0,iU pe0,.slice Q G y,.slice M O J,.slice A H I],bT]),(15,pg g),(16,iU 16),(17,.tuple #[.agg #[iU rt0,iU tk0,.slice E z F,.bool jl0,iU un0,.bool bo0,iU pe0,.slice Q G y,.slice M O J,.slice A H I],bT]),(18,.agg #[iU rt0,iU tk0,.slice E z F,.bool jl0,iU un0,.bool bo0,iU pe0,.slice Q G y,.slice M O J,.slice A H I]),(19,bT)] (ae (uS ?_)))));refine it 20 (bT) ?_
 refine it 21 (bT) ?_
 refine it 22 (.func (.yield lo) #[] #[]) ?_
 refine it 23 (iU 16) ?_
 refine itlr 24 [iU rt0,iU tk0,.slice E z F,.bool jl0,iU un0,.bool bo0,iU pe0,.slice Q G y,.slice M O J,.slice A H I] (U.bk 0 rfl) 0 ?_
 refine rP 25 lo (a:=iU 16) (b:=.agg #[iU rt0,iU tk0,.slice E z F,.bool jl0,iU un0,.bool bo0,iU pe0,.slice Q G y,.slice M O J,.slice A H I]) (Y0 _ _ _ _ _ _ _ _ _ _ _ _ _ _ _ _ _ _ _ _ _ _ _ hP (by omega) (by omega) (by omega) (by omega) (by omega) (by omega) U.u.tail (mk.rs U.k (Nat.zero_le _) (Nat.zero_le _))) ?_
 rintro _ v13 ⟨rfl,⟨s17,K14,n15,N16,R,qn15,qN16,U'⟩,mk'⟩;replace hP:=R;replace mk:=mk';replace U:=ie (C:=0) U';clear R mk' U';refine⟨_,rfl,?_⟩;refine Ef ?_
 refine t 26 (bF) (t 27 (bF) (af (aa (aZ (aM (gW (aa (ah (t 28 (iI 1) (t 10 (iI 1) (af (uT ?_))))))))))));refine aD [(0,.func (.yield lo) #[] #[]),(1,pg bs),(4,iU 16),(5,pg g11),(6,bT),(8,.slice (some ⟨T,0,none⟩) 2 ic),(9,iI 2),(10,iI 1),(11,bT),(12,pg T),(13,iU 16),(14,.tuple #[.agg #[iU rt0,iU tk0,.slice E z F,.bool jl0,iU un0,.bool bo0,iU pe0,.slice Q G y,.slice M O J,.slice A H I],bT]),(15,pg g),(16,iU 16),(17,.tuple #[.agg #[iU rt0,iU tk0,.slice E z F,.bool jl0,iU un0,.bool bo0,iU pe0,.slice Q G y,.slice M O J,.slice A H I],bT]),(18,.agg #[iU rt0,iU tk0,.slice E z F,.bool jl0,iU un0,.bool bo0,iU pe0,.slice Q G y,.slice M O J,.slice A H I]),(19,bT),(27,bF),(28,iI 1)] (ae (ah (t 11 (bT) (af (aa (ae (bJ (aM (aa (ae (dU (ae (ah (t 12 (pq T 1) (tl 13 (iU 17) (U.bk 0 rfl) 1 (t 4 (iU 17) (af (aa (ae (ah (tl 15 (pg g) (U.bk 1 rfl) 0 (t 16 (iU 17) (tc 17 27 #[pg g,iU 17] (uG (th:=true) U.ta.sx ⟨by decide,by decide⟩ hv1 rfl (by omega) (by omega)) ?_)))))))))))))))))))))));rintro _ v25 ⟨j,w,l,zq18,m,i,d,zq19,c,f,o,zq20,q,r,p,zq21,K22,n23,N24,rfl,S,qn23,qN24,hK,hC,Q0,mq18,h0,Q1,mq19,h1,Q2,mq20,h2,Q3,mq21,h3⟩;refine⟨_,rfl,?_⟩;have fq18:=ne3 h0 U.ta.size;have fq19:=ne3 h1 U.ta.size;have fq20:=ne3 h2 U.ta.size;have fq21:=ne3 h3 U.ta.size;have L:=U.lt;replace U:=((((U.op S hK hC).add L Q0 h0).add L Q1 h1).add L Q2 h2).add L Q3 h3;clear L S hK hC Q0 h0 Q1 h1 Q2 h2 Q3 h3;refine t 14 (.tuple #[.agg #[iU rt1,iU tk1,.slice j w l,.bool jl1,iU un1,.bool bo1,iU pe1,.slice m i d,.slice c f o,.slice q r p],bT]) (t 18 (.agg #[iU rt1,iU tk1,.slice j w l,.bool jl1,iU un1,.bool bo1,iU pe1,.slice m i d,.slice c f o,.slice q r p]) (t 19 (bT) (ta 5 [iU 0,iU 0,.slice none 0 0,bF,iU 0,bF,iU 0,.slice none 0 0,.slice none 0 0,.slice none 0 0] 28 (pg) ?_)));intro v26 g27 ab V B;replace U:=U.new ab V B;clear ab V B;refine ts (U.bk 0 rfl) 0 (.agg #[iU rt1,iU tk1,.slice j w l,.bool jl1,iU un1,.bool bo1,iU pe1,.slice m i d,.slice c f o,.slice q r p]) [iU rt1,iU tk1,.slice j w l,.bool jl1,iU un1,.bool bo1,iU pe1,.slice m i d,.slice c f o,.slice q r p] [iU rt1,iU tk1,.slice j w l,.bool jl1,iU un1,.bool bo1,iU pe1,.slice m i d,.slice c f o,.slice q r p] ?_
 intro v28 Y C;replace U:=U.put 0 rfl C Y (by decide);clear Y C;refine t 6 (bT) (af (aa (aD [(0,.func (.yield lo) #[] #[]),(1,pg bs),(4,iU 17),(5,pg g27),(6,bT),(8,.slice (some ⟨T,0,none⟩) 2 ic),(9,iI 2),(10,iI 1),(11,bT),(12,pq T 1),(13,iU 17),(14,.tuple #[.agg #[iU rt1,iU tk1,.slice j w l,.bool jl1,iU un1,.bool bo1,iU pe1,.slice m i d,.slice c f o,.slice q r p],bT]),(15,pg g),(16,iU 17),(17,.tuple #[.agg #[iU rt1,iU tk1,.slice j w l,.bool jl1,iU un1,.bool bo1,iU pe1,.slice m i d,.slice c f o,.slice q r p],bT]),(18,.agg #[iU rt1,iU tk1,.slice j w l,.bool jl1,iU un1,.bool bo1,iU pe1,.slice m i d,.slice c f o,.slice q r p]),(19,bT),(27,bF),(28,iI 1)] (ae (uS ?_)))));refine it 20 (bT) ?_
 refine it 21 (bT) ?_
 refine it 22 (.func (.yield lo) #[] #[]) ?_
 refine it 23 (iU 17) ?_
 refine itlr 24 [iU rt1,iU tk1,.slice j w l,.bool jl1,iU un1,.bool bo1,iU pe1,.slice m i d,.slice c f o,.slice q r p] (U.bk 0 rfl) 0 ?_
 refine rP 25 lo (a:=iU 17) (b:=.agg #[iU rt1,iU tk1,.slice j w l,.bool jl1,iU un1,.bool bo1,iU pe1,.slice m i d,.slice c f o,.slice q r p]) (Y1 _ _ _ _ _ _ _ _ _ _ _ _ _ _ _ _ _ _ _ _ _ _ _ hP (by omega) (by omega) (by omega) (by omega) (by omega) (by omega) U.u.tail (mk.rs U.k (Nat.zero_le _) (Nat.zero_le _))) ?_
 rintro _ v29 ⟨rfl,⟨s33,K30,n31,N32,R,qn31,qN32,U'⟩,mk'⟩;replace hP:=R;replace mk:=mk';replace U:=ie (C:=0) U';clear R mk' U';refine⟨_,rfl,?_⟩;refine Ef ?_
 refine t 26 (bF) (t 27 (bF) (af (aa (aZ (aM (gW (aa (ah (t 28 (iI 2) (t 10 (iI 2) (af (uT ?_))))))))))));refine aD [(0,.func (.yield lo) #[] #[]),(1,pg bs),(4,iU 17),(5,pg g27),(6,bT),(8,.slice (some ⟨T,0,none⟩) 2 ic),(9,iI 2),(10,iI 2),(11,bT),(12,pq T 1),(13,iU 17),(14,.tuple #[.agg #[iU rt1,iU tk1,.slice j w l,.bool jl1,iU un1,.bool bo1,iU pe1,.slice m i d,.slice c f o,.slice q r p],bT]),(15,pg g),(16,iU 17),(17,.tuple #[.agg #[iU rt1,iU tk1,.slice j w l,.bool jl1,iU un1,.bool bo1,iU pe1,.slice m i d,.slice c f o,.slice q r p],bT]),(18,.agg #[iU rt1,iU tk1,.slice j w l,.bool jl1,iU un1,.bool bo1,iU pe1,.slice m i d,.slice c f o,.slice q r p]),(19,bT),(27,bF),(28,iI 2)] (ae (ah (t 11 (bF) (af (aa (ae (aZ (vC (vP (vP (DX (uU (b:=W.heap.size) [] (Dfs.nil _ _) (by kernel_rfl) ?_))))))))))));intro Vz Rz;exact⟨⟨_,rfl⟩,⟨s33,_,_,_,hP,by omega,by omega,(U.u.rcd Rz U0.ta.size).tail⟩,(mk.rs U.k (Nat.zero_le _) (Nat.zero_le _)).rcd Rz hlo hD⟩
end
end Fo
end
end Go.Proofs.YtgdohcdlkonhiaaGreatDoor
