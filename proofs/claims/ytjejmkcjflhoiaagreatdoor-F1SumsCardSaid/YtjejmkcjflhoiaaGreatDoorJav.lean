import Derived.Test.YtjejmkcjflhoiaaGreatDoorJat
import Derived.Test.YtjejmkcjflhoiaaGreatDoorJau
set_option maxRecDepth 100000
set_option maxHeartbeats 8000000
namespace Go.Proofs.YtjejmkcjflhoiaaGreatDoor
section
open Pg (ai aU bS bT)
namespace Kv
open Go.RowKit Go.Lib Pg
attribute [local go_sem] Oper.semAt_some
section
variable {N n:Nat}{xs:Nat→Nat}{lb:Array Value}{Ar:Nat→Array Value→Nat→World→Prop}{Rd:World→Prop}{w:World}{g:Operand}{ps:Array Tmp}{X K D:Nat->Prop}{W:List aI}
def Fp(W0:World)(Tp:TypeId->Prop)(g x0:Nat)(xs:Nat->Nat)(gf:Nat)(lb:Array Value)(N:Nat)(Ar:Nat->Array Value->Nat->World->Prop)(Rd:World->Prop):Prop :=
 ∀ (l:Nat) (J0:World->Prop) (J Jt Jx:Nat->World->Prop) (W:World),(∀ b,W0.heap.size<=b->∀ cs,¬ Blk W b cs 5)->W0.heap.size<=W.heap.size->St W.heap.size J0->(∀ i,St W.heap.size (J i))->(∀ i,St W.heap.size (Jt i))->(∀ i,St W.heap.size (Jx i))->g < W.heap.size ->
  (∀ V,J0 V->V.cell? ⟨g,2,none⟩=some (.int .i64 x0)/\V.frozen? ⟨g,2,none⟩=false/\Rd V/\J 0 (tick g V x0)) ->
  (∀ i V,J i V->V.cell? ⟨g,2,none⟩=some (.int .i64 ((xs i:Nat):Int))/\V.frozen? ⟨g,2,none⟩=false/\Rd V/\(i < N->Jt i (tick g V (xs i)))) ->
  (∀ i args V V',i < N->Jt i V->W.heap.size<=V.heap.size->Below V.heap.size V V'->Ar i args V.heap.size V'->YieldAt Fence.wide 0 Tryz.prog l args V' fun e V''=>bL Tp W.heap.size V' V''/\((e=.returned (.bool true)/\J (i+1) V'')\/(e=.returned (.bool false)/\Jx (i+1) V''))) ->
  J0 W ->
  Calls Tryz.prog gf (#[.func (.yield l) #[] #[]] ++ lb) W fun e W'=>(∃ v,e=.returned v)/\W.heap.size<=W'.heap.size/\(J N W'\/∃ i,i < N/\Jx (i+1) W')
theorem vp{Tp:TypeId→Prop}{y g0 x0:Nat}(IT:Fp w Tp g0 x0 xs y lb N Ar Rd){assign body:Code}{Q:Exit→Act→World→Prop}{a:Act}(hg:a.eval g=.func (.func y) #[] lb)(eg:∀ args w,(callFunc y args).run Tryz.prog w=.ok (.enter y args) w)(J:∀ i args n V W,Ar i args n V→Cel V W→Ar i args n W)(hAn:∀ i args n V,Ar i args n V→args.size=ps.size)(O:World→Prop)(I H:Nat→World→Prop)(Ix:Code→Nat→World→Prop)(G:St w.heap.size O)(hI:∀ i,St w.heap.size (I i))(z:∀ i,St w.heap.size (H i))(q:∀ c i,St w.heap.size (Ix c i))(hgw:g0 < w.heap.size)(Z:∀ V,O V→V.cell? ⟨g0,2,none⟩=some (.int .i64 x0)∧V.frozen? ⟨g0,2,none⟩=false∧Rd V∧I 0 (tick g0 V x0))(hx:∀ i V,I i V→V.cell? ⟨g0,2,none⟩=some (.int .i64 ((xs i:Nat):Int))∧V.frozen? ⟨g0,2,none⟩=false∧Rd V∧(i < N→H i (tick g0 V (xs i))))(h0:O w)(o:Cj Tp w N n ps assign body a.tmps Ar H I Ix)(r:∀ D W,w.heap.size≤D→W.heap[D]?=some (.deferred (some []))→I N W→Q .normal { a with defers:={ target:=.collected D,args:=#[] } :: a.defers } W)(t:∀ D c i W,w.heap.size≤D→W.heap[D]?=some (.deferred (some []))→i < N→Ix c (i+1) W→c.wpIn Fence.wide n Tryz.prog Q { a with defers:={ target:=.collected D,args:=#[] } :: a.defers } W) :
    (Code.rangeFunc g ps assign body).wpIn Fence.wide n Tryz.prog Q a w:=by
  refine wpIn_rangeFunc ?_
  intro fn _;obtain⟨f,m⟩:∃ f,(w.alloc (.deferred (some []))).alloc (.loop (dv fn a.tmps ps assign body w.heap.size .ready none))=f:=⟨_,rfl⟩
  have S:Below w.heap.size w f:=by rw[← m];exact aB (ae w _) (ae _ _)
  have hs1:f.heap.size=w.heap.size+1+1:=by rw[← m];simp
  have F:f.heap[w.heap.size+1]?=some (.loop (dv fn a.tmps ps assign body w.heap.size .ready none)):=by
    rw[← m];have:=World.alloc_heap_new (w.alloc (.deferred (some []))) (.loop (dv fn a.tmps ps assign body w.heap.size .ready none));rwa [World.size_alloc] at this
  have A:f.heap[w.heap.size]?=some (.deferred (some [])):=by
    rw[← m];exact(Below.heap_alloc _ _ _ (by simp)).trans (World.alloc_heap_new w _)
  have t1:∀ V x,(tick g0 V x).heap[w.heap.size+1]?=V.heap[w.heap.size+1]?:=fun V x=>fT (by omega)
  have t2:∀ V x,(tick g0 V x).heap[w.heap.size]?=V.heap[w.heap.size]?:=fun V x=>fT (by omega)
  have hNB : ∀ b, w.heap.size ≤ b → ∀ cs, ¬ Blk f b cs 5 := fun b hb cs k => by
    have hlt:=k.lt;have l:=k.blk;rcases Nat.lt_or_ge w.heap.size b with L | L
    · obtain rfl : b = w.heap.size + 1 := by omega
      rw[F] at l
      cases l
    · obtain rfl : b = w.heap.size := by omega
      rw[A] at l
      cases l
  refine⟨w.heap.size + 1, [{ target := .collected w.heap.size, args := #[] }], f, { target := .fn (.func y) lb, args := #[.func (.yield (w.heap.size + 1)) #[] #[]] }, f, y,
    #[.func (.yield (w.heap.size+1)) #[] #[]] ++ lb,f,?_,?_,?_,?_,fun h=>(by cases h),?_⟩
  · rw[← m];exact run_enterLoop_outer _ _ _ _ _
  · simp only[resolve,hg]
    simp[go_sem]
  · intro f' _;trivial
  · simp[invoke,go_sem,eg]
  · refine callsIn_wide.2 ?_
    refine(IT (w.heap.size + 1)
      (fun W=>O W∧W.heap[w.heap.size+1]?=some (.loop (dv fn a.tmps ps assign body w.heap.size .ready none))∧W.heap[w.heap.size]?=some (.deferred (some [])))
      (fun i W=>I i W∧W.heap[w.heap.size+1]?=some (.loop (dv fn a.tmps ps assign body w.heap.size .ready none))∧W.heap[w.heap.size]?=some (.deferred (some [])))
      (fun i W=>H i W∧W.heap[w.heap.size+1]?=some (.loop (dv fn a.tmps ps assign body w.heap.size .ready none))∧W.heap[w.heap.size]?=some (.deferred (some [])))
      (fun i W=>∃ c,Ix c i W∧W.heap[w.heap.size+1]?=some (.loop (dv fn a.tmps ps assign body w.heap.size .done (some c)))∧W.heap[w.heap.size]?=some (.deferred (some [])))
      f hNB (by omega) (fun X Y hx d=>⟨G X Y hx.1 (d.mono (by omega)),d.same _ _ hx.2.1 (.inl (by omega)),d.same _ _ hx.2.2 (.inl (by omega))⟩)
      (fun i X Y hx d=>⟨hI i X Y hx.1 (d.mono (by omega)),d.same _ _ hx.2.1 (.inl (by omega)),d.same _ _ hx.2.2 (.inl (by omega))⟩)
      (fun i X Y hx d=>⟨z i X Y hx.1 (d.mono (by omega)),d.same _ _ hx.2.1 (.inl (by omega)),d.same _ _ hx.2.2 (.inl (by omega))⟩)
      (fun i X Y hx d=>by obtain⟨c,L,R,U⟩:= hx;exact⟨c,q c i X Y L (d.mono (by omega)),d.same _ _ R (.inl (by omega)),d.same _ _ U (.inl (by omega))⟩)
      (by omega)
      (fun V hv=>by obtain⟨q1,K,u,M⟩:= Z V hv.1;exact⟨q1,K,u,M,(t1 V x0).trans hv.2.1,(t2 V x0).trans hv.2.2⟩)
      (fun i V hv=>by obtain⟨q1,K,u,M⟩:= hx i V hv.1;exact⟨q1,K,u,fun hi=>⟨M hi,(t1 V _).trans hv.2.1,(t2 V _).trans hv.2.2⟩⟩)
      ?_ ⟨G _ _ h0 (Rec.of S),F,A⟩).mono ?_
    · rintro i args V V' s ⟨hi,p,l⟩ T hb ha
      have d:=o _ i args V V' (by omega) (lt_of_block p) ⟨_,p⟩ s hi hb ha;refine(jB (Tp:=Tp) (B:=w.heap.size) (i:=2 * i+1) (I:=qc I H) (Ix:=fun c k=>Ix c (k / 2)) (Ar:=fun k=>Ar (k / 2)) (fun j=>J (j / 2)) (fun j=>by unfold qc;split;exact hI _;exact z _) (fun c j=>q c _) (by omega) p (by rw[jV];exact hi) hb (by rw[show (2 * i+1) / 2=i by omega];exact ha) (hAn _ _ _ _ ha) (wpIn_mono d ?_)).mono ?_
      · intro e a1 f h
        cases e <;> first
          | (refine⟨h.1, fun V2 W2 q1 K u M q5 q6 q7 => ?_⟩
             rw[jV] at q1;rw[show (2 * i+1) / 2=i by omega] at u
             exact wpIn_mono (h.2 V2 W2 q1 K u M q5 q6 q7) (fun e a W h=>ph h))
          | exact h.elim
      · rintro e V'' ⟨C,h⟩
        have E:=C.same _ _ (Nat.le_refl _) (by omega) ((hb.block _ (lt_of_block l)).trans l) mP;refine⟨C.from (by omega) (by omega),h.imp (fun h=>⟨h.1,by have:=h.2.1;rw[lI] at this;exact this,h.2.2,E⟩) (fun h=>?_)⟩;obtain⟨L,c,R,U⟩:= h;rw[show (2 * i+1+1) / 2=i+1 by omega] at R;exact⟨L,c,R,U,E⟩
    · rintro e W2 ⟨⟨v,rfl⟩,T,⟨hi,p,l⟩ | ⟨i,s,c,hi,p,l⟩⟩
      · exact⟨none,_,run_endLoop (P:=Tryz.prog) p (by simp[dv]),r _ _ (Nat.le_refl _) ((World.putObj_heap_other (by omega)).trans l) (hI _ _ _ hi (Rec.put p rfl (by omega) _))⟩
      · exact⟨some c,_,run_endLoop (P:=Tryz.prog) p (by simp[dv]),t _ c i _ (Nat.le_refl _) ((World.putObj_heap_other (by omega)).trans l) s (q c _ _ _ hi (Rec.put p rfl (by omega) _))⟩
theorem swalkH{Tp:TypeId->Prop}{g:Nat}{E:aI}{fv s:Value}{f t:List Int}(h:SA w K D g E W n N)(I:N<=100000000)(hf:By w fv f)(o:By w s t)(r:f.length<=1000000000)(q:t.length<=1000000000)(c:∀ b,X b->b=g\/¬ K b)(l:∀ b,X b->∀ cs,¬ Blk w b cs 5)(j:∀ b,X b->b < w.heap.size)(y:¬ Tp 172)(d:¬ Tp 185) :
  Calls Tryz.prog 75 #[.pointer (some ⟨g,0,none⟩),fv,s] w fun e w'=>∃ v EL,e=.returned v/\Cs Tp X w.heap.size w' g EL v/\EL.map En.kl2=E.filter (mM f t)/\Below w.heap.size w w':=by
 obtain⟨F,V,m,Q,O,T,Y,hX,rfl,H⟩:=h.open;obtain⟨L,p,hw⟩:=xwmG hX I c l j;have z:=oD (Tp:=Tp) p hf o r q y d;have c0:=hX.blk.cell (i:=0) rfl;obtain⟨S,M,rfl,-⟩:=id hf.ex;obtain⟨ta,tc,rfl,-⟩:=id o.ex;generalize hfn:f.length=fn at *;generalize htn:t.length=tn at *;have J:=aD hX;have C:=aD p;have G:=aD hw;clear hX p hw h H hf o hfn htn c l j y d;go_enter Tryz.func75,Tryz.ntmps75;go_wp2_with first
  | (go_at_call 33;go_must (refine z.mono ?_);rintro e R ⟨P,rfl,u,B⟩;clear z)
  | (go_at_call 109;go_must (refine nP.mono ?_);rintro e U ⟨rfl,k1,A,x⟩)
 go_ret;exact⟨_,_,rfl,sI J.out.blk C.out u B k1 A x (Nat.le_refl _),G.out f t,aB u x⟩
end
end Kv
namespace Fo
open Go.RowKit Go.Lib Pg Lim Gl Kv Bk Pw
attribute [local go_sem] Oper.semAt_some
set_option linter.unusedVariables false
set_option linter.unusedSimpArgs false
section
variable {w W0:World}{g:Nat}{v:Value}{a:Act}{l:List Int}{xs:Nat→Nat}{Wn:List aI}
def ArK(cs:List (Int × Int × Int))(i:Nat)(args:Array Value)(_:Nat)(_:World):Prop:=∃ c,cs[i]?=some c/\args=#[.int .u64 c.1,.agg #[.int .u64 c.2.1,.int .u64 c.2.2]]
def oZ(E:aI)(id fr la:Int):aI:=E.filter (mM (Kv.nxt (Ky.mk 8 id fr)) (Kv.nxt (Ky.mk 8 id la)))
def dB(E:aI)(id fr la:Int):List (Int × Int × Int):=(oZ E id fr la).map (fun x=>(Ky.rdB x.1,cX x.2 0,cX x.2 1))
theorem rn(h:Blk w g [v] 22):(loadVar 22 ⟨g,0,none⟩).run Tryz.prog w=.ok v w:=by
 have:=h.cell (i:=0) rfl;go_simp
theorem Dr{c:Code}{Q:Exit->Act->World->Prop}(h:c.wp Tryz.prog (Exit.then (fun a' w'=>Q .normal a' w') (fun _ _ _=>False)) a w):c.wp Tryz.prog Q a w :=
 Code.wp_mono (fun e a' w' h=>by
  cases e<;>first
   | exact h
   | exact h.elim) h
theorem rg_end{Q:Exit->Act->World->Prop}(h:Q .normal a w):Exit.then (fun a' w'=>Q .normal a' w') (fun _ _ _=>False) .normal a w:=h
theorem Fh(h:ByU w v l)(a:l.length<=1000000000):Calls Tryz.prog 74 #[v] w fun e w'=>∃ u,e=.returned u/\By w' u (Kv.nxt l)/\Below w.heap.size w w':=by
 obtain⟨b,f,c,rfl,d⟩:=bya h.byt;refine(Ky.nL h.byt a).mono ?_
 rintro e w' ⟨v,rfl,O,B⟩;exact⟨v,rfl,O.by,B⟩
theorem yL(l:List Int):(Kv.nxt l).length<=l.length:=by
 unfold Kv.nxt;split
 ·simp
 ·rename_i c cs e
  have a:(l.reverse.dropWhile (· == 255)).length<=l.length:=Nat.le_trans (List.IsSuffix.length_le (List.dropWhile_suffix _)) (by rw[List.length_reverse];exact Nat.le_refl _);rw[e] at a;simp at a ⊢;omega
theorem zY{K D X:Nat→Prop}{bs bi u bl x0 N:Nat}{E:aI}{id fr la:Int}(hS:SA W0 K D g E Wn x0 N)(hbs:Blk W0 bs [.pointer (some ⟨g,0,none⟩)] 37)(hbi:Blk W0 bi [.int .u64 id] 22)(hbm:Blk W0 u [.int .u64 fr] 22)(hbl:Blk W0 bl [.int .u64 la] 22)(hXs:¬ X bs)(hXi:¬ X bi)(hXm:¬ X u)(hXb:¬ X bl)(hX1:∀ b,X b→b=g∨¬ K b)(hXl:∀ b,X b→b < W0.heap.size)(hid:0≤id∧id < 18446744073709551616)(hN:N≤100000000)(hx:x0≤2000000000000000000)(hxs:∀ i,i < N→xs i≤3000000000000000000)(hRk:∀ x ∈ oZ E id fr la,Ky.frm (8:Nat)=Ky.fIn x.1) :
    Fp W0 TpN g x0 xs 73 #[.pointer (some ⟨bi,0,none⟩),.pointer (some ⟨u,0,none⟩),.pointer (some ⟨bl,0,none⟩),.pointer (some ⟨bs,0,none⟩)] (dB E id fr la).length (ArK (dB E id fr la)) (RdS W0 X K D g E Wn N):=by
  intro l J0 J Jt Jx W hNB hW0 hS0 hSJ hSt hSx hgW O hJ hY h0;obtain⟨_,_,⟨c0,u0,xx,s0⟩,_⟩:= O _ h0;have Q:=ae W (.cells #[.func (.yield l) #[] #[]] 137);have Y1:=aE W [.func (.yield l) #[] #[]] 137
  have s1:(W.alloc (.cells #[.func (.yield l) #[] #[]] 137)).heap.size=W.heap.size+1:=by simp
  obtain⟨Wa,hWa⟩:∃ Wa,Hid (W.alloc (.cells #[.func (.yield l) #[] #[]] 137)=Wa):=⟨_,rfl⟩;rw[hWa.out] at Q Y1 s1;have bsW:=hbs.chg c0 hXs
  have hK0:∀ b,K b→b < W0.heap.size:=fun b hb=>hS.lt hb
  have HX':Hid (∀ b,(X b∨(W0.heap.size≤b∧b < W.heap.size))→b=g∨¬ K b):=aD (fun b hb=>hb.elim (hX1 b) (fun h=>.inr (fun hk=>by have:=hK0 b hk;omega)))
  have HXl:Hid (∀ b,(X b∨(W0.heap.size≤b∧b < W.heap.size))→b < W.heap.size):=aD (fun b hb=>hb.elim (fun h=>Nat.lt_of_lt_of_le (hXl b h) hW0) (fun h=>h.2))
  have HXU:Hid (∀ b,(X b∨(W0.heap.size≤b∧b < W.heap.size))→∀ cs,¬ Blk W b cs 5):=aD (fun b hb=>hb.elim (u0 b) (fun h=>hNB b h.1))
  have S0:(fun p=>Blk p bi [.int .u64 id] 22∧Blk p u [.int .u64 fr] 22∧Blk p bl [.int .u64 la] 22) Wa.drew:=⟨((hbi.chg c0 hXi).keep Q).drew,((hbm.chg c0 hXm).keep Q).drew,((hbl.chg c0 hXb).keep Q).drew⟩;have HY:=aD hY;have HJ:=aD hJ;have HJ0:=aD O;have H0:=aD h0;have HS:=aD s0;have C:=aD c0;have HB1:=aD Q;have HY1:=aD Y1;have HBS:=aD bsW;have f:=aD S0;clear O hJ hY h0 s0 c0 Q Y1 bsW hNB u0 S0 hbs hbi hbm hbl;refine(callsIn_wide (n:=0)).1 ?_
  refine callsIn_of_wp_marks Tryz.func73 rfl trivial ?_ rfl;simp only[Tryz.ntmps73,List.size_toArray,List.length_cons,List.length_nil,Nat.reduceAdd,Nat.reduceSub,Array.replicate_succ,Array.replicate_zero,List.push_toArray,List.append_toArray,List.nil_append,List.cons_append];gi_wp2_with fail;rw[hWa.out];refine wpIn_wide.2 ?_
  refine Dr ?_
  refine bT (S:=fun p=>Blk p bi [.int .u64 id] 22∧Blk p u [.int .u64 fr] 22∧Blk p bl [.int .u64 la] 22) (by kernel_rfl) f.out ?_
  refine aU 0 (some 14) (.int .u64 id) 22 1 bi 0 (by kernel_rfl) (by kernel_rfl) (by kernel_rfl) (fun p h=>rn h.1) (fun _ _ _ h=>h) f.out ?_
  refine aU 1 (some 15) (.int .u64 fr) 22 2 u 0 (by kernel_rfl) (by kernel_rfl) (by kernel_rfl) (fun p h=>rn h.2.1) (fun _ _ _ h=>h) f.out ?_
  refine aU 4 (some 18) (.int .u64 id) 22 1 bi 0 (by kernel_rfl) (by kernel_rfl) (by kernel_rfl) (fun p h=>rn h.1) (fun _ _ _ h=>h) f.out ?_
  refine aU 5 (some 19) (.int .u64 la) 22 3 bl 0 (by kernel_rfl) (by kernel_rfl) (by kernel_rfl) (fun p h=>rn h.2.2) (fun _ _ _ h=>h) f.out ?_
  refine bS 2 (some 16) 56 #[.int .i64 8,.int .u64 id,.int .u64 fr] (by kernel_rfl) (by kernel_rfl) (xJ hid (by decide)) ?_
  rintro _ w1 ⟨k1,rfl,U1,T⟩;have T1:=(⟨f.out.1.keep T,f.out.2.1.keep T,f.out.2.2.keep T⟩:Blk w1 bi [.int .u64 id] 22∧Blk w1 u [.int .u64 fr] 22∧Blk w1 bl [.int .u64 la] 22);refine⟨_,rfl,T1,?_⟩;refine bS 3 (some 17) 74 #[k1] (by kernel_rfl) (by kernel_rfl) (Fh U1 (Nat.le_trans (Ky.lx _ _ _) (by decide))) ?_
  rintro _ w2 ⟨f1,rfl,F1,R⟩;have T2:=(⟨T1.1.keep R,T1.2.1.keep R,T1.2.2.keep R⟩:Blk w2 bi [.int .u64 id] 22∧Blk w2 u [.int .u64 fr] 22∧Blk w2 bl [.int .u64 la] 22);refine⟨_,rfl,T2,?_⟩;refine bS 6 (some 20) 56 #[.int .i64 8,.int .u64 id,.int .u64 la] (by kernel_rfl) (by kernel_rfl) (xJ hid (by decide)) ?_
  rintro _ w3 ⟨k2,rfl,U2,M⟩;have T3:=(⟨T2.1.keep M,T2.2.1.keep M,T2.2.2.keep M⟩:Blk w3 bi [.int .u64 id] 22∧Blk w3 u [.int .u64 fr] 22∧Blk w3 bl [.int .u64 la] 22);refine⟨_,rfl,T3,?_⟩;refine bS 7 (some 21) 74 #[k2] (by kernel_rfl) (by kernel_rfl) (Fh U2 (Nat.le_trans (Ky.lx _ _ _) (by decide))) ?_
  rintro _ w4 ⟨f2,rfl,F2,I⟩;have T4:=(⟨T3.1.keep I,T3.2.1.keep I,T3.2.2.keep I⟩:Blk w4 bi [.int .u64 id] 22∧Blk w4 u [.int .u64 fr] 22∧Blk w4 bl [.int .u64 la] 22);refine⟨_,rfl,T4,?_⟩;refine ai 8 (some 6) f1 (by kernel_rfl) (fun _ _=>by kernel_rfl) (fun _ _ _ h=>h) T4 ?_
  refine ai 9 (some 7) f2 (by kernel_rfl) (fun _ _=>by kernel_rfl) (fun _ _ _ h=>h) T4 ?_
  refine bQ (by kernel_rfl) (rg_end ?_);simp only[Act.put,List.setIfInBounds_toArray,List.set_cons_zero,List.set_cons_succ];have B2:=aB (aB (aB (aB (aB HB1.out (cC Wa)) T) R) M) I
  have F1':=(F1.keep M).keep I;obtain⟨fa,fc,hf1⟩:∃ H c,f1=.slice H (Kv.nxt (Ky.mk 8 id fr)).length c:=by obtain⟨H,c,e,_⟩:= F1.ex;exact⟨H,c,e⟩
  obtain⟨ta,tc,hf2⟩:∃ H c,f2=.slice H (Kv.nxt (Ky.mk 8 id la)).length c:=by obtain⟨H,c,e,_⟩:= F2.ex;exact⟨H,c,e⟩
  have cB:=(HBS.out.keep B2).cell (i:=0) rfl;have tP:=swalkH (Tp:=TpN) (X:=fun b=>X b∨(W0.heap.size≤b∧b < W.heap.size)) (HS.out.keep B2) hN F1' F2 (Nat.le_trans (yL _) (Nat.le_trans (Ky.lx _ _ _) (by decide))) (Nat.le_trans (yL _) (Nat.le_trans (Ky.lx _ _ _) (by decide))) HX'.out (fun b hb cs k=>HXU.out b hb cs ⟨by rw[← B2.block b (HXl.out b hb)];exact k.blk⟩) (fun b hb=>Nat.lt_of_lt_of_le (HXl.out b hb) B2.size) (fun h=>h) (fun h=>h);have m:=aD B2;have P:=aD (aB (aB (aB (aB (cC Wa) T) R) M) I);clear T1 T2 T3 T4 U1 U2 F1 F2 F1' T R M I B2;obtain⟨fn,hfn⟩:∃ n,Hid ((Kv.nxt (Ky.mk 8 id fr)).length=n):=⟨_,rfl⟩;obtain⟨tn,htn⟩:∃ n,Hid ((Kv.nxt (Ky.mk 8 id la)).length=n):=⟨_,rfl⟩;rw[hfn.out] at hf1;rw[htn.out] at hf2;subst hf1 hf2;gi_wp2_with (refine⟨trivial,rfl,?_⟩;gi_at_call 75;refine(callsIn_wide.2 tP).mono ?_;rintro e' y ⟨v5,U,rfl,IG,j,v⟩);obtain⟨bs1,bs2,bw,W1,rfl,IT,hRd,hb1,o⟩:= IG.ex;have hsm:=IG.small;clear tP IG;have Y:=aB m.out v
  have hw1:W.heap.size+1≤w4.heap.size:=by have:=P.out.size;omega
  have hw2:W.heap.size+1≤y.heap.size:=Nat.le_trans hw1 v.size;have YB:=(HY1.out.keep P.out).keep v
  have hlen:(dB E id fr la).length=U.length:=by simp[dB,oZ,← j]
  have hle:U.length≤N:=by
    have h1:=HS.out.size
    have h2:(U.map En.kl2).length≤E.length:=by rw[j];exact List.length_filter_le _ _
    rw[List.length_map] at h2;omega
  have ITC:=oE (g:=g) (bs1:=bs1) (bs2:=bs2) (x0:=x0) (xs:=xs) IT (fun h=>h) (by omega) (fun i hi=>hxs i (by omega))
  have HRK:Hid (∀ e ∈ U,Ky.frm 8=Ky.fIn e.kl):=aD (fun e he=>hRk e.kl2 (by show _ ∈ E.filter _;rw[← j];exact List.mem_map_of_mem he))
  have HCL : Hid (∀ (i : Nat) (e : En), U[i]? = some e → (dB E id fr la)[i]? = some (Ky.rdB e.kl, cX e.vl 0, cX e.vl 1)) := aD (fun i e he => by
    have h1:dB E id fr la=(U.map En.kl2).map (fun x=>(Ky.rdB x.1,cX x.2 0,cX x.2 1)):=by rw[j];rfl
    rw[h1,List.getElem?_map,List.getElem?_map,he]
    rfl)
  have J2:=hS0 _ _ H0.out (Rec.of Y)
  have E2:Ext W.heap.size y y:=⟨fun _ _ _=>rfl,Nat.le_refl _⟩
  have RDC : Hid (∀ V, RdS W0 X K D g E Wn N V → Ext W.heap.size y V → RdC (fun b => X b ∨ (W0.heap.size ≤ b ∧ b < W.heap.size)) W1 g bs1 bs2 bw V) := aD (fun V hR Z => by
    obtain⟨c1,_,x,s1⟩:= hR;obtain⟨r1,r2,r3,_⟩:= hRd;refine⟨⟨?_,?_,?_,Nat.le_trans r1.size Z.2,fun b hb hn=>?_⟩,Z.blk r2 (by omega),Z.blk r3 (by omega),s1.kv⟩
    · rw[c1.os,← C.out.os,← Y.os,r1.os]
    · rw[c1.tape,← C.out.tape,← Y.tape,r1.tape]
    · rw[c1.output,← C.out.output,← Y.output,r1.output]
    · rw[← r1.same b hb hn]
      rw[not_or] at hn;rcases Nat.lt_or_ge b W0.heap.size with h1 | h1
      · rw[c1.same b h1 hn.1,Y.block b (by omega),C.out.same b h1 hn.1]
      · exact Z.1 b (by omega) (Nat.lt_of_lt_of_le hb r1.size))
  have HEL:=aD j;have HSM:=aD hsm;have HYB:=aD YB;clear j hsm YB v hRd cB IT Y HB1 HY1 m P;refine kK ITC (by rfl) (enters_of Tryz.func164 (by kernel_rfl) rfl) (fun i args n V V' h hc=>h.cel hc) (fun i args n V h=>by obtain⟨e,kv,vv,s,_,rfl,_⟩:= h;rfl)
    (fun V=>J0 V∧Ext W.heap.size y V)
    (fun i V=>J i V∧Ext W.heap.size y V)
    (fun i V=>Jt i V∧Ext W.heap.size y V)
    (fun c i V=>c=.ret∧Jx i V∧y.heap.size≤V.heap.size)
    (fun A B hx q=>⟨hS0 A B hx.1 (q.mono (by omega)),hx.2.rcd q⟩)
    (fun i A B hx q=>⟨hSJ i A B hx.1 (q.mono (by omega)),hx.2.rcd q⟩)
    (fun i A B hx q=>⟨hSt i A B hx.1 (q.mono (by omega)),hx.2.rcd q⟩)
    (fun c i A B hx q=>⟨hx.1,hSx i A B hx.2.1 (q.mono (by omega)),Nat.le_trans hx.2.2 q.size⟩)
    (by omega)
    (fun V hv=>by obtain⟨q1,q2,q3,q4⟩:= HJ0.out V hv.1;exact⟨q1,q2,RDC.out V q3 hv.2,q4,hv.2.tick hgW⟩)
    (fun i V hv=>by obtain⟨q1,q2,q3,q4⟩:= HJ.out i V hv.1;exact⟨q1,q2,RDC.out V q3 hv.2,fun hi=>⟨q4 (by omega),hv.2.tick hgW⟩⟩)
    ⟨J2,E2⟩ ?_ ?_ ?_
  · rintro l2 i args V Wv hl hlV hrec hiN ⟨hJi,hExt⟩ hb ⟨e0,kv,vv,s0,z,rfl,hk0,hv0,_⟩
    obtain⟨ak0,nk,hk1⟩:= hk0.shape;obtain⟨av,nv,hv1⟩:= hv0.shape;subst hk1 hv1;simp;gi_wp2;refine⟨Below.refl _ _,?_⟩;intro V2 W2 hJ2 d o hAr2 hoth hsz3 hV2 rl hrec2;obtain⟨e1,kv1,vv1,t1,L,G,t,hv2,ht1⟩:= hAr2;obtain rfl:e1=e0:=by rw[z] at L;cases L;rfl
    simp at G;obtain⟨rfl,rfl⟩:= G;have F:=List.mem_of_getElem? z;have tA:=Ky.Cr t.by (HSM.out e1 F).1 (r:=8) (by decide) (by decide) (HRK.out e1 F)
    have hN2:=aD (fun w3 (v:Below W2.heap.size W2 w3)=>cut_rd (ByU.of (hv2.keep v)) (HSM.out e1 F).2);have yB:=d.blk HYB.out (Nat.le_refl _);have HE2:=aD d;have HJT:=aD hJ2;have m:=aD o
    have hs2:y.heap.size≤V2.heap.size:=d.2
    have hs3:V2.heap.size≤W2.heap.size:=o.size;have HYV:=aD (yB.keep o)
    have HAr:Hid ((dB E id fr la)[i]?=some (Ky.rdB e1.kl,cX e1.vl 0,cX e1.vl 1)):=aD (HCL.out i e1 z);clear hJi hExt hb hk0 hv0 t hv2 hoth d hJ2 o yB L z ht1 F;obtain⟨cc,hcc⟩:∃ cc,Hid (Ky.rdA 8 e1.kl=cc):=⟨_,rfl⟩;obtain⟨ss,hss⟩:∃ ss,Hid (Ky.rdB e1.kl=ss):=⟨_,rfl⟩;obtain⟨na,hna⟩:∃ nn,Hid (cX e1.vl 0=nn):=⟨_,rfl⟩;obtain⟨nb,hnb⟩:∃ nn,Hid (cX e1.vl 1=nn):=⟨_,rfl⟩;obtain⟨oo,hoo⟩:∃ oo,Hid (Rc.jm (Rc.lN e1.vl)=oo):=⟨_,rfl⟩;simp only[hcc.out,hss.out] at tA;simp only[hss.out,hna.out,hnb.out] at HAr;have HY2:=aD (HY.out i #[.int .u64 ss,.agg #[.int .u64 na,.int .u64 nb]] V2);gi_wp2_with first
      | (refine⟨trivial,rfl,?_⟩;gi_at_call 76;refine(CallsIn.inRound l2 (callsIn_wide.2 tA)).mono ?_;rintro e' w6 ⟨rfl,v⟩;clear tA;have B4:=ae w6 (.cells #[.int .i64 (8:Int),.int .u64 cc,.int .u64 ss] 139);have k4:=aE w6 [.int .i64 (8:Int),.int .u64 cc,.int .u64 ss] 139;have tN:=hN2.out _ (aB v B4);rw[hna.out,hnb.out,hoo.out] at tN)
      | (refine⟨trivial,rfl,?_⟩;gi_at_call 77;refine(CallsIn.inRound l2 (callsIn_wide.2 tN)).mono ?_;rintro e' w8 ⟨rfl,B5⟩;clear tN;have B7:=ae w8 (.cells #[.int .u64 na,.int .u64 nb] 97);have B6:=aB (aB (aB v B4) B5) B7;have kC:=((k4.keep B5).keep B7).cell (i:=2) rfl;have yC:=(HYV.out.keep B6).cell (i:=0) rfl;have hYY:=HY2.out _ (by omega) HJT.out (by omega) (aB m.out B6) ⟨_,HAr.out,rfl⟩;obtain⟨fn,tmps,assign,body,hy,hR⟩:= hYY;have hR2:RoundIn (Fence.wide.inRound l2) 0 Tryz.prog l fn tmps assign body (w8.alloc (.cells #[.int .u64 na,.int .u64 nb] 97)) _:=⟨hR.1,fun c cs _=>hR.2 c cs (fun _ h=>by cases h)⟩;have HR:=aD hR2;have HK:=aD B6;clear hR hR2 v B4 B5 B6 B7 k4)
    refine⟨rfl,HR.out.mono ?_⟩;rintro e' w9 ⟨hk5,h5⟩
    have hkk:bL TpN W.heap.size W2 w9:=(bL.of HK.out).trans hk5;have hE5:=(HE2.out.keep m.out).keepsT hkk
    have t:bL TpN y.heap.size W2 w9:=hkk.mono (by omega);rcases h5 with⟨rfl,hJ5⟩ | ⟨rfl,hJ5⟩
    · gi_wp2
      exact⟨t,hJ5,hE5⟩
    · gi_wp2
      exact⟨t,rfl,hJ5,hE5.2⟩
  · rintro D' W' hD hK ⟨hJn,Z⟩
    gi_wp2;refine⟨by simp,.inl ⟨_,_,rfl,run_takeDeferred hK,?_⟩⟩;have:=Z.2;exact⟨_,results_none rfl _ _ _,⟨_,rfl⟩,by simp;omega,.inl (by rw[hlen];exact hSJ _ _ _ hJn (Rec.put hK rfl (by omega) _))⟩
  · rintro D' c i W' hD hK hiN ⟨rfl,hJx',hsz⟩
    gi_wp2;refine⟨by simp,.inl ⟨_,_,rfl,run_takeDeferred hK,?_⟩⟩;exact⟨_,results_none rfl _ _ _,⟨_,rfl⟩,by simp;omega,.inr ⟨i,by omega,hSx (i+1) _ _ hJx' (Rec.put hK rfl (by omega) _)⟩⟩
end
end Fo
end
section
namespace Fo
open Go.RowKit Go.Lib Pg Lim Gl Kv Bk Pw
attribute [local go_sem] Oper.semAt_some
set_option linter.unusedVariables false
set_option linter.unusedSimpArgs false
section
variable {w:World}{k a:Int}
theorem und_k(c:0<=a/\a < 18446744073709551616)(b:16 < (Ky.frm k).1):Calls Tryz.prog 111 #[.int .i64 k,.int .u64 a] w fun e w'=>∃ v,e=.returned (.tuple #[v,.int .i64 0])/\By w' v (Ky.mkb (Ky.frm k) (Ky.tn k a))/\Below w.heap.size w w':=by
 have u:=Ky.xN (w:=w) (k:=k) c.1 c.2;rw[if_pos b,if_pos b] at u;refine u.mono ?_
 rintro e w' ⟨v,rfl,O,B⟩;exact⟨v,rfl,O.by,B⟩
theorem Co(f:0<=a/\a < 18446744073709551616)(c:16 < (Ky.frm k).1):Calls Tryz.prog 65 #[.int .i64 k,.int .u64 a] w fun e w'=>∃ v,e=.returned v/\By w' v (Ky.mkb (Ky.frm k) (Ky.tn k a))/\Below w.heap.size w w':=by
 have b:=Below.refl w.heap.size w;refine aO (n:=14) Tryz.func65 rfl (by kernel_rfl) (by kernel_rfl) ?_
 refine ay (aC (t 4 (.slice none 0 0) (aA (ah (ay (aC (t 8 (.int .i64 k) (t 9 (.int .u64 a) (tc 10 111 #[.int .i64 k,.int .u64 a] (und_k f c) ?_)))))))));rintro _ v1 ⟨v,rfl,d,B⟩;refine⟨_,rfl,?_⟩;replace b:=aB b B;clear B;refine t 7 (.tuple #[v,.int .i64 0]) (t 11 (v) (t 12 (.int .i64 0) (t 5 (v) (t 6 (.int .i64 0) (aA (ah (ay (aC (t 13 (v) (t 4 (v) (aA (ah (aY [(4,v)] (by kernel_rfl) (aV (aW (v) (rs1 4 (by kernel_rfl) (by kernel_rfl)) ?_)))))))))))))));exact⟨_,rfl,d,b⟩
def iP(E:aI)(k a:Int):Nat:=(E.filter (fun x=>decide (Ky.mkb (Ky.frm k) (Ky.tn k a) <+: x.1))).length
structure kV(Wb:World)(t:Nat)(K D:Nat->Prop)(g:Nat)(E:aI)(Wn:List aI)(N x i:Nat)(V:World):Prop where
 chg:Chg (fun b=>b=g\/b=t) Wb V
 sa:SA V K D g E Wn x N
 out:Blk V t [.int .i64 (i:Int)] 3
end
section
variable {Wb V V':World} {t g x i N:Nat} {K D:Nat->Prop} {E:aI} {Wn:List aI}
theorem th {B:Nat} (h:SA V K D g E Wn x N) (a:Rec B V V'):SA V' K D g E Wn x N :=
 h.same (fun b d=>by obtain⟨cs,t,k,_⟩:=h.kind b d;exact(a.same b _ k.blk (.inr rfl)).trans k.blk.symm) (fun b _ _ c=>by obtain⟨cs,k⟩:=c;exact(a.same b _ k.blk (.inr rfl)).trans k.blk.symm)
theorem kV.rcd (h:kV Wb t K D g E Wn N x i V) (hr:Rec Wb.heap.size V V'):kV Wb t K D g E Wn N x i V':=⟨kh h.chg hr (Nat.le_refl _),th h.sa hr,e9 h.out hr⟩
theorem kV.ne (h:kV Wb t K D g E Wn N x i V):t≠g:=fun e=>by
 obtain⟨cs,k⟩:=h.sa.kv;subst e;exact absurd (h.out.eq k).2 (by decide)
theorem kV.tick (h:kV Wb t K D g E Wn N x i V):kV Wb t K D g E Wn N (x+1) i (tick g V x) :=
 ⟨h.chg.trans (eu g x V) (fun b _ e=>.inl e),h.sa.tick,h.out.chg (eu g x V) h.ne⟩
end
section
variable {w:World}{K:Nat->Prop}{D:Nat→Prop}{g N:Nat}{E:aI}{Wn W:List aI}{k a:Int}
theorem xt{K:Nat→Prop}{x0:Nat}(hS:SA w K D g E Wn x0 N)(ha:0≤a∧a < 18446744073709551616)(C:16 < (Ky.frm k).1)(hN:N≤100000000)(hx:x0+N≤2000000000000000000) :
    Calls Tryz.prog 31 #[pg g,.int .i64 k,.int .u64 a] w fun e w'=>∃ j,e=.returned (.int .i64 ((j:Nat):Int))∧j=iP E k a∧SA w' K D g E Wn (x0+1+j) N∧Chg (·=g) w w':=by
  have hglt:g < w.heap.size:=hS.lt hS.top;have U:=ae w (.cells #[.int .i64 0] 3);have y:=aE w [.int .i64 0] 3;obtain⟨Wa,p⟩:∃ Wa,Hid (w.alloc (.cells #[.int .i64 0] 3)=Wa):=⟨_,rfl⟩
  have zA:Wa.heap.size=w.heap.size+1:=by rw[← p.out];simp
  rw[p.out] at U y;have t:=hS.keep U;have HS:=aD hS;have HB:=aD U;have HT:=aD y;have HSB:=aD t;clear hS U y t;refine(callsIn_wide (n:=0)).1 ?_
  refine callsIn_of_wp_marks Tryz.func31 rfl trivial ?_ rfl;simp only[Tryz.ntmps31,List.size_toArray,List.length_cons,List.length_nil,Nat.reduceAdd,Nat.reduceSub,Array.replicate_succ,Array.replicate_zero,List.push_toArray,List.append_toArray,List.nil_append,List.cons_append];gi_wp2_with (refine⟨trivial,rfl,?_⟩;gi_at_call 65;rw[p.out];refine(callsIn_wide.2 (Co ha C)).mono ?_;rintro Z w1 ⟨u,rfl,U1,I⟩);have W:=HSB.out.keep I;have y:=HT.out.keep I;have zB1:=I.size
  have S:∀ b,K b→b < w.heap.size:=fun b hb=>HS.out.lt hb
  have hgt:w.heap.size≠g:=by omega
  have up := tJ (Tp := fun _ => False) (X := fun b => b = g ∨ b = w.heap.size) W hN U1 (Nat.le_trans (Ky.mC _ _) (by decide)) (fun b hb => hb.elim .inl (fun e => .inr (fun C => by have := S b C; omega))) (fun b hb cs q => by
    rcases hb with rfl | rfl
    · obtain⟨H,Q⟩:= W.kv
      exact absurd (q.eq Q).2 (by decide)
    · exact absurd (q.eq y).2 (by decide)) (fun b hb=>by rcases hb with h | h <;> omega) (fun h=>h) (fun h=>h)
  have HS1:=aD W;have HT1:=aD y;have HB1:=aD I;have HU:=aD up;clear up W y I U1;gi_wp2_with (refine⟨trivial,rfl,?_⟩;gi_at_call 64;refine(callsIn_wide.2 HU.out).mono ?_;rintro Z z ⟨pv,EL,rfl,IG,hEL,R⟩);obtain⟨bs1,bs2,bw,W1,rfl,IT,d,hb1,f⟩:= IG.ex
  have L:EL.length=iP E k a:=by have:=congrArg List.length hEL;rw[List.length_map] at this;exact this
  have hlN:EL.length≤N:=by rw[L];exact Nat.le_trans (List.length_filter_le _ _) HS.out.size
  have t:=HS1.out.keep R;have TB:=HT1.out.keep R;have zB2:=R.size
  have n1:bs1≠g:=fun e=>by obtain⟨H,Q⟩:= t.kv;subst e;exact absurd (d.2.1.eq Q).2 (by decide)
  have n2:bs2≠g:=fun e=>by obtain⟨H,Q⟩:= t.kv;subst e;exact absurd (d.2.2.1.eq Q).2 (by decide)
  have RD : ∀ V x i, kV z w.heap.size K D g E Wn N x i V → V.cell? ⟨g, 2, none⟩ = some (.int .i64 (x : Int)) ∧ V.frozen? ⟨g, 2, none⟩ = false ∧ RdC (fun b => b = g ∨ b = w.heap.size) W1 g bs1 bs2 bw V := fun V x i h => by
    have q:=h.sa.cnt;exact⟨q.1,q.2,d.1.trans h.chg (fun _ _ e=>e),d.2.1.chg h.chg (fun e=>e.elim n1 (fun e=>by omega)),d.2.2.1.chg h.chg (fun e=>e.elim n2 (fun e=>by omega)),h.sa.kv⟩
  have I0:kV z w.heap.size K D g E Wn N x0 0 z:=⟨Chg.refl _ _,t,TB⟩;have HI:=aD I0;have HB2:=aD R;have HIT:=aD (oE (g:=g) (bs1:=bs1) (bs2:=bs2) (x0:=x0) (xs:=fun i=>x0+1+i) IT (fun h=>h) (by omega) (fun i hi=>by show x0+1+i≤_;omega));clear I0 t TB R IT IG d;gi_wp2;refine kK HIT.out (by rfl) (enters_of Tryz.func164 (by kernel_rfl) rfl) (fun i args n V V' h hc=>h.cel hc) (fun i args n V h=>by obtain⟨e,kv,vv,s,_,rfl,_⟩:= h;rfl)
    (fun V=>kV z w.heap.size K D g E Wn N x0 0 V)
    (fun i V=>kV z w.heap.size K D g E Wn N (x0+1+i) i V)
    (fun i V=>kV z w.heap.size K D g E Wn N (x0+1+i+1) i V)
    (fun c i V=>False)
    (fun A B hx G=>hx.rcd G) (fun i A B hx G=>hx.rcd G) (fun i A B hx G=>hx.rcd G) (fun c i A B hx G=>hx) (by omega)
    (fun V hv=>by obtain⟨q1,q2,q3⟩:= RD V _ _ hv;exact⟨q1,q2,q3,hv.tick⟩)
    (fun i V hv=>by obtain⟨q1,q2,q3⟩:= RD V _ _ hv;exact⟨q1,q2,q3,fun _=>hv.tick⟩)
    HI.out ?_ ?_ ?_
  · rintro l2 i args V Wv hl hlV hrec hiN O hb ⟨e0,kv,vv,s0,he0,rfl,hk0,hv0,_⟩
    simp;gi_wp2;refine⟨Below.refl _ _,?_⟩;intro V2 W2 l f P M hsz3 hV2 r hrec2;have Y:=l.out.keep f;have c0:=Y.cell (i:=0) rfl;have f0:=Y.free 0;have m:=aD l;have hws:=l.chg.size;have z2:=f.size
    have HC:Chg (·=w.heap.size) W2 (W2.setCell ⟨w.heap.size,0,none⟩ (.int .i64 ((i:Int)+1))):=(Chg.refl (fun x=>x=w.heap.size) W2).cell (.inl (by rfl)) _;have S6:=Y.setCell (i:=0) (.int .i64 ((i:Int)+1));have v:=aD f;have hcc:=aD HC;have hs6:=aD S6;clear O hb M l P f HC S6 Y hk0 hv0;gi_wp2;have hs:=hcc.out;refine⟨⟨hs.size,fun k o C h0 _=>(hs.same k (lt_of_block h0) (by omega)).trans h0⟩,?_,?_,?_⟩
    · exact(m.out.chg.trans (Chg.of (F:=fun _=>False) v.out) (fun _ _ h=>h.elim)).trans hs (fun b _ h=>.inr h)
    · rw[show x0+1+(i+1)=x0+1+i+1 by omega]
      exact(m.out.sa.keep v.out).chg hs (fun b e C => by have Z : b = w.heap.size := e; have := S b C; omega) (fun b e cs kk => by
        have Z:b=w.heap.size:=e;subst Z
        exact absurd (kk.eq (m.out.out.keep v.out)).2 (by decide))
    · have q:=hs6.out
      rw[show ((i+1:Nat):Int)=(i:Int)+1 by omega];exact q
  · rintro D' W' hD hK O
    have h1c:=O.out.cell (i:=0) rfl;have R3:=Rec.put hK rfl hD (.deferred none);have J:=O.rcd R3;have T:=aD J;have HD:=aD hD;clear J O;gi_wp2;refine⟨by simp,.inl ⟨_,_,rfl,run_takeDeferred hK,?_⟩⟩;refine⟨_,results_tmp rfl _ _ _,iP E k a,rfl,rfl,by have q:=T.out.sa;rw[L] at q;exact q,?_⟩;have q1:=aB (aB HB.out HB1.out) HB2.out;exact(Chg.of (F:=(·=g)) q1).trans T.out.chg (fun b hl e=>e.elim id (fun e=>by omega))
  · rintro D' c i W' hD hK hi h
    exact h.elim
theorem sH{B:Nat}{n:Nat}(h:Sx B w K g E W n N)(d:0<=a/\a < 18446744073709551616)(c:16 < (Ky.frm k).1)(b:N<=100000000)(hn:n + N<=2000000000000000000):Calls Tryz.prog 31 #[pg g,.int .i64 k,.int .u64 a] w fun e w'=>e=.returned (.int .i64 ((iP E k a:Nat):Int))/\Sx B w' K g E W (n + 1 + iP E k a) N/\iP E k a<=N/\Chg (· = g) w w':=by
 refine(xt h.sa d c b hn).mono ?_
 rintro e w' ⟨j,rfl,rfl,S,C⟩;exact⟨rfl,⟨S,Nat.le_trans h.lo C.size,h.kb⟩,Nat.le_trans (List.length_filter_le _ _) h.sa.size,C⟩
end
end Fo
end
section
namespace Fo
open Go.RowKit Go.Lib Pg Lim Gl Kv Bk Pw
attribute [local go_sem] Oper.semAt_some
set_option linter.unusedVariables false
set_option linter.unusedSimpArgs false
theorem KK:Kd Tryz.prog 126 87 1 24 (.slice none 0 0):=⟨by kernel_rfl,by kernel_rfl,rfl,by simp[Value.cells,Value.oneCell'],by decide⟩
structure KA (w:World) (B:Nat) (v:Value) (ks:List (Value × List Int)):Prop where
 ex:(v=.slice none 0 0/\ks=[])\/∃ b c,v=.slice (some ⟨b,0,none⟩) ks.length c/\B<=b/\Rw w 87 1 b ks.length c (ks.map (·.1))
 obs:∀ p∈ks,OB w (B <= ·) p.1 p.2
section
variable {w w':World} {B g x:Nat} {v:Value} {ks:List (Value × List Int)}
theorem KA.shape (h:KA w B v ks):∃ ao c,v=.slice ao ks.length c:=by
 rcases h.ex with⟨rfl,rfl⟩ | ⟨b,c,rfl,_⟩
 ·exact⟨none,0,rfl⟩
 ·exact⟨_,c,rfl⟩
theorem KA.nil (w:World) (B:Nat):KA w B (.slice none 0 0) []:=⟨.inl ⟨rfl,rfl⟩,fun _ h=>by cases h⟩
theorem KA.keep (h:KA w B v ks) (hb:Below w.heap.size w w'):KA w' B v ks:=⟨h.ex.imp id (fun⟨b,c,e,hl,hR⟩=>⟨b,c,e,hl,hR.keep hb⟩),fun p hp=>(h.obs p hp).keep hb⟩
theorem KA.rcd {C:Nat} (h:KA w B v ks) (hr:Rec C w w'):KA w' B v ks:=⟨h.ex.imp id (fun⟨b,c,e,hl,hR⟩=>⟨b,c,e,hl,Kv.Rw.rcd hR hr⟩),fun p hp=>Kv.OB.rcd (h.obs p hp) hr⟩
theorem KA.chg {F:Nat->Prop} (h:KA w B v ks) (hc:Chg F w w') (hF:∀ b,F b->b < B/\∀ cs,¬ Blk w b cs 5):KA w' B v ks :=
 ⟨h.ex.imp id (fun⟨b,c,e,d,f⟩=>⟨b,c,e,d,f.chg hc (fun hf=>by have:=(hF b hf).1;omega)⟩),fun p a=>(h.obs p a).chg hc (fun b hb cs=>(hF b hb).2 cs)⟩
theorem app_k {p:Value × List Int} {a:Addr} (h:KA w B v ks) (E:B<=w.heap.size) (F:ks.length<=2000000000) (o:OB w (B <= ·) p.1 p.2) (c0:w.cell? (a.add 0)=some p.1) :
  ∃ v' w',(Builtin.append_ #[126,126] 126 #[v,.slice (some a) 1 1]).run Tryz.prog w=.ok v' w'/\KA w' B v' (ks ++ [p])/\Chg (fun b=>B<=b/\∃ cs,Blk w b cs 87) w w':=by
 have d:∀ j u,[p.1][j]? = some u->w.cell? (a.add j)=some u:=fun j u r=>by
  match j with
  | 0=>simp at r;rw[<- r];exact c0
  | k+1=>simp at r
 have g:∀ b,(B<=b/\∃ cs,Blk w b cs 87)->∀ cs,¬ Blk w b cs 5:=fun b hb cs k=>by
  obtain⟨_,A,z⟩:=hb;exact absurd (k.eq z).2 (by decide)
 rcases h.ex with⟨rfl,rfl⟩ | ⟨b,c,rfl,hb,m⟩
 ·obtain⟨s,w',t,m,hw⟩:=gW (w:=w) KK 126 a 1 1 [p.1] rfl d (by omega) (by omega) (by omega);refine⟨_,w',t,⟨.inr ⟨_,s,rfl,E,by simpa using m⟩,fun q i=>?_⟩,Chg.of hw⟩;simp at i;subst i;exact o.keep hw
 ·obtain⟨C,s,w',t,x,n,hC⟩:=eB KK 126 m a 1 1 [p.1] rfl d (fun u hu=>by simp at hu;subst hu;obtain⟨H,G,e⟩:=o.shape;rw[e];rfl) (by omega) (by omega)
  have f:Chg (fun b=>B<=b/\∃ cs,Blk w b cs 87) w w':=hC.mono (fun y _ e=>by have D:y=b:=e;subst D;exact⟨hb,m.kind⟩);refine⟨_,w',t,⟨.inr ⟨C,s,by simp,by rcases x with rfl | rfl<;>omega,by simpa using n⟩,fun q i=>?_⟩,f⟩;rcases List.mem_append.1 i with l | l
  ·exact(h.obs q l).chg f g
  ·simp at l;subst l;exact o.chg f g
end
section
variable {ops:Array Oper}{rest:List Oper}{pos:String}
def TpK(t:TypeId):Prop:=t=87
theorem yU{F:Fence}{n:Nat}{Q:Exit->Act->World->Prop}{after:Array Edge}{a:Act}{w w':World}{u v r:Value}(hF:∀ f,F.fn f)(hu:a.eval (.tmp 17)=u)(hv:a.eval (.tmp 19)=v)(b:(Builtin.append_ #[126,126] 126 #[u,v]).run Tryz.prog w=.ok r w')(h:wpListIn F n Tryz.prog ops Q rest (a.put (some 20) r) w') :
  wpListIn F n Tryz.prog ops Q ({ dst:=some 20,op:=.call { callee:=.builtin .append,args:=#[.tmp 17,.tmp 19],argTypes:=#[126,126] },type:=126,pos:=pos,after:=after,guard:=none } :: rest) a w :=
 Kv.q8 rfl hF (Oper.semAt_eq _ _ _ (fun c h=>by cases h)) (Kv.j9 (x:=17) (y:=19) rfl rfl hu hv b) h
structure RmI(Wb:World)(t:Nat)(K D:Nat->Prop)(g:Nat)(E:aI)(Wn:List aI)(N x:Nat)(L:List (List Int))(V:World):Prop where
 chg:Chg (fun b=>b=g\/b=t) Wb V
 sa:SA V K D g E Wn x N
 out:∃ v ks,Blk V t [v] 126/\KA V Wb.heap.size v ks/\ks.map (·.2)=L
end
section
variable {Wb V V':World} {t g x N:Nat} {K D:Nat->Prop} {E:aI} {Wn:List aI} {L:List (List Int)}
theorem RmI.rcd (h:RmI Wb t K D g E Wn N x L V) (a:Rec Wb.heap.size V V'):RmI Wb t K D g E Wn N x L V':=by
 obtain⟨v,d,c,b,e⟩:=h.out;exact⟨kh h.chg a (Nat.le_refl _),th h.sa a,v,d,e9 c a,b.rcd a,e⟩
theorem RmI.tick (h:RmI Wb t K D g E Wn N x L V) (i:g < Wb.heap.size):RmI Wb t K D g E Wn N (x+1) L (tick g V x):=by
 obtain⟨v,f,c,d,n⟩:=h.out;have hc:=eu g x V
 have a:t≠g:=fun e=>by
  obtain⟨cs,k⟩:=h.sa.kv;subst e;exact absurd (c.eq k).2 (by decide)
 refine⟨h.chg.trans hc (fun b _ e=>.inl e),h.sa.tick,v,f,c.chg hc a,d.chg hc (fun b e=>?_),n⟩
 have j:b=g:=e;subst j;refine⟨i,fun cs q=>?_⟩;obtain⟨m,l⟩:=h.sa.kv;exact absurd (q.eq l).2 (by decide)
end
section
variable {n B g N:Nat}{R:Ending->World->Prop}{w:World}{ρ:Operand->Value}{o:Oper}{v:Value}{ao:Option Addr}{K:Nat->Prop}{E:aI}{Wn W:List aI}{id:Int}
def nh(E:aI)(k a:Int):List (List Int):=(E.filter (fun x=>decide (Ky.mkb (Ky.frm k) (Ky.tn k a) <+: x.1))).map (·.1)
def oO(E:aI)(k a:Int):aI:=(nh E k a).foldl Kv.rem E
theorem D7{l:Fr}{P:Program}{fn:Func}{D:Nat}(b:fn.results=#[])(d:w.heap[D]? = some (.deferred (some [])))(c:R (.returned (.tuple #[])) (w.putObj D (.deferred none))):GE n [{ target:=.collected D,args:=#[] }] (bodyPostM Fence.wide 0 P fn R) .normal l w:=⟨fun a r=>by
 obtain⟨tmps,dfs⟩:=a
 have e:dfs=[{ target:=.collected D,args:=#[] }]:=r.dfs;subst e;refine⟨by simp,.inl ⟨_,_,rfl,run_takeDeferred d,?_⟩⟩
 exact⟨_,by simp[results,b],c⟩⟩
theorem D0{b off:Nat}(hc:w.cell? ⟨b,off,none⟩=some v)(c:∃ p,o.op=.load 87 p/\ρ p=.pointer (some ⟨b,off,none⟩):=by exact⟨_,rfl,by kernel_rfl⟩):(execOp ρ o).run Tryz.prog w=.ok (.value v) w:=by
 obtain⟨p,h,a⟩:=c;have:=Kv.pM hc;simp only[execOp,h,a];simp[Instr.loadAt,Instr.sureAddr,Result.andThen,this]
theorem qK{P:Program}(a b off n c k:Nat)(f:k < n)(d:0 < n->ao=some ⟨b,off,none⟩)(e:∃ T x y,o.op=.indexAddr T x y/\slT P T a=true/\ρ x=.slice ao n c/\ρ y=.int .i64 (k:Int):=by exact⟨_,_,_,rfl,by kernel_rfl,by kernel_rfl,by kernel_rfl⟩):(execOp ρ o).run P w=.ok (.value (.pointer (some ⟨b,off+k * a,none⟩))) w:=by
 rw[d (by omega)] at e;exact fe a b off n c k f e
theorem rZ{K:Nat→Prop}{x0:Nat}{k a:Int}(h:Sx B w K g E Wn x0 N)(ha:0≤a∧a < 18446744073709551616)(M:16 < (Ky.frm k).1)(hN:N≤30000000)(hx:x0+N≤2000000000000000000) :
    Calls Tryz.prog 32 #[pg g,.int .i64 k,.int .u64 a] w fun e w'=>∃ K' n' N',e=.returned (.tuple #[])∧Sx B w' K' g (oO E k a) Wn n' N'∧n'≤x0+1+2 * N∧N'≤3 * N∧(∀ b,K' b→K b∨w.heap.size≤b)∧Chg K w w':=by
  obtain⟨D,hD0⟩:∃ D:Nat→Prop,D=(B≤·):=⟨_,rfl⟩
  have hS:SA w K D g E Wn x0 N:=by rw[hD0];exact h.sa
  have hlo:=h.lo;have hkb:=h.kb;clear h
  have hglt:g < w.heap.size:=hS.lt hS.top;have A1:=ae w (.cells #[.slice none 0 0] 126);have T1:=aE w [.slice none 0 0] 126;obtain⟨Wa,hWa⟩:∃ Wa,Hid (w.alloc (.cells #[.slice none 0 0] 126)=Wa):=⟨_,rfl⟩
  have zA:Wa.heap.size=w.heap.size+1:=by rw[← hWa.out];simp
  rw[hWa.out] at A1 T1;have SB:=hS.keep A1;have HS:=aD hS;have HB:=aD A1;have HT:=aD T1;have HSB:=aD SB;clear hS A1 T1 SB;refine(callsIn_wide (n:=0)).1 ?_
  refine callsIn_of_wp_marks Tryz.func32 rfl trivial ?_ rfl;simp only[Tryz.ntmps32,List.size_toArray,List.length_cons,List.length_nil,Nat.reduceAdd,Nat.reduceSub,Array.replicate_succ,Array.replicate_zero,List.push_toArray,List.append_toArray,List.nil_append,List.cons_append];gi_wp2_with (refine⟨trivial,rfl,?_⟩;gi_at_call 65;rw[hWa.out];refine(callsIn_wide.2 (Co ha M)).mono ?_;rintro e' w1 ⟨u,rfl,U1,B1⟩);have S1:=HSB.out.keep B1;have T1:=HT.out.keep B1;have zB1:=B1.size
  have H:∀ b,K b→b < w.heap.size:=fun b hb=>HS.out.lt hb
  have up := tJ (Tp := TpK) (X := fun b => b = g ∨ b = w.heap.size) S1 (by omega) U1 (Nat.le_trans (Ky.mC _ _) (by decide)) (fun b hb => hb.elim .inl (fun e => .inr (fun M => by have := H b M; omega))) (fun b hb cs q => by
    rcases hb with rfl | rfl
    · obtain⟨cs',k'⟩:= S1.kv
      exact absurd (q.eq k').2 (by decide)
    · exact absurd (q.eq T1).2 (by decide)) (fun b hb=>by rcases hb with h | h <;> omega) (by unfold TpK;decide) (by unfold TpK;decide)
  have HS1:=aD S1;have HT1:=aD T1;have HB1:=aD B1;have HU:=aD up;clear up S1 T1 B1 U1;gi_wp2_with (refine⟨trivial,rfl,?_⟩;gi_at_call 64;refine(callsIn_wide.2 HU.out).mono ?_;rintro e' J ⟨pv,O,rfl,IG,hEL,B2⟩);obtain⟨bs1,bs2,bw,W1,rfl,IT,C,hb1,m⟩:= IG.ex
  have hlE:Hid (O.length=iP E k a):=by have:=congrArg List.length hEL;rw[List.length_map] at this;exact this
  have hlN:O.length≤N:=by rw[hlE.out];exact Nat.le_trans (List.length_filter_le _ _) HS.out.size
  have SB:=HS1.out.keep B2;have TB:=HT1.out.keep B2;have zB2:=B2.size
  have n1:bs1≠g:=fun e=>by obtain⟨cs',k'⟩:= SB.kv;subst e;exact absurd (C.2.1.eq k').2 (by decide)
  have n2:bs2≠g:=fun e=>by obtain⟨cs',k'⟩:= SB.kv;subst e;exact absurd (C.2.2.1.eq k').2 (by decide)
  have RD : ∀ V x L, RmI J w.heap.size K D g E Wn N x L V → V.cell? ⟨g, 2, none⟩ = some (.int .i64 (x : Int)) ∧ V.frozen? ⟨g, 2, none⟩ = false ∧ RdC (fun b => b = g ∨ b = w.heap.size) W1 g bs1 bs2 bw V := fun V x i h => by
    have q:=h.sa.cnt;exact⟨q.1,q.2,C.1.trans h.chg (fun _ _ e=>e),C.2.1.chg h.chg (fun e=>e.elim n1 (fun e=>by omega)),C.2.2.1.chg h.chg (fun e=>e.elim n2 (fun e=>by omega)),h.sa.kv⟩
  have hgB:g < J.heap.size:=by omega
  have HI:=aD (show RmI J w.heap.size K D g E Wn N x0 ((O.map En.kl).take 0) J from⟨Chg.refl _ _,SB,_,[],TB,KA.nil _ _,rfl⟩);have HB2:=aD B2;have HIT:=aD (oE (g:=g) (bs1:=bs1) (bs2:=bs2) (x0:=x0) (xs:=fun i=>x0+1+i) IT (by unfold TpK;decide) (by omega) (fun i hi=>by show x0+1+i≤_;omega));have hsm:=aD IG.small;have hELH:=aD hEL;clear SB TB B2 IT IG C hEL;gi_wp2;refine kK HIT.out (by rfl) (enters_of Tryz.func164 (by kernel_rfl) rfl) (fun i args n V V' h hc=>h.cel hc) (fun i args n V h=>by obtain⟨e,kv,vv,s,_,rfl,_⟩:= h;rfl)
    (fun V=>RmI J w.heap.size K D g E Wn N x0 ((O.map En.kl).take 0) V)
    (fun i V=>RmI J w.heap.size K D g E Wn N (x0+1+i) ((O.map En.kl).take i) V)
    (fun i V=>RmI J w.heap.size K D g E Wn N (x0+1+i+1) ((O.map En.kl).take i) V)
    (fun c i V=>False)
    (fun A B hx hr=>hx.rcd hr) (fun i A B hx hr=>hx.rcd hr) (fun i A B hx hr=>hx.rcd hr) (fun c i A B hx hr=>hx) (by omega)
    (fun V hv=>by obtain⟨q1,q2,q3⟩:= RD V _ _ hv;exact⟨q1,q2,q3,hv.tick hgB⟩)
    (fun i V hv=>by obtain⟨q1,q2,q3⟩:= RD V _ _ hv;exact⟨q1,q2,q3,fun _=>hv.tick hgB⟩)
    HI.out ?_ ?_ ?_
  · rintro l2 i args V Wv hl hlV hrec hiN hT hb ⟨e0,kv,vv,s0,he0,rfl,hk0,hv0,_⟩
    simp;gi_wp2;refine⟨Below.refl _ _,?_⟩;intro V2 W2 G m hAr2 hoth hsz3 hV2 r hrec2;obtain⟨e1,kv1,vv1,t1,he1,aa,hk2,hv2,ht1⟩:= hAr2;obtain rfl:e1=e0:=by rw[he0] at he1;cases he1;rfl
    simp at aa;obtain⟨rfl,rfl⟩:= aa;obtain⟨ak,ck,hk1⟩:= hk2.shape;subst hk1;obtain⟨v,W,o1,Q,o3⟩:= G.out
    have R:W.length=i:=by
      have:=congrArg List.length o3;rw[List.length_map,List.length_take,List.length_map] at this;omega
    obtain⟨ao,cc,rfl⟩:= Q.shape;rw[R] at o1 Q;have z2:=m.size;have zT:=G.chg.size;have P0:=o1.keep m;have Q0:=Q.keep m;have d:=ae W2 (.cells #[.slice ak e1.kl.length ck] 87);have N4:=aE W2 [.slice ak e1.kl.length ck] 87;obtain⟨W4,hW4⟩:∃ W4,Hid (W2.alloc (.cells #[.slice ak e1.kl.length ck] 87)=W4):=⟨_,rfl⟩;rw[hW4.out] at d N4;have z4:=d.size;obtain⟨v5,w5,z,U5,C5⟩:= app_k (p:=(.slice ak e1.kl.length ck,e1.kl)) (a:=⟨W2.heap.size,0,none⟩) (Q0.keep d) (by omega) (by rw[R];omega) ((hk2.mono (fun b _ h=>by have:=h.1;omega)).keep d) (N4.cell (i:=0) rfl)
    have hl5:(W ++ [((.slice ak e1.kl.length ck:Value),e1.kl)]).length=i+1:=by rw[List.length_append,R];rfl
    obtain⟨a5,c5,rfl⟩:= U5.shape;rw[hl5] at U5 z;have S5:=(P0.keep d).chg C5 (fun h=>by obtain⟨_,cs,k⟩:= h;exact absurd (k.eq (P0.keep d)).2 (by decide));obtain⟨q1,hq1⟩:∃ q1,Hid (i+1=q1):=⟨_,rfl⟩;rw[hq1.out] at U5 z
    have y:Chg (·=w.heap.size) w5 (w5.setCell ⟨w.heap.size,0,none⟩ (.slice a5 q1 c5)):=(Chg.refl (fun x=>x=w.heap.size) w5).cell (.inl (by rfl)) _;have S6:=S5.setCell (i:=0) (.slice a5 q1 c5)
    have hK5 : bL TpK J.heap.size W4 w5 := ⟨C5.size, fun k o _ h0 hs => (C5.same k (lt_of_block h0) (fun h => by
      obtain⟨_,cs,kb⟩:= h;rw[kb.blk] at h0
      cases h0
      exact hs _ _ _ rfl rfl)).trans h0⟩
    have hKe:bL TpK J.heap.size W2 (w5.setCell ⟨w.heap.size,0,none⟩ (.slice a5 q1 c5)):=((bL.of d).trans hK5).trans ⟨y.size,fun k o M h0 _=>(y.same k (lt_of_block h0) (fun e=>by have e':k=w.heap.size:=e;omega)).trans h0⟩
    have hTI:RmI J w.heap.size K D g E Wn N (x0+1+(i+1)) ((O.map En.kl).take (i+1)) (w5.setCell ⟨w.heap.size,0,none⟩ (.slice a5 q1 c5)):=by
      refine⟨?_,?_,⟨_,W ++ [(.slice ak e1.kl.length ck,e1.kl)],S6,?_,?_⟩⟩
      · exact((G.chg.trans (Chg.of (F:=fun _=>False) (aB m d)) (fun _ _ h=>h.elim)).trans C5 (fun b h1 h2=>by have:=h2.1;omega)).trans y (fun b _ h=>.inr h)
      · have q := ((G.sa.keep (aB m d)).chg C5 (fun b h1 M => by have := H b M; have := h1.1; omega) (fun b h1 cs kk => by obtain⟨_, cs', k'⟩:= h1; exact absurd (kk.eq k').2 (by decide))).chg y (fun b e M => by have e' : b = w.heap.size := e; have := H b M; omega) (fun b e cs kk => by
          have e':b=w.heap.size:=e;subst e'
          exact absurd (kk.eq S5).2 (by decide))
        rw[show x0+1+(i+1)=x0+1+i+1 by omega];exact q
      · refine U5.chg y (fun b e=>?_)
        have e':b=w.heap.size:=e;subst e';exact⟨by omega,fun cs kk=>absurd (kk.eq S5).2 (by decide)⟩
      · rw[List.map_append,o3,List.take_add_one,List.getElem?_map,he0]
        rfl
    have p0c:=P0.cell (i:=0) rfl;have s5c:=S5.cell (i:=0) rfl;have s5f:=S5.free 0;have HKE:=aD hKe;have HTI:=aD hTI;clear hT hoth hb G m P0 Q0 N4 d U5 C5 S5 y S6 hK5 hKe hTI o1 Q o3 R hl5 z2 zT z4 hsz3 hV2 hk2 hv2 hk0 hv0 he1;rw[← hW4.out] at z;clear hW4;gi_wp2_with (first | (have gate:=z;clear gate;(with_reducible refine yU ?_ ?_ ?_ z ?_);(exact fun _=>trivial);rfl;rfl;clear z));exact⟨HKE.out,HTI.out⟩
  · rintro U W' hD hK hT
    rename_i Q' Kc hc;obtain⟨v,W,o1,Q,o3⟩:= hT.out;rw[List.take_of_length_le (by rw[List.length_map];exact Nat.le_refl _)] at o3;obtain⟨ao,cc,rfl⟩:= Q.shape;obtain⟨j,P⟩:∃ j,W.length=j:=⟨_,rfl⟩
    have hlen:j=O.length:=by rw[← P,← List.length_map (f:=(·.2)),o3,List.length_map]
    rw[P] at o1 Q
    have zW':=hT.chg.size
    have hT':=hT.sa;rw[hD0] at hT'
    have I:O.map En.kl=nh E k a:=by
      unfold nh;rw[← hELH.out,List.map_map];rfl
    have zz:=aB (aB HB.out HB1.out) HB2.out
    have hC0:Chg K w W':=(Chg.of (F:=K) zz).trans hT.chg (fun b hl e=>e.elim (fun e=>e ▸ HS.out.top) (fun e=>by omega))
    have Sx0:Sx B W' K g E Wn (x0+1+j) N:=⟨by rw[hlen];exact hT',Nat.le_trans hlo hC0.size,hkb⟩;obtain⟨pb,hao,hkl⟩:∃ pb,(0 < j→ao=some ⟨pb,0,none⟩)∧∀ i p,W[i]?=some p→∀ V K' E' n' N',Bk.At B W' K V K' g E' Wn n' N'→V.cell? ⟨pb,0+i * 1,none⟩=some p.1∧ByU V p.1 p.2:=by
      rcases Q.ex with⟨e1,e2⟩ | ⟨b,c,e1,hb,hR⟩
      · exact⟨0,fun h=>by rw[e2] at P;simp at P;omega,fun i p hp=>by rw[e2] at hp;cases hp⟩
      · refine⟨b,fun _=>by cases e1;rfl,fun i p hp V K' E' n' N' hA=>⟨?_,?_⟩⟩
        · have hc:=hR.cell (i:=i) (by rw[List.getElem?_map,hp];rfl)
          rw[show 0+i * 1=i by omega,World.cell?_of_block (w:=W') (hA.cc.same b hR.lt (fun M=>by have:=H b M;omega))];exact hc
        · exact(ByU.of (Q.obs p (List.mem_of_getElem? hp))).chg hA.cc Sx0.sa.kind
    have hDlt:U < W'.heap.size:=lt_of_block hK
    have hDK:¬ K U:=fun hb=>by have:=H _ hb;omega
    have hsm2 : ∀ (i : Nat) (p : Value × List Int), W[i]? = some p → p.2.length ≤ 1000000000 := fun i p hp => by
      have:p.2 ∈ O.map En.kl:=by rw[← o3];exact List.mem_map.2 ⟨p,List.mem_of_getElem? hp,rfl⟩
      obtain⟨e,he,e2⟩:= List.mem_map.1 this;rw[← e2];exact(hsm.out e he).1
    have hfin : ∀ V K' n' N', Bk.At B W' K V K' g ((nh E k a).foldl Kv.rem E) Wn n' N' → V.heap[U]? = some (.deferred (some [])) ∧ Sx B (V.putObj U (.deferred none)) K' g (oO E k a) Wn n' N' ∧ (∀ b, K' b → K b ∨ w.heap.size ≤ b) ∧ Chg K w (V.putObj U (.deferred none)) := fun V K' n' N' hA => by
      have hv:V.heap[U]?=some (.deferred (some [])):=(hA.cc.same U hDlt hDK).trans hK;have R3:=Rec.put (B:=w.heap.size) hv rfl (by omega) (.deferred none);refine⟨hv,⟨th hA.sx.sa R3,Nat.le_trans hA.sx.lo R3.size,hA.sx.kb⟩,fun b hb=>(hA.km b hb).imp_right (Nat.le_trans hC0.size),?_⟩;exact kh (hC0.trans hA.cc (fun b _ h=>h)) R3 (Nat.le_refl _)
    have A:=Sx0.at
    have hn1:j≤N:=by omega
    refine hc _ _ (wpIn_wide.2 (GC.out (n:=31) (ds:=[{ target:=.collected U,args:=#[] }]) (l:=[(0,pg g),(6,pg w.heap.size)]) ?_ _ ⟨rfl,rfl,fun q u hq=>?_⟩))
    · have Xt:=o1
      refine ay (aC (tl 21 (.slice ao j cc) Xt 0 (t 22 (.int .i64 ((j:Nat):Int)) (t 23 (.int .i64 0) (aA (ah (ep ?_)))))));clear Xt;refine me (fun i=>j - i) (fun(i:Nat)=>[(0,pg g),(21,.slice ao j cc),(22,.int .i64 ((j:Nat):Int)),(23,.int .i64 (i:Int))]) (fun i V=>i≤j∧∃ K2 n2 N2,Bk.At B W' K V K2 g (((nh E k a).take i).foldl Kv.rem E) Wn n2 N2∧n2≤x0+1+j+i∧N2≤N+2 * i) (0:Nat) ⟨Nat.zero_le _,_,_,_,A,by omega,by omega⟩ (by kernel_rfl) ?_
      clear A;rintro i v1 ⟨hi,K2,n2,N2,A,hn2,hN2⟩;refine ay (aC ?_);by_cases ci:(i:Int) < ((j:Nat):Int)
      · have Z : i < j := by omega
        obtain⟨Y,T⟩:∃ p,W[i]?=some p:=⟨W[i],List.getElem?_eq_getElem (by omega)⟩;refine tq 24 (.bool (decide ((i:Int) < ((j:Nat):Int)))) (.bool true) (congrArg Value.bool (decide_eq_true ci)) (aA (ah (ay (cM (bF (ah (ay (ep (ay (aC (tr 25 (pq pb (0+i * 1)) (qK 1 pb 0 j cc i Z hao) (tr 26 (Y.1) (D0 (hkl i Y T _ _ _ _ _ A).1) (t 9 (Y.1) (aA (ah (aC (t 27 (pg g) (t 28 (Y.1) (tc 29 66 #[pg g,Y.1] (xdel A.sx (hkl i Y T _ _ _ _ _ A).2 (hsm2 i Y T) (by omega) (by omega)) ?_)))))))))))))))))));rintro _ v3 ⟨rfl,K2,S,hK,hC⟩;refine⟨_,rfl,?_⟩;replace A:=A.op S hK hC;clear S hK hC;refine aA (gB (ah (aC (tq 30 (.int .i64 (IntKind.i64.wrap ((i:Int)+1))) (.int .i64 ((i:Int)+1)) (wi (by omega)) (t 23 (.int .i64 ((i:Int)+1)) (aA ?_))))))
        have hstep:((nh E k a).take (i+1)).foldl Kv.rem E=Kv.rem (((nh E k a).take i).foldl Kv.rem E) Y.2:=by
          rw[List.take_add_one,← I,← o3,List.getElem?_map,T,List.foldl_append];rfl
        rw[← hstep] at A;exact iF (i+1) (by show j - (i+1) < j - i;omega) ⟨Z,_,_,_,A,by omega,by omega⟩ (by kernel_rfl)
      · refine tq 24 (.bool (decide ((i:Int) < ((j:Nat):Int)))) (.bool false) (congrArg Value.bool (decide_eq_false ci)) ?_
        refine aA (ah (ay (cE (ki (jw (jw (rQ ?_)))))))
        have hil:j≤i:=by omega
        rw[List.take_of_length_le (by rw[← I,List.length_map,← hlen];exact hil)] at A;obtain⟨f1,f2,f3,f4⟩:= hfin _ _ _ _ A;exact D7 (by kernel_rfl) f1 ⟨_,_,_,rfl,f2,by omega,by omega,f3,f4⟩
    · have hm:=uR hq
      simp at hm;rcases hm with⟨rfl,rfl⟩ | ⟨rfl,rfl⟩ <;> rfl
  · rintro U c i W' hD hK hi h
    exact h.elim
theorem DB(h:Sx B w K g E W n N)(hid:0<=id/\id < 18446744073709551616)(c:N<=30000000)(hn:n + 3 * N + 10<=2000000000000000000):Calls Tryz.prog 9 #[pg g,.int .u64 id] w fun e w'=>∃ K' n',e=.returned (.tuple #[.int .i64 ((iP E 7 id:Nat):Int),.int .i64 ((iP E 8 id:Nat):Int)])/\Sx B w' K' g E W n' N/\n'<=n + 2 + 2 * N/\(∀ b,K' b->K b\/w.heap.size<=b)/\Chg K w w':=by
 have A:=h.at
 refine aO (n:=12) Tryz.func9 rfl (by kernel_rfl) (by kernel_rfl) ?_
 refine ay (aC (t 4 (.int .i64 0) (t 5 (.int .i64 0) (aA (ah (ay (aC (t 6 (pg g) (t 7 (.int .u64 id) (tc 8 31 #[pg g,.int .i64 7,.int .u64 id] (sH A.sx hid (by decide) (by omega) (by omega)) ?_))))))))));rintro _ v2 ⟨rfl,S,q1,C⟩;refine⟨_,rfl,?_⟩;have hC:=C.mono (fun b _ (e:b=g)=>e▸A.sx.sa.top);replace A:=A.op S (fun _ h=>.inl h) hC;clear S hC C;refine t 9 (pg g) (t 10 (.int .u64 id) (tc 11 31 #[pg g,.int .i64 8,.int .u64 id] (sH A.sx hid (by decide) (by omega) (by omega)) ?_));rintro _ v4 ⟨rfl,S,a,C⟩;refine⟨_,rfl,?_⟩;have hC:=C.mono (fun b _ (e:b=g)=>e▸A.sx.sa.top);replace A:=A.op S (fun _ h=>.inl h) hC;clear S hC C;refine t 4 (.int .i64 ((iP E 7 id:Nat):Int)) (t 5 (.int .i64 ((iP E 8 id:Nat):Int)) (aA (ah (aY [(4,.int .i64 ((iP E 7 id:Nat):Int)),(5,.int .i64 ((iP E 8 id:Nat):Int))] (by kernel_rfl) (aV (aW (.tuple #[.int .i64 ((iP E 7 id:Nat):Int),.int .i64 ((iP E 8 id:Nat):Int)]) (rs2 4 5 (by kernel_rfl) (by kernel_rfl) (by kernel_rfl)) ?_))))));exact⟨_,_,rfl,A.sx,by omega,A.km,A.cc⟩
theorem gone_x(h:Sx B w K g E W n N)(hid:0<=id/\id < 18446744073709551616)(p:N<=10000000)(hn:n + 30 * N + 10<=2000000000000000000):Calls Tryz.prog 11 #[pg g,.int .u64 id] w fun e w'=>∃ K' n' N',e=.returned (.tuple #[])/\Sx B w' K' g (oO (oO E 7 id) 8 id) W n' N'/\n'<=n + 20 * N + 10/\N'<=9 * N/\(∀ b,K' b->K b\/w.heap.size<=b)/\Chg K w w':=by
 have A:=h.at
 refine aO (n:=10) Tryz.func11 rfl (by kernel_rfl) (by kernel_rfl) ?_
 refine ay (aC (t 4 (pg g) (t 5 (.int .u64 id) (tc 6 32 #[pg g,.int .i64 7,.int .u64 id] (rZ A.sx hid (by decide) (by omega) (by omega)) ?_))));rintro _ v5 ⟨j,l,q,rfl,S,f,i,a,hC⟩;refine⟨_,rfl,?_⟩;replace A:=A.op S a hC;clear S a hC;refine aA (ah (aC (t 7 (pg g) (t 8 (.int .u64 id) (tc 9 32 #[pg g,.int .i64 8,.int .u64 id] (rZ A.sx hid (by decide) (by omega) (by omega)) ?_)))));rintro _ v10 ⟨k,m,o,rfl,S,d,c,a,hC⟩;refine⟨_,rfl,?_⟩;replace A:=A.op S a hC;clear S a hC;refine aA (eC (.tuple #[]) (rs0 (by kernel_rfl)) ?_);exact⟨_,_,_,rfl,A.sx,by omega,by omega,A.km,A.cc⟩
end
end Fo
end
section
namespace Fo
open Go.RowKit Go.Lib Pg Lim Gl Kv Bk Pw
attribute [local go_sem] Oper.semAt_some
set_option linter.unusedVariables false
set_option linter.unusedSimpArgs false
section
variable {w:World}{p ao:Option Addr}{K:Nat->Prop}{z n c:Nat}{x:Int}{v:Value}{l:List Int}
theorem CU{id fr la:Int}:Calls Tryz.prog 39 #[.pointer p,.int .u64 id,.int .u64 fr,.int .u64 la] w fun e w'=>e=.returned (.func (.func 73) #[] #[.pointer (some ⟨w.heap.size + 1,0,none⟩),.pointer (some ⟨w.heap.size + 1 + 1,0,none⟩),.pointer (some ⟨w.heap.size + 1 + 1 + 1,0,none⟩),.pointer (some ⟨w.heap.size,0,none⟩)])/\Blk w' w.heap.size [.pointer p] 37/\Blk w' (w.heap.size + 1) [.int .u64 id] 22/\Blk w' (w.heap.size + 1 + 1) [.int .u64 fr] 22/\Blk w' (w.heap.size + 1 + 1 + 1) [.int .u64 la] 22/\Below w.heap.size w w':=by
 obtain⟨b,m⟩:∃ b,b=w.alloc (.cells #[.pointer p] 37):=⟨_,rfl⟩
 obtain⟨c,j⟩:∃ c,c=b.alloc (.cells #[.int .u64 id] 22):=⟨_,rfl⟩
 obtain⟨f,n⟩:∃ f,f=c.alloc (.cells #[.int .u64 fr] 22):=⟨_,rfl⟩
 obtain⟨d,l⟩:∃ d,d=f.alloc (.cells #[.int .u64 la] 22):=⟨_,rfl⟩
 have r:=ae w (.cells #[.pointer p] 37);have c1:=aE w [.pointer p] 37
 have s1:(w.alloc (.cells #[.pointer p] 37)).heap.size=w.heap.size+1:=by simp
 rw[<- m] at r s1;have o:=ae b (.cells #[.int .u64 id] 22);have c2:=aE b [.int .u64 id] 22
 have s2:(b.alloc (.cells #[.int .u64 id] 22)).heap.size=b.heap.size+1:=by simp
 rw[<- j] at o s2;have i:=ae c (.cells #[.int .u64 fr] 22);have c3:=aE c [.int .u64 fr] 22
 have s3:(c.alloc (.cells #[.int .u64 fr] 22)).heap.size=c.heap.size+1:=by simp
 rw[<- n] at i s3;have g:=ae f (.cells #[.int .u64 la] 22);have t:=aE f [.int .u64 la] 22;rw[<- l] at g
 have d1:Blk d w.heap.size [.pointer p] 37:=by
  have q:Blk b w.heap.size [.pointer p] 37:=by rw[m];exact c1
  exact((q.keep o).keep i).keep g
 have d2:Blk d (w.heap.size+1) [.int .u64 id] 22:=by
  have q:Blk c b.heap.size [.int .u64 id] 22:=by rw[j];exact c2
  rw[s1] at q;exact(q.keep i).keep g
 have d3:Blk d (w.heap.size+1+1) [.int .u64 fr] 22:=by
  have q:Blk f c.heap.size [.int .u64 fr] 22:=by rw[n];exact c3
  rw[s2,s1] at q;exact q.keep g
 have d4:Blk d (w.heap.size+1+1+1) [.int .u64 la] 22:=by
  have q:Blk d f.heap.size [.int .u64 la] 22:=by rw[l];exact t
  rw[s3,s2,s1] at q;exact q
 have bb:=aB (aB (aB r o) i) g;have s:=aD (And.intro d1 (And.intro d2 (And.intro d3 (And.intro d4 bb))));rw[l,n,j,m] at s;clear d1 d2 d3 d4 bb r o i g c1 c2 c3 t s1 s2 s3 m j n l;go_enter Tryz.func39,Tryz.ntmps39;go_wp2;go_ret;refine⟨by simp,?_⟩;simpa using s.out
theorem Nq.at(h:Nq w K z ao n c x)(hn:n≠0):∃ o y,w.cell? ⟨z,o,none⟩=some (.int .u64 y):=by
 obtain⟨d,e⟩:∃ d:World,d={ w with heap:=w.heap.mapIdx (fun i o=>if i=z then o else .deferred none) }:=⟨_,rfl⟩
 have j:d.heap[z]?=w.heap[z]?:=by
  rw[e];simp only[Array.getElem?_mapIdx,if_true]
  cases w.heap[z]? <;> rfl
 obtain⟨b,o,l,p,m,q,k⟩:=(h.to d (fun _=>j)).ex;have f:=k.cell 0 (by omega);by_cases hb:b=z
 ·subst hb;rw[World.cell?_of_block (w:=w) (a:=⟨b,o+0,none⟩) j] at f;exact⟨_,_,f⟩
 ·exfalso
  have g:d.heap[b]?=none\/d.heap[b]?=some (.deferred none):=by
   rw[e];simp only[Array.getElem?_mapIdx,if_neg hb]
   cases w.heap[b]? with
   | none=>exact .inl rfl
   | some o=>exact .inr rfl
  unfold World.cell? at f;rcases g with g | g<;>simp[g] at f
theorem dY{b:Nat}{t:TypeId}(h:Nq w K z ao n c x)(hb:Blk w b [v] t)(hv:∀ y,v≠.int .u64 y):n=0\/z≠b:=by
 by_cases hn:n=0
 ·exact .inl hn
 ·refine .inr fun e => ?_
  subst e;obtain⟨o,y,a⟩:=h.at hn;unfold World.cell? at a;rw[hb.blk] at a
  match o with
  | 0=>simp at a;exact hv y a
  | o+1=>simp at a
theorem Nq.rcd{C:Nat}{w':World}(h:Nq w K z ao n c x)(d:Rec C w w'):Nq w' K z ao n c x:=by
 have hs:n≠0->w'.heap[z]? = w.heap[z]? := fun hn=>by
  obtain⟨o,y,a⟩:=h.at hn;unfold World.cell? at a;split at a
  ·rename_i cs t f e
   have b:w.heap[z]?=some (.cells cs t f):=e;rw[b];exact d.same z _ b (.inr rfl)
  ·cases a
 exact⟨h.lt.imp_right fun h=>Nat.lt_of_lt_of_le h d.size,h.out,fun i g=>h.to i fun hn=>(g hn).trans (hs hn)⟩
theorem cX_rng(a:Oct l):(0<=cX l 0/\cX l 0 < 18446744073709551616)/\(0<=cX l 1/\cX l 1 < 18446744073709551616):=by
 have b:bG (rdL (di 8 l) 0 l):=by
  unfold rdL;split
  ·split
   ·exact a
   ·exact fun x hx=>a x (List.mem_of_mem_drop hx)
  ·exact a
 have e:Rc.lN l=Rc.rnx 0 1 (Rc.rnx 0 0 (0,l,fun _=>0)):=rfl;unfold cX Rc.gH;rw[e];split
 ·exact⟨wH (err:=0) a,wH b⟩
 ·exact⟨⟨Int.le_refl _,by decide⟩,Int.le_refl _,by decide⟩
def pX(E:aI)(id:Int)(s:Int × Int × Int)(c:Int × Int × Int):Int × Int × Int:=(s.1+s.2.1 * iC (hX (got E (Ky.mk 7 id c.1)) 0) s.2.2 / U36,s.2.1 * (c.2.2 * U36) / (c.2.1 * U36),hX (got E (Ky.mk 7 id c.1)) 0)
structure ClI(B:Nat)(Wb:World)(br bk bf bc:Nat)(K:Nat->Prop)(g:Nat)(E:aI)(Wn:List aI)(N x i M:Nat)(st:Int × Int × Int)(V:World):Prop where
 chg:Chg (fun b=>b=g\/b=br\/b=bk\/b=bf\/b=bc) Wb V
 sx:Sx B V K g E Wn x N
 cnt:Blk V bc [.int .i64 (i:Int)] 3
 rew:∃ a n c z,Blk V br [.slice a n c] 32/\Nq V K z a n c st.1/\n<=2000000 * i
 stk:∃ a n c z,Blk V bk [.slice a n c] 32/\Nq V K z a n c st.2.1/\n<=M+80 * i
 frm:∃ a n c z,Blk V bf [.slice a n c] 32/\Nq V K z a n c st.2.2/\n<=510
end
section
variable {B:Nat} {Wb V V':World} {br bk bf bc g N x i M:Nat} {K:Nat->Prop} {E:aI} {Wn:List aI} {st:Int × Int × Int}
theorem ClI.rcd (h:ClI B Wb br bk bf bc K g E Wn N x i M st V) (a:Rec Wb.heap.size V V'):ClI B Wb br bk bf bc K g E Wn N x i M st V':=by
 obtain⟨a1,j,c1,z1,p1,d,b⟩:=h.rew;obtain⟨a2,k,c2,z2,q1,m,l⟩:=h.stk;obtain⟨a3,e,c3,z3,r1,f,c⟩:=h.frm;exact⟨kh h.chg a (Nat.le_refl _),⟨th h.sx.sa a,Nat.le_trans h.sx.lo a.size,h.sx.kb⟩,e9 h.cnt a,⟨a1,j,c1,z1,e9 p1 a,d.rcd a,b⟩,⟨a2,k,c2,z2,e9 q1 a,m.rcd a,l⟩,a3,e,c3,z3,e9 r1 a,f.rcd a,c⟩
theorem ClI.tick (h:ClI B Wb br bk bf bc K g E Wn N x i M st V):ClI B Wb br bk bf bc K g E Wn N (x+1) i M st (tick g V x):=by
 obtain⟨a1,A,c1,z1,p1,j,o⟩:=h.rew;obtain⟨a2,C,c2,z2,q1,m,u⟩:=h.stk;obtain⟨a3,s,c3,z3,r1,l,p⟩:=h.frm;have hc:=eu g x V
 have d:∀ {b:Nat} {cs:List Value} {t:TypeId},Blk V b cs t->t≠85->b≠g:=fun k r e=>by
  obtain⟨w,v⟩:=h.sx.sa.kv;subst e;exact r (k.eq v).2
 have f:∀ {a:Option Addr} {n c z:Nat} {y:Int},Nq V K z a n c y->n=0\/z≠g:=fun q=>q.out.imp_right (fun k e=>k (e▸h.sx.sa.top))
 exact⟨h.chg.trans hc (fun b _ e=>.inl e),⟨h.sx.sa.tick,Nat.le_trans h.sx.lo hc.size,h.sx.kb⟩,h.cnt.chg hc (d h.cnt (by decide)),⟨a1,A,c1,z1,p1.chg hc (d p1 (by decide)),j.cell hc (f j),o⟩,⟨a2,C,c2,z2,q1.chg hc (d q1 (by decide)),m.cell hc (f m),u⟩,a3,s,c3,z3,r1.chg hc (d r1 (by decide)),l.cell hc (f l),p⟩
theorem ClI.rd (h:ClI B Wb br bk bf bc K g E Wn N x i M st V):RdS Wb (fun b=>b=g\/b=br\/b=bk\/b=bf\/b=bc) K (B <= ·) g E Wn N V:=by
 obtain⟨a1,n,c1,z1,p1,f,d⟩:=h.rew;obtain⟨a2,o,c2,z2,q1,p,l⟩:=h.stk;obtain⟨a3,j,c3,z3,r1,m,e⟩:=h.frm;refine⟨h.chg,fun b hb cs k=>?_,_,h.sx.sa⟩;rcases hb with rfl | rfl | rfl | rfl | rfl
 ·obtain⟨c,a⟩:=h.sx.sa.kv;exact absurd (k.eq a).2 (by decide)
 ·exact absurd (k.eq p1).2 (by decide)
 ·exact absurd (k.eq q1).2 (by decide)
 ·exact absurd (k.eq r1).2 (by decide)
 ·exact absurd (k.eq h.cnt).2 (by decide)
theorem ClI.go {a1 a2 a4:Option Addr} {k1 d1 y1 H d2 y2 f d4 z4:Nat} {W F2 V4:Int} {T p d:World} (j:ClI B Wb br bk bf bc K g E Wn N x i M st T) (hX:∀ b,(b=g\/b=br\/b=bk\/b=bf\/b=bc)->b < Wb.heap.size) (C:br≠bk) (w:bk≠bf) (nk:¬ K bk) (nc:¬ K bc)
  (J:Sx B p K g E Wn (x+1) N) (I:Chg (fun b=>b=g\/b=br\/b=bf) T p) (R3:Blk p br [.slice a1 k1 d1] 32) (N1:Nq p K y1 a1 k1 d1 W) (m1:k1<=2000000 * (i+1)) (F3:Blk p bf [.slice a2 H d2] 32) (N2:Nq p K y2 a2 H d2 F2) (m2:H<=510)
  (M4:Nf d z4 a4 f d4 V4) (h4:f=0\/p.heap.size<=z4) (m4:f<=M+80 * (i+1)) (m:Below p.heap.size p d) :
  ((d.cell? ⟨bk,0,none⟩).isSome=true/\d.frozen? ⟨bk,0,none⟩=false/\(d.setCell ⟨bk,0,none⟩ (.slice a4 f d4)).cell? ⟨bc,0,none⟩=some (.int .i64 (i:Int))/\(d.setCell ⟨bk,0,none⟩ (.slice a4 f d4)).frozen? ⟨bc,0,none⟩=false) /\
  ClI B Wb br bk bf bc K g E Wn N (x+1) (i+1) M (W,V4,F2) ((d.setCell ⟨bk,0,none⟩ (.slice a4 f d4)).setCell ⟨bc,0,none⟩ (.int .i64 ((i:Int)+1)))/\bL TpN Wb.heap.size T ((d.setCell ⟨bk,0,none⟩ (.slice a4 f d4)).setCell ⟨bc,0,none⟩ (.int .i64 ((i:Int)+1))):=by
 obtain⟨aS,nS,cS,zS,q1,q2,q3⟩:=j.stk
 have L:bk≠g:=fun e=>by obtain⟨O,S⟩:=j.sx.sa.kv;subst e;exact absurd (q1.eq S).2 (by decide)
 have P:bc≠g:=fun e=>by obtain⟨O,S⟩:=j.sx.sa.kv;subst e;exact absurd (j.cnt.eq S).2 (by decide)
 obtain⟨aR,nR,cR,zR,r1,_,_⟩:=j.rew;obtain⟨aF,nF,cF,zF,f1,_,_⟩:=j.frm
 have D:bc≠br:=fun e=>by subst e;exact absurd (j.cnt.eq r1).2 (by decide)
 have u:bc≠bf:=fun e=>by subst e;exact absurd (j.cnt.eq f1).2 (by decide)
 have t:bc≠bk:=fun e=>by subst e;exact absurd (j.cnt.eq q1).2 (by decide)
 have z:=(j.cnt.chg I (fun h=>h.elim P (fun h=>h.elim D u))).keep m;have c:=(q1.chg I (fun h=>h.elim L (fun h=>h.elim C.symm w))).keep m
 have n:Chg (·=bk) d (d.setCell ⟨bk,0,none⟩ (.slice a4 f d4)):=(Chg.refl (fun x=>x=bk) d).cell (.inl (by rfl)) _;have v:=c.setCell (i:=0) (.slice a4 f d4);have a:=z.chg n t;have x1:=c.cell (i:=0) rfl;have x2:=c.free 0;have x3:=a.cell (i:=0) rfl;have Y:=a.free 0;have P4:=eP J M4 h4;have P1:=N1.keep m;have P2:=N2.keep m
 have s:=P4.cell n (dY P4 c (fun y h=>by cases h))
 have q:=P1.cell n (dY P1 c (fun y h=>by cases h))
 have r:=P2.cell n (dY P2 c (fun y h=>by cases h));have R5:=(R3.keep m).chg n C;have F5:=(F3.keep m).chg n w.symm;have Z:=(J.sa.keep m).chg n (fun b e hb=>nk ((show b=bk from e)▸hb)) (fun b e cs R=>by have U:b=bk:=e;subst U;exact absurd (R.eq c).2 (by decide));have X:=(((j.chg.trans I (fun b _ h=>h.elim .inl (fun h=>h.elim (fun h=>.inr (.inl h)) (fun h=>.inr (.inr (.inr (.inl h))))))).trans (Chg.of (F:=fun _=>False) m) (fun _ _ h=>h.elim))).trans n (fun b _ h=>.inr (.inr (.inl h)));have V:=((I.trans (Chg.of (F:=fun b=>b=g\/b=br\/b=bf) m) (fun _ _ h=>h)).mono (fun b _ h=>(h.elim .inl (fun h=>h.elim (fun h=>.inr (.inl h)) (fun h=>.inr (.inr (.inr (.inl h))))):b=g\/b=br\/b=bk\/b=bf\/b=bc))).trans n (fun b _ h=>.inr (.inr (.inl h)));have l5:=Nat.le_trans (Nat.le_trans J.lo m.size) n.size;obtain⟨G,Q⟩:∃ G,d.setCell ⟨bk,0,none⟩ (.slice a4 f d4)=G:=⟨_,rfl⟩
 rw[Q] at v a x3 Y s q r R5 F5 Z X V l5 ⊢
 have l:Chg (·=bc) G (G.setCell ⟨bc,0,none⟩ (.int .i64 ((i:Int)+1))):=(Chg.refl (fun x=>x=bc) G).cell (.inl (by rfl)) _;have A:=a.setCell (i:=0) (.int .i64 ((i:Int)+1))
 have hv:∀ y,(.int .i64 (i:Int):Value)≠.int .u64 y:=fun y h=>by cases h
 refine⟨⟨by rw[x1];rfl,x2,x3,Y⟩,⟨X.trans l (fun b _ h=>.inr (.inr (.inr (.inr h)))),⟨Z.chg l (fun b e hb=>nc ((show b=bc from e)▸hb)) (fun b e cs R=>by have U:b=bc:=e;subst U;exact absurd (R.eq a).2 (by decide)),Nat.le_trans l5 l.size,J.kb⟩,?_,⟨a1,k1,d1,y1,R5.chg l D.symm,q.cell l (dY q a hv),m1⟩,⟨a4,f,d4,z4,v.chg l t.symm,s.cell l (dY s a hv),m4⟩,a2,H,d2,y2,F5.chg l u.symm,r.cell l (dY r a hv),m2⟩,?_⟩
 ·rw[show ((i+1:Nat):Int)=(i:Int)+1 by omega];exact A
 ·have Hc:=V.trans l (fun b _ h=>.inr (.inr (.inr (.inr h))));exact⟨Hc.size,fun k o hk h0 _=>(Hc.same k (lt_of_block h0) (fun h=>by have:=hX k h;omega)).trans h0⟩
end
section
variable {w:World}{K D:Nat->Prop}{E:aI}{W:List aI}{id fr la:Int}{i:Nat}
theorem yw{g n N:Nat}(h:SA w K D g E W n N){c:Int × Int × Int}(hc:(dB E id fr la)[i]?=some c):(0<=c.2.1/\c.2.1 < 18446744073709551616)/\(0<=c.2.2/\c.2.2 < 18446744073709551616):=by
 obtain⟨x,hx,rfl⟩:=List.mem_map.1 (List.mem_of_getElem? hc);exact cX_rng (SA.octv h x (List.mem_filter.1 hx).1)
def kU(E:aI)(id fr la x:Int)(i:Nat):Int × Int × Int:=((dB E id fr la).take i).foldl (pX E id) (0,x,hX (got E (Ky.mk 7 id fr)) 0)
theorem xw{x:Int}{c:Int × Int × Int}(hc:(dB E id fr la)[i]?=some c):kU E id fr la x (i+1)=pX E id (kU E id fr la x i) c:=by
 unfold kU;rw[List.take_add_one,hc,List.foldl_append];rfl
end
end Fo
end
section
namespace Fo
open Go.RowKit Go.Lib Pg Lim Gl Kv Bk Pw
set_option linter.unusedVariables false
structure Ur (X:Nat->Prop) (w0:World) (B g0:Nat) (W:List aI) (w:World) (K:Nat->Prop) (E:aI) (n N:Nat) (bs:List Bx) (qs:List Nx):Prop where
 rg:Rg X B w0 w K g0 E W n N
 b:∀ p∈bs,Blk w p.1 p.2.1 p.2.2/\¬ K p.1/\(w0.heap.size<=p.1\/X p.1)
 q:∀ r∈qs,Nq w K r.1 r.2.1 r.2.2.1 r.2.2.2.1 r.2.2.2.2
 e:∀ p∈bs,∀ r∈qs,r.2.2.1=0\/r.1≠p.1
 d:bs.Pairwise (fun a b=>a.1≠b.1)
section
variable {w0 w w':World} {B g0 n N n' N' g i:Nat} {X K:Nat->Prop} {W:List aI} {E E':aI} {bs:List Bx} {qs:List Nx} {cs cs':List Value} {t:TypeId}
section
variable {z k d:Nat}{a:Option Addr}{x:Int}
theorem Ur.lt(h:Ur X w0 B g0 W w K E n N bs qs):∀ p∈bs,p.1 < w.heap.size:=fun p hp=>(h.b p hp).1.lt
theorem ur_of(h:Rg X B w0 w K g0 E W n N):Ur X w0 B g0 W w K E n N [] []:=⟨h,fun _ h=>(List.not_mem_nil h).elim,fun _ h=>(List.not_mem_nil h).elim,fun _ h=>(List.not_mem_nil h).elim,List.Pairwise.nil⟩
theorem Ur.keep(h:Ur X w0 B g0 W w K E n N bs qs)(b:Below w.heap.size w w'):Ur X w0 B g0 W w' K E n N bs qs:=⟨h.rg.keep b,fun p a=>⟨(h.b p a).1.keep b,(h.b p a).2⟩,fun r c=>(h.q r c).keep b,h.e,h.d⟩
theorem Ur.drew(h:Ur X w0 B g0 W w K E n N bs qs):Ur X w0 B g0 W w.drew K E n N bs qs:=h.keep (Below.refl _ _).drew
theorem Ur.ask(h:Ur X w0 B g0 W w K E n N bs qs)(S:Sx B w' K g0 E W n' N')(C:Chg (·=g0) w w'):Ur X w0 B g0 W w' K E n' N' bs qs:=⟨h.rg.op S C,fun p a=>⟨(h.b p a).1.chg C (fun e=>(h.b p a).2.1 (e▸h.rg.top)),(h.b p a).2⟩,fun r c=>(h.q r c).op (fun _ h=>.inl h) (C.mono (fun b _ (e:b=g0)=>e▸h.rg.top)),h.e,h.d⟩
theorem Ur.add{s:Nat}(h:Ur X w0 B g0 W w K E n N bs qs)(L:∀ p∈bs,p.1 < s)(Q:Nq w K z a k d x)(f:k=0\/s<=z):Ur X w0 B g0 W w K E n N bs ((z,a,k,d,x) :: qs):=⟨h.rg,h.b,List.forall_mem_cons.2 ⟨Q,h.q⟩,fun p c=>List.forall_mem_cons.2 ⟨f.imp_right (fun q e=>by have:=L p c;have g:z=p.1:=e;omega),h.e p c⟩,h.d⟩
theorem Ur.new(h:Ur X w0 B g0 W w K E n N bs qs)(Z:Blk w' g cs t)(a:w.heap.size<=g)(b:Below w.heap.size w w'):Ur X w0 B g0 W w' K E n N ((g,cs,t) :: bs) qs:=by
 have u:=h.keep b;refine⟨u.rg,List.forall_mem_cons.2 ⟨⟨Z,fun q=>by have:=h.rg.sx.sa.lt q;omega,.inl (Nat.le_trans h.rg.size a)⟩,u.b⟩,u.q,List.forall_mem_cons.2 ⟨fun r f=>ne1 (h.q r f).lt a,u.e⟩,List.pairwise_cons.2 ⟨fun p c e=>by have:=h.lt p c;have i:g=p.1:=e;omega,u.d⟩⟩
theorem Ur.bk(h:Ur X w0 B g0 W w K E n N bs qs)(i:Nat)(hi:bs[i]?=some (g,cs,t)):Blk w g cs t:=(h.b _ (List.mem_of_getElem? hi)).1
theorem Ur.nq(h:Ur X w0 B g0 W w K E n N bs qs)(i:Nat)(hi:qs[i]?=some (z,a,k,d,x)):Nq w K z a k d x:=h.q _ (List.mem_of_getElem? hi)
theorem Ur.put(h:Ur X w0 B g0 W w K E n N bs qs)(i:Nat)(hi:bs[i]?=some (g,cs,t))(C:Chg (·=g) w w')(Y:Blk w' g cs' t)(f:t≠5):Ur X w0 B g0 W w' K E n N (bs.set i (g,cs',t)) qs:=by
 have hm:=List.mem_of_getElem? hi;obtain⟨Z,nk,y⟩:=h.b _ hm;obtain⟨r1,j⟩:=qQ (q:=(g,cs',t)) h.d hi rfl;refine⟨Rg.cell h.rg Z C y nk f,fun p a=>?_,fun r c=>(h.q r c).cell C (h.e _ hm r c),fun p a=>?_,r1⟩
 ·by_cases e:p=(g,cs',t)
  ·subst e;exact⟨Y,nk,y⟩
  ·rcases fh a with q | q
   ·exact absurd q e
   ·exact⟨(h.b p q).1.chg C (j p a e),(h.b p q).2⟩
 ·rcases fh a with q | q
  ·rw[q]
   show ∀ r∈qs,r.2.2.1=0\/r.1≠g
   exact h.e _ hm
  ·exact h.e p q
theorem Ur.nk(h:Ur X w0 B g0 W w K E n N bs qs)(i:Nat)(hi:bs[i]?=some (g,cs,t)):¬ K g:=(h.b _ (List.mem_of_getElem? hi)).2.1
theorem Ur.zz(h:Ur X w0 B g0 W w K E n N bs qs)(i:Nat)(hi:bs[i]?=some (g,cs,t)):w0.heap.size<=g\/X g:=(h.b _ (List.mem_of_getElem? hi)).2.2
theorem Ur.dd{g':Nat}{c:TypeId}(h:Ur X w0 B g0 W w K E n N bs qs)(i j:Nat)(hi:bs[i]?=some (g,cs,t))(f:bs[j]?=some (g',cs',c))(a:i < j):g≠g':=by
 obtain⟨li,k⟩:=List.getElem?_eq_some_iff.1 hi;obtain⟨e,b⟩:=List.getElem?_eq_some_iff.1 f;have:=List.pairwise_iff_getElem.1 h.d i j li e a;rw[k,b] at this;exact this
end
end
end Fo
end
section
namespace Fo
open Go.RowKit Go.Lib Pg Lim Gl Kv Bk Pw
attribute [local go_sem] Oper.semAt_some
set_option linter.unusedVariables false
set_option linter.unusedSimpArgs false
section
variable {w:World}
structure F1s where
 bk:Nat
 bf:Nat
 aF:Option Addr
 nF:Nat
 cF:Nat
 zF:Nat
structure F1(B:Nat)(w V:World)(K:Nat->Prop)(g:Nat)(E:aI)(W:List aI)(n N:Nat)(a5:Option Addr)(n5 c5 z5:Nat)(x5 F:Int)(r0:Nat)(s:F1s):Prop where
 A:Rg (·=g) B w V K g E W (n+1) N
 xk:Blk V s.bk [.slice a5 n5 c5] 32
 xf:Blk V s.bf [.slice s.aF s.nF s.cF] 32
 nk:¬ K s.bk
 nf:¬ K s.bf
 ne:s.bk≠s.bf
 q5:Nq V K z5 a5 n5 c5 x5
 qf:Nq V K s.zF s.aF s.nF s.cF F
 mf:s.nF<=510
 rk:s.bk≠r0
 rf:s.bf≠r0
 zk:w.heap.size<=s.bk\/s.bk=g
 zf:w.heap.size<=s.bf\/s.bf=g
def okM(Q:Exit->Act->World->Prop):Exit->Act->World->Prop
 | .normal,a,w=>Q .normal a w
 | .ret,a,w=>Q .ret a w
 | _,_,_=>False
theorem weakM{c:Code}{a:Act}{Q:Exit->Act->World->Prop}(h:c.wp Tryz.prog (okM Q) a w):c.wp Tryz.prog Q a w :=
 Code.wp_mono (fun e a' w' h=>by
  cases e<;>first
   | exact h
   | exact h.elim) h
structure PfE(B:Nat)(w:World)(K:Nat->Prop)(g:Nat)(E:aI)(W:List aI)(D r y:Nat)(a:Option Addr)(k d x:Nat)(V:Int)(u:Unit)(N:Nat)(V':World):Prop where
 s:Sx B V' K g E W x N
 c:Chg (·=g) w V'
 df:V'.heap[D]?=some (.deferred (some []))
 q:Nq V' K y a k d V
end
section
variable {B:Nat} {w V' V2:World} {K:Nat->Prop} {g:Nat} {E:aI} {W:List aI} {D r y:Nat} {a:Option Addr} {k d x:Nat} {V:Int} {N:Nat}
section
variable {b:Option Addr}{n:Nat}{fn:Func}{R:Ending->World->Prop}{w:World}{v:Value}
theorem PfE.drew(h:PfE B w K g E W D r y a k d x V () N V'):PfE B w K g E W D r y a k d x V () N V'.drew:=⟨h.s.keep (Below.refl _ _).drew,h.c.trans (Chg.of (F:=fun _=>False) (Below.refl _ _).drew) (fun _ _ h=>h.elim),h.df,h.q.drew⟩
theorem PfE.cell{c:Nat}(h:PfE B w K g E W D r y a k d x V () N V')(hX:Blk V' r [.slice b n c] 32)(C:Chg (·=r) V' V2)(nk:¬ K r)(j:w.heap.size<=r\/r=g):PfE B w K g E W D r y a k d x V () N V2:=by
 refine⟨⟨h.s.sa.chg C (fun b e hb=>nk ((show b=r from e)▸hb)) (fun b e cs i=>by have f:b=r:=e;subst f;exact absurd (i.eq hX).2 (by decide)),Nat.le_trans h.s.lo C.size,h.s.kb⟩,h.c.trans C (fun b hb e=>by have f:b=r:=e;rcases j with z1 | z1<;>first | omega | exact f.trans z1),?_,h.q.cell C (dY h.q hX (fun y h=>by cases h))⟩;refine(C.same D (lt_of_block h.df) (fun e=>?_)).trans h.df
 have f:D=r:=e;have:=h.df;rw[f,hX.blk] at this
 cases this
theorem PfE.fin(h:PfE B w K g E W D r y a k d x V () N V')(b:w.heap.size<=D):Sx B (V'.putObj D (.deferred none)) K g E W x N/\Chg (·=g) w (V'.putObj D (.deferred none))/\Nq (V'.putObj D (.deferred none)) K y a k d V:=by
 have R:=Rec.put (B:=w.heap.size) h.df rfl b (.deferred none);exact⟨⟨th h.s.sa R,Nat.le_trans h.s.lo R.size,h.s.kb⟩,kh h.c R (Nat.le_refl _),h.q.rcd R⟩
theorem DI{l:Fr}(f:w.heap[D]? = some (.deferred (some [])))(c:∀ a,Rd n [{ target:=.collected D,args:=#[] }] l a->(results fn a.tmps).run Tryz.prog (w.putObj D (.deferred none))=.ok v (w.putObj D (.deferred none)))(d:R (.returned v) (w.putObj D (.deferred none))):GE n [{ target:=.collected D,args:=#[] }] (okM (bodyPostM Fence.wide 0 Tryz.prog fn R)) .ret l w:=⟨fun a r=>by
 have b:=c a r;obtain⟨tmps,dfs⟩:=a
 have e:dfs=[{ target:=.collected D,args:=#[] }]:=r.dfs;subst e
 show bodyPostM Fence.wide 0 Tryz.prog fn R .ret _ _
 refine⟨by simp,.inl ⟨_,_,rfl,run_takeDeferred f,?_⟩⟩
 exact⟨_,b,d⟩⟩
theorem rsctM{ds:List Deferred}{l:Fr}{P:Program}(j k:Nat){T:TypeId}{g:Nat}{u:Value}(h:fn.results=#[.cell j T,.tmp k])(hu:lk l j=some (.pointer (some ⟨g,0,none⟩)))(hv:lk l k=some v)(d:(loadVar T ⟨g,0,none⟩).run P w=.ok u w)(a:Act)(r:Rd n ds l a):(results fn a.tmps).run P w=.ok (.tuple #[u,v]) w:=by
 have c:=r.gD hu;have b:=r.gD hv;simp at c b;simp[results,h,c,b,asAddr,d]
end
end
section
variable {n:Nat}{vs:List Value}{a:Act}{w:World}{K:Nat→Prop}{W:List aI}{a0 a1 a2 a3 a4 a5:Option Addr}
structure uw(B:Nat)(w:World)(K:Nat->Prop)(g:Nat)(E:aI)(W:List aI)(n N c:Nat)(V:Int)(e:Ending)(w':World):Prop where
 ex:∃ a k d z,e=.returned (.tuple #[.agg #[.slice a k d],.int .i64 (c:Int)])/\Sx B w' K g E W (n+3+2 * c) N/\Chg (·=g) w w'/\Nq w' K z a k d V/\k<=3000000000/\(k=0\/w.heap.size<=z)
def clV(E:aI)(id fr la x:Int):Int:=(kU E id fr la x (dB E id fr la).length).1+(kU E id fr la x (dB E id fr la).length).2.1 * iC (hX (got E (Ky.mk 7 id la)) 0) (kU E id fr la x (dB E id fr la).length).2.2 / U36
theorem rd_en(e:a=⟨vs.toArray ++ Array.replicate (n - vs.length) undef,[]⟩)(hs:Nat.ble vs.length n=true):Rd n [] (en 0 vs) a:=by
 subst e;have hs:=Nat.le_of_ble_eq_true hs;refine⟨?_,rfl,fun k v d=>?_⟩
 ·simp;omega
 ·obtain⟨_,c⟩:=AD vs 0 k v d;rw[Nat.sub_zero] at c;have b:=(List.getElem?_eq_some_iff.1 c).1;simp only;rw[Array.getElem?_append_left (by simpa using b)];simpa using c
theorem EC{l:Fr}(r:Rd n [] l a):∃ x:Nat->Value,a=⟨((List.range n).map fun k=>(lk l k).getD (x k)).toArray,[]⟩:=by
 refine⟨fun k=>a.tmps.getD k undef,?_⟩;obtain⟨f,df⟩:=a;obtain⟨c,b,d⟩:=r;simp only at c b d;subst b;congr 1
 apply Array.ext
 ·simp[c]
 ·intro i hi _;simp only[List.getElem_toArray,List.getElem_map,List.getElem_range]
  cases e:lk l i with
  | none=>simp[hi]
  | some v =>
   have:=d i v e;rw[Array.getElem?_eq_getElem hi] at this;simpa using this
theorem lH{B:Nat}{g:Nat}{E:aI}{N:Nat}{rt tk un pe id R:Int}{jl bo:Bool}{n0 c0 z0:Nat}{x0:Int}{n1 c1 z1:Nat}{x1:Int}{n2 c2 z2:Nat}{x2:Int}{n3 c3 z3:Nat}{x3:Int}{n4 c4 z4:Nat}{x4:Int}{P c5 z5:Nat}{x5:Int}(h:Sx B w K g E W n N)(hid:0≤id∧id < 18446744073709551616)(Q5:Nq w K z5 a5 P c5 x5)(m5:P≤1000000)(hRk:∀ x ∈ oZ E id R ((pe - 1) % 18446744073709551616),Ky.frm (8:Nat)=Ky.fIn x.1)(hn2:n≤1000000000000000000)(hcl:(dB E id R ((pe - 1) % 18446744073709551616)).length≤1000)(hn:n+3000≤4000000000000000000)(hN:N+3000≤100000000):Calls Tryz.prog 14 #[pg g,.int .u64 id,.agg #[.int .u64 rt,.int .u64 tk,.slice a0 n0 c0,.bool jl,.int .u64 un,.bool bo,.int .u64 pe,.slice a1 n1 c1,.slice a2 n2 c2,.slice a3 n3 c3],.agg #[.slice a4 n4 c4,.int .u64 R,.slice a5 P c5]] w (uw B w K g E W n N (dB E id R ((pe - 1) % 18446744073709551616)).length (clV E id R ((pe - 1) % 18446744073709551616) x5)):=by
  have A:=rg_of (X:=(·=g)) h rfl;have U:=(ur_of A).add (s:=0) (fun _ h=>(List.not_mem_nil h).elim) Q5 (.inr (Nat.zero_le _));clear A;refine(callsIn_wide (n:=0)).1 ?_
  refine callsIn_of_wp_marks Tryz.func14 rfl trivial ?_ rfl;refine wpIn_wide.2 (weakM (GC.out (n:=50) (ds:=[]) (l:=en 0 [pg g,.int .u64 id,.agg #[.int .u64 rt,.int .u64 tk,.slice a0 n0 c0,.bool jl,.int .u64 un,.bool bo,.int .u64 pe,.slice a1 n1 c1,.slice a2 n2 c2,.slice a3 n3 c3],.agg #[.slice a4 n4 c4,.int .u64 R,.slice a5 P c5]]) ?_ _ (rd_en (by rfl) (by kernel_rfl))));refine ay (aC (ta 4 [pg g] 37 (pg) ?_));intro v1 g2 m hg2 B;replace U:=U.new m hg2 B;clear m hg2 B;refine ta 5 [.int .u64 id] 22 (pg) ?_
  intro v3 g4 j hg4 B;replace U:=U.new j hg4 B;clear j hg4 B;refine ta 6 [.int .u64 rt,.int .u64 tk,.slice a0 n0 c0,.bool jl,.int .u64 un,.bool bo,.int .u64 pe,.slice a1 n1 c1,.slice a2 n2 c2,.slice a3 n3 c3] 39 (pg) ?_
  intro v5 g6 H hg6 B;replace U:=U.new H hg6 B;clear H hg6 B;refine ta 7 [.slice a4 n4 c4,.int .u64 R,.slice a5 P c5] 53 (pg) ?_
  intro v7 g8 G hg8 B;replace U:=U.new G hg8 B;clear G hg8 B;refine ta 8 [.slice none 0 0] 32 (pg) ?_
  intro v9 g10 d hg10 B;replace U:=U.new d hg10 B;clear d hg10 B;refine t 9 (.int .i64 0) (aA (ah ?_));refine eL (fun(s:F1s)=>[(4,pg g2),(5,pg g4),(7,pg g8),(8,pg g10),(9,.int .i64 0),(10,pg s.bk),(11,pg s.bf),(12,.int .u64 ((pe - 1) % 18446744073709551616))]) (fun s V=>F1 B w V K g E W n N a5 P c5 z5 x5 (hX (got E (Ky.mk 7 id R)) 0) g10 s∧(Blk V g2 [pg g] 37∧¬ K g2∧(w.heap.size≤g2∨(fun b=>b=g) g2))∧(Blk V g4 [.int .u64 id] 22∧¬ K g4∧(w.heap.size≤g4∨(fun b=>b=g) g4))∧(Blk V g6 [.int .u64 rt,.int .u64 tk,.slice a0 n0 c0,.bool jl,.int .u64 un,.bool bo,.int .u64 pe,.slice a1 n1 c1,.slice a2 n2 c2,.slice a3 n3 c3] 39∧¬ K g6∧(w.heap.size≤g6∨(fun b=>b=g) g6))∧(Blk V g8 [.slice a4 n4 c4,.int .u64 R,.slice a5 P c5] 53∧¬ K g8∧(w.heap.size≤g8∨(fun b=>b=g) g8))∧(Blk V g10 [.slice none 0 0] 32∧¬ K g10∧(w.heap.size≤g10∨(fun b=>b=g) g10))) ?_ ?_
  · replace U:=U.drew
    refine bE (fun w'=>Blk w' g8 [.slice a4 n4 c4,.int .u64 R,.slice a5 P c5] 53∧Blk w' g2 [pg g] 37∧Blk w' g4 [.int .u64 id] 22∧Blk w' g6 [.int .u64 rt,.int .u64 tk,.slice a0 n0 c0,.bool jl,.int .u64 un,.bool bo,.int .u64 pe,.slice a1 n1 c1,.slice a2 n2 c2,.slice a3 n3 c3] 39) (fun _=>false) ⟨(U.bk 1 rfl),(U.bk 4 rfl),(U.bk 3 rfl),(U.bk 2 rfl)⟩ ?_
    refine z 0 18 (pq g8 2) (zlr 1 19 [.slice a5 P c5] (fun _ h=>h.1) 2 (zl 2 20 (pg g) (fun _ h=>h.2.1) 0 (zl 3 21 (.int .u64 id) (fun _ h=>h.2.2.1) 0 (z 4 22 (pq g8 1) (zl 5 23 (.int .u64 R) (fun _ h=>h.1) 1 (z 7 25 (pq g6 6) (zl 8 26 (.int .u64 pe) (fun _ h=>h.2.2.2) 6 (zq 9 27 (.int .u64 (IntKind.u64.wrap (pe - 1))) (.int .u64 ((pe - 1) % 18446744073709551616)) (congrArg (Value.int .u64) (IntKind.wrap_u64 _)) (bJ [6,10,11] ?_)))))))));refine cy 6 (some 24) 35 #[pg g,.int .u64 id,.int .u64 R] (lE U.rg.sx hid (by omega) (by omega)) ?_ ?_
    · rintro _ v12 ⟨ar11,nr11,cr11,rfl,zr11,S,C,Q,mr11,h⟩
      have L:=U.lt;replace U:=(U.ask S C).add L Q h;clear L S C Q h;refine⟨_,rfl,⟨(U.bk 1 rfl),(U.bk 4 rfl),(U.bk 3 rfl),(U.bk 2 rfl)⟩,?_⟩;refine bJ [10,11] ?_
      refine zaa 10 10 [.slice none 0 0] 32 (pg) ?_ ?_
      · intro v13 g14 Xg14 hg14 B
        replace U:=U.new Xg14 hg14 B;clear Xg14 hg14 B;refine⟨⟨(U.bk 2 rfl),(U.bk 5 rfl),(U.bk 4 rfl),(U.bk 3 rfl)⟩,?_⟩;refine za 11 11 [.slice none 0 0] 32 (pg) ?_
        intro v15 g16 Xg16 hg16 B;replace U:=U.new Xg16 hg16 B;clear Xg16 hg16 B;refine⟨⟨(U.bk 3 rfl),(U.bk 6 rfl),(U.bk 5 rfl),(U.bk 4 rfl)⟩,?_⟩;refine zs 12 (U.bk 1 rfl) 0 (.agg #[.slice a5 P c5]) [.slice a5 P c5] [.slice a5 P c5] ?_
        intro v17 Y C;replace U:=U.put 1 rfl C Y (by decide);refine⟨⟨(U.bk 3 rfl),(U.bk 6 rfl),(U.bk 5 rfl),(U.bk 4 rfl)⟩,?_⟩;refine zs 13 (U.bk 0 rfl) 0 (.agg #[.slice ar11 nr11 cr11]) [.slice ar11 nr11 cr11] [.slice ar11 nr11 cr11] ?_
        intro v18 Y C;replace U:=U.put 0 rfl C Y (by decide);refine⟨⟨(U.bk 3 rfl),(U.bk 6 rfl),(U.bk 5 rfl),(U.bk 4 rfl)⟩,?_⟩;refine z 14 12 (.int .u64 ((pe - 1) % 18446744073709551616)) (aQ ?_);exact aZ (⟨g14,g16,ar11,nr11,cr11,zr11⟩:F1s) ⟨⟨U.rg,U.bk 1 rfl,U.bk 0 rfl,U.nk 1 rfl,U.nk 0 rfl,(U.dd 0 1 rfl rfl (by decide)).symm,U.nq 1 rfl,U.nq 0 rfl,by omega,U.dd 1 2 rfl rfl (by decide),U.dd 0 2 rfl rfl (by decide),U.zz 1 rfl,U.zz 0 rfl⟩,⟨U.bk 6 rfl,U.nk 6 rfl,U.zz 6 rfl⟩,⟨U.bk 5 rfl,U.nk 5 rfl,U.zz 5 rfl⟩,⟨U.bk 4 rfl,U.nk 4 rfl,U.zz 4 rfl⟩,⟨U.bk 3 rfl,U.nk 3 rfl,U.zz 3 rfl⟩,⟨U.bk 2 rfl,U.nk 2 rfl,U.zz 2 rfl⟩⟩ (by kernel_rfl)
      refine zaa 11 11 [.slice none 0 0] 32 (pg) ?_ ?_
      · intro v19 g20 Xg20 hg20 B
        replace U:=U.new Xg20 hg20 B;clear Xg20 hg20 B;refine⟨⟨(U.bk 2 rfl),(U.bk 5 rfl),(U.bk 4 rfl),(U.bk 3 rfl)⟩,?_⟩;refine za 10 10 [.slice none 0 0] 32 (pg) ?_
        intro v21 g22 Xg22 hg22 B;replace U:=U.new Xg22 hg22 B;clear Xg22 hg22 B;refine⟨⟨(U.bk 3 rfl),(U.bk 6 rfl),(U.bk 5 rfl),(U.bk 4 rfl)⟩,?_⟩;refine zs 12 (U.bk 0 rfl) 0 (.agg #[.slice a5 P c5]) [.slice a5 P c5] [.slice a5 P c5] ?_
        intro v23 Y C;replace U:=U.put 0 rfl C Y (by decide);refine⟨⟨(U.bk 3 rfl),(U.bk 6 rfl),(U.bk 5 rfl),(U.bk 4 rfl)⟩,?_⟩;refine zs 13 (U.bk 1 rfl) 0 (.agg #[.slice ar11 nr11 cr11]) [.slice ar11 nr11 cr11] [.slice ar11 nr11 cr11] ?_
        intro v24 Y C;replace U:=U.put 1 rfl C Y (by decide);refine⟨⟨(U.bk 3 rfl),(U.bk 6 rfl),(U.bk 5 rfl),(U.bk 4 rfl)⟩,?_⟩;refine z 14 12 (.int .u64 ((pe - 1) % 18446744073709551616)) (aQ ?_);exact aZ (⟨g22,g20,ar11,nr11,cr11,zr11⟩:F1s) ⟨⟨U.rg,U.bk 0 rfl,U.bk 1 rfl,U.nk 0 rfl,U.nk 1 rfl,U.dd 0 1 rfl rfl (by decide),U.nq 1 rfl,U.nq 0 rfl,by omega,U.dd 0 2 rfl rfl (by decide),U.dd 1 2 rfl rfl (by decide),U.zz 0 rfl,U.zz 1 rfl⟩,⟨U.bk 6 rfl,U.nk 6 rfl,U.zz 6 rfl⟩,⟨U.bk 5 rfl,U.nk 5 rfl,U.zz 5 rfl⟩,⟨U.bk 4 rfl,U.nk 4 rfl,U.zz 4 rfl⟩,⟨U.bk 3 rfl,U.nk 3 rfl,U.zz 3 rfl⟩,⟨U.bk 2 rfl,U.nk 2 rfl,U.zz 2 rfl⟩⟩ (by kernel_rfl)
      exact cJ
    refine zaa 10 10 [.slice none 0 0] 32 (pg) ?_ ?_
    · intro v25 g26 Xg26 hg26 B
      replace U:=U.new Xg26 hg26 B;clear Xg26 hg26 B;refine⟨⟨(U.bk 2 rfl),(U.bk 5 rfl),(U.bk 4 rfl),(U.bk 3 rfl)⟩,?_⟩;refine bJ [6,11] ?_
      refine cy 6 (some 24) 35 #[pg g,.int .u64 id,.int .u64 R] (lE U.rg.sx hid (by omega) (by omega)) ?_ ?_
      · rintro _ v28 ⟨ar27,nr27,cr27,rfl,zr27,S,C,Q,mr27,h⟩
        have L:=U.lt;replace U:=(U.ask S C).add L Q h;clear L S C Q h;refine⟨_,rfl,⟨(U.bk 2 rfl),(U.bk 5 rfl),(U.bk 4 rfl),(U.bk 3 rfl)⟩,?_⟩;refine za 11 11 [.slice none 0 0] 32 (pg) ?_
        intro v29 g30 Xg30 hg30 B;replace U:=U.new Xg30 hg30 B;clear Xg30 hg30 B;refine⟨⟨(U.bk 3 rfl),(U.bk 6 rfl),(U.bk 5 rfl),(U.bk 4 rfl)⟩,?_⟩;refine zs 12 (U.bk 1 rfl) 0 (.agg #[.slice a5 P c5]) [.slice a5 P c5] [.slice a5 P c5] ?_
        intro v31 Y C;replace U:=U.put 1 rfl C Y (by decide);refine⟨⟨(U.bk 3 rfl),(U.bk 6 rfl),(U.bk 5 rfl),(U.bk 4 rfl)⟩,?_⟩;refine zs 13 (U.bk 0 rfl) 0 (.agg #[.slice ar27 nr27 cr27]) [.slice ar27 nr27 cr27] [.slice ar27 nr27 cr27] ?_
        intro v32 Y C;replace U:=U.put 0 rfl C Y (by decide);refine⟨⟨(U.bk 3 rfl),(U.bk 6 rfl),(U.bk 5 rfl),(U.bk 4 rfl)⟩,?_⟩;refine z 14 12 (.int .u64 ((pe - 1) % 18446744073709551616)) (aQ ?_);exact aZ (⟨g26,g30,ar27,nr27,cr27,zr27⟩:F1s) ⟨⟨U.rg,U.bk 1 rfl,U.bk 0 rfl,U.nk 1 rfl,U.nk 0 rfl,(U.dd 0 1 rfl rfl (by decide)).symm,U.nq 1 rfl,U.nq 0 rfl,by omega,U.dd 1 2 rfl rfl (by decide),U.dd 0 2 rfl rfl (by decide),U.zz 1 rfl,U.zz 0 rfl⟩,⟨U.bk 6 rfl,U.nk 6 rfl,U.zz 6 rfl⟩,⟨U.bk 5 rfl,U.nk 5 rfl,U.zz 5 rfl⟩,⟨U.bk 4 rfl,U.nk 4 rfl,U.zz 4 rfl⟩,⟨U.bk 3 rfl,U.nk 3 rfl,U.zz 3 rfl⟩,⟨U.bk 2 rfl,U.nk 2 rfl,U.zz 2 rfl⟩⟩ (by kernel_rfl)
      refine zaa 11 11 [.slice none 0 0] 32 (pg) ?_ ?_
      · intro v33 g34 Xg34 hg34 B
        replace U:=U.new Xg34 hg34 B;clear Xg34 hg34 B;refine⟨⟨(U.bk 3 rfl),(U.bk 6 rfl),(U.bk 5 rfl),(U.bk 4 rfl)⟩,?_⟩;refine zc 6 24 35 #[pg g,.int .u64 id,.int .u64 R] (lE U.rg.sx hid (by omega) (by omega)) ?_
        rintro _ v36 ⟨ar35,nr35,cr35,rfl,zr35,S,C,Q,mr35,h⟩;have L:=U.lt;replace U:=(U.ask S C).add L Q h;clear L S C Q h;refine⟨_,rfl,⟨(U.bk 3 rfl),(U.bk 6 rfl),(U.bk 5 rfl),(U.bk 4 rfl)⟩,?_⟩;refine zs 12 (U.bk 1 rfl) 0 (.agg #[.slice a5 P c5]) [.slice a5 P c5] [.slice a5 P c5] ?_
        intro v37 Y C;replace U:=U.put 1 rfl C Y (by decide);refine⟨⟨(U.bk 3 rfl),(U.bk 6 rfl),(U.bk 5 rfl),(U.bk 4 rfl)⟩,?_⟩;refine zs 13 (U.bk 0 rfl) 0 (.agg #[.slice ar35 nr35 cr35]) [.slice ar35 nr35 cr35] [.slice ar35 nr35 cr35] ?_
        intro v38 Y C;replace U:=U.put 0 rfl C Y (by decide);refine⟨⟨(U.bk 3 rfl),(U.bk 6 rfl),(U.bk 5 rfl),(U.bk 4 rfl)⟩,?_⟩;refine z 14 12 (.int .u64 ((pe - 1) % 18446744073709551616)) (aQ ?_);exact aZ (⟨g26,g34,ar35,nr35,cr35,zr35⟩:F1s) ⟨⟨U.rg,U.bk 1 rfl,U.bk 0 rfl,U.nk 1 rfl,U.nk 0 rfl,(U.dd 0 1 rfl rfl (by decide)).symm,U.nq 1 rfl,U.nq 0 rfl,by omega,U.dd 1 2 rfl rfl (by decide),U.dd 0 2 rfl rfl (by decide),U.zz 1 rfl,U.zz 0 rfl⟩,⟨U.bk 6 rfl,U.nk 6 rfl,U.zz 6 rfl⟩,⟨U.bk 5 rfl,U.nk 5 rfl,U.zz 5 rfl⟩,⟨U.bk 4 rfl,U.nk 4 rfl,U.zz 4 rfl⟩,⟨U.bk 3 rfl,U.nk 3 rfl,U.zz 3 rfl⟩,⟨U.bk 2 rfl,U.nk 2 rfl,U.zz 2 rfl⟩⟩ (by kernel_rfl)
      exact cJ
    refine zaa 11 11 [.slice none 0 0] 32 (pg) ?_ ?_
    · intro v39 g40 Xg40 hg40 B
      replace U:=U.new Xg40 hg40 B;clear Xg40 hg40 B;refine⟨⟨(U.bk 2 rfl),(U.bk 5 rfl),(U.bk 4 rfl),(U.bk 3 rfl)⟩,?_⟩;refine bJ [6,10] ?_
      refine cy 6 (some 24) 35 #[pg g,.int .u64 id,.int .u64 R] (lE U.rg.sx hid (by omega) (by omega)) ?_ ?_
      · rintro _ v42 ⟨ar41,nr41,cr41,rfl,zr41,S,C,Q,mr41,h⟩
        have L:=U.lt;replace U:=(U.ask S C).add L Q h;clear L S C Q h;refine⟨_,rfl,⟨(U.bk 2 rfl),(U.bk 5 rfl),(U.bk 4 rfl),(U.bk 3 rfl)⟩,?_⟩;refine za 10 10 [.slice none 0 0] 32 (pg) ?_
        intro v43 g44 Xg44 hg44 B;replace U:=U.new Xg44 hg44 B;clear Xg44 hg44 B;refine⟨⟨(U.bk 3 rfl),(U.bk 6 rfl),(U.bk 5 rfl),(U.bk 4 rfl)⟩,?_⟩;refine zs 12 (U.bk 0 rfl) 0 (.agg #[.slice a5 P c5]) [.slice a5 P c5] [.slice a5 P c5] ?_
        intro v45 Y C;replace U:=U.put 0 rfl C Y (by decide);refine⟨⟨(U.bk 3 rfl),(U.bk 6 rfl),(U.bk 5 rfl),(U.bk 4 rfl)⟩,?_⟩;refine zs 13 (U.bk 1 rfl) 0 (.agg #[.slice ar41 nr41 cr41]) [.slice ar41 nr41 cr41] [.slice ar41 nr41 cr41] ?_
        intro v46 Y C;replace U:=U.put 1 rfl C Y (by decide);refine⟨⟨(U.bk 3 rfl),(U.bk 6 rfl),(U.bk 5 rfl),(U.bk 4 rfl)⟩,?_⟩;refine z 14 12 (.int .u64 ((pe - 1) % 18446744073709551616)) (aQ ?_);exact aZ (⟨g44,g40,ar41,nr41,cr41,zr41⟩:F1s) ⟨⟨U.rg,U.bk 0 rfl,U.bk 1 rfl,U.nk 0 rfl,U.nk 1 rfl,U.dd 0 1 rfl rfl (by decide),U.nq 1 rfl,U.nq 0 rfl,by omega,U.dd 0 2 rfl rfl (by decide),U.dd 1 2 rfl rfl (by decide),U.zz 0 rfl,U.zz 1 rfl⟩,⟨U.bk 6 rfl,U.nk 6 rfl,U.zz 6 rfl⟩,⟨U.bk 5 rfl,U.nk 5 rfl,U.zz 5 rfl⟩,⟨U.bk 4 rfl,U.nk 4 rfl,U.zz 4 rfl⟩,⟨U.bk 3 rfl,U.nk 3 rfl,U.zz 3 rfl⟩,⟨U.bk 2 rfl,U.nk 2 rfl,U.zz 2 rfl⟩⟩ (by kernel_rfl)
      refine zaa 10 10 [.slice none 0 0] 32 (pg) ?_ ?_
      · intro v47 g48 Xg48 hg48 B
        replace U:=U.new Xg48 hg48 B;clear Xg48 hg48 B;refine⟨⟨(U.bk 3 rfl),(U.bk 6 rfl),(U.bk 5 rfl),(U.bk 4 rfl)⟩,?_⟩;refine zc 6 24 35 #[pg g,.int .u64 id,.int .u64 R] (lE U.rg.sx hid (by omega) (by omega)) ?_
        rintro _ v50 ⟨ar49,nr49,cr49,rfl,zr49,S,C,Q,mr49,h⟩;have L:=U.lt;replace U:=(U.ask S C).add L Q h;clear L S C Q h;refine⟨_,rfl,⟨(U.bk 3 rfl),(U.bk 6 rfl),(U.bk 5 rfl),(U.bk 4 rfl)⟩,?_⟩;refine zs 12 (U.bk 0 rfl) 0 (.agg #[.slice a5 P c5]) [.slice a5 P c5] [.slice a5 P c5] ?_
        intro v51 Y C;replace U:=U.put 0 rfl C Y (by decide);refine⟨⟨(U.bk 3 rfl),(U.bk 6 rfl),(U.bk 5 rfl),(U.bk 4 rfl)⟩,?_⟩;refine zs 13 (U.bk 1 rfl) 0 (.agg #[.slice ar49 nr49 cr49]) [.slice ar49 nr49 cr49] [.slice ar49 nr49 cr49] ?_
        intro v52 Y C;replace U:=U.put 1 rfl C Y (by decide);refine⟨⟨(U.bk 3 rfl),(U.bk 6 rfl),(U.bk 5 rfl),(U.bk 4 rfl)⟩,?_⟩;refine z 14 12 (.int .u64 ((pe - 1) % 18446744073709551616)) (aQ ?_);exact aZ (⟨g48,g40,ar49,nr49,cr49,zr49⟩:F1s) ⟨⟨U.rg,U.bk 0 rfl,U.bk 1 rfl,U.nk 0 rfl,U.nk 1 rfl,U.dd 0 1 rfl rfl (by decide),U.nq 1 rfl,U.nq 0 rfl,by omega,U.dd 0 2 rfl rfl (by decide),U.dd 1 2 rfl rfl (by decide),U.zz 0 rfl,U.zz 1 rfl⟩,⟨U.bk 6 rfl,U.nk 6 rfl,U.zz 6 rfl⟩,⟨U.bk 5 rfl,U.nk 5 rfl,U.zz 5 rfl⟩,⟨U.bk 4 rfl,U.nk 4 rfl,U.zz 4 rfl⟩,⟨U.bk 3 rfl,U.nk 3 rfl,U.zz 3 rfl⟩,⟨U.bk 2 rfl,U.nk 2 rfl,U.zz 2 rfl⟩⟩ (by kernel_rfl)
      exact cJ
    exact cJ
  clear U Q5;rintro⟨bk,bf,aF,nF,cF,zF⟩ v53 ⟨⟨A,v,F,nXbk,nXbf,aa,Q5,QF,mF,dRk,dRf,zbk,zbf⟩,⟨m,nXg2,zg2⟩,⟨j,nXg4,zg4⟩,⟨H,nXg6,zg6⟩,⟨G,nXg8,zg8⟩,⟨d,nXg10,zg10⟩⟩;simp only at A v F nXbk nXbf aa Q5 QF mF dRk dRf zbk zbf;refine ay (aC ?_);have lXg2:=m.lt;have lXg4:=j.lt;have lXg6:=H.lt;have lXg8:=G.lt;have lXg10:=d.lt;have lXbk:=v.lt;have lXbf:=F.lt;refine ta 13 [.slice none 0 0] 32 (pg) ?_
  intro v54 D f O B;have zg55:=Or.inl (b:=(fun b=>b=g) D) (Nat.le_trans A.size O);have nXg55:=A.new O;have eQ5g55:=ne1 Q5.lt O;have eQFg55:=ne1 QF.lt O;have dg55_g2:=ne4 m.lt O;have dg55_g4:=ne4 j.lt O;have dg55_g6:=ne4 H.lt O;have dg55_g8:=ne4 G.lt O;have ac:=ne4 d.lt O;have ab:=ne4 v.lt O;have dg55_bf:=ne4 F.lt O;replace A:=A.keep B;replace Q5:=Q5.keep B;replace QF:=QF.keep B;replace m:=m.keep B;replace j:=j.keep B;replace H:=H.keep B;replace G:=G.keep B;replace d:=d.keep B;replace v:=v.keep B;replace F:=F.keep B;clear B;refine aA (ah (ay (aC (t 28 (.func (.func 36) #[] #[pg g2,pg g4,pg D,pg bk,pg bf]) ?_))));have lXg2:=m.lt;have lXg4:=j.lt;have lXg6:=H.lt;have lXg8:=G.lt;have lXg10:=d.lt;have lXbk:=v.lt;have lXbf:=F.lt;have lXg55:=f.lt;refine ta 14 [.nilFunc] 92 (pg) ?_
  intro v56 g57 o J B;have zg57:=Or.inl (b:=(fun b=>b=g) g57) (Nat.le_trans A.size J);have nXg57:=A.new J;have eQ5g57:=ne1 Q5.lt J;have eQFg57:=ne1 QF.lt J;have dg57_g2:=ne4 m.lt J;have dg57_g4:=ne4 j.lt J;have dg57_g6:=ne4 H.lt J;have dg57_g8:=ne4 G.lt J;have dg57_g10:=ne4 d.lt J;have dg57_bk:=ne4 v.lt J;have dg57_bf:=ne4 F.lt J;have dg57_g55:=ne4 f.lt J;replace A:=A.keep B;replace Q5:=Q5.keep B;replace QF:=QF.keep B;replace m:=m.keep B;replace j:=j.keep B;replace H:=H.keep B;replace G:=G.keep B;replace d:=d.keep B;replace v:=v.keep B;replace F:=F.keep B;replace f:=f.keep B;clear B;refine ts o 0 (.func (.func 36) #[] #[pg g2,pg g4,pg D,pg bk,pg bf]) [.func (.func 36) #[] #[pg g2,pg g4,pg D,pg bk,pg bf]] [.func (.func 36) #[] #[pg g2,pg g4,pg D,pg bk,pg bf]] ?_
  intro v58 Y C;replace A:=Rg.cell A o C zg57 nXg57 (by decide);replace Q5:=Q5.cell C eQ5g57;replace QF:=QF.cell C eQFg57;replace m:=m.chg C dg57_g2.symm;replace j:=j.chg C dg57_g4.symm;replace H:=H.chg C dg57_g6.symm;replace G:=G.chg C dg57_g8.symm;replace d:=d.chg C dg57_g10.symm;replace v:=v.chg C dg57_bk.symm;replace F:=F.chg C dg57_bf.symm;replace f:=f.chg C dg57_g55.symm;clear C o;have o:=Y;clear Y;refine aA (ah (ay (aC ?_)));have lXg2:=m.lt;have lXg4:=j.lt;have lXg6:=H.lt;have lXg8:=G.lt;have lXg10:=d.lt;have lXbk:=v.lt;have lXbf:=F.lt;have lXg55:=f.lt;have lXg57:=o.lt;refine ta 15 [.int .i64 0] 3 (pg) ?_
  intro v59 M Z I B;have zg60:=Or.inl (b:=(fun b=>b=g) M) (Nat.le_trans A.size I);have nXg60:=A.new I;have eQ5g60:=ne1 Q5.lt I;have eQFg60:=ne1 QF.lt I;have dg60_g2:=ne4 m.lt I;have dg60_g4:=ne4 j.lt I;have dg60_g6:=ne4 H.lt I;have dg60_g8:=ne4 G.lt I;have ad:=ne4 d.lt I;have dg60_bk:=ne4 v.lt I;have dg60_bf:=ne4 F.lt I;have dg60_g55:=ne4 f.lt I;have dg60_g57:=ne4 o.lt I;replace A:=A.keep B;replace Q5:=Q5.keep B;replace QF:=QF.keep B;replace m:=m.keep B;replace j:=j.keep B;replace H:=H.keep B;replace G:=G.keep B;replace d:=d.keep B;replace v:=v.keep B;replace F:=F.keep B;replace f:=f.keep B;replace o:=o.keep B;clear B;refine ts Z 0 (.int .i64 0) [.int .i64 0] [.int .i64 0] ?_
  intro v61 Y C;replace A:=Rg.cell A Z C zg60 nXg60 (by decide);replace Q5:=Q5.cell C eQ5g60;replace QF:=QF.cell C eQFg60;replace m:=m.chg C dg60_g2.symm;replace j:=j.chg C dg60_g4.symm;replace H:=H.chg C dg60_g6.symm;replace G:=G.chg C dg60_g8.symm;replace d:=d.chg C ad.symm;replace v:=v.chg C dg60_bk.symm;replace F:=F.chg C dg60_bf.symm;replace f:=f.chg C dg60_g55.symm;replace o:=o.chg C dg60_g57.symm;clear C Z;have Z:=Y;clear Y;refine aA (ah (ay (ay (aC (tl 29 (pg g) m 0 (tl 30 (.int .u64 id) j 0 (t 31 (pq g8 1) (tl 32 (.int .u64 R) G 1 (t 33 (.int .u64 ((pe - 1) % 18446744073709551616)) (tc 34 39 #[pg g,.int .u64 id,.int .u64 R,.int .u64 ((pe - 1) % 18446744073709551616)] (CU) ?_))))))))));rintro _ v62 ⟨rfl,Yc1,Yc2,Yc3,Yc4,B⟩;refine⟨_,rfl,?_⟩;skip;replace A:=A.keep B;replace Q5:=Q5.keep B;replace QF:=QF.keep B;replace m:=m.keep B;replace j:=j.keep B;replace H:=H.keep B;replace G:=G.keep B;replace d:=d.keep B;replace v:=v.keep B;replace F:=F.keep B;replace f:=f.keep B;replace o:=o.keep B;replace Z:=Z.keep B;clear B;refine aA (ah (ep (aY [(8,pg g10),(9,.int .i64 0),(10,pg bk),(12,.int .u64 ((pe - 1) % 18446744073709551616)),(13,pg D),(14,pg g57),(15,pg M),(34,.func (.func 73) #[] #[.pointer (some ⟨v61.heap.size+1,0,none⟩),.pointer (some ⟨v61.heap.size+1+1,0,none⟩),.pointer (some ⟨v61.heap.size+1+1+1,0,none⟩),.pointer (some ⟨v61.heap.size,0,none⟩)])] (by kernel_rfl) ?_)));refine⟨fun a r=>?_⟩;obtain⟨x,ha⟩:= EC r;replace ha:=ha.trans (show _=(⟨#[x 0,x 1,x 2,x 3,x 4,x 5,x 6,x 7,pg g10,.int .i64 0,pg bk,x 11,.int .u64 ((pe - 1) % 18446744073709551616),pg D,pg g57,pg M,x 16,x 17,x 18,x 19,x 20,x 21,x 22,x 23,x 24,x 25,x 26,x 27,x 28,x 29,x 30,x 31,x 32,x 33,.func (.func 73) #[] #[.pointer (some ⟨v61.heap.size+1,0,none⟩),.pointer (some ⟨v61.heap.size+1+1,0,none⟩),.pointer (some ⟨v61.heap.size+1+1+1,0,none⟩),.pointer (some ⟨v61.heap.size,0,none⟩)],x 35,x 36,x 37,x 38,x 39,x 40,x 41,x 42,x 43,x 44,x 45,x 46,x 47,x 48,x 49],[]⟩:Act) from rfl);subst ha;clear r
  have nX' : ∀ {b : Nat} {cs : List Value} {T : TypeId}, Blk v62 b cs T → T ≠ 85 → T ≠ 32 → T ≠ 3 → ¬ (b = g ∨ b = D ∨ b = bk ∨ b = bf ∨ b = M) := fun k h1 h2 h3 h => by
    obtain⟨cs',k'⟩:= A.sx.sa.kv;rcases h with e | e | e | e | e
    · rw[e] at k;exact h1 (k.eq k').2
    · rw[e] at k;exact h2 (k.eq f).2
    · rw[e] at k;exact h2 (k.eq v).2
    · rw[e] at k;exact h2 (k.eq F).2
    · rw[e] at k;exact h3 (k.eq Z).2
  have hXl : ∀ b, (b = g ∨ b = D ∨ b = bk ∨ b = bf ∨ b = M) → b < v62.heap.size := fun b h => by
    rcases h with e | e | e | e | e <;> rw[e]
    · exact A.sx.sa.lt A.sx.sa.top
    · exact f.lt
    · exact v.lt
    · exact F.lt
    · exact Z.lt
  have hX1 : ∀ b, (b = g ∨ b = D ∨ b = bk ∨ b = bf ∨ b = M) → b = g ∨ ¬ K b := fun b h => by
    rcases h with e | e | e | e | e
    · exact .inl e
    · exact .inr (e ▸ nXg55)
    · exact .inr (e ▸ nXbk)
    · exact .inr (e ▸ nXbf)
    · exact .inr (e ▸ nXg60)
  have hXk:Hid (bk≠g):=aD (fun e=>by obtain⟨cs',k'⟩:= A.sx.sa.kv;rw[← e] at k';exact absurd (v.eq k').2 (by decide));have sN:=nX' m (by decide) (by decide) (by decide);have iN:=nX' j (by decide) (by decide) (by decide);have IT:=zY (X:=fun b=>b=g∨b=D∨b=bk∨b=bf∨b=M) (xs:=fun i=>n+1+1+2 * i) A.sx.sa Yc1 Yc2 Yc3 Yc4 (nX' Yc1 (by decide) (by decide) (by decide)) (nX' Yc2 (by decide) (by decide) (by decide)) (nX' Yc3 (by decide) (by decide) (by decide)) (nX' Yc4 (by decide) (by decide) (by decide)) hX1 hXl hid (by omega) (by omega) (fun i hi=>by show n+1+1+2 * i≤_;omega) hRk
  have I0:ClI B v62 D bk bf M K g E W N (n+1) 0 P (kU E id R ((pe - 1) % 18446744073709551616) x5 0) v62:=⟨Chg.refl _ _,A.sx,Z,⟨none,0,0,0,f,dA _ _,Nat.zero_le _⟩,⟨a5,P,c5,z5,v,Q5,by omega⟩,aF,nF,cF,zF,F,QF,mF⟩;refine(wpIn_wide (n:=0)).1 ?_
  refine vp IT (by rfl) (enters_of Tryz.func73 (by kernel_rfl) rfl) (fun i args n V V' h hc=>h) (fun i args n V h=>by obtain⟨c,_,rfl⟩:= h;rfl)
    (fun V=>ClI B v62 D bk bf M K g E W N (n+1) 0 P (kU E id R ((pe - 1) % 18446744073709551616) x5 0) V)
    (fun i V=>ClI B v62 D bk bf M K g E W N (n+1+1+2 * i) i P (kU E id R ((pe - 1) % 18446744073709551616) x5 i) V)
    (fun i V=>ClI B v62 D bk bf M K g E W N (n+1+1+2 * i+1) i P (kU E id R ((pe - 1) % 18446744073709551616) x5 i) V)
    (fun c i V=>False)
    (fun A B hx hr=>hx.rcd hr) (fun i A B hx hr=>hx.rcd hr) (fun i A B hx hr=>hx.rcd hr) (fun c i A B hx hr=>hx) (hXl g (.inl rfl))
    (fun V hv=>by have q:=hv.sx.sa.cnt;exact⟨q.1,q.2,hv.rd,hv.tick⟩)
    (fun i V hv=>by have q:=hv.sx.sa.cnt;exact⟨q.1,q.2,hv.rd,fun _=>hv.tick⟩)
    I0 ?_ ?_ ?_
  · rintro l2 i args V Wv hl hlV hrec hiN hT hb ⟨c,hc,rfl⟩
    simp;gi_wp2;refine⟨ae _ _,?_⟩;intro V2 W2 hT2 hb2 hAr2 hoth hsz3 hV2 rl hrec2;have I2:=hT2.rcd (Rec.of hb2);have zb:=hb.size;have zV:=hT.chg.size
    have cB:Blk W2 Wv.heap.size [.int .u64 c.2.1,.int .u64 c.2.2] 97:=⟨by rw[hoth _ (by omega)];exact(aE Wv [.int .u64 c.2.1,.int .u64 c.2.2] 97).blk⟩;obtain⟨aR,nR,cR,zR,p1,p2,p3⟩:= I2.rew;obtain⟨aS,nS,cS,zS,q1,q2,q3⟩:= I2.stk;obtain⟨aG,nG,cG,zG,r1,r2,r3⟩:= I2.frm
    have hi:i < 1000:=Nat.lt_of_lt_of_le hiN hcl;have fb:=o.chg I2.chg (nX' o (by decide) (by decide) (by decide));have sb:=m.chg I2.chg sN;have ib:=j.chg I2.chg iN;have tE:=rG (p:=c.1) I2.sx hid p2 (by omega) q2 (by omega) r2 (by omega) sb ib p1 q1 r1 nXg2 nXg4 nXg55 nXbk nXbf ab dg55_bf aa (fun e=>sN (.inr (.inl e))) (fun e=>sN (.inr (.inr (.inr (.inl e))))) (fun e=>iN (.inr (.inl e))) (fun e=>iN (.inr (.inr (.inr (.inl e))))) (dY p2 p1 (fun y h=>by cases h)) (dY p2 r1 (fun y h=>by cases h)) (dY q2 p1 (fun y h=>by cases h)) (dY q2 r1 (fun y h=>by cases h)) (dY r2 p1 (fun y h=>by cases h)) (dY r2 r1 (fun y h=>by cases h)) (by omega) (by omega);have rg:=yw A.sx.sa hc;have hst:=xw (x:=x5) hc;have fc:=fb.cell (i:=0) rfl;have zS1:=(dY q2 p1 (fun y h=>by cases h));have zS2:=(dY q2 r1 (fun y h=>by cases h))
    have zS3:nS=0∨zS≠g:=q2.out.imp_right (fun k e=>k (e ▸ A.sx.sa.top))
    have cW : ∀ b, (b = g ∨ b = D ∨ b = bf) → b ≠ Wv.heap.size := fun b h e => by
      have:=hXl b (h.elim .inl (fun h=>h.elim (fun h=>.inr (.inl h)) (fun h=>.inr (.inr (.inr (.inl h))))));omega
    have HI2:=aD I2;have HcB:=aD cB;have Hq1:=aD q1;have Hq2:=aD q2;clear hT hb hT2 hb2 hAr2 hoth I2 cB p1 p2 q1 q2 r1 r2 r3 sb ib fb hrec IT I0 hX1 hc;obtain⟨cp,cb,ca⟩:= c;simp only at tE rg hst HcB ⊢;gi_wp2_with first
      | (refine⟨trivial,rfl,?_⟩;gi_at_call 36;refine(CallsIn.inRound l2 (callsIn_wide.2 tE)).mono ?_;rintro e' w3 ⟨b1,k1,d1,y1,b2,k2,d2,y2,rfl,S3,C3,R3,N1,m1,f1,F3,N2,m2,f2⟩;clear tE fc;have bk3:=Hq1.out.chg C3 (fun h=>h.elim (fun e=>(hXk.out e)) (fun h=>h.elim (fun e=>ab e.symm) aa));have cb3:=HcB.out.chg C3 (fun h=>cW _ h rfl);have tB:=uD (w:=w3) (Hq2.out.to w3 (fun hn=>C3.same zS (Hq2.out.lt.resolve_left hn) (fun h=>h.elim (zS3.resolve_left hn) (fun h=>h.elim (zS1.resolve_left hn) (zS2.resolve_left hn))))).a (by omega) rg.1 rg.2;have kc:=bk3.cell (i:=0) rfl;have c0:=cb3.cell (i:=0) rfl;have c1':=cb3.cell (i:=1) rfl)
      | (refine⟨trivial,rfl,?_⟩;gi_at_call 40;refine(CallsIn.inRound l2 (callsIn_wide.2 tB)).mono ?_;rintro e' w4 ⟨a4',k4,d4,z4',rfl,M4,h4,m4,B4⟩;clear tB kc c0 c1';obtain⟨⟨x1',x2',x3',x4'⟩,hI,hK⟩:= ClI.go HI2.out hXl ab aa nXbk nXg60 S3 C3 R3 N1 (by omega) F3 N2 m2 M4 h4 (by omega) B4;have kc:=(bk3.keep B4).cell (i:=0) rfl;have HI3:=aD hI;have HK3:=aD hK;clear hI hK bk3 cb3 S3 C3 R3 N1 F3 N2 M4 B4)
    refine⟨HK3.out,?_⟩
    show ClI B v62 D bk bf M K g E W N (n+1+1+2 * (i+1)) (i+1) P (kU E id R ((pe - 1) % 18446744073709551616) x5 (i+1)) _
    rw[hst,show n+1+1+2 * (i+1)=n+1+1+2 * i+1+1 by omega];exact HI3.out
  · rintro D' W' hD hK hT
    obtain⟨aR,nR,cR,zR,p1,p2,p3⟩:= hT.rew;obtain⟨aS,nS,cS,zS,q1,q2,q3⟩:= hT.stk;obtain⟨aG,nG,cG,zG,r1,r2,r3⟩:= hT.frm;have fb:=o.chg hT.chg (nX' o (by decide) (by decide) (by decide));have sb:=m.chg hT.chg sN;have ib:=j.chg hT.chg iN
    have hrg:g10≠g:=fun e=>nXg10 (e ▸ A.sx.sa.top)
    have hrc:g10≠M:=ad.symm;have rb:=d.chg hT.chg (fun h=>h.elim hrg (fun h=>h.elim ac.symm (fun h=>h.elim dRk.symm (fun h=>h.elim dRf.symm hrc))))
    have hcr:M≠D:=dg60_g55
    have hcf:M≠bf:=dg60_bf
    have hcg:M≠g:=fun e=>nXg60 (e ▸ A.sx.sa.top)
    have tE:=rG (p:=((pe - 1) % 18446744073709551616)) hT.sx hid p2 (by omega) q2 (by omega) r2 (by omega) sb ib p1 q1 r1 nXg2 nXg4 nXg55 nXbk nXbf ab dg55_bf aa (fun e=>sN (.inr (.inl e))) (fun e=>sN (.inr (.inr (.inr (.inl e))))) (fun e=>iN (.inr (.inl e))) (fun e=>iN (.inr (.inr (.inr (.inl e))))) (dY p2 p1 (fun y h=>by cases h)) (dY p2 r1 (fun y h=>by cases h)) (dY q2 p1 (fun y h=>by cases h)) (dY q2 r1 (fun y h=>by cases h)) (dY r2 p1 (fun y h=>by cases h)) (dY r2 r1 (fun y h=>by cases h)) (by omega) (by omega)
    have CC := A.cg.trans hT.chg (fun b hb h => by
      rcases h with e | e | e | e | e
      · exact e
      · rcases zg55 with z1 | z1 <;> first | omega | exact e.trans z1
      · rcases zbk with z1 | z1 <;> first | omega | exact e.trans z1
      · rcases zbf with z1 | z1 <;> first | omega | exact e.trans z1
      · rcases zg60 with z1 | z1 <;> first | omega | exact e.trans z1)
    have cT:=hT.cnt
    have hDl:D' < W'.heap.size:=lt_of_block hK;refine GE.out (n:=50) (ds:=[{ target:=.collected D',args:=#[] }]) (l:=[(8,pg g10),(9,.int .i64 0),(12,.int .u64 ((pe - 1) % 18446744073709551616)),(13,pg D),(14,pg g57),(15,pg M)]) ?_ _ ⟨rfl,rfl,fun q u hq=>?_⟩
    · refine gB ?_
      refine ah (ay (aC (tl 45 (.func (.func 36) #[] #[pg g2,pg g4,pg D,pg bk,pg bf]) fb 0 (t 46 (.int .u64 ((pe - 1) % 18446744073709551616)) (tc 47 36 #[.int .u64 ((pe - 1) % 18446744073709551616),pg g2,pg g4,pg D,pg bk,pg bf] (tE) ?_)))));rintro _ v63 ⟨b1,k1,d1,y1,b2,k2,d2,y2,rfl,S3,C3,R3,N1,m1,f1,F3,N2,m2,f2⟩;refine⟨_,rfl,?_⟩;have Xc3:=cT.chg C3 (fun h=>h.elim hcg (fun h=>h.elim hcr hcf));have Xr3:=rb.chg C3 (fun h=>h.elim hrg (fun h=>h.elim ac.symm dRf.symm));have hK3:=(C3.same D' hDl (fun h=>by have:=hXl D' (h.elim .inl (fun h=>h.elim (fun h=>.inr (.inl h)) (fun h=>.inr (.inr (.inr (.inl h))))));omega)).trans hK
      have CC3 := CC.trans C3 (fun b hb h => by
        rcases h with e | e | e
        · exact e
        · rcases zg55 with z1 | z1 <;> first | omega | exact e.trans z1
        · rcases zbf with z1 | z1 <;> first | omega | exact e.trans z1)
      have eN1g10:=dY N1 Xr3 (fun y h=>by cases h)
      have PF:PfE B w K g E W D' g10 y1 b1 k1 d1 (n+1+1+2 * (dB E id R ((pe - 1) % 18446744073709551616)).length+1) (_) () N _:=⟨S3,CC3,hK3,N1⟩
      have f1w:k1=0∨w.heap.size≤y1:=ne3 f1 CC.size;clear tE cT rb fb CC;refine aA (ah (ay ?_));replace R3:=R3.drew;replace Xc3:=Xc3.drew;replace Xr3:=Xr3.drew;replace PF:=PF.drew;refine bE (fun w'=>Blk w' D [.slice b1 k1 d1] 32∧Blk w' M [.int .i64 (((dB E id R ((pe - 1) % 18446744073709551616)).length:Nat):Int)] 3) (fun _=>false) ⟨R3,Xc3⟩ ?_
      refine zlr 0 48 [.slice b1 k1 d1] (fun _ h=>h.1) 0 (zl 1 49 (.int .i64 (((dB E id R ((pe - 1) % 18446744073709551616)).length:Nat):Int)) (fun _ h=>h.2) 0 (zs 2 Xr3 0 (.agg #[.slice b1 k1 d1]) [.slice b1 k1 d1] [.slice b1 k1 d1] ?_));intro v64 Y C;replace R3:=R3.chg C ac;replace Xc3:=Xc3.chg C ad;replace PF:=PF.cell Xr3 C nXg10 zg10;clear C Xr3;have Xr3:=Y;clear Y;refine⟨⟨R3,Xc3⟩,?_⟩;refine z 3 9 (.int .i64 (((dB E id R ((pe - 1) % 18446744073709551616)).length:Nat):Int)) (aQ (ah (aV ?_)));obtain⟨u1,u2,u3⟩:= PF.fin (Nat.le_trans A.cg.size hD);have Xr4:=e9 Xr3 (Rec.put (B:=w.heap.size) PF.df rfl (Nat.le_trans A.cg.size hD) (.deferred none));rw[show n+1+1+2 * (dB E id R ((pe - 1) % 18446744073709551616)).length+1=n+3+2 * (dB E id R ((pe - 1) % 18446744073709551616)).length by omega] at u1;exact DI PF.df (rsctM 8 9 (T:=32) (by kernel_rfl) (by kernel_rfl) (by kernel_rfl) (lr Xr4 0)) ⟨_,_,_,_,rfl,u1,u2,u3,by omega,f1w⟩
    · have hm:=uR hq
      simp at hm;rcases hm with⟨rfl,rfl⟩ | ⟨rfl,rfl⟩ | ⟨rfl,rfl⟩ | ⟨rfl,rfl⟩ | ⟨rfl,rfl⟩ | ⟨rfl,rfl⟩ <;> rfl
  · rintro D' c i W' hD hK hi h
    exact h.elim
end
end Fo
end
end Go.Proofs.YtjejmkcjflhoiaaGreatDoor
