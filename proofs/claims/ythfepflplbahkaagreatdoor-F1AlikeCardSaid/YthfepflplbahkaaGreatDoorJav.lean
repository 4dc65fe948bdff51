import Derived.Test.YthfepflplbahkaaGreatDoorJat
import Derived.Test.YthfepflplbahkaaGreatDoorJau
set_option maxRecDepth 100000
set_option maxHeartbeats 8000000
namespace Go.Proofs.YthfepflplbahkaaGreatDoor
section
namespace Kv
open Go.RowKit Go.Lib Pg
attribute [local go_sem] Oper.semAt_some
section
variable {N n:Nat}{xs:Nat→Nat}{lb:Array Value}{Ar:Nat→Array Value→Nat→World→Prop}{Rd:World→Prop}{w:World}{g:Operand}{ps:Array Tmp}{X K D:Nat->Prop}{W:List aD}
def DX(W0:World)(Tp:TypeId->Prop)(g x0:Nat)(xs:Nat->Nat)(gf:Nat)(lb:Array Value)(N:Nat)(Ar:Nat->Array Value->Nat->World->Prop)(Rd:World->Prop):Prop :=
 ∀ (l:Nat) (J0:World->Prop) (J Jt Jx:Nat->World->Prop) (W:World),(∀ b,W0.heap.size<=b->∀ cs,¬ Blk W b cs 5)->W0.heap.size<=W.heap.size->St W.heap.size J0->(∀ i,St W.heap.size (J i))->(∀ i,St W.heap.size (Jt i))->(∀ i,St W.heap.size (Jx i))->g < W.heap.size ->
  (∀ V,J0 V->V.cell? ⟨g,2,none⟩=some (.int .i64 x0)/\V.frozen? ⟨g,2,none⟩=false/\Rd V/\J 0 (tick g V x0)) ->
  (∀ i V,J i V->V.cell? ⟨g,2,none⟩=some (.int .i64 ((xs i:Nat):Int))/\V.frozen? ⟨g,2,none⟩=false/\Rd V/\(i < N->Jt i (tick g V (xs i)))) ->
  (∀ i args V V',i < N->Jt i V->W.heap.size<=V.heap.size->Below V.heap.size V V'->Ar i args V.heap.size V'->YieldAt Fence.wide 0 Tryz.prog l args V' fun e V''=>bB Tp W.heap.size V' V''/\((e=.returned (.bool true)/\J (i+1) V'')\/(e=.returned (.bool false)/\Jx (i+1) V''))) ->
  J0 W ->
  Calls Tryz.prog gf (#[.func (.yield l) #[] #[]] ++ lb) W fun e W'=>(∃ v,e=.returned v)/\W.heap.size<=W'.heap.size/\(J N W'\/∃ i,i < N/\Jx (i+1) W')
theorem uj{Tp:TypeId→Prop}{y g0 x0:Nat}(IT:DX w Tp g0 x0 xs y lb N Ar Rd){assign body:Code}{Q:Exit→Act→World→Prop}{a:Act}(hg:a.eval g=.func (.func y) #[] lb)(eg:∀ args w,(callFunc y args).run Tryz.prog w=.ok (.enter y args) w)(C:∀ i args n V W,Ar i args n V→Cel V W→Ar i args n W)(ad:∀ i args n V,Ar i args n V→args.size=ps.size)(O:World→Prop)(I H:Nat→World→Prop)(Ix:Code→Nat→World→Prop)(K:St w.heap.size O)(U:∀ i,St w.heap.size (I i))(z:∀ i,St w.heap.size (H i))(s:∀ c i,St w.heap.size (Ix c i))(hgw:g0 < w.heap.size)(aa:∀ V,O V→V.cell? ⟨g0,2,none⟩=some (.int .i64 x0)∧V.frozen? ⟨g0,2,none⟩=false∧Rd V∧I 0 (tick g0 V x0))(hx:∀ i V,I i V→V.cell? ⟨g0,2,none⟩=some (.int .i64 ((xs i:Nat):Int))∧V.frozen? ⟨g0,2,none⟩=false∧Rd V∧(i < N→H i (tick g0 V (xs i))))(h0:O w)(p:Ba Tp w N n ps assign body a.tmps Ar H I Ix)(q:∀ D W,w.heap.size≤D→W.heap[D]?=some (.deferred (some []))→I N W→Q .normal { a with defers:={ target:=.collected D,args:=#[] } :: a.defers } W)(t:∀ D c i W,w.heap.size≤D→W.heap[D]?=some (.deferred (some []))→i < N→Ix c (i+1) W→c.wpIn Fence.wide n Tryz.prog Q { a with defers:={ target:=.collected D,args:=#[] } :: a.defers } W) :
    (Code.rangeFunc g ps assign body).wpIn Fence.wide n Tryz.prog Q a w:=by
  refine wpIn_rangeFunc ?_
  intro fn _;obtain⟨f,m⟩:∃ f,(w.alloc (.deferred (some []))).alloc (.loop (dh fn a.tmps ps assign body w.heap.size .ready none))=f:=⟨_,rfl⟩
  have S:Below w.heap.size w f:=by rw[← m];exact ax (ae w _) (ae _ _)
  have hs1:f.heap.size=w.heap.size+1+1:=by rw[← m];simp
  have E:f.heap[w.heap.size+1]?=some (.loop (dh fn a.tmps ps assign body w.heap.size .ready none)):=by
    rw[← m];have:=World.alloc_heap_new (w.alloc (.deferred (some []))) (.loop (dh fn a.tmps ps assign body w.heap.size .ready none));rwa [World.size_alloc] at this
  have G:f.heap[w.heap.size]?=some (.deferred (some [])):=by
    rw[← m];exact(Below.heap_alloc _ _ _ (by simp)).trans (World.alloc_heap_new w _)
  have t1:∀ V x,(tick g0 V x).heap[w.heap.size+1]?=V.heap[w.heap.size+1]?:=fun V x=>fE (by omega)
  have t2:∀ V x,(tick g0 V x).heap[w.heap.size]?=V.heap[w.heap.size]?:=fun V x=>fE (by omega)
  have ac : ∀ b, w.heap.size ≤ b → ∀ cs, ¬ Blk f b cs 5 := fun b hb cs k => by
    have hlt:=k.lt;have l:=k.blk;rcases Nat.lt_or_ge w.heap.size b with M | M
    · obtain rfl : b = w.heap.size + 1 := by omega
      rw[E] at l
      cases l
    · obtain rfl : b = w.heap.size := by omega
      rw[G] at l
      cases l
  refine⟨w.heap.size + 1, [{ target := .collected w.heap.size, args := #[] }], f, { target := .fn (.func y) lb, args := #[.func (.yield (w.heap.size + 1)) #[] #[]] }, f, y,
    #[.func (.yield (w.heap.size+1)) #[] #[]] ++ lb,f,?_,?_,?_,?_,fun h=>(by cases h),?_⟩
  · rw[← m];exact run_enterLoop_outer _ _ _ _ _
  · simp only[resolve,hg]
    simp[go_sem]
  · intro f' _;trivial
  · simp[invoke,go_sem,eg]
  · refine callsIn_wide.2 ?_
    refine(IT (w.heap.size + 1)
      (fun W=>O W∧W.heap[w.heap.size+1]?=some (.loop (dh fn a.tmps ps assign body w.heap.size .ready none))∧W.heap[w.heap.size]?=some (.deferred (some [])))
      (fun i W=>I i W∧W.heap[w.heap.size+1]?=some (.loop (dh fn a.tmps ps assign body w.heap.size .ready none))∧W.heap[w.heap.size]?=some (.deferred (some [])))
      (fun i W=>H i W∧W.heap[w.heap.size+1]?=some (.loop (dh fn a.tmps ps assign body w.heap.size .ready none))∧W.heap[w.heap.size]?=some (.deferred (some [])))
      (fun i W=>∃ c,Ix c i W∧W.heap[w.heap.size+1]?=some (.loop (dh fn a.tmps ps assign body w.heap.size .done (some c)))∧W.heap[w.heap.size]?=some (.deferred (some [])))
      f ac (by omega) (fun X Y hx d=>⟨K X Y hx.1 (d.mono (by omega)),d.same _ _ hx.2.1 (.inl (by omega)),d.same _ _ hx.2.2 (.inl (by omega))⟩)
      (fun i X Y hx d=>⟨U i X Y hx.1 (d.mono (by omega)),d.same _ _ hx.2.1 (.inl (by omega)),d.same _ _ hx.2.2 (.inl (by omega))⟩)
      (fun i X Y hx d=>⟨z i X Y hx.1 (d.mono (by omega)),d.same _ _ hx.2.1 (.inl (by omega)),d.same _ _ hx.2.2 (.inl (by omega))⟩)
      (fun i X Y hx d=>by obtain⟨c,M,R,T⟩:= hx;exact⟨c,s c i X Y M (d.mono (by omega)),d.same _ _ R (.inl (by omega)),d.same _ _ T (.inl (by omega))⟩)
      (by omega)
      (fun V hv=>by obtain⟨q1,A,u,L⟩:= aa V hv.1;exact⟨q1,A,u,L,(t1 V x0).trans hv.2.1,(t2 V x0).trans hv.2.2⟩)
      (fun i V hv=>by obtain⟨q1,A,u,L⟩:= hx i V hv.1;exact⟨q1,A,u,fun hi=>⟨L hi,(t1 V _).trans hv.2.1,(t2 V _).trans hv.2.2⟩⟩)
      ?_ ⟨K _ _ h0 (Rec.of S),E,G⟩).mono ?_
    · rintro i args V V' r ⟨hi,o,l⟩ ab hb Z
      have d:=p _ i args V V' (by omega) (lt_of_block o) ⟨_,o⟩ r hi hb Z;refine(iS (Tp:=Tp) (B:=w.heap.size) (i:=2 * i+1) (I:=oX I H) (Ix:=fun c k=>Ix c (k / 2)) (Ar:=fun k=>Ar (k / 2)) (fun j=>C (j / 2)) (fun j=>by unfold oX;split;exact U _;exact z _) (fun c j=>s c _) (by omega) o (by rw[ju];exact hi) hb (by rw[show (2 * i+1) / 2=i by omega];exact Z) (ad _ _ _ _ Z) (wpIn_mono d ?_)).mono ?_
      · intro e a1 f h
        cases e <;> first
          | (refine⟨h.1, fun V2 W2 q1 A u L q5 q6 q7 => ?_⟩
             rw[ju] at q1;rw[show (2 * i+1) / 2=i by omega] at u
             exact wpIn_mono (h.2 V2 W2 q1 A u L q5 q6 q7) (fun e a W h=>oA h))
          | exact h.elim
      · rintro e V'' ⟨J,h⟩
        have F:=J.same _ _ (Nat.le_refl _) (by omega) ((hb.block _ (lt_of_block l)).trans l) lR;refine⟨J.from (by omega) (by omega),h.imp (fun h=>⟨h.1,by have:=h.2.1;rw[j1] at this;exact this,h.2.2,F⟩) (fun h=>?_)⟩;obtain⟨M,c,R,T⟩:= h;rw[show (2 * i+1+1) / 2=i+1 by omega] at R;exact⟨M,c,R,T,F⟩
    · rintro e W2 ⟨⟨v,rfl⟩,ab,⟨hi,o,l⟩ | ⟨i,r,c,hi,o,l⟩⟩
      · exact⟨none,_,run_endLoop (P:=Tryz.prog) o (by simp[dh]),q _ _ (Nat.le_refl _) ((World.putObj_heap_other (by omega)).trans l) (U _ _ _ hi (Rec.put o rfl (by omega) _))⟩
      · exact⟨some c,_,run_endLoop (P:=Tryz.prog) o (by simp[dh]),t _ c i _ (Nat.le_refl _) ((World.putObj_heap_other (by omega)).trans l) r (s c _ _ _ hi (Rec.put o rfl (by omega) _))⟩
theorem swalkH{Tp:TypeId->Prop}{g:Nat}{E:aD}{fv z:Value}{f t:List Int}(h:SA w K D g E W n N)(G:N<=100000000)(hf:By w fv f)(o:By w z t)(p:f.length<=1000000000)(q:t.length<=1000000000)(j:∀ b,X b->b=g\/¬ K b)(d:∀ b,X b->∀ cs,¬ Blk w b cs 5)(c:∀ b,X b->b < w.heap.size)(u:¬ Tp 166)(l:¬ Tp 196) :
  Calls Tryz.prog 83 #[.pointer (some ⟨g,0,none⟩),fv,z] w fun e w'=>∃ v EL,e=.returned v/\AJ Tp X w.heap.size w' g EL v/\EL.map En.kl2=E.filter (lX f t)/\Below w.heap.size w w':=by
 obtain⟨F,V,m,Q,S,T,J,hX,rfl,A⟩:=h.open;obtain⟨L,r,hw⟩:=xwmG hX G j d c;have y:=lZ (Tp:=Tp) r hf o p q u l;have c0:=hX.blk.cell (i:=0) rfl;obtain⟨M,R,rfl,-⟩:=id hf.ex;obtain⟨ta,tc,rfl,-⟩:=id o.ex;generalize hfn:f.length=fn at *;generalize htn:t.length=tn at *;have B:=aB hX;have C:=aB r;have H:=aB hw;clear hX r hw h A hf o hfn htn j d c u l;go_enter Tryz.func83,Tryz.ntmps83;go_wp2_with first
  | (go_at_call 42;go_must (refine y.mono ?_);rintro e O ⟨P,rfl,x,I⟩;clear y)
  | (go_at_call 118;go_must (refine mw.mono ?_);rintro e U ⟨rfl,k1,k2,s⟩)
 go_ret;exact⟨_,_,rfl,r8 B.out.blk C.out x I k1 k2 s (Nat.le_refl _),H.out f t,ax x s⟩
end
end Kv
namespace Fo
open Go.RowKit Go.Lib Pg Lim Gl Kv Bk Pw
attribute [local go_sem] Oper.semAt_some
set_option linter.unusedVariables false
set_option linter.unusedSimpArgs false
section
variable {w W0:World}{g:Nat}{v:Value}{a:Act}{l:List Int}{xs:Nat→Nat}{Wn:List aD}
def ArK(cs:List (Int × Int × Int))(i:Nat)(args:Array Value)(_:Nat)(_:World):Prop:=∃ c,cs[i]?=some c/\args=#[.int .u64 c.1,.agg #[.int .u64 c.2.1,.int .u64 c.2.2]]
def oN(E:aD)(id fr la:Int):aD:=E.filter (lX (Ky.nxt (Ky.mk 8 id fr)) (Ky.nxt (Ky.mk 8 id la)))
def dk(E:aD)(id fr la:Int):List (Int × Int × Int):=(oN E id fr la).map (fun x=>(Ky.rdB x.1,cX x.2 0,cX x.2 1))
theorem qq(h:Blk w g [v] 22):(loadVar 22 ⟨g,0,none⟩).run Tryz.prog w=.ok v w:=by
 have:=h.cell (i:=0) rfl;go_simp
theorem CU{c:Code}{Q:Exit->Act->World->Prop}(h:c.wp Tryz.prog (Exit.then (fun a' w'=>Q .normal a' w') (fun _ _ _=>False)) a w):c.wp Tryz.prog Q a w :=
 Code.wp_mono (fun e a' w' h=>by
  cases e<;>first
   | exact h
   | exact h.elim) h
theorem rg_end{Q:Exit->Act->World->Prop}(h:Q .normal a w):Exit.then (fun a' w'=>Q .normal a' w') (fun _ _ _=>False) .normal a w:=h
theorem Eh(h:ByU w v l)(a:l.length<=1000000000):Calls Tryz.prog 82 #[v] w fun e w'=>∃ u,e=.returned u/\By w' u (Ky.nxt l)/\Below w.heap.size w w':=by
 obtain⟨b,d,c,rfl,f⟩:=bya h.byt;refine(Ky.mT h.byt a).mono ?_
 rintro e w' ⟨v,rfl,O,B⟩;exact⟨v,rfl,O.by,B⟩
theorem yS(l:List Int):(Ky.nxt l).length<=l.length:=by
 unfold Ky.nxt;split
 ·simp
 ·rename_i c cs e
  have a:(l.reverse.dropWhile (· == 255)).length<=l.length:=Nat.le_trans (List.IsSuffix.length_le (List.dropWhile_suffix _)) (by rw[List.length_reverse];exact Nat.le_refl _);rw[e] at a;simp at a ⊢;omega
theorem AX{K D X:Nat→Prop}{bs bi v bl x0 N:Nat}{E:aD}{id fr la:Int}(hS:SA W0 K D g E Wn x0 N)(hbs:Blk W0 bs [.pointer (some ⟨g,0,none⟩)] 37)(hbi:Blk W0 bi [.int .u64 id] 22)(hbm:Blk W0 v [.int .u64 fr] 22)(hbl:Blk W0 bl [.int .u64 la] 22)(hXs:¬ X bs)(hXi:¬ X bi)(hXm:¬ X v)(hXb:¬ X bl)(hX1:∀ b,X b→b=g∨¬ K b)(hXl:∀ b,X b→b < W0.heap.size)(hid:0≤id∧id < 18446744073709551616)(hN:N≤100000000)(hx:x0≤2000000000000000000)(hxs:∀ i,i < N→xs i≤3000000000000000000)(hRk:∀ x ∈ oN E id fr la,Ky.frm (8:Nat)=Ky.fIn x.1) :
    DX W0 TpN g x0 xs 81 #[.pointer (some ⟨bi,0,none⟩),.pointer (some ⟨v,0,none⟩),.pointer (some ⟨bl,0,none⟩),.pointer (some ⟨bs,0,none⟩)] (dk E id fr la).length (ArK (dk E id fr la)) (RdS W0 X K D g E Wn N):=by
  intro l J0 J Jt Jx W hNB hW0 hS0 hSJ hSt hSx hgW I hJ hY h0;obtain⟨_,_,⟨c0,u0,xx,s0⟩,_⟩:= I _ h0;have R:=ae W (.cells #[.func (.yield l) #[] #[]] 149);have Y1:=aC W [.func (.yield l) #[] #[]] 149
  have s1:(W.alloc (.cells #[.func (.yield l) #[] #[]] 149)).heap.size=W.heap.size+1:=by simp
  obtain⟨Wa,hWa⟩:∃ Wa,Hid (W.alloc (.cells #[.func (.yield l) #[] #[]] 149)=Wa):=⟨_,rfl⟩;rw[hWa.out] at R Y1 s1;have bsW:=hbs.chg c0 hXs
  have hK0:∀ b,K b→b < W0.heap.size:=fun b hb=>hS.lt hb
  have HX':Hid (∀ b,(X b∨(W0.heap.size≤b∧b < W.heap.size))→b=g∨¬ K b):=aB (fun b hb=>hb.elim (hX1 b) (fun h=>.inr (fun hk=>by have:=hK0 b hk;omega)))
  have HXl:Hid (∀ b,(X b∨(W0.heap.size≤b∧b < W.heap.size))→b < W.heap.size):=aB (fun b hb=>hb.elim (fun h=>Nat.lt_of_lt_of_le (hXl b h) hW0) (fun h=>h.2))
  have HXU:Hid (∀ b,(X b∨(W0.heap.size≤b∧b < W.heap.size))→∀ cs,¬ Blk W b cs 5):=aB (fun b hb=>hb.elim (u0 b) (fun h=>hNB b h.1))
  have S0:(fun p=>Blk p bi [.int .u64 id] 22∧Blk p v [.int .u64 fr] 22∧Blk p bl [.int .u64 la] 22) Wa.drew:=⟨((hbi.chg c0 hXi).keep R).drew,((hbm.chg c0 hXm).keep R).drew,((hbl.chg c0 hXb).keep R).drew⟩;have HY:=aB hY;have HJ:=aB hJ;have HJ0:=aB I;have H0:=aB h0;have HS:=aB s0;have z:=aB c0;have HB1:=aB R;have HY1:=aB Y1;have HBS:=aB bsW;have f:=aB S0;clear I hJ hY h0 s0 c0 R Y1 bsW hNB u0 S0 hbs hbi hbm hbl;refine(callsIn_wide (n:=0)).1 ?_
  refine callsIn_of_wp_marks Tryz.func81 rfl trivial ?_ rfl;simp only[Tryz.ntmps81,List.size_toArray,List.length_cons,List.length_nil,Nat.reduceAdd,Nat.reduceSub,Array.replicate_succ,Array.replicate_zero,List.push_toArray,List.append_toArray,List.nil_append,List.cons_append];gi_wp2_with fail;rw[hWa.out];refine wpIn_wide.2 ?_
  refine CU ?_
  refine bW (S:=fun p=>Blk p bi [.int .u64 id] 22∧Blk p v [.int .u64 fr] 22∧Blk p bl [.int .u64 la] 22) (by kernel_rfl) f.out ?_
  refine aP 0 (some 14) (.int .u64 id) 22 1 bi 0 (by kernel_rfl) (by kernel_rfl) (by kernel_rfl) (fun p h=>qq h.1) (fun _ _ _ h=>h) f.out ?_
  refine aP 1 (some 15) (.int .u64 fr) 22 2 v 0 (by kernel_rfl) (by kernel_rfl) (by kernel_rfl) (fun p h=>qq h.2.1) (fun _ _ _ h=>h) f.out ?_
  refine aP 4 (some 18) (.int .u64 id) 22 1 bi 0 (by kernel_rfl) (by kernel_rfl) (by kernel_rfl) (fun p h=>qq h.1) (fun _ _ _ h=>h) f.out ?_
  refine aP 5 (some 19) (.int .u64 la) 22 3 bl 0 (by kernel_rfl) (by kernel_rfl) (by kernel_rfl) (fun p h=>qq h.2.2) (fun _ _ _ h=>h) f.out ?_
  refine bN 2 (some 16) 65 #[.int .i64 8,.int .u64 id,.int .u64 fr] (by kernel_rfl) (by kernel_rfl) (xa hid (by decide)) ?_
  rintro _ w1 ⟨k1,rfl,U1,T⟩;have T1:=(⟨f.out.1.keep T,f.out.2.1.keep T,f.out.2.2.keep T⟩:Blk w1 bi [.int .u64 id] 22∧Blk w1 v [.int .u64 fr] 22∧Blk w1 bl [.int .u64 la] 22);refine⟨_,rfl,T1,?_⟩;refine bN 3 (some 17) 82 #[k1] (by kernel_rfl) (by kernel_rfl) (Eh U1 (Nat.le_trans (Ky.jX _ _ _) (by decide))) ?_
  rintro _ w2 ⟨f1,rfl,F1,Y⟩;have T2:=(⟨T1.1.keep Y,T1.2.1.keep Y,T1.2.2.keep Y⟩:Blk w2 bi [.int .u64 id] 22∧Blk w2 v [.int .u64 fr] 22∧Blk w2 bl [.int .u64 la] 22);refine⟨_,rfl,T2,?_⟩;refine bN 6 (some 20) 65 #[.int .i64 8,.int .u64 id,.int .u64 la] (by kernel_rfl) (by kernel_rfl) (xa hid (by decide)) ?_
  rintro _ w3 ⟨k2,rfl,U2,O⟩;have T3:=(⟨T2.1.keep O,T2.2.1.keep O,T2.2.2.keep O⟩:Blk w3 bi [.int .u64 id] 22∧Blk w3 v [.int .u64 fr] 22∧Blk w3 bl [.int .u64 la] 22);refine⟨_,rfl,T3,?_⟩;refine bN 7 (some 21) 82 #[k2] (by kernel_rfl) (by kernel_rfl) (Eh U2 (Nat.le_trans (Ky.jX _ _ _) (by decide))) ?_
  rintro _ w4 ⟨f2,rfl,F2,P⟩;have T4:=(⟨T3.1.keep P,T3.2.1.keep P,T3.2.2.keep P⟩:Blk w4 bi [.int .u64 id] 22∧Blk w4 v [.int .u64 fr] 22∧Blk w4 bl [.int .u64 la] 22);refine⟨_,rfl,T4,?_⟩;refine ai 8 (some 6) f1 (by kernel_rfl) (fun _ _=>by kernel_rfl) (fun _ _ _ h=>h) T4 ?_
  refine ai 9 (some 7) f2 (by kernel_rfl) (fun _ _=>by kernel_rfl) (fun _ _ _ h=>h) T4 ?_
  refine bH (by kernel_rfl) (rg_end ?_);simp only[Act.put,List.setIfInBounds_toArray,List.set_cons_zero,List.set_cons_succ];have Q:=ax (ax (ax (ax (ax HB1.out (b8 Wa)) T) Y) O) P
  have F1':=(F1.keep O).keep P;obtain⟨fa,fc,hf1⟩:∃ H c,f1=.slice H (Ky.nxt (Ky.mk 8 id fr)).length c:=by obtain⟨H,c,e,_⟩:= F1.ex;exact⟨H,c,e⟩
  obtain⟨ta,tc,hf2⟩:∃ H c,f2=.slice H (Ky.nxt (Ky.mk 8 id la)).length c:=by obtain⟨H,c,e,_⟩:= F2.ex;exact⟨H,c,e⟩
  have cB:=(HBS.out.keep Q).cell (i:=0) rfl;have tP:=swalkH (Tp:=TpN) (X:=fun b=>X b∨(W0.heap.size≤b∧b < W.heap.size)) (HS.out.keep Q) hN F1' F2 (Nat.le_trans (yS _) (Nat.le_trans (Ky.jX _ _ _) (by decide))) (Nat.le_trans (yS _) (Nat.le_trans (Ky.jX _ _ _) (by decide))) HX'.out (fun b hb cs k=>HXU.out b hb cs ⟨by rw[← Q.block b (HXl.out b hb)];exact k.blk⟩) (fun b hb=>Nat.lt_of_lt_of_le (HXl.out b hb) Q.size) (fun h=>h) (fun h=>h);have o:=aB Q;have M:=aB (ax (ax (ax (ax (b8 Wa) T) Y) O) P);clear T1 T2 T3 T4 U1 U2 F1 F2 F1' T Y O P Q;obtain⟨fn,hfn⟩:∃ n,Hid ((Ky.nxt (Ky.mk 8 id fr)).length=n):=⟨_,rfl⟩;obtain⟨tn,htn⟩:∃ n,Hid ((Ky.nxt (Ky.mk 8 id la)).length=n):=⟨_,rfl⟩;rw[hfn.out] at hf1;rw[htn.out] at hf2;subst hf1 hf2;gi_wp2_with (refine⟨trivial,rfl,?_⟩;gi_at_call 83;refine(callsIn_wide.2 tP).mono ?_;rintro e' y ⟨v5,EL,rfl,IG,j,u⟩);obtain⟨bs1,bs2,bw,W1,rfl,IT,hRd,hb1,m⟩:= IG.ex;have hsm:=IG.small;clear tP IG;have U:=ax o.out u
  have hw1:W.heap.size+1≤w4.heap.size:=by have:=M.out.size;omega
  have hw2:W.heap.size+1≤y.heap.size:=Nat.le_trans hw1 u.size;have YB:=(HY1.out.keep M.out).keep u
  have hlen:(dk E id fr la).length=EL.length:=by simp[dk,oN,← j]
  have hle:EL.length≤N:=by
    have Z:=HS.out.size
    have h2:(EL.map En.kl2).length≤E.length:=by rw[j];exact List.length_filter_le _ _
    rw[List.length_map] at h2;omega
  have ITC:=mD (g:=g) (bs1:=bs1) (bs2:=bs2) (x0:=x0) (xs:=xs) IT (fun h=>h) (by omega) (fun i hi=>hxs i (by omega))
  have HRK:Hid (∀ e ∈ EL,Ky.frm 8=Ky.fIn e.kl):=aB (fun e he=>hRk e.kl2 (by show _ ∈ E.filter _;rw[← j];exact List.mem_map_of_mem he))
  have HCL : Hid (∀ (i : Nat) (e : En), EL[i]? = some e → (dk E id fr la)[i]? = some (Ky.rdB e.kl, cX e.vl 0, cX e.vl 1)) := aB (fun i e he => by
    have Z:dk E id fr la=(EL.map En.kl2).map (fun x=>(Ky.rdB x.1,cX x.2 0,cX x.2 1)):=by rw[j];rfl
    rw[Z,List.getElem?_map,List.getElem?_map,he]
    rfl)
  have J2:=hS0 _ _ H0.out (Rec.of U)
  have E2:Ext W.heap.size y y:=⟨fun _ _ _=>rfl,Nat.le_refl _⟩
  have RDC : Hid (∀ V, RdS W0 X K D g E Wn N V → Ext W.heap.size y V → RdC (fun b => X b ∨ (W0.heap.size ≤ b ∧ b < W.heap.size)) W1 g bs1 bs2 bw V) := aB (fun V hR hE => by
    obtain⟨c1,_,x,s1⟩:= hR;obtain⟨r1,r2,r3,_⟩:= hRd;refine⟨⟨?_,?_,?_,Nat.le_trans r1.size hE.2,fun b hb hn=>?_⟩,hE.blk r2 (by omega),hE.blk r3 (by omega),s1.kv⟩
    · rw[c1.os,← z.out.os,← U.os,r1.os]
    · rw[c1.tape,← z.out.tape,← U.tape,r1.tape]
    · rw[c1.output,← z.out.output,← U.output,r1.output]
    · rw[← r1.same b hb hn]
      rw[not_or] at hn;rcases Nat.lt_or_ge b W0.heap.size with Z | Z
      · rw[c1.same b Z hn.1,U.block b (by omega),z.out.same b Z hn.1]
      · exact hE.1 b (by omega) (Nat.lt_of_lt_of_le hb r1.size))
  have HEL:=aB j;have HSM:=aB hsm;have HYB:=aB YB;clear j hsm YB u hRd cB IT U HB1 HY1 o M;refine kz ITC (by rfl) (enters_of Tryz.func169 (by kernel_rfl) rfl) (fun i args n V V' h hc=>h.cel hc) (fun i args n V h=>by obtain⟨e,kv,vv,s,_,rfl,_⟩:= h;rfl)
    (fun V=>J0 V∧Ext W.heap.size y V)
    (fun i V=>J i V∧Ext W.heap.size y V)
    (fun i V=>Jt i V∧Ext W.heap.size y V)
    (fun c i V=>c=.ret∧Jx i V∧y.heap.size≤V.heap.size)
    (fun A B hx t=>⟨hS0 A B hx.1 (t.mono (by omega)),hx.2.rcd t⟩)
    (fun i A B hx t=>⟨hSJ i A B hx.1 (t.mono (by omega)),hx.2.rcd t⟩)
    (fun i A B hx t=>⟨hSt i A B hx.1 (t.mono (by omega)),hx.2.rcd t⟩)
    (fun c i A B hx t=>⟨hx.1,hSx i A B hx.2.1 (t.mono (by omega)),Nat.le_trans hx.2.2 t.size⟩)
    (by omega)
    (fun V hv=>by obtain⟨q1,q2,q3,q4⟩:= HJ0.out V hv.1;exact⟨q1,q2,RDC.out V q3 hv.2,q4,hv.2.tick hgW⟩)
    (fun i V hv=>by obtain⟨q1,q2,q3,q4⟩:= HJ.out i V hv.1;exact⟨q1,q2,RDC.out V q3 hv.2,fun hi=>⟨q4 (by omega),hv.2.tick hgW⟩⟩)
    ⟨J2,E2⟩ ?_ ?_ ?_
  · rintro l2 i args V Wv hl hlV hrec hiN ⟨hJi,hExt⟩ hb ⟨e0,kv,vv,s0,F,rfl,hk0,hv0,_⟩
    obtain⟨ak0,nk,hk1⟩:= hk0.shape;obtain⟨av,nv,hv1⟩:= hv0.shape;subst hk1 hv1;simp;gi_wp2;refine⟨Below.refl _ _,?_⟩;intro V2 W2 hJ2 d m hAr2 hoth hsz3 hV2 rl hrec2;obtain⟨e1,kv1,vv1,t1,L,G,q,hv2,ht1⟩:= hAr2;obtain rfl:e1=e0:=by rw[F] at L;cases L;rfl
    simp at G;obtain⟨rfl,rfl⟩:= G;have C:=List.mem_of_getElem? F;have tA:=Ky.xZ q.by (HSM.out e1 C).1 (r:=8) (by decide) (by decide) (HRK.out e1 C)
    have hN2:=aB (fun w3 (u:Below W2.heap.size W2 w3)=>cut_rd (ByU.of (hv2.keep u)) (HSM.out e1 C).2);have yB:=d.blk HYB.out (Nat.le_refl _);have HE2:=aB d;have HJT:=aB hJ2;have o:=aB m
    have hs2:y.heap.size≤V2.heap.size:=d.2
    have hs3:V2.heap.size≤W2.heap.size:=m.size;have HYV:=aB (yB.keep m)
    have HAr:Hid ((dk E id fr la)[i]?=some (Ky.rdB e1.kl,cX e1.vl 0,cX e1.vl 1)):=aB (HCL.out i e1 F);clear hJi hExt hb hk0 hv0 q hv2 hoth d hJ2 m yB L F ht1 C;obtain⟨cc,hcc⟩:∃ cc,Hid (Ky.rdA 8 e1.kl=cc):=⟨_,rfl⟩;obtain⟨ss,hss⟩:∃ ss,Hid (Ky.rdB e1.kl=ss):=⟨_,rfl⟩;obtain⟨na,hna⟩:∃ nn,Hid (cX e1.vl 0=nn):=⟨_,rfl⟩;obtain⟨nb,hnb⟩:∃ nn,Hid (cX e1.vl 1=nn):=⟨_,rfl⟩;obtain⟨oo,hoo⟩:∃ oo,Hid (Rc.iJ (Rc.kO e1.vl)=oo):=⟨_,rfl⟩;simp only[hcc.out,hss.out] at tA;simp only[hss.out,hna.out,hnb.out] at HAr;have HY2:=aB (HY.out i #[.int .u64 ss,.agg #[.int .u64 na,.int .u64 nb]] V2);gi_wp2_with first
      | (refine⟨trivial,rfl,?_⟩;gi_at_call 84;refine(CallsIn.inRound l2 (callsIn_wide.2 tA)).mono ?_;rintro e' w6 ⟨rfl,u⟩;clear tA;have B4:=ae w6 (.cells #[.int .i64 (8:Int),.int .u64 cc,.int .u64 ss] 151);have k4:=aC w6 [.int .i64 (8:Int),.int .u64 cc,.int .u64 ss] 151;have tN:=hN2.out _ (ax u B4);rw[hna.out,hnb.out,hoo.out] at tN)
      | (refine⟨trivial,rfl,?_⟩;gi_at_call 85;refine(CallsIn.inRound l2 (callsIn_wide.2 tN)).mono ?_;rintro e' w8 ⟨rfl,B5⟩;clear tN;have B7:=ae w8 (.cells #[.int .u64 na,.int .u64 nb] 111);have B6:=ax (ax (ax u B4) B5) B7;have kC:=((k4.keep B5).keep B7).cell (i:=2) rfl;have yC:=(HYV.out.keep B6).cell (i:=0) rfl;have hYY:=HY2.out _ (by omega) HJT.out (by omega) (ax o.out B6) ⟨_,HAr.out,rfl⟩;obtain⟨fn,tmps,assign,body,hy,hR⟩:= hYY;have hR2:RoundIn (Fence.wide.inRound l2) 0 Tryz.prog l fn tmps assign body (w8.alloc (.cells #[.int .u64 na,.int .u64 nb] 111)) _:=⟨hR.1,fun c cs _=>hR.2 c cs (fun _ h=>by cases h)⟩;have HR:=aB hR2;have HK:=aB B6;clear hR hR2 u B4 B5 B6 B7 k4)
    refine⟨rfl,HR.out.mono ?_⟩;rintro e' w9 ⟨hk5,h5⟩
    have hkk:bB TpN W.heap.size W2 w9:=(bB.of HK.out).trans hk5;have hE5:=(HE2.out.keep o.out).keepsT hkk
    have q:bB TpN y.heap.size W2 w9:=hkk.mono (by omega);rcases h5 with⟨rfl,hJ5⟩ | ⟨rfl,hJ5⟩
    · gi_wp2
      exact⟨q,hJ5,hE5⟩
    · gi_wp2
      exact⟨q,rfl,hJ5,hE5.2⟩
  · rintro D' W' hD hK ⟨hJn,hE⟩
    gi_wp2;refine⟨by simp,.inl ⟨_,_,rfl,run_takeDeferred hK,?_⟩⟩;have:=hE.2;exact⟨_,results_none rfl _ _ _,⟨_,rfl⟩,by simp;omega,.inl (by rw[hlen];exact hSJ _ _ _ hJn (Rec.put hK rfl (by omega) _))⟩
  · rintro D' c i W' hD hK hiN ⟨rfl,hJx',hsz⟩
    gi_wp2;refine⟨by simp,.inl ⟨_,_,rfl,run_takeDeferred hK,?_⟩⟩;exact⟨_,results_none rfl _ _ _,⟨_,rfl⟩,by simp;omega,.inr ⟨i,by omega,hSx (i+1) _ _ hJx' (Rec.put hK rfl (by omega) _)⟩⟩
end
end Fo
end
section
namespace Fo
open Go.RowKit Go.Lib Pg Lim Gl Kv Bk Pw
attribute [local go_sem] Oper.semAt_some
set_option linter.unusedVariables false
set_option linter.unusedSimpArgs false
section
variable {w:World}{k a:Int}
theorem und_k(c:0<=a/\a < 18446744073709551616)(b:16 < (Ky.frm k).1):Calls Tryz.prog 120 #[.int .i64 k,.int .u64 a] w fun e w'=>∃ v,e=.returned (.tuple #[v,.int .i64 0])/\By w' v (Ky.mkb (Ky.frm k) (Ky.tn k a))/\Below w.heap.size w w':=by
 have u:=Ky.vY (w:=w) (k:=k) c.1 c.2;rw[if_pos b,if_pos b] at u;refine u.mono ?_
 rintro e w' ⟨v,rfl,O,B⟩;exact⟨v,rfl,O.by,B⟩
theorem zL(d:0<=a/\a < 18446744073709551616)(f:16 < (Ky.frm k).1):Calls Tryz.prog 74 #[.int .i64 k,.int .u64 a] w fun e w'=>∃ v,e=.returned v/\By w' v (Ky.mkb (Ky.frm k) (Ky.tn k a))/\Below w.heap.size w w':=by
 have b:=Below.refl w.heap.size w;refine aM (n:=14) Tryz.func74 rfl (by kernel_rfl) (by kernel_rfl) ?_
 refine aj (aA (t 4 (.slice none 0 0) ?_));refine ay (ah (aj (aA (t 8 (.int .i64 k) ?_))));refine t 9 (.int .u64 a) ?_
 refine tc 10 120 #[.int .i64 k,.int .u64 a] (und_k d f) ?_
 rintro _ v1 ⟨v,rfl,c,B⟩;refine⟨_,rfl,?_⟩;replace b:=ax b B;clear B;refine t 7 (.tuple #[v,.int .i64 0]) ?_
 refine t 11 (v) ?_
 refine t 12 (.int .i64 0) ?_
 refine t 5 (v) ?_
 refine t 6 (.int .i64 0) ?_
 refine ay (ah (aj (aA (t 13 (v) ?_))));refine t 4 (v) ?_
 refine ay (ah (aT [(4,v)] (by kernel_rfl) ?_));refine aO (aQ (v) (rs1 4 (by kernel_rfl) (by kernel_rfl)) ?_);exact⟨_,rfl,c,b⟩
def gZ(E:aD)(k a:Int):Nat:=(E.filter (fun x=>decide (Ky.mkb (Ky.frm k) (Ky.tn k a) <+: x.1))).length
structure kE(Wb:World)(t:Nat)(K D:Nat->Prop)(g:Nat)(E:aD)(Wn:List aD)(N x i:Nat)(V:World):Prop where
 chg:Chg (fun b=>b=g\/b=t) Wb V
 sa:SA V K D g E Wn x N
 out:Blk V t [.int .i64 (i:Int)] 3
end
section
variable {Wb V V':World} {t g x i N:Nat} {K D:Nat->Prop} {E:aD} {Wn:List aD}
theorem rK {B:Nat} (h:SA V K D g E Wn x N) (a:Rec B V V'):SA V' K D g E Wn x N :=
 h.same (fun b d=>by obtain⟨cs,t,k,_⟩:=h.kind b d;exact(a.same b _ k.blk (.inr rfl)).trans k.blk.symm) (fun b _ _ c=>by obtain⟨cs,k⟩:=c;exact(a.same b _ k.blk (.inr rfl)).trans k.blk.symm)
theorem kE.rcd (h:kE Wb t K D g E Wn N x i V) (hr:Rec Wb.heap.size V V'):kE Wb t K D g E Wn N x i V':=⟨jE h.chg hr (Nat.le_refl _),rK h.sa hr,eH h.out hr⟩
theorem kE.ne (h:kE Wb t K D g E Wn N x i V):t≠g:=fun e=>by
 obtain⟨cs,k⟩:=h.sa.kv;subst e;exact absurd (h.out.eq k).2 (by decide)
theorem kE.tick (h:kE Wb t K D g E Wn N x i V):kE Wb t K D g E Wn N (x+1) i (tick g V x) :=
 ⟨h.chg.trans (dW g x V) (fun b _ e=>.inl e),h.sa.tick,h.out.chg (dW g x V) h.ne⟩
end
section
variable {w:World}{K:Nat->Prop}{D:Nat→Prop}{g N:Nat}{E:aD}{Wn W:List aD}{k a:Int}
theorem xh{K:Nat→Prop}{x0:Nat}(hS:SA w K D g E Wn x0 N)(ha:0≤a∧a < 18446744073709551616)(C:16 < (Ky.frm k).1)(hN:N≤100000000)(hx:x0+N≤2000000000000000000) :
    Calls Tryz.prog 40 #[pg g,.int .i64 k,.int .u64 a] w fun e w'=>∃ j,e=.returned (.int .i64 ((j:Nat):Int))∧j=gZ E k a∧SA w' K D g E Wn (x0+1+j) N∧Chg (·=g) w w':=by
  have hglt:g < w.heap.size:=hS.lt hS.top;have W:=ae w (.cells #[.int .i64 0] 3);have t:=aC w [.int .i64 0] 3;obtain⟨Wa,m⟩:∃ Wa,Hid (w.alloc (.cells #[.int .i64 0] 3)=Wa):=⟨_,rfl⟩
  have zA:Wa.heap.size=w.heap.size+1:=by rw[← m.out];simp
  rw[m.out] at W t;have v:=hS.keep W;have HS:=aB hS;have HB:=aB W;have HT:=aB t;have HSB:=aB v;clear hS W t v;refine(callsIn_wide (n:=0)).1 ?_
  refine callsIn_of_wp_marks Tryz.func40 rfl trivial ?_ rfl;simp only[Tryz.ntmps40,List.size_toArray,List.length_cons,List.length_nil,Nat.reduceAdd,Nat.reduceSub,Array.replicate_succ,Array.replicate_zero,List.push_toArray,List.append_toArray,List.nil_append,List.cons_append];gi_wp2_with (refine⟨trivial,rfl,?_⟩;gi_at_call 74;rw[m.out];refine(callsIn_wide.2 (zL ha C)).mono ?_;rintro U w1 ⟨u,rfl,U1,M⟩);have Y:=HSB.out.keep M;have t:=HT.out.keep M;have zB1:=M.size
  have P:∀ b,K b→b < w.heap.size:=fun b hb=>HS.out.lt hb
  have hgt:w.heap.size≠g:=by omega
  have up := rN (Tp := fun _ => False) (X := fun b => b = g ∨ b = w.heap.size) Y hN U1 (Nat.le_trans (Ky.lC _ _) (by decide)) (fun b hb => hb.elim .inl (fun e => .inr (fun C => by have := P b C; omega))) (fun b hb cs q => by
    rcases hb with rfl | rfl
    · obtain⟨I,L⟩:= Y.kv
      exact absurd (q.eq L).2 (by decide)
    · exact absurd (q.eq t).2 (by decide)) (fun b hb=>by rcases hb with h | h <;> omega) (fun h=>h) (fun h=>h)
  have HS1:=aB Y;have HT1:=aB t;have HB1:=aB M;have HU:=aB up;clear up Y t M U1;gi_wp2_with (refine⟨trivial,rfl,?_⟩;gi_at_call 73;refine(callsIn_wide.2 HU.out).mono ?_;rintro U z ⟨pv,EL,rfl,IG,hEL,H⟩);obtain⟨bs1,bs2,bw,W1,rfl,IT,d,hb1,f⟩:= IG.ex
  have S:EL.length=gZ E k a:=by have:=congrArg List.length hEL;rw[List.length_map] at this;exact this
  have hlN:EL.length≤N:=by rw[S];exact Nat.le_trans (List.length_filter_le _ _) HS.out.size
  have v:=HS1.out.keep H;have TB:=HT1.out.keep H;have zB2:=H.size
  have n1:bs1≠g:=fun e=>by obtain⟨I,L⟩:= v.kv;subst e;exact absurd (d.2.1.eq L).2 (by decide)
  have n2:bs2≠g:=fun e=>by obtain⟨I,L⟩:= v.kv;subst e;exact absurd (d.2.2.1.eq L).2 (by decide)
  have RD : ∀ V x i, kE z w.heap.size K D g E Wn N x i V → V.cell? ⟨g, 2, none⟩ = some (.int .i64 (x : Int)) ∧ V.frozen? ⟨g, 2, none⟩ = false ∧ RdC (fun b => b = g ∨ b = w.heap.size) W1 g bs1 bs2 bw V := fun V x i h => by
    have q:=h.sa.cnt;exact⟨q.1,q.2,d.1.trans h.chg (fun _ _ e=>e),d.2.1.chg h.chg (fun e=>e.elim n1 (fun e=>by omega)),d.2.2.1.chg h.chg (fun e=>e.elim n2 (fun e=>by omega)),h.sa.kv⟩
  have I0:kE z w.heap.size K D g E Wn N x0 0 z:=⟨Chg.refl _ _,v,TB⟩;have HI:=aB I0;have HB2:=aB H;have HIT:=aB (mD (g:=g) (bs1:=bs1) (bs2:=bs2) (x0:=x0) (xs:=fun i=>x0+1+i) IT (fun h=>h) (by omega) (fun i hi=>by show x0+1+i≤_;omega));clear I0 v TB H IT IG d;gi_wp2;refine kz HIT.out (by rfl) (enters_of Tryz.func169 (by kernel_rfl) rfl) (fun i args n V V' h hc=>h.cel hc) (fun i args n V h=>by obtain⟨e,kv,vv,s,_,rfl,_⟩:= h;rfl)
    (fun V=>kE z w.heap.size K D g E Wn N x0 0 V)
    (fun i V=>kE z w.heap.size K D g E Wn N (x0+1+i) i V)
    (fun i V=>kE z w.heap.size K D g E Wn N (x0+1+i+1) i V)
    (fun c i V=>False)
    (fun A B hx G=>hx.rcd G) (fun i A B hx G=>hx.rcd G) (fun i A B hx G=>hx.rcd G) (fun c i A B hx G=>hx) (by omega)
    (fun V hv=>by obtain⟨q1,q2,q3⟩:= RD V _ _ hv;exact⟨q1,q2,q3,hv.tick⟩)
    (fun i V hv=>by obtain⟨q1,q2,q3⟩:= RD V _ _ hv;exact⟨q1,q2,q3,fun _=>hv.tick⟩)
    HI.out ?_ ?_ ?_
  · rintro l2 i args V Wv hl hlV hrec hiN J hb ⟨e0,kv,vv,s0,he0,rfl,hk0,hv0,_⟩
    simp;gi_wp2;refine⟨Below.refl _ _,?_⟩;intro V2 W2 l f R T hsz3 hV2 r hrec2;have Z:=l.out.keep f;have c0:=Z.cell (i:=0) rfl;have f0:=Z.free 0;have y:=aB l;have hws:=l.chg.size;have z2:=f.size
    have HC:Chg (·=w.heap.size) W2 (W2.setCell ⟨w.heap.size,0,none⟩ (.int .i64 ((i:Int)+1))):=(Chg.refl (fun x=>x=w.heap.size) W2).cell (.inl (by rfl)) _;have S6:=Z.setCell (i:=0) (.int .i64 ((i:Int)+1));have p:=aB f;have hcc:=aB HC;have hs6:=aB S6;clear J hb T l R f HC S6 Z hk0 hv0;gi_wp2;have hs:=hcc.out;refine⟨⟨hs.size,fun k o C h0 _=>(hs.same k (lt_of_block h0) (by omega)).trans h0⟩,?_,?_,?_⟩
    · exact(y.out.chg.trans (Chg.of (F:=fun _=>False) p.out) (fun _ _ h=>h.elim)).trans hs (fun b _ h=>.inr h)
    · rw[show x0+1+(i+1)=x0+1+i+1 by omega]
      exact(y.out.sa.keep p.out).chg hs (fun b e C => by have U : b = w.heap.size := e; have := P b C; omega) (fun b e cs kk => by
        have U:b=w.heap.size:=e;subst U
        exact absurd (kk.eq (y.out.out.keep p.out)).2 (by decide))
    · have q:=hs6.out
      rw[show ((i+1:Nat):Int)=(i:Int)+1 by omega];exact q
  · rintro D' W' hD hK J
    have h1c:=J.out.cell (i:=0) rfl;have R3:=Rec.put hK rfl hD (.deferred none);have O:=J.rcd R3;have Q:=aB O;have HD:=aB hD;clear O J;gi_wp2;refine⟨by simp,.inl ⟨_,_,rfl,run_takeDeferred hK,?_⟩⟩;refine⟨_,results_tmp rfl _ _ _,gZ E k a,rfl,rfl,by have q:=Q.out.sa;rw[S] at q;exact q,?_⟩;have q1:=ax (ax HB.out HB1.out) HB2.out;exact(Chg.of (F:=(·=g)) q1).trans Q.out.chg (fun b hl e=>e.elim id (fun e=>by omega))
  · rintro D' c i W' hD hK hi h
    exact h.elim
theorem qW{B:Nat}{n:Nat}(h:Sx B w K g E W n N)(d:0<=a/\a < 18446744073709551616)(b:16 < (Ky.frm k).1)(c:N<=100000000)(hn:n + N<=2000000000000000000):Calls Tryz.prog 40 #[pg g,.int .i64 k,.int .u64 a] w fun e w'=>e=.returned (.int .i64 ((gZ E k a:Nat):Int))/\Sx B w' K g E W (n + 1 + gZ E k a) N/\gZ E k a<=N/\Chg (· = g) w w':=by
 refine(xh h.sa d b c hn).mono ?_
 rintro e w' ⟨j,rfl,rfl,S,C⟩;exact⟨rfl,⟨S,Nat.le_trans h.lo C.size,h.kb⟩,Nat.le_trans (List.length_filter_le _ _) h.sa.size,C⟩
end
end Fo
end
section
namespace Fo
open Go.RowKit Go.Lib Pg Lim Gl Kv Bk Pw
attribute [local go_sem] Oper.semAt_some
set_option linter.unusedVariables false
set_option linter.unusedSimpArgs false
theorem KK:Kd Tryz.prog 135 96 1 24 (.slice none 0 0):=⟨by kernel_rfl,by kernel_rfl,rfl,by simp[Value.cells,Value.oneCell'],by decide⟩
structure KA (w:World) (B:Nat) (v:Value) (ks:List (Value × List Int)):Prop where
 ex:(v=.slice none 0 0/\ks=[])\/∃ b c,v=.slice (some ⟨b,0,none⟩) ks.length c/\B<=b/\Rw w 96 1 b ks.length c (ks.map (·.1))
 obs:∀ p∈ks,OB w (B <= ·) p.1 p.2
section
variable {w w':World} {B g x:Nat} {v:Value} {ks:List (Value × List Int)}
theorem KA.shape (h:KA w B v ks):∃ ao c,v=.slice ao ks.length c:=by
 rcases h.ex with⟨rfl,rfl⟩ | ⟨b,c,rfl,_⟩
 ·exact⟨none,0,rfl⟩
 ·exact⟨_,c,rfl⟩
theorem KA.nil (w:World) (B:Nat):KA w B (.slice none 0 0) []:=⟨.inl ⟨rfl,rfl⟩,fun _ h=>by cases h⟩
theorem KA.keep (h:KA w B v ks) (hb:Below w.heap.size w w'):KA w' B v ks:=⟨h.ex.imp id (fun⟨b,c,e,hl,hR⟩=>⟨b,c,e,hl,hR.keep hb⟩),fun p hp=>(h.obs p hp).keep hb⟩
theorem KA.rcd {C:Nat} (h:KA w B v ks) (hr:Rec C w w'):KA w' B v ks:=⟨h.ex.imp id (fun⟨b,c,e,hl,hR⟩=>⟨b,c,e,hl,Kv.Rw.rcd hR hr⟩),fun p hp=>Kv.OB.rcd (h.obs p hp) hr⟩
theorem KA.chg {F:Nat->Prop} (h:KA w B v ks) (hc:Chg F w w') (hF:∀ b,F b->b < B/\∀ cs,¬ Blk w b cs 5):KA w' B v ks :=
 ⟨h.ex.imp id (fun⟨b,c,e,a,d⟩=>⟨b,c,e,a,d.chg hc (fun hf=>by have:=(hF b hf).1;omega)⟩),fun p f=>(h.obs p f).chg hc (fun b hb cs=>(hF b hb).2 cs)⟩
theorem app_k {p:Value × List Int} {a:Addr} (h:KA w B v ks) (C:B<=w.heap.size) (G:ks.length<=2000000000) (o:OB w (B <= ·) p.1 p.2) (c0:w.cell? (a.add 0)=some p.1) :
  ∃ v' w',(Builtin.append_ #[135,135] 135 #[v,.slice (some a) 1 1]).run Tryz.prog w=.ok v' w'/\KA w' B v' (ks ++ [p])/\Chg (fun b=>B<=b/\∃ cs,Blk w b cs 96) w w':=by
 have d:∀ j u,[p.1][j]? = some u->w.cell? (a.add j)=some u:=fun j u r=>by
  match j with
  | 0=>simp at r;rw[<- r];exact c0
  | k+1=>simp at r
 have g:∀ b,(B<=b/\∃ cs,Blk w b cs 96)->∀ cs,¬ Blk w b cs 5:=fun b hb cs k=>by
  obtain⟨_,A,D⟩:=hb;exact absurd (k.eq D).2 (by decide)
 rcases h.ex with⟨rfl,rfl⟩ | ⟨b,c,rfl,hb,l⟩
 ·obtain⟨t,w',s,l,hw⟩:=e9 (w:=w) KK 135 a 1 1 [p.1] rfl d (by omega) (by omega) (by omega);refine⟨_,w',s,⟨.inr ⟨_,t,rfl,C,by simpa using l⟩,fun q i=>?_⟩,Chg.of hw⟩;simp at i;subst i;exact o.keep hw
 ·obtain⟨E,t,w',s,n,x,hC⟩:=dB KK 135 l a 1 1 [p.1] rfl d (fun u hu=>by simp at hu;subst hu;obtain⟨F,H,e⟩:=o.shape;rw[e];rfl) (by omega) (by omega)
  have f:Chg (fun b=>B<=b/\∃ cs,Blk w b cs 96) w w':=hC.mono (fun y _ e=>by have z:y=b:=e;subst z;exact⟨hb,l.kind⟩);refine⟨_,w',s,⟨.inr ⟨E,t,by simp,by rcases n with rfl | rfl<;>omega,by simpa using x⟩,fun q i=>?_⟩,f⟩;rcases List.mem_append.1 i with m | m
  ·exact(h.obs q m).chg f g
  ·simp at m;subst m;exact o.chg f g
end
section
variable {ops:Array Oper}{rest:List Oper}{pos:String}
def TpK(t:TypeId):Prop:=t=96
theorem yW{F:Fence}{n:Nat}{Q:Exit->Act->World->Prop}{after:Array Edge}{a:Act}{w w':World}{u v r:Value}(hF:∀ f,F.fn f)(hu:a.eval (.tmp 17)=u)(hv:a.eval (.tmp 19)=v)(b:(Builtin.append_ #[135,135] 135 #[u,v]).run Tryz.prog w=.ok r w')(h:wpListIn F n Tryz.prog ops Q rest (a.put (some 20) r) w') :
  wpListIn F n Tryz.prog ops Q ({ dst:=some 20,op:=.call { callee:=.builtin .append,args:=#[.tmp 17,.tmp 19],argTypes:=#[135,135] },type:=135,pos:=pos,after:=after,guard:=none } :: rest) a w :=
 Ky.jD rfl hF (Oper.semAt_eq _ _ _ (fun c h=>by cases h)) (Ky.iq (x:=17) (y:=19) rfl rfl hu hv b) h
structure RmI(Wb:World)(t:Nat)(K D:Nat->Prop)(g:Nat)(E:aD)(Wn:List aD)(N x:Nat)(L:List (List Int))(V:World):Prop where
 chg:Chg (fun b=>b=g\/b=t) Wb V
 sa:SA V K D g E Wn x N
 out:∃ v ks,Blk V t [v] 135/\KA V Wb.heap.size v ks/\ks.map (·.2)=L
end
section
variable {Wb V V':World} {t g x N:Nat} {K D:Nat->Prop} {E:aD} {Wn:List aD} {L:List (List Int)}
theorem RmI.rcd (h:RmI Wb t K D g E Wn N x L V) (a:Rec Wb.heap.size V V'):RmI Wb t K D g E Wn N x L V':=by
 obtain⟨v,b,c,d,e⟩:=h.out;exact⟨jE h.chg a (Nat.le_refl _),rK h.sa a,v,b,eH c a,d.rcd a,e⟩
theorem RmI.tick (h:RmI Wb t K D g E Wn N x L V) (j:g < Wb.heap.size):RmI Wb t K D g E Wn N (x+1) L (tick g V x):=by
 obtain⟨v,d,c,m,n⟩:=h.out;have hc:=dW g x V
 have a:t≠g:=fun e=>by
  obtain⟨cs,k⟩:=h.sa.kv;subst e;exact absurd (c.eq k).2 (by decide)
 refine⟨h.chg.trans hc (fun b _ e=>.inl e),h.sa.tick,v,d,c.chg hc a,m.chg hc (fun b e=>?_),n⟩
 have f:b=g:=e;subst f;refine⟨j,fun cs q=>?_⟩;obtain⟨l,i⟩:=h.sa.kv;exact absurd (q.eq i).2 (by decide)
end
section
variable {n B g N:Nat}{R:Ending->World->Prop}{w:World}{ρ:Operand->Value}{o:Oper}{v:Value}{ao:Option Addr}{K:Nat->Prop}{E:aD}{Wn W:List aD}{id:Int}
def l7(E:aD)(k a:Int):List (List Int):=(E.filter (fun x=>decide (Ky.mkb (Ky.frm k) (Ky.tn k a) <+: x.1))).map (·.1)
def nM(E:aD)(k a:Int):aD:=(l7 E k a).foldl Kv.rem E
theorem Di{l:Fr}{P:Program}{fn:Func}{D:Nat}(d:fn.results=#[])(b:w.heap[D]? = some (.deferred (some [])))(c:R (.returned (.tuple #[])) (w.putObj D (.deferred none))):GE n [{ target:=.collected D,args:=#[] }] (bodyPostM Fence.wide 0 P fn R) .normal l w:=⟨fun a r=>by
 obtain⟨tmps,dfs⟩:=a
 have e:dfs=[{ target:=.collected D,args:=#[] }]:=r.dfs;subst e;refine⟨by simp,.inl ⟨_,_,rfl,run_takeDeferred b,?_⟩⟩
 exact⟨_,by simp[results,d],c⟩⟩
theorem Ds{b off:Nat}(hc:w.cell? ⟨b,off,none⟩=some v)(a:∃ p,o.op=.load 96 p/\ρ p=.pointer (some ⟨b,off,none⟩):=by exact⟨_,rfl,by kernel_rfl⟩):(execOp ρ o).run Tryz.prog w=.ok (.value v) w:=by
 obtain⟨p,h,c⟩:=a;have:=Kv.oG hc;simp only[execOp,h,c];simp[Instr.loadAt,Instr.sureAddr,Result.andThen,this]
theorem Cn{P:Program}(a b off n c k:Nat)(f:k < n)(d:0 < n->ao=some ⟨b,off,none⟩)(e:∃ T x y,o.op=.indexAddr T x y/\slT P T a=true/\ρ x=.slice ao n c/\ρ y=.int .i64 (k:Int):=by exact⟨_,_,_,rfl,by kernel_rfl,by kernel_rfl,by kernel_rfl⟩):(execOp ρ o).run P w=.ok (.value (.pointer (some ⟨b,off+k * a,none⟩))) w:=by
 rw[d (by omega)] at e;exact vh a b off n c k f e
theorem rn{K:Nat→Prop}{x0:Nat}{k a:Int}(h:Sx B w K g E Wn x0 N)(ha:0≤a∧a < 18446744073709551616)(M:16 < (Ky.frm k).1)(hN:N≤30000000)(hx:x0+N≤2000000000000000000) :
    Calls Tryz.prog 41 #[pg g,.int .i64 k,.int .u64 a] w fun e w'=>∃ K' n' N',e=.returned (.tuple #[])∧Sx B w' K' g (nM E k a) Wn n' N'∧n'≤x0+1+2 * N∧N'≤3 * N∧(∀ b,K' b→K b∨w.heap.size≤b)∧Chg K w w':=by
  obtain⟨D,hD0⟩:∃ D:Nat→Prop,D=(B≤·):=⟨_,rfl⟩
  have hS:SA w K D g E Wn x0 N:=by rw[hD0];exact h.sa
  have hlo:=h.lo;have hkb:=h.kb;clear h
  have hglt:g < w.heap.size:=hS.lt hS.top;have A1:=ae w (.cells #[.slice none 0 0] 135);have T1:=aC w [.slice none 0 0] 135;obtain⟨Wa,hWa⟩:∃ Wa,Hid (w.alloc (.cells #[.slice none 0 0] 135)=Wa):=⟨_,rfl⟩
  have zA:Wa.heap.size=w.heap.size+1:=by rw[← hWa.out];simp
  rw[hWa.out] at A1 T1;have SB:=hS.keep A1;have HS:=aB hS;have HB:=aB A1;have HT:=aB T1;have HSB:=aB SB;clear hS A1 T1 SB;refine(callsIn_wide (n:=0)).1 ?_
  refine callsIn_of_wp_marks Tryz.func41 rfl trivial ?_ rfl;simp only[Tryz.ntmps41,List.size_toArray,List.length_cons,List.length_nil,Nat.reduceAdd,Nat.reduceSub,Array.replicate_succ,Array.replicate_zero,List.push_toArray,List.append_toArray,List.nil_append,List.cons_append];gi_wp2_with (refine⟨trivial,rfl,?_⟩;gi_at_call 74;rw[hWa.out];refine(callsIn_wide.2 (zL ha M)).mono ?_;rintro e' w1 ⟨u,rfl,U1,B1⟩);have S1:=HSB.out.keep B1;have T1:=HT.out.keep B1;have zB1:=B1.size
  have H:∀ b,K b→b < w.heap.size:=fun b hb=>HS.out.lt hb
  have up := rN (Tp := TpK) (X := fun b => b = g ∨ b = w.heap.size) S1 (by omega) U1 (Nat.le_trans (Ky.lC _ _) (by decide)) (fun b hb => hb.elim .inl (fun e => .inr (fun M => by have := H b M; omega))) (fun b hb cs q => by
    rcases hb with rfl | rfl
    · obtain⟨cs',k'⟩:= S1.kv
      exact absurd (q.eq k').2 (by decide)
    · exact absurd (q.eq T1).2 (by decide)) (fun b hb=>by rcases hb with h | h <;> omega) (by unfold TpK;decide) (by unfold TpK;decide)
  have HS1:=aB S1;have HT1:=aB T1;have HB1:=aB B1;have HU:=aB up;clear up S1 T1 B1 U1;gi_wp2_with (refine⟨trivial,rfl,?_⟩;gi_at_call 73;refine(callsIn_wide.2 HU.out).mono ?_;rintro e' J ⟨pv,O,rfl,IG,hEL,B2⟩);obtain⟨bs1,bs2,bw,W1,rfl,IT,C,hb1,m⟩:= IG.ex
  have hlE:Hid (O.length=gZ E k a):=by have:=congrArg List.length hEL;rw[List.length_map] at this;exact this
  have hlN:O.length≤N:=by rw[hlE.out];exact Nat.le_trans (List.length_filter_le _ _) HS.out.size
  have SB:=HS1.out.keep B2;have TB:=HT1.out.keep B2;have zB2:=B2.size
  have n1:bs1≠g:=fun e=>by obtain⟨cs',k'⟩:= SB.kv;subst e;exact absurd (C.2.1.eq k').2 (by decide)
  have n2:bs2≠g:=fun e=>by obtain⟨cs',k'⟩:= SB.kv;subst e;exact absurd (C.2.2.1.eq k').2 (by decide)
  have RD : ∀ V x L, RmI J w.heap.size K D g E Wn N x L V → V.cell? ⟨g, 2, none⟩ = some (.int .i64 (x : Int)) ∧ V.frozen? ⟨g, 2, none⟩ = false ∧ RdC (fun b => b = g ∨ b = w.heap.size) W1 g bs1 bs2 bw V := fun V x i h => by
    have q:=h.sa.cnt;exact⟨q.1,q.2,C.1.trans h.chg (fun _ _ e=>e),C.2.1.chg h.chg (fun e=>e.elim n1 (fun e=>by omega)),C.2.2.1.chg h.chg (fun e=>e.elim n2 (fun e=>by omega)),h.sa.kv⟩
  have hgB:g < J.heap.size:=by omega
  have HI:=aB (show RmI J w.heap.size K D g E Wn N x0 ((O.map En.kl).take 0) J from⟨Chg.refl _ _,SB,_,[],TB,KA.nil _ _,rfl⟩);have HB2:=aB B2;have HIT:=aB (mD (g:=g) (bs1:=bs1) (bs2:=bs2) (x0:=x0) (xs:=fun i=>x0+1+i) IT (by unfold TpK;decide) (by omega) (fun i hi=>by show x0+1+i≤_;omega));have hsm:=aB IG.small;have hELH:=aB hEL;clear SB TB B2 IT IG C hEL;gi_wp2;refine kz HIT.out (by rfl) (enters_of Tryz.func169 (by kernel_rfl) rfl) (fun i args n V V' h hc=>h.cel hc) (fun i args n V h=>by obtain⟨e,kv,vv,s,_,rfl,_⟩:= h;rfl)
    (fun V=>RmI J w.heap.size K D g E Wn N x0 ((O.map En.kl).take 0) V)
    (fun i V=>RmI J w.heap.size K D g E Wn N (x0+1+i) ((O.map En.kl).take i) V)
    (fun i V=>RmI J w.heap.size K D g E Wn N (x0+1+i+1) ((O.map En.kl).take i) V)
    (fun c i V=>False)
    (fun A B hx hr=>hx.rcd hr) (fun i A B hx hr=>hx.rcd hr) (fun i A B hx hr=>hx.rcd hr) (fun c i A B hx hr=>hx) (by omega)
    (fun V hv=>by obtain⟨q1,q2,q3⟩:= RD V _ _ hv;exact⟨q1,q2,q3,hv.tick hgB⟩)
    (fun i V hv=>by obtain⟨q1,q2,q3⟩:= RD V _ _ hv;exact⟨q1,q2,q3,fun _=>hv.tick hgB⟩)
    HI.out ?_ ?_ ?_
  · rintro l2 i args V Wv hl hlV hrec hiN hT hb ⟨e0,kv,vv,s0,he0,rfl,hk0,hv0,_⟩
    simp;gi_wp2;refine⟨Below.refl _ _,?_⟩;intro V2 W2 G m hAr2 hoth hsz3 hV2 r hrec2;obtain⟨e1,kv1,vv1,t1,he1,Y,hk2,hv2,ht1⟩:= hAr2;obtain rfl:e1=e0:=by rw[he0] at he1;cases he1;rfl
    simp at Y;obtain⟨rfl,rfl⟩:= Y;obtain⟨ak,ck,hk1⟩:= hk2.shape;subst hk1;obtain⟨v,W,o1,T,o3⟩:= G.out
    have R:W.length=i:=by
      have:=congrArg List.length o3;rw[List.length_map,List.length_take,List.length_map] at this;omega
    obtain⟨ao,cc,rfl⟩:= T.shape;rw[R] at o1 T;have z2:=m.size;have zT:=G.chg.size;have P0:=o1.keep m;have Q0:=T.keep m;have j:=ae W2 (.cells #[.slice ak e1.kl.length ck] 96);have N4:=aC W2 [.slice ak e1.kl.length ck] 96;obtain⟨W4,hW4⟩:∃ W4,Hid (W2.alloc (.cells #[.slice ak e1.kl.length ck] 96)=W4):=⟨_,rfl⟩;rw[hW4.out] at j N4;have z4:=j.size;obtain⟨v5,w5,z,U5,C5⟩:= app_k (p:=(.slice ak e1.kl.length ck,e1.kl)) (a:=⟨W2.heap.size,0,none⟩) (Q0.keep j) (by omega) (by rw[R];omega) ((hk2.mono (fun b _ h=>by have:=h.1;omega)).keep j) (N4.cell (i:=0) rfl)
    have hl5:(W ++ [((.slice ak e1.kl.length ck:Value),e1.kl)]).length=i+1:=by rw[List.length_append,R];rfl
    obtain⟨a5,c5,rfl⟩:= U5.shape;rw[hl5] at U5 z;have S5:=(P0.keep j).chg C5 (fun h=>by obtain⟨_,cs,k⟩:= h;exact absurd (k.eq (P0.keep j)).2 (by decide));obtain⟨q1,hq1⟩:∃ q1,Hid (i+1=q1):=⟨_,rfl⟩;rw[hq1.out] at U5 z
    have y:Chg (·=w.heap.size) w5 (w5.setCell ⟨w.heap.size,0,none⟩ (.slice a5 q1 c5)):=(Chg.refl (fun x=>x=w.heap.size) w5).cell (.inl (by rfl)) _;have S6:=S5.setCell (i:=0) (.slice a5 q1 c5)
    have hK5 : bB TpK J.heap.size W4 w5 := ⟨C5.size, fun k o _ h0 hs => (C5.same k (lt_of_block h0) (fun h => by
      obtain⟨_,cs,kb⟩:= h;rw[kb.blk] at h0
      cases h0
      exact hs _ _ _ rfl rfl)).trans h0⟩
    have hKe:bB TpK J.heap.size W2 (w5.setCell ⟨w.heap.size,0,none⟩ (.slice a5 q1 c5)):=((bB.of j).trans hK5).trans ⟨y.size,fun k o M h0 _=>(y.same k (lt_of_block h0) (fun e=>by have e':k=w.heap.size:=e;omega)).trans h0⟩
    have hTI:RmI J w.heap.size K D g E Wn N (x0+1+(i+1)) ((O.map En.kl).take (i+1)) (w5.setCell ⟨w.heap.size,0,none⟩ (.slice a5 q1 c5)):=by
      refine⟨?_,?_,⟨_,W ++ [(.slice ak e1.kl.length ck,e1.kl)],S6,?_,?_⟩⟩
      · exact((G.chg.trans (Chg.of (F:=fun _=>False) (ax m j)) (fun _ _ h=>h.elim)).trans C5 (fun b h1 h2=>by have:=h2.1;omega)).trans y (fun b _ h=>.inr h)
      · have q := ((G.sa.keep (ax m j)).chg C5 (fun b h1 M => by have := H b M; have := h1.1; omega) (fun b h1 cs kk => by obtain⟨_, cs', k'⟩:= h1; exact absurd (kk.eq k').2 (by decide))).chg y (fun b e M => by have e' : b = w.heap.size := e; have := H b M; omega) (fun b e cs kk => by
          have e':b=w.heap.size:=e;subst e'
          exact absurd (kk.eq S5).2 (by decide))
        rw[show x0+1+(i+1)=x0+1+i+1 by omega];exact q
      · refine U5.chg y (fun b e=>?_)
        have e':b=w.heap.size:=e;subst e';exact⟨by omega,fun cs kk=>absurd (kk.eq S5).2 (by decide)⟩
      · rw[List.map_append,o3,List.take_add_one,List.getElem?_map,he0]
        rfl
    have p0c:=P0.cell (i:=0) rfl;have s5c:=S5.cell (i:=0) rfl;have s5f:=S5.free 0;have HKE:=aB hKe;have HTI:=aB hTI;clear hT hoth hb G m P0 Q0 N4 j U5 C5 S5 y S6 hK5 hKe hTI o1 T o3 R hl5 z2 zT z4 hsz3 hV2 hk2 hv2 hk0 hv0 he1;rw[← hW4.out] at z;clear hW4;gi_wp2_with (first | (have gate:=z;clear gate;(with_reducible refine yW ?_ ?_ ?_ z ?_);(exact fun _=>trivial);rfl;rfl;clear z));exact⟨HKE.out,HTI.out⟩
  · rintro Q Z hD hK hT
    rename_i Q' Kc hc;obtain⟨v,W,o1,T,o3⟩:= hT.out;rw[List.take_of_length_le (by rw[List.length_map];exact Nat.le_refl _)] at o3;obtain⟨ao,cc,rfl⟩:= T.shape;obtain⟨d,P⟩:∃ d,W.length=d:=⟨_,rfl⟩
    have hlen:d=O.length:=by rw[← P,← List.length_map (f:=(·.2)),o3,List.length_map]
    rw[P] at o1 T
    have zW':=hT.chg.size
    have hT':=hT.sa;rw[hD0] at hT'
    have I:O.map En.kl=l7 E k a:=by
      unfold l7;rw[← hELH.out,List.map_map];rfl
    have zz:=ax (ax HB.out HB1.out) HB2.out
    have hC0:Chg K w Z:=(Chg.of (F:=K) zz).trans hT.chg (fun b hl e=>e.elim (fun e=>e ▸ HS.out.top) (fun e=>by omega))
    have Sx0:Sx B Z K g E Wn (x0+1+d) N:=⟨by rw[hlen];exact hT',Nat.le_trans hlo hC0.size,hkb⟩;obtain⟨pb,hao,hkl⟩:∃ pb,(0 < d→ao=some ⟨pb,0,none⟩)∧∀ i p,W[i]?=some p→∀ V K' E' n' N',Bk.At B Z K V K' g E' Wn n' N'→V.cell? ⟨pb,0+i * 1,none⟩=some p.1∧ByU V p.1 p.2:=by
      rcases T.ex with⟨e1,e2⟩ | ⟨b,c,e1,hb,hR⟩
      · exact⟨0,fun h=>by rw[e2] at P;simp at P;omega,fun i p hp=>by rw[e2] at hp;cases hp⟩
      · refine⟨b,fun _=>by cases e1;rfl,fun i p hp V K' E' n' N' hA=>⟨?_,?_⟩⟩
        · have hc:=hR.cell (i:=i) (by rw[List.getElem?_map,hp];rfl)
          rw[show 0+i * 1=i by omega,World.cell?_of_block (w:=Z) (hA.cc.same b hR.lt (fun M=>by have:=H b M;omega))];exact hc
        · exact(ByU.of (T.obs p (List.mem_of_getElem? hp))).chg hA.cc Sx0.sa.kind
    have hDlt:Q < Z.heap.size:=lt_of_block hK
    have hDK:¬ K Q:=fun hb=>by have:=H _ hb;omega
    have hsm2 : ∀ (i : Nat) (p : Value × List Int), W[i]? = some p → p.2.length ≤ 1000000000 := fun i p hp => by
      have:p.2 ∈ O.map En.kl:=by rw[← o3];exact List.mem_map.2 ⟨p,List.mem_of_getElem? hp,rfl⟩
      obtain⟨e,he,e2⟩:= List.mem_map.1 this;rw[← e2];exact(hsm.out e he).1
    have hfin : ∀ V K' n' N', Bk.At B Z K V K' g ((l7 E k a).foldl Kv.rem E) Wn n' N' → V.heap[Q]? = some (.deferred (some [])) ∧ Sx B (V.putObj Q (.deferred none)) K' g (nM E k a) Wn n' N' ∧ (∀ b, K' b → K b ∨ w.heap.size ≤ b) ∧ Chg K w (V.putObj Q (.deferred none)) := fun V K' n' N' hA => by
      have hv:V.heap[Q]?=some (.deferred (some [])):=(hA.cc.same Q hDlt hDK).trans hK;have R3:=Rec.put (B:=w.heap.size) hv rfl (by omega) (.deferred none);refine⟨hv,⟨rK hA.sx.sa R3,Nat.le_trans hA.sx.lo R3.size,hA.sx.kb⟩,fun b hb=>(hA.km b hb).imp_right (Nat.le_trans hC0.size),?_⟩;exact jE (hC0.trans hA.cc (fun b _ h=>h)) R3 (Nat.le_refl _)
    have A:=Sx0.at
    have hn1:d≤N:=by omega
    refine hc _ _ (wpIn_wide.2 (GC.out (n:=31) (ds:=[{ target:=.collected Q,args:=#[] }]) (l:=[(0,pg g),(6,pg w.heap.size)]) ?_ _ ⟨rfl,rfl,fun q u hq=>?_⟩))
    · have Xt:=o1
      refine aj (aA (tl 21 (.slice ao d cc) Xt 0 ?_));refine t 22 (.int .i64 ((d:Nat):Int)) ?_
      refine t 23 (.int .i64 0) ?_
      refine ay (ah (fM ?_));clear Xt;refine pY (fun i=>d - i) (fun(i:Nat)=>[(0,pg g),(21,.slice ao d cc),(22,.int .i64 ((d:Nat):Int)),(23,.int .i64 (i:Int))]) (fun i V=>i≤d∧∃ K2 n2 N2,Bk.At B Z K V K2 g (((l7 E k a).take i).foldl Kv.rem E) Wn n2 N2∧n2≤x0+1+d+i∧N2≤N+2 * i) (0:Nat) ⟨Nat.zero_le _,_,_,_,A,by omega,by omega⟩ (by kernel_rfl) ?_
      clear A;rintro i v1 ⟨hi,K2,n2,N2,A,hn2,hN2⟩;refine aj (aA ?_);by_cases ci:(i:Int) < ((d:Nat):Int)
      · have hk_i : i < d := by omega
        obtain⟨pk,U⟩:∃ p,W[i]?=some p:=⟨W[i],List.getElem?_eq_getElem (by omega)⟩;refine tq 24 (.bool (decide ((i:Int) < ((d:Nat):Int)))) (.bool true) (congrArg Value.bool (decide_eq_true ci)) ?_
        refine ay (ah (aj (et ?_)));refine bT (ah (aj (fM (aj (aA (tr 25 (pq pb (0+i * 1)) (Cn 1 pb 0 d cc i hk_i hao) ?_))))));refine tr 26 (pk.1) (Ds (hkl i pk U _ _ _ _ _ A).1) ?_
        refine t 9 (pk.1) ?_
        refine ay (ah (aA (t 27 (pg g) ?_)));refine t 28 (pk.1) ?_
        refine tc 29 75 #[pg g,pk.1] (xdel A.sx (hkl i pk U _ _ _ _ _ A).2 (hsm2 i pk U) (by omega) (by omega)) ?_
        rintro _ v3 ⟨rfl,K2,S,hK,hC⟩;refine⟨_,rfl,?_⟩;replace A:=A.op S hK hC;clear S hK hC;refine ay (uE (ah (aA (tq 30 (.int .i64 (IntKind.i64.wrap ((i:Int)+1))) (.int .i64 ((i:Int)+1)) (wi (by omega)) ?_))));refine t 23 (.int .i64 ((i:Int)+1)) ?_
        refine ay ?_
        have hstep:((l7 E k a).take (i+1)).foldl Kv.rem E=Kv.rem (((l7 E k a).take i).foldl Kv.rem E) pk.2:=by
          rw[List.take_add_one,← I,← o3,List.getElem?_map,U,List.foldl_append];rfl
        rw[← hstep] at A;exact lT (i+1) (by show d - (i+1) < d - i;omega) ⟨hk_i,_,_,_,A,by omega,by omega⟩ (by kernel_rfl)
      · refine tq 24 (.bool (decide ((i:Int) < ((d:Nat):Int)))) (.bool false) (congrArg Value.bool (decide_eq_false ci)) ?_
        refine ay (ah (aj (dA ?_)));refine lN (kR (kR (uC ?_)))
        have hil:d≤i:=by omega
        rw[List.take_of_length_le (by rw[← I,List.length_map,← hlen];exact hil)] at A;obtain⟨f1,f2,f3,f4⟩:= hfin _ _ _ _ A;exact Di (by kernel_rfl) f1 ⟨_,_,_,rfl,f2,by omega,by omega,f3,f4⟩
    · have hm:=sU hq
      simp at hm;rcases hm with⟨rfl,rfl⟩ | ⟨rfl,rfl⟩ <;> rfl
  · rintro Q c i Z hD hK hi h
    exact h.elim
theorem BE(h:Sx B w K g E W n N)(hid:0<=id/\id < 18446744073709551616)(a:N<=30000000)(hn:n + 3 * N + 10<=2000000000000000000):Calls Tryz.prog 12 #[pg g,.int .u64 id] w fun e w'=>∃ K' n',e=.returned (.tuple #[.int .i64 ((gZ E 7 id:Nat):Int),.int .i64 ((gZ E 8 id:Nat):Int)])/\Sx B w' K' g E W n' N/\n'<=n + 2 + 2 * N/\(∀ b,K' b->K b\/w.heap.size<=b)/\Chg K w w':=by
 have A:=h.at
 refine aM (n:=12) Tryz.func12 rfl (by kernel_rfl) (by kernel_rfl) ?_
 refine aj (aA (t 4 (.int .i64 0) ?_));refine t 5 (.int .i64 0) ?_
 refine ay (ah (aj (aA (t 6 (pg g) ?_))));refine t 7 (.int .u64 id) ?_
 refine tc 8 40 #[pg g,.int .i64 7,.int .u64 id] (qW A.sx hid (by decide) (by omega) (by omega)) ?_
 rintro _ v2 ⟨rfl,S,q1,C⟩;refine⟨_,rfl,?_⟩;have hC:=C.mono (fun b _ (e:b=g)=>e▸A.sx.sa.top);replace A:=A.op S (fun _ h=>.inl h) hC;clear S hC C;refine t 9 (pg g) ?_
 refine t 10 (.int .u64 id) ?_
 refine tc 11 40 #[pg g,.int .i64 8,.int .u64 id] (qW A.sx hid (by decide) (by omega) (by omega)) ?_
 rintro _ v4 ⟨rfl,S,c,C⟩;refine⟨_,rfl,?_⟩;have hC:=C.mono (fun b _ (e:b=g)=>e▸A.sx.sa.top);replace A:=A.op S (fun _ h=>.inl h) hC;clear S hC C;refine t 4 (.int .i64 ((gZ E 7 id:Nat):Int)) ?_
 refine t 5 (.int .i64 ((gZ E 8 id:Nat):Int)) ?_
 refine ay (ah (aT [(4,.int .i64 ((gZ E 7 id:Nat):Int)),(5,.int .i64 ((gZ E 8 id:Nat):Int))] (by kernel_rfl) ?_));refine aO (aQ (.tuple #[.int .i64 ((gZ E 7 id:Nat):Int),.int .i64 ((gZ E 8 id:Nat):Int)]) (rs2 4 5 (by kernel_rfl) (by kernel_rfl) (by kernel_rfl)) ?_);exact⟨_,_,rfl,A.sx,by omega,A.km,A.cc⟩
theorem gone_x(h:Sx B w K g E W n N)(hid:0<=id/\id < 18446744073709551616)(o:N<=10000000)(hn:n + 30 * N + 10<=2000000000000000000):Calls Tryz.prog 14 #[pg g,.int .u64 id] w fun e w'=>∃ K' n' N',e=.returned (.tuple #[])/\Sx B w' K' g (nM (nM E 7 id) 8 id) W n' N'/\n'<=n + 20 * N + 10/\N'<=9 * N/\(∀ b,K' b->K b\/w.heap.size<=b)/\Chg K w w':=by
 have A:=h.at
 refine aM (n:=10) Tryz.func14 rfl (by kernel_rfl) (by kernel_rfl) ?_
 refine aj (aA (t 4 (pg g) ?_));refine t 5 (.int .u64 id) ?_
 refine tc 6 41 #[pg g,.int .i64 7,.int .u64 id] (rn A.sx hid (by decide) (by omega) (by omega)) ?_
 rintro _ v5 ⟨p,j,l,rfl,S,f,c,a,hC⟩;refine⟨_,rfl,?_⟩;replace A:=A.op S a hC;clear S a hC;refine ay (ah (aA (t 7 (pg g) ?_)));refine t 8 (.int .u64 id) ?_
 refine tc 9 41 #[pg g,.int .i64 8,.int .u64 id] (rn A.sx hid (by decide) (by omega) (by omega)) ?_
 rintro _ v10 ⟨m,q,k,rfl,S,d,i,a,hC⟩;refine⟨_,rfl,?_⟩;replace A:=A.op S a hC;clear S a hC;refine ay (iT (.tuple #[]) (rs0 (by kernel_rfl)) ?_);exact⟨_,_,_,rfl,A.sx,by omega,by omega,A.km,A.cc⟩
end
end Fo
end
section
namespace Fo
open Go.RowKit Go.Lib Pg Lim Gl Kv Bk Pw
attribute [local go_sem] Oper.semAt_some
set_option linter.unusedVariables false
set_option linter.unusedSimpArgs false
section
variable {w:World}{p ao:Option Addr}{K:Nat->Prop}{z n c:Nat}{x:Int}{v:Value}{l:List Int}
theorem CX{id fr la:Int}:Calls Tryz.prog 53 #[.pointer p,.int .u64 id,.int .u64 fr,.int .u64 la] w fun e w'=>e=.returned (.func (.func 81) #[] #[.pointer (some ⟨w.heap.size + 1,0,none⟩),.pointer (some ⟨w.heap.size + 1 + 1,0,none⟩),.pointer (some ⟨w.heap.size + 1 + 1 + 1,0,none⟩),.pointer (some ⟨w.heap.size,0,none⟩)])/\Blk w' w.heap.size [.pointer p] 37/\Blk w' (w.heap.size + 1) [.int .u64 id] 22/\Blk w' (w.heap.size + 1 + 1) [.int .u64 fr] 22/\Blk w' (w.heap.size + 1 + 1 + 1) [.int .u64 la] 22/\Below w.heap.size w w':=by
 obtain⟨b,i⟩:∃ b,b=w.alloc (.cells #[.pointer p] 37):=⟨_,rfl⟩
 obtain⟨c,l⟩:∃ c,c=b.alloc (.cells #[.int .u64 id] 22):=⟨_,rfl⟩
 obtain⟨f,m⟩:∃ f,f=c.alloc (.cells #[.int .u64 fr] 22):=⟨_,rfl⟩
 obtain⟨d,j⟩:∃ d,d=f.alloc (.cells #[.int .u64 la] 22):=⟨_,rfl⟩
 have b1:=ae w (.cells #[.pointer p] 37);have c1:=aC w [.pointer p] 37
 have s1:(w.alloc (.cells #[.pointer p] 37)).heap.size=w.heap.size+1:=by simp
 rw[<- i] at b1 s1;have b2:=ae b (.cells #[.int .u64 id] 22);have c2:=aC b [.int .u64 id] 22
 have s2:(b.alloc (.cells #[.int .u64 id] 22)).heap.size=b.heap.size+1:=by simp
 rw[<- l] at b2 s2;have b3:=ae c (.cells #[.int .u64 fr] 22);have r:=aC c [.int .u64 fr] 22
 have s3:(c.alloc (.cells #[.int .u64 fr] 22)).heap.size=c.heap.size+1:=by simp
 rw[<- m] at b3 s3;have g:=ae f (.cells #[.int .u64 la] 22);have o:=aC f [.int .u64 la] 22;rw[<- j] at g
 have d1:Blk d w.heap.size [.pointer p] 37:=by
  have q:Blk b w.heap.size [.pointer p] 37:=by rw[i];exact c1
  exact((q.keep b2).keep b3).keep g
 have d2:Blk d (w.heap.size+1) [.int .u64 id] 22:=by
  have q:Blk c b.heap.size [.int .u64 id] 22:=by rw[l];exact c2
  rw[s1] at q;exact(q.keep b3).keep g
 have d3:Blk d (w.heap.size+1+1) [.int .u64 fr] 22:=by
  have q:Blk f c.heap.size [.int .u64 fr] 22:=by rw[m];exact r
  rw[s2,s1] at q;exact q.keep g
 have d4:Blk d (w.heap.size+1+1+1) [.int .u64 la] 22:=by
  have q:Blk d f.heap.size [.int .u64 la] 22:=by rw[j];exact o
  rw[s3,s2,s1] at q;exact q
 have bb:=ax (ax (ax b1 b2) b3) g;have n:=aB (And.intro d1 (And.intro d2 (And.intro d3 (And.intro d4 bb))));rw[j,m,l,i] at n;clear d1 d2 d3 d4 bb b1 b2 b3 g c1 c2 r o s1 s2 s3 i l m j;go_enter Tryz.func53,Tryz.ntmps53;go_wp2;go_ret;refine⟨by simp,?_⟩;simpa using n.out
theorem Nq.at(h:Nq w K z ao n c x)(hn:n≠0):∃ o y,w.cell? ⟨z,o,none⟩=some (.int .u64 y):=by
 obtain⟨d,e⟩:∃ d:World,d={ w with heap:=w.heap.mapIdx (fun i o=>if i=z then o else .deferred none) }:=⟨_,rfl⟩
 have j:d.heap[z]?=w.heap[z]?:=by
  rw[e];simp only[Array.getElem?_mapIdx,if_true]
  cases w.heap[z]? <;> rfl
 obtain⟨b,o,l,m,p,q,k⟩:=(h.to d (fun _=>j)).ex;have g:=k.cell 0 (by omega);by_cases hb:b=z
 ·subst hb;rw[World.cell?_of_block (w:=w) (a:=⟨b,o+0,none⟩) j] at g;exact⟨_,_,g⟩
 ·exfalso
  have f:d.heap[b]?=none\/d.heap[b]?=some (.deferred none):=by
   rw[e];simp only[Array.getElem?_mapIdx,if_neg hb]
   cases w.heap[b]? with
   | none=>exact .inl rfl
   | some o=>exact .inr rfl
  unfold World.cell? at g;rcases f with f | f<;>simp[f] at g
theorem dN{b:Nat}{t:TypeId}(h:Nq w K z ao n c x)(hb:Blk w b [v] t)(hv:∀ y,v≠.int .u64 y):n=0\/z≠b:=by
 by_cases hn:n=0
 ·exact .inl hn
 ·refine .inr fun e => ?_
  subst e;obtain⟨o,y,a⟩:=h.at hn;unfold World.cell? at a;rw[hb.blk] at a
  match o with
  | 0=>simp at a;exact hv y a
  | o+1=>simp at a
theorem Nq.rcd{C:Nat}{w':World}(h:Nq w K z ao n c x)(d:Rec C w w'):Nq w' K z ao n c x:=by
 have hs:n≠0->w'.heap[z]? = w.heap[z]? := fun hn=>by
  obtain⟨o,y,a⟩:=h.at hn;unfold World.cell? at a;split at a
  ·rename_i cs t f e
   have b:w.heap[z]?=some (.cells cs t f):=e;rw[b];exact d.same z _ b (.inr rfl)
  ·cases a
 exact⟨h.lt.imp_right fun h=>Nat.lt_of_lt_of_le h d.size,h.out,fun i g=>h.to i fun hn=>(g hn).trans (hs hn)⟩
theorem cX_rng(a:Oct l):(0<=cX l 0/\cX l 0 < 18446744073709551616)/\(0<=cX l 1/\cX l 1 < 18446744073709551616):=by
 have b:bj (rdL (cQ 8 l) 0 l):=by
  unfold rdL;split
  ·split
   ·exact a
   ·exact fun x hx=>a x (List.mem_of_mem_drop hx)
  ·exact a
 have e:Rc.kO l=Rc.rnx 0 1 (Rc.rnx 0 0 (0,l,fun _=>0)):=rfl;unfold cX Rc.gj;rw[e];split
 ·exact⟨vj (err:=0) a,vj b⟩
 ·exact⟨⟨Int.le_refl _,by decide⟩,Int.le_refl _,by decide⟩
def qi(E:aD)(id:Int)(s:Int × Int × Int)(c:Int × Int × Int):Int × Int × Int:=(s.1+s.2.1 * fW (hX (got E (Ky.mk 7 id c.1)) 0) s.2.2 / U36,s.2.1 * (c.2.2 * U36) / (c.2.1 * U36),hX (got E (Ky.mk 7 id c.1)) 0)
structure ClI(B:Nat)(Wb:World)(br bk bf bc:Nat)(K:Nat->Prop)(g:Nat)(E:aD)(Wn:List aD)(N x i M:Nat)(st:Int × Int × Int)(V:World):Prop where
 chg:Chg (fun b=>b=g\/b=br\/b=bk\/b=bf\/b=bc) Wb V
 sx:Sx B V K g E Wn x N
 cnt:Blk V bc [.int .i64 (i:Int)] 3
 rew:∃ a n c z,Blk V br [.slice a n c] 32/\Nq V K z a n c st.1/\n<=2000000 * i
 stk:∃ a n c z,Blk V bk [.slice a n c] 32/\Nq V K z a n c st.2.1/\n<=M+80 * i
 frm:∃ a n c z,Blk V bf [.slice a n c] 32/\Nq V K z a n c st.2.2/\n<=510
end
section
variable {B:Nat} {Wb V V':World} {br bk bf bc g N x i M:Nat} {K:Nat->Prop} {E:aD} {Wn:List aD} {st:Int × Int × Int}
theorem ClI.rcd (h:ClI B Wb br bk bf bc K g E Wn N x i M st V) (a:Rec Wb.heap.size V V'):ClI B Wb br bk bf bc K g E Wn N x i M st V':=by
 obtain⟨a1,l,c1,z1,p1,n,f⟩:=h.rew;obtain⟨a2,b,c2,z2,q1,e,m⟩:=h.stk;obtain⟨a3,c,j,z3,r1,k,d⟩:=h.frm;exact⟨jE h.chg a (Nat.le_refl _),⟨rK h.sx.sa a,Nat.le_trans h.sx.lo a.size,h.sx.kb⟩,eH h.cnt a,⟨a1,l,c1,z1,eH p1 a,n.rcd a,f⟩,⟨a2,b,c2,z2,eH q1 a,e.rcd a,m⟩,a3,c,j,z3,eH r1 a,k.rcd a,d⟩
theorem ClI.tick (h:ClI B Wb br bk bf bc K g E Wn N x i M st V):ClI B Wb br bk bf bc K g E Wn N (x+1) i M st (tick g V x):=by
 obtain⟨a1,s,c1,z1,p1,m,C⟩:=h.rew;obtain⟨a2,p,c2,z2,q1,j,u⟩:=h.stk;obtain⟨a3,w,D,z3,r1,l,A⟩:=h.frm;have hc:=dW g x V
 have d:∀ {b:Nat} {cs:List Value} {t:TypeId},Blk V b cs t->t≠94->b≠g:=fun k o e=>by
  obtain⟨v,r⟩:=h.sx.sa.kv;subst e;exact o (k.eq r).2
 have f:∀ {a:Option Addr} {n c z:Nat} {y:Int},Nq V K z a n c y->n=0\/z≠g:=fun q=>q.out.imp_right (fun k e=>k (e▸h.sx.sa.top))
 exact⟨h.chg.trans hc (fun b _ e=>.inl e),⟨h.sx.sa.tick,Nat.le_trans h.sx.lo hc.size,h.sx.kb⟩,h.cnt.chg hc (d h.cnt (by decide)),⟨a1,s,c1,z1,p1.chg hc (d p1 (by decide)),m.cell hc (f m),C⟩,⟨a2,p,c2,z2,q1.chg hc (d q1 (by decide)),j.cell hc (f j),u⟩,a3,w,D,z3,r1.chg hc (d r1 (by decide)),l.cell hc (f l),A⟩
theorem ClI.rd (h:ClI B Wb br bk bf bc K g E Wn N x i M st V):RdS Wb (fun b=>b=g\/b=br\/b=bk\/b=bf\/b=bc) K (B <= ·) g E Wn N V:=by
 obtain⟨a1,f,c1,z1,p1,q,n⟩:=h.rew;obtain⟨a2,d,c2,z2,q1,e,j⟩:=h.stk;obtain⟨a3,l,o,z3,r1,p,m⟩:=h.frm;refine⟨h.chg,fun b hb cs k=>?_,_,h.sx.sa⟩;rcases hb with rfl | rfl | rfl | rfl | rfl
 ·obtain⟨c,a⟩:=h.sx.sa.kv;exact absurd (k.eq a).2 (by decide)
 ·exact absurd (k.eq p1).2 (by decide)
 ·exact absurd (k.eq q1).2 (by decide)
 ·exact absurd (k.eq r1).2 (by decide)
 ·exact absurd (k.eq h.cnt).2 (by decide)
theorem ClI.go {a1 a2 a4:Option Addr} {k1 d1 y1 k2 d2 y2 j d4 z4:Nat} {V1 Y W:Int} {S p d:World} (f:ClI B Wb br bk bf bc K g E Wn N x i M st S) (hX:∀ b,(b=g\/b=br\/b=bk\/b=bf\/b=bc)->b < Wb.heap.size) (A:br≠bk) (z:bk≠bf) (nk:¬ K bk) (nc:¬ K bc)
  (I:Sx B p K g E Wn (x+1) N) (H:Chg (fun b=>b=g\/b=br\/b=bf) S p) (R3:Blk p br [.slice a1 k1 d1] 32) (N1:Nq p K y1 a1 k1 d1 V1) (m1:k1<=2000000 * (i+1)) (F3:Blk p bf [.slice a2 k2 d2] 32) (N2:Nq p K y2 a2 k2 d2 Y) (m2:k2<=510)
  (M4:Nf d z4 a4 j d4 W) (h4:j=0\/p.heap.size<=z4) (m4:j<=M+80 * (i+1)) (l:Below p.heap.size p d) :
  ((d.cell? ⟨bk,0,none⟩).isSome=true/\d.frozen? ⟨bk,0,none⟩=false/\(d.setCell ⟨bk,0,none⟩ (.slice a4 j d4)).cell? ⟨bc,0,none⟩=some (.int .i64 (i:Int))/\(d.setCell ⟨bk,0,none⟩ (.slice a4 j d4)).frozen? ⟨bc,0,none⟩=false) /\
  ClI B Wb br bk bf bc K g E Wn N (x+1) (i+1) M (V1,W,Y) ((d.setCell ⟨bk,0,none⟩ (.slice a4 j d4)).setCell ⟨bc,0,none⟩ (.int .i64 ((i:Int)+1)))/\bB TpN Wb.heap.size S ((d.setCell ⟨bk,0,none⟩ (.slice a4 j d4)).setCell ⟨bc,0,none⟩ (.int .i64 ((i:Int)+1))):=by
 obtain⟨aS,nS,cS,zS,q1,q2,q3⟩:=f.stk
 have R:bk≠g:=fun e=>by obtain⟨L,O⟩:=f.sx.sa.kv;subst e;exact absurd (q1.eq O).2 (by decide)
 have J:bc≠g:=fun e=>by obtain⟨L,O⟩:=f.sx.sa.kv;subst e;exact absurd (f.cnt.eq O).2 (by decide)
 obtain⟨aR,nR,cR,zR,r1,_,_⟩:=f.rew;obtain⟨aF,nF,cF,zF,f1,_,_⟩:=f.frm
 have G:bc≠br:=fun e=>by subst e;exact absurd (f.cnt.eq r1).2 (by decide)
 have t:bc≠bf:=fun e=>by subst e;exact absurd (f.cnt.eq f1).2 (by decide)
 have v:bc≠bk:=fun e=>by subst e;exact absurd (f.cnt.eq q1).2 (by decide)
 have C:=(f.cnt.chg H (fun h=>h.elim J (fun h=>h.elim G t))).keep l;have c:=(q1.chg H (fun h=>h.elim R (fun h=>h.elim A.symm z))).keep l
 have m:Chg (·=bk) d (d.setCell ⟨bk,0,none⟩ (.slice a4 j d4)):=(Chg.refl (fun x=>x=bk) d).cell (.inl (by rfl)) _;have w:=c.setCell (i:=0) (.slice a4 j d4);have a:=C.chg m v;have x1:=c.cell (i:=0) rfl;have x2:=c.free 0;have Z:=a.cell (i:=0) rfl;have U:=a.free 0;have P4:=ey I M4 h4;have V:=N1.keep l;have P2:=N2.keep l
 have q:=P4.cell m (dN P4 c (fun y h=>by cases h))
 have r:=V.cell m (dN V c (fun y h=>by cases h))
 have s:=P2.cell m (dN P2 c (fun y h=>by cases h));have R5:=(R3.keep l).chg m A;have F5:=(F3.keep l).chg m z.symm;have S5:=(I.sa.keep l).chg m (fun b e hb=>nk ((show b=bk from e)▸hb)) (fun b e cs Q=>by have P:b=bk:=e;subst P;exact absurd (Q.eq c).2 (by decide));have G5:=(((f.chg.trans H (fun b _ h=>h.elim .inl (fun h=>h.elim (fun h=>.inr (.inl h)) (fun h=>.inr (.inr (.inr (.inl h))))))).trans (Chg.of (F:=fun _=>False) l) (fun _ _ h=>h.elim))).trans m (fun b _ h=>.inr (.inr (.inl h)));have H5:=((H.trans (Chg.of (F:=fun b=>b=g\/b=br\/b=bf) l) (fun _ _ h=>h)).mono (fun b _ h=>(h.elim .inl (fun h=>h.elim (fun h=>.inr (.inl h)) (fun h=>.inr (.inr (.inr (.inl h))))):b=g\/b=br\/b=bk\/b=bf\/b=bc))).trans m (fun b _ h=>.inr (.inr (.inl h)));have X:=Nat.le_trans (Nat.le_trans I.lo l.size) m.size;obtain⟨D,T⟩:∃ D,d.setCell ⟨bk,0,none⟩ (.slice a4 j d4)=D:=⟨_,rfl⟩
 rw[T] at w a Z U q r s R5 F5 S5 G5 H5 X ⊢
 have n:Chg (·=bc) D (D.setCell ⟨bc,0,none⟩ (.int .i64 ((i:Int)+1))):=(Chg.refl (fun x=>x=bc) D).cell (.inl (by rfl)) _;have u:=a.setCell (i:=0) (.int .i64 ((i:Int)+1))
 have hv:∀ y,(.int .i64 (i:Int):Value)≠.int .u64 y:=fun y h=>by cases h
 refine⟨⟨by rw[x1];rfl,x2,Z,U⟩,⟨G5.trans n (fun b _ h=>.inr (.inr (.inr (.inr h)))),⟨S5.chg n (fun b e hb=>nc ((show b=bc from e)▸hb)) (fun b e cs Q=>by have P:b=bc:=e;subst P;exact absurd (Q.eq a).2 (by decide)),Nat.le_trans X n.size,I.kb⟩,?_,⟨a1,k1,d1,y1,R5.chg n G.symm,r.cell n (dN r a hv),m1⟩,⟨a4,j,d4,z4,w.chg n v.symm,q.cell n (dN q a hv),m4⟩,a2,k2,d2,y2,F5.chg n t.symm,s.cell n (dN s a hv),m2⟩,?_⟩
 ·rw[show ((i+1:Nat):Int)=(i:Int)+1 by omega];exact u
 ·have Hc:=H5.trans n (fun b _ h=>.inr (.inr (.inr (.inr h))));exact⟨Hc.size,fun k o hk h0 _=>(Hc.same k (lt_of_block h0) (fun h=>by have:=hX k h;omega)).trans h0⟩
end
section
variable {w:World}{K D:Nat->Prop}{E:aD}{W:List aD}{id fr la:Int}{i:Nat}
theorem wT{g n N:Nat}(h:SA w K D g E W n N){c:Int × Int × Int}(hc:(dk E id fr la)[i]?=some c):(0<=c.2.1/\c.2.1 < 18446744073709551616)/\(0<=c.2.2/\c.2.2 < 18446744073709551616):=by
 obtain⟨x,hx,rfl⟩:=List.mem_map.1 (List.mem_of_getElem? hc);exact cX_rng (SA.octv h x (List.mem_filter.1 hx).1)
def j0(E:aD)(id fr la x:Int)(i:Nat):Int × Int × Int:=((dk E id fr la).take i).foldl (qi E id) (0,x,hX (got E (Ky.mk 7 id fr)) 0)
theorem vZ{x:Int}{c:Int × Int × Int}(hc:(dk E id fr la)[i]?=some c):j0 E id fr la x (i+1)=qi E id (j0 E id fr la x i) c:=by
 unfold j0;rw[List.take_add_one,hc,List.foldl_append];rfl
end
end Fo
end
section
namespace Fo
open Go.RowKit Go.Lib Pg Lim Gl Kv Bk Pw
set_option linter.unusedVariables false
structure Ur (X:Nat->Prop) (w0:World) (B g0:Nat) (W:List aD) (w:World) (K:Nat->Prop) (E:aD) (n N:Nat) (bs:List Bx) (qs:List Nx):Prop where
 rg:Rg X B w0 w K g0 E W n N
 b:∀ p∈bs,Blk w p.1 p.2.1 p.2.2/\¬ K p.1/\(w0.heap.size<=p.1\/X p.1)
 q:∀ r∈qs,Nq w K r.1 r.2.1 r.2.2.1 r.2.2.2.1 r.2.2.2.2
 e:∀ p∈bs,∀ r∈qs,r.2.2.1=0\/r.1≠p.1
 d:bs.Pairwise (fun a b=>a.1≠b.1)
section
variable {w0 w w':World} {B g0 n N n' N' g i:Nat} {X K:Nat->Prop} {W:List aD} {E E':aD} {bs:List Bx} {qs:List Nx} {cs cs':List Value} {t:TypeId}
section
variable {z k d:Nat}{a:Option Addr}{x:Int}
theorem Ur.lt(h:Ur X w0 B g0 W w K E n N bs qs):∀ p∈bs,p.1 < w.heap.size:=fun p hp=>(h.b p hp).1.lt
theorem ur_of(h:Rg X B w0 w K g0 E W n N):Ur X w0 B g0 W w K E n N [] []:=⟨h,fun _ h=>(List.not_mem_nil h).elim,fun _ h=>(List.not_mem_nil h).elim,fun _ h=>(List.not_mem_nil h).elim,List.Pairwise.nil⟩
theorem Ur.keep(h:Ur X w0 B g0 W w K E n N bs qs)(b:Below w.heap.size w w'):Ur X w0 B g0 W w' K E n N bs qs:=⟨h.rg.keep b,fun p a=>⟨(h.b p a).1.keep b,(h.b p a).2⟩,fun r c=>(h.q r c).keep b,h.e,h.d⟩
theorem Ur.drew(h:Ur X w0 B g0 W w K E n N bs qs):Ur X w0 B g0 W w.drew K E n N bs qs:=h.keep (Below.refl _ _).drew
theorem Ur.ask(h:Ur X w0 B g0 W w K E n N bs qs)(S:Sx B w' K g0 E W n' N')(C:Chg (·=g0) w w'):Ur X w0 B g0 W w' K E n' N' bs qs:=⟨h.rg.op S C,fun p a=>⟨(h.b p a).1.chg C (fun e=>(h.b p a).2.1 (e▸h.rg.top)),(h.b p a).2⟩,fun r c=>(h.q r c).op (fun _ h=>.inl h) (C.mono (fun b _ (e:b=g0)=>e▸h.rg.top)),h.e,h.d⟩
theorem Ur.add{s:Nat}(h:Ur X w0 B g0 W w K E n N bs qs)(L:∀ p∈bs,p.1 < s)(Q:Nq w K z a k d x)(f:k=0\/s<=z):Ur X w0 B g0 W w K E n N bs ((z,a,k,d,x) :: qs):=⟨h.rg,h.b,List.forall_mem_cons.2 ⟨Q,h.q⟩,fun p c=>List.forall_mem_cons.2 ⟨f.imp_right (fun q e=>by have:=L p c;have g:z=p.1:=e;omega),h.e p c⟩,h.d⟩
theorem Ur.new(h:Ur X w0 B g0 W w K E n N bs qs)(Z:Blk w' g cs t)(a:w.heap.size<=g)(b:Below w.heap.size w w'):Ur X w0 B g0 W w' K E n N ((g,cs,t) :: bs) qs:=by
 have u:=h.keep b;refine⟨u.rg,List.forall_mem_cons.2 ⟨⟨Z,fun q=>by have:=h.rg.sx.sa.lt q;omega,.inl (Nat.le_trans h.rg.size a)⟩,u.b⟩,u.q,List.forall_mem_cons.2 ⟨fun r f=>ne1 (h.q r f).lt a,u.e⟩,List.pairwise_cons.2 ⟨fun p c e=>by have:=h.lt p c;have i:g=p.1:=e;omega,u.d⟩⟩
theorem Ur.bk(h:Ur X w0 B g0 W w K E n N bs qs)(i:Nat)(hi:bs[i]?=some (g,cs,t)):Blk w g cs t:=(h.b _ (List.mem_of_getElem? hi)).1
theorem Ur.nq(h:Ur X w0 B g0 W w K E n N bs qs)(i:Nat)(hi:qs[i]?=some (z,a,k,d,x)):Nq w K z a k d x:=h.q _ (List.mem_of_getElem? hi)
theorem Ur.put(h:Ur X w0 B g0 W w K E n N bs qs)(i:Nat)(hi:bs[i]?=some (g,cs,t))(C:Chg (·=g) w w')(Y:Blk w' g cs' t)(f:t≠5):Ur X w0 B g0 W w' K E n N (bs.set i (g,cs',t)) qs:=by
 have hm:=List.mem_of_getElem? hi;obtain⟨Z,nk,y⟩:=h.b _ hm;obtain⟨r1,j⟩:=qo (q:=(g,cs',t)) h.d hi rfl;refine⟨Rg.cell h.rg Z C y nk f,fun p a=>?_,fun r c=>(h.q r c).cell C (h.e _ hm r c),fun p a=>?_,r1⟩
 ·by_cases e:p=(g,cs',t)
  ·subst e;exact⟨Y,nk,y⟩
  ·rcases eO a with q | q
   ·exact absurd q e
   ·exact⟨(h.b p q).1.chg C (j p a e),(h.b p q).2⟩
 ·rcases eO a with q | q
  ·rw[q]
   show ∀ r∈qs,r.2.2.1=0\/r.1≠g
   exact h.e _ hm
  ·exact h.e p q
theorem Ur.nk(h:Ur X w0 B g0 W w K E n N bs qs)(i:Nat)(hi:bs[i]?=some (g,cs,t)):¬ K g:=(h.b _ (List.mem_of_getElem? hi)).2.1
theorem Ur.zz(h:Ur X w0 B g0 W w K E n N bs qs)(i:Nat)(hi:bs[i]?=some (g,cs,t)):w0.heap.size<=g\/X g:=(h.b _ (List.mem_of_getElem? hi)).2.2
theorem Ur.dd{g':Nat}{c:TypeId}(h:Ur X w0 B g0 W w K E n N bs qs)(i j:Nat)(hi:bs[i]?=some (g,cs,t))(k:bs[j]?=some (g',cs',c))(a:i < j):g≠g':=by
 obtain⟨li,f⟩:=List.getElem?_eq_some_iff.1 hi;obtain⟨e,b⟩:=List.getElem?_eq_some_iff.1 k;have:=List.pairwise_iff_getElem.1 h.d i j li e a;rw[f,b] at this;exact this
end
end
end Fo
end
section
namespace Fo
open Go.RowKit Go.Lib Pg Lim Gl Kv Bk Pw
attribute [local go_sem] Oper.semAt_some
set_option linter.unusedVariables false
set_option linter.unusedSimpArgs false
section
variable {w:World}
structure F1s where
 bk:Nat
 bf:Nat
 aF:Option Addr
 nF:Nat
 cF:Nat
 zF:Nat
structure F1(B:Nat)(w V:World)(K:Nat->Prop)(g:Nat)(E:aD)(W:List aD)(n N:Nat)(a5:Option Addr)(n5 c5 z5:Nat)(x5 F:Int)(r0:Nat)(s:F1s):Prop where
 A:Rg (·=g) B w V K g E W (n+1) N
 xk:Blk V s.bk [.slice a5 n5 c5] 32
 xf:Blk V s.bf [.slice s.aF s.nF s.cF] 32
 nk:¬ K s.bk
 nf:¬ K s.bf
 ne:s.bk≠s.bf
 q5:Nq V K z5 a5 n5 c5 x5
 qf:Nq V K s.zF s.aF s.nF s.cF F
 mf:s.nF<=510
 rk:s.bk≠r0
 rf:s.bf≠r0
 zk:w.heap.size<=s.bk\/s.bk=g
 zf:w.heap.size<=s.bf\/s.bf=g
def okM(Q:Exit->Act->World->Prop):Exit->Act->World->Prop
 | .normal,a,w=>Q .normal a w
 | .ret,a,w=>Q .ret a w
 | _,_,_=>False
theorem weakM{c:Code}{a:Act}{Q:Exit->Act->World->Prop}(h:c.wp Tryz.prog (okM Q) a w):c.wp Tryz.prog Q a w :=
 Code.wp_mono (fun e a' w' h=>by
  cases e<;>first
   | exact h
   | exact h.elim) h
structure PfE(B:Nat)(w:World)(K:Nat->Prop)(g:Nat)(E:aD)(W:List aD)(D r y:Nat)(a:Option Addr)(k d x:Nat)(V:Int)(u:Unit)(N:Nat)(V':World):Prop where
 s:Sx B V' K g E W x N
 c:Chg (·=g) w V'
 df:V'.heap[D]?=some (.deferred (some []))
 q:Nq V' K y a k d V
end
section
variable {B:Nat} {w V' V2:World} {K:Nat->Prop} {g:Nat} {E:aD} {W:List aD} {D r y:Nat} {a:Option Addr} {k d x:Nat} {V:Int} {N:Nat}
section
variable {b:Option Addr}{n:Nat}{fn:Func}{R:Ending->World->Prop}{w:World}{v:Value}
theorem PfE.drew(h:PfE B w K g E W D r y a k d x V () N V'):PfE B w K g E W D r y a k d x V () N V'.drew:=⟨h.s.keep (Below.refl _ _).drew,h.c.trans (Chg.of (F:=fun _=>False) (Below.refl _ _).drew) (fun _ _ h=>h.elim),h.df,h.q.drew⟩
theorem PfE.cell{c:Nat}(h:PfE B w K g E W D r y a k d x V () N V')(hX:Blk V' r [.slice b n c] 32)(C:Chg (·=r) V' V2)(nk:¬ K r)(i:w.heap.size<=r\/r=g):PfE B w K g E W D r y a k d x V () N V2:=by
 refine⟨⟨h.s.sa.chg C (fun b e hb=>nk ((show b=r from e)▸hb)) (fun b e cs j=>by have f:b=r:=e;subst f;exact absurd (j.eq hX).2 (by decide)),Nat.le_trans h.s.lo C.size,h.s.kb⟩,h.c.trans C (fun b hb e=>by have f:b=r:=e;rcases i with z1 | z1<;>first | omega | exact f.trans z1),?_,h.q.cell C (dN h.q hX (fun y h=>by cases h))⟩;refine(C.same D (lt_of_block h.df) (fun e=>?_)).trans h.df
 have f:D=r:=e;have:=h.df;rw[f,hX.blk] at this
 cases this
theorem PfE.fin(h:PfE B w K g E W D r y a k d x V () N V')(b:w.heap.size<=D):Sx B (V'.putObj D (.deferred none)) K g E W x N/\Chg (·=g) w (V'.putObj D (.deferred none))/\Nq (V'.putObj D (.deferred none)) K y a k d V:=by
 have R:=Rec.put (B:=w.heap.size) h.df rfl b (.deferred none);exact⟨⟨rK h.s.sa R,Nat.le_trans h.s.lo R.size,h.s.kb⟩,jE h.c R (Nat.le_refl _),h.q.rcd R⟩
theorem Cu{l:Fr}(c:w.heap[D]? = some (.deferred (some [])))(f:∀ a,Rd n [{ target:=.collected D,args:=#[] }] l a->(results fn a.tmps).run Tryz.prog (w.putObj D (.deferred none))=.ok v (w.putObj D (.deferred none)))(d:R (.returned v) (w.putObj D (.deferred none))):GE n [{ target:=.collected D,args:=#[] }] (okM (bodyPostM Fence.wide 0 Tryz.prog fn R)) .ret l w:=⟨fun a r=>by
 have b:=f a r;obtain⟨tmps,dfs⟩:=a
 have e:dfs=[{ target:=.collected D,args:=#[] }]:=r.dfs;subst e
 show bodyPostM Fence.wide 0 Tryz.prog fn R .ret _ _
 refine⟨by simp,.inl ⟨_,_,rfl,run_takeDeferred c,?_⟩⟩
 exact⟨_,b,d⟩⟩
theorem rsctM{ds:List Deferred}{l:Fr}{P:Program}(j k:Nat){T:TypeId}{g:Nat}{u:Value}(h:fn.results=#[.cell j T,.tmp k])(hu:lk l j=some (.pointer (some ⟨g,0,none⟩)))(hv:lk l k=some v)(d:(loadVar T ⟨g,0,none⟩).run P w=.ok u w)(a:Act)(r:Rd n ds l a):(results fn a.tmps).run P w=.ok (.tuple #[u,v]) w:=by
 have c:=r.gD hu;have b:=r.gD hv;simp at c b;simp[results,h,c,b,asAddr,d]
end
end
section
variable {n:Nat}{vs:List Value}{a:Act}{w:World}{K:Nat→Prop}{W:List aD}{a0 a1 a2 a3 a4 a5:Option Addr}
structure lh(B:Nat)(w:World)(K:Nat->Prop)(g:Nat)(E:aD)(W:List aD)(n N c:Nat)(V:Int)(e:Ending)(w':World):Prop where
 ex:∃ a k d z,e=.returned (.tuple #[.agg #[.slice a k d],.int .i64 (c:Int)])/\Sx B w' K g E W (n+3+2 * c) N/\Chg (·=g) w w'/\Nq w' K z a k d V/\k<=3000000000/\(k=0\/w.heap.size<=z)
def clV(E:aD)(id fr la x:Int):Int:=(j0 E id fr la x (dk E id fr la).length).1+(j0 E id fr la x (dk E id fr la).length).2.1 * fW (hX (got E (Ky.mk 7 id la)) 0) (j0 E id fr la x (dk E id fr la).length).2.2 / U36
theorem rd_en(e:a=⟨vs.toArray ++ Array.replicate (n - vs.length) undef,[]⟩)(hs:Nat.ble vs.length n=true):Rd n [] (en 0 vs) a:=by
 subst e;have hs:=Nat.le_of_ble_eq_true hs;refine⟨?_,rfl,fun k v d=>?_⟩
 ·simp;omega
 ·obtain⟨_,b⟩:=yJ vs 0 k v d;rw[Nat.sub_zero] at b;have c:=(List.getElem?_eq_some_iff.1 b).1;simp only;rw[Array.getElem?_append_left (by simpa using c)];simpa using b
theorem Bj{l:Fr}(r:Rd n [] l a):∃ x:Nat->Value,a=⟨((List.range n).map fun k=>(lk l k).getD (x k)).toArray,[]⟩:=by
 refine⟨fun k=>a.tmps.getD k undef,?_⟩;obtain⟨f,df⟩:=a;obtain⟨b,c,d⟩:=r;simp only at b c d;subst c;congr 1
 apply Array.ext
 ·simp[b]
 ·intro i hi _;simp only[List.getElem_toArray,List.getElem_map,List.getElem_range]
  cases e:lk l i with
  | none=>simp[hi]
  | some v =>
   have:=d i v e;rw[Array.getElem?_eq_getElem hi] at this;simpa using this
theorem kF{B:Nat}{g:Nat}{E:aD}{N:Nat}{rt tk un M id dp:Int}{jl bo:Bool}{n0 c0 z0:Nat}{x0:Int}{n1 c1 z1:Nat}{x1:Int}{n2 c2 z2:Nat}{x2:Int}{n3 c3 z3:Nat}{x3:Int}{n4 c4 z4:Nat}{x4:Int}{R c5 z5:Nat}{x5:Int}(h:Sx B w K g E W n N)(hid:0≤id∧id < 18446744073709551616)(Q5:Nq w K z5 a5 R c5 x5)(m5:R≤1000000)(hRk:∀ x ∈ oN E id dp ((M - 1) % 18446744073709551616),Ky.frm (8:Nat)=Ky.fIn x.1)(hn2:n≤1000000000000000000)(hcl:(dk E id dp ((M - 1) % 18446744073709551616)).length≤1000)(hn:n+3000≤4000000000000000000)(hN:N+3000≤100000000):Calls Tryz.prog 20 #[pg g,.int .u64 id,.agg #[.int .u64 rt,.int .u64 tk,.slice a0 n0 c0,.bool jl,.int .u64 un,.bool bo,.int .u64 M,.slice a1 n1 c1,.slice a2 n2 c2,.slice a3 n3 c3],.agg #[.slice a4 n4 c4,.int .u64 dp,.slice a5 R c5]] w (lh B w K g E W n N (dk E id dp ((M - 1) % 18446744073709551616)).length (clV E id dp ((M - 1) % 18446744073709551616) x5)):=by
  have A:=rg_of (X:=(·=g)) h rfl;have U:=(ur_of A).add (s:=0) (fun _ h=>(List.not_mem_nil h).elim) Q5 (.inr (Nat.zero_le _));clear A;refine(callsIn_wide (n:=0)).1 ?_
  refine callsIn_of_wp_marks Tryz.func20 rfl trivial ?_ rfl;refine wpIn_wide.2 (weakM (GC.out (n:=50) (ds:=[]) (l:=en 0 [pg g,.int .u64 id,.agg #[.int .u64 rt,.int .u64 tk,.slice a0 n0 c0,.bool jl,.int .u64 un,.bool bo,.int .u64 M,.slice a1 n1 c1,.slice a2 n2 c2,.slice a3 n3 c3],.agg #[.slice a4 n4 c4,.int .u64 dp,.slice a5 R c5]]) ?_ _ (rd_en (by rfl) (by kernel_rfl))));refine aj (aA (ta 4 [pg g] 37 (pg) ?_));intro v1 g2 j hg2 B;replace U:=U.new j hg2 B;clear j hg2 B;refine ta 5 [.int .u64 id] 22 (pg) ?_
  intro v3 g4 m hg4 B;replace U:=U.new m hg4 B;clear m hg4 B;refine ta 6 [.int .u64 rt,.int .u64 tk,.slice a0 n0 c0,.bool jl,.int .u64 un,.bool bo,.int .u64 M,.slice a1 n1 c1,.slice a2 n2 c2,.slice a3 n3 c3] 39 (pg) ?_
  intro v5 g6 H hg6 B;replace U:=U.new H hg6 B;clear H hg6 B;refine ta 7 [.slice a4 n4 c4,.int .u64 dp,.slice a5 R c5] 54 (pg) ?_
  intro v7 g8 F hg8 B;replace U:=U.new F hg8 B;clear F hg8 B;refine ta 8 [.slice none 0 0] 32 (pg) ?_
  intro v9 g10 d hg10 B;replace U:=U.new d hg10 B;clear d hg10 B;refine t 9 (.int .i64 0) ?_
  refine ay (ah ?_);refine jt (fun(s:F1s)=>[(4,pg g2),(5,pg g4),(7,pg g8),(8,pg g10),(9,.int .i64 0),(10,pg s.bk),(11,pg s.bf),(12,.int .u64 ((M - 1) % 18446744073709551616))]) (fun s V=>F1 B w V K g E W n N a5 R c5 z5 x5 (hX (got E (Ky.mk 7 id dp)) 0) g10 s∧(Blk V g2 [pg g] 37∧¬ K g2∧(w.heap.size≤g2∨(fun b=>b=g) g2))∧(Blk V g4 [.int .u64 id] 22∧¬ K g4∧(w.heap.size≤g4∨(fun b=>b=g) g4))∧(Blk V g6 [.int .u64 rt,.int .u64 tk,.slice a0 n0 c0,.bool jl,.int .u64 un,.bool bo,.int .u64 M,.slice a1 n1 c1,.slice a2 n2 c2,.slice a3 n3 c3] 39∧¬ K g6∧(w.heap.size≤g6∨(fun b=>b=g) g6))∧(Blk V g8 [.slice a4 n4 c4,.int .u64 dp,.slice a5 R c5] 54∧¬ K g8∧(w.heap.size≤g8∨(fun b=>b=g) g8))∧(Blk V g10 [.slice none 0 0] 32∧¬ K g10∧(w.heap.size≤g10∨(fun b=>b=g) g10))) ?_ ?_
  · replace U:=U.drew
    refine bX (fun w'=>Blk w' g8 [.slice a4 n4 c4,.int .u64 dp,.slice a5 R c5] 54∧Blk w' g2 [pg g] 37∧Blk w' g4 [.int .u64 id] 22∧Blk w' g6 [.int .u64 rt,.int .u64 tk,.slice a0 n0 c0,.bool jl,.int .u64 un,.bool bo,.int .u64 M,.slice a1 n1 c1,.slice a2 n2 c2,.slice a3 n3 c3] 39) (fun _=>false) ⟨(U.bk 1 rfl),(U.bk 4 rfl),(U.bk 3 rfl),(U.bk 2 rfl)⟩ ?_
    refine z 0 18 (pq g8 2) ?_
    refine zlr 1 19 [.slice a5 R c5] (fun _ h=>h.1) 2 ?_
    refine zl 2 20 (pg g) (fun _ h=>h.2.1) 0 ?_
    refine zl 3 21 (.int .u64 id) (fun _ h=>h.2.2.1) 0 ?_
    refine z 4 22 (pq g8 1) ?_
    refine zl 5 23 (.int .u64 dp) (fun _ h=>h.1) 1 ?_
    refine z 7 25 (pq g6 6) ?_
    refine zl 8 26 (.int .u64 M) (fun _ h=>h.2.2.2) 6 ?_
    refine zq 9 27 (.int .u64 (IntKind.u64.wrap (M - 1))) (.int .u64 ((M - 1) % 18446744073709551616)) (congrArg (Value.int .u64) (IntKind.wrap_u64 _)) ?_
    refine cn [6,10,11] ?_
    refine dz 6 (some 24) 49 #[pg g,.int .u64 id,.int .u64 dp] (jY U.rg.sx hid (by omega) (by omega)) ?_ ?_
    · rintro _ v12 ⟨ar11,nr11,cr11,rfl,zr11,S,C,Q,mr11,h⟩
      have L:=U.lt;replace U:=(U.ask S C).add L Q h;clear L S C Q h;refine⟨_,rfl,⟨(U.bk 1 rfl),(U.bk 4 rfl),(U.bk 3 rfl),(U.bk 2 rfl)⟩,?_⟩;refine cn [10,11] ?_
      refine zaa 10 10 [.slice none 0 0] 32 (pg) ?_ ?_
      · intro v13 g14 Xg14 hg14 B
        replace U:=U.new Xg14 hg14 B;clear Xg14 hg14 B;refine⟨⟨(U.bk 2 rfl),(U.bk 5 rfl),(U.bk 4 rfl),(U.bk 3 rfl)⟩,?_⟩;refine za 11 11 [.slice none 0 0] 32 (pg) ?_
        intro v15 g16 Xg16 hg16 B;replace U:=U.new Xg16 hg16 B;clear Xg16 hg16 B;refine⟨⟨(U.bk 3 rfl),(U.bk 6 rfl),(U.bk 5 rfl),(U.bk 4 rfl)⟩,?_⟩;refine zs 12 (U.bk 1 rfl) 0 (.agg #[.slice a5 R c5]) [.slice a5 R c5] [.slice a5 R c5] ?_
        intro v17 Y C;replace U:=U.put 1 rfl C Y (by decide);clear Y C;refine⟨⟨(U.bk 3 rfl),(U.bk 6 rfl),(U.bk 5 rfl),(U.bk 4 rfl)⟩,?_⟩;refine zs 13 (U.bk 0 rfl) 0 (.agg #[.slice ar11 nr11 cr11]) [.slice ar11 nr11 cr11] [.slice ar11 nr11 cr11] ?_
        intro v18 Y C;replace U:=U.put 0 rfl C Y (by decide);clear Y C;refine⟨⟨(U.bk 3 rfl),(U.bk 6 rfl),(U.bk 5 rfl),(U.bk 4 rfl)⟩,?_⟩;refine z 14 12 (.int .u64 ((M - 1) % 18446744073709551616)) ?_
        refine bh ?_
        exact cM (⟨g14,g16,ar11,nr11,cr11,zr11⟩:F1s) ⟨⟨U.rg,U.bk 1 rfl,U.bk 0 rfl,U.nk 1 rfl,U.nk 0 rfl,(U.dd 0 1 rfl rfl (by decide)).symm,U.nq 1 rfl,U.nq 0 rfl,by omega,U.dd 1 2 rfl rfl (by decide),U.dd 0 2 rfl rfl (by decide),U.zz 1 rfl,U.zz 0 rfl⟩,⟨U.bk 6 rfl,U.nk 6 rfl,U.zz 6 rfl⟩,⟨U.bk 5 rfl,U.nk 5 rfl,U.zz 5 rfl⟩,⟨U.bk 4 rfl,U.nk 4 rfl,U.zz 4 rfl⟩,⟨U.bk 3 rfl,U.nk 3 rfl,U.zz 3 rfl⟩,⟨U.bk 2 rfl,U.nk 2 rfl,U.zz 2 rfl⟩⟩ (by kernel_rfl)
      refine zaa 11 11 [.slice none 0 0] 32 (pg) ?_ ?_
      · intro v19 g20 Xg20 hg20 B
        replace U:=U.new Xg20 hg20 B;clear Xg20 hg20 B;refine⟨⟨(U.bk 2 rfl),(U.bk 5 rfl),(U.bk 4 rfl),(U.bk 3 rfl)⟩,?_⟩;refine za 10 10 [.slice none 0 0] 32 (pg) ?_
        intro v21 g22 Xg22 hg22 B;replace U:=U.new Xg22 hg22 B;clear Xg22 hg22 B;refine⟨⟨(U.bk 3 rfl),(U.bk 6 rfl),(U.bk 5 rfl),(U.bk 4 rfl)⟩,?_⟩;refine zs 12 (U.bk 0 rfl) 0 (.agg #[.slice a5 R c5]) [.slice a5 R c5] [.slice a5 R c5] ?_
        intro v23 Y C;replace U:=U.put 0 rfl C Y (by decide);clear Y C;refine⟨⟨(U.bk 3 rfl),(U.bk 6 rfl),(U.bk 5 rfl),(U.bk 4 rfl)⟩,?_⟩;refine zs 13 (U.bk 1 rfl) 0 (.agg #[.slice ar11 nr11 cr11]) [.slice ar11 nr11 cr11] [.slice ar11 nr11 cr11] ?_
        intro v24 Y C;replace U:=U.put 1 rfl C Y (by decide);clear Y C;refine⟨⟨(U.bk 3 rfl),(U.bk 6 rfl),(U.bk 5 rfl),(U.bk 4 rfl)⟩,?_⟩;refine z 14 12 (.int .u64 ((M - 1) % 18446744073709551616)) ?_
        refine bh ?_
        exact cM (⟨g22,g20,ar11,nr11,cr11,zr11⟩:F1s) ⟨⟨U.rg,U.bk 0 rfl,U.bk 1 rfl,U.nk 0 rfl,U.nk 1 rfl,U.dd 0 1 rfl rfl (by decide),U.nq 1 rfl,U.nq 0 rfl,by omega,U.dd 0 2 rfl rfl (by decide),U.dd 1 2 rfl rfl (by decide),U.zz 0 rfl,U.zz 1 rfl⟩,⟨U.bk 6 rfl,U.nk 6 rfl,U.zz 6 rfl⟩,⟨U.bk 5 rfl,U.nk 5 rfl,U.zz 5 rfl⟩,⟨U.bk 4 rfl,U.nk 4 rfl,U.zz 4 rfl⟩,⟨U.bk 3 rfl,U.nk 3 rfl,U.zz 3 rfl⟩,⟨U.bk 2 rfl,U.nk 2 rfl,U.zz 2 rfl⟩⟩ (by kernel_rfl)
      exact dJ
    refine zaa 10 10 [.slice none 0 0] 32 (pg) ?_ ?_
    · intro v25 g26 Xg26 hg26 B
      replace U:=U.new Xg26 hg26 B;clear Xg26 hg26 B;refine⟨⟨(U.bk 2 rfl),(U.bk 5 rfl),(U.bk 4 rfl),(U.bk 3 rfl)⟩,?_⟩;refine cn [6,11] ?_
      refine dz 6 (some 24) 49 #[pg g,.int .u64 id,.int .u64 dp] (jY U.rg.sx hid (by omega) (by omega)) ?_ ?_
      · rintro _ v28 ⟨ar27,nr27,cr27,rfl,zr27,S,C,Q,mr27,h⟩
        have L:=U.lt;replace U:=(U.ask S C).add L Q h;clear L S C Q h;refine⟨_,rfl,⟨(U.bk 2 rfl),(U.bk 5 rfl),(U.bk 4 rfl),(U.bk 3 rfl)⟩,?_⟩;refine za 11 11 [.slice none 0 0] 32 (pg) ?_
        intro v29 g30 Xg30 hg30 B;replace U:=U.new Xg30 hg30 B;clear Xg30 hg30 B;refine⟨⟨(U.bk 3 rfl),(U.bk 6 rfl),(U.bk 5 rfl),(U.bk 4 rfl)⟩,?_⟩;refine zs 12 (U.bk 1 rfl) 0 (.agg #[.slice a5 R c5]) [.slice a5 R c5] [.slice a5 R c5] ?_
        intro v31 Y C;replace U:=U.put 1 rfl C Y (by decide);clear Y C;refine⟨⟨(U.bk 3 rfl),(U.bk 6 rfl),(U.bk 5 rfl),(U.bk 4 rfl)⟩,?_⟩;refine zs 13 (U.bk 0 rfl) 0 (.agg #[.slice ar27 nr27 cr27]) [.slice ar27 nr27 cr27] [.slice ar27 nr27 cr27] ?_
        intro v32 Y C;replace U:=U.put 0 rfl C Y (by decide);clear Y C;refine⟨⟨(U.bk 3 rfl),(U.bk 6 rfl),(U.bk 5 rfl),(U.bk 4 rfl)⟩,?_⟩;refine z 14 12 (.int .u64 ((M - 1) % 18446744073709551616)) ?_
        refine bh ?_
        exact cM (⟨g26,g30,ar27,nr27,cr27,zr27⟩:F1s) ⟨⟨U.rg,U.bk 1 rfl,U.bk 0 rfl,U.nk 1 rfl,U.nk 0 rfl,(U.dd 0 1 rfl rfl (by decide)).symm,U.nq 1 rfl,U.nq 0 rfl,by omega,U.dd 1 2 rfl rfl (by decide),U.dd 0 2 rfl rfl (by decide),U.zz 1 rfl,U.zz 0 rfl⟩,⟨U.bk 6 rfl,U.nk 6 rfl,U.zz 6 rfl⟩,⟨U.bk 5 rfl,U.nk 5 rfl,U.zz 5 rfl⟩,⟨U.bk 4 rfl,U.nk 4 rfl,U.zz 4 rfl⟩,⟨U.bk 3 rfl,U.nk 3 rfl,U.zz 3 rfl⟩,⟨U.bk 2 rfl,U.nk 2 rfl,U.zz 2 rfl⟩⟩ (by kernel_rfl)
      refine zaa 11 11 [.slice none 0 0] 32 (pg) ?_ ?_
      · intro v33 g34 Xg34 hg34 B
        replace U:=U.new Xg34 hg34 B;clear Xg34 hg34 B;refine⟨⟨(U.bk 3 rfl),(U.bk 6 rfl),(U.bk 5 rfl),(U.bk 4 rfl)⟩,?_⟩;refine zc 6 24 49 #[pg g,.int .u64 id,.int .u64 dp] (jY U.rg.sx hid (by omega) (by omega)) ?_
        rintro _ v36 ⟨ar35,nr35,cr35,rfl,zr35,S,C,Q,mr35,h⟩;have L:=U.lt;replace U:=(U.ask S C).add L Q h;clear L S C Q h;refine⟨_,rfl,⟨(U.bk 3 rfl),(U.bk 6 rfl),(U.bk 5 rfl),(U.bk 4 rfl)⟩,?_⟩;refine zs 12 (U.bk 1 rfl) 0 (.agg #[.slice a5 R c5]) [.slice a5 R c5] [.slice a5 R c5] ?_
        intro v37 Y C;replace U:=U.put 1 rfl C Y (by decide);clear Y C;refine⟨⟨(U.bk 3 rfl),(U.bk 6 rfl),(U.bk 5 rfl),(U.bk 4 rfl)⟩,?_⟩;refine zs 13 (U.bk 0 rfl) 0 (.agg #[.slice ar35 nr35 cr35]) [.slice ar35 nr35 cr35] [.slice ar35 nr35 cr35] ?_
        intro v38 Y C;replace U:=U.put 0 rfl C Y (by decide);clear Y C;refine⟨⟨(U.bk 3 rfl),(U.bk 6 rfl),(U.bk 5 rfl),(U.bk 4 rfl)⟩,?_⟩;refine z 14 12 (.int .u64 ((M - 1) % 18446744073709551616)) ?_
        refine bh ?_
        exact cM (⟨g26,g34,ar35,nr35,cr35,zr35⟩:F1s) ⟨⟨U.rg,U.bk 1 rfl,U.bk 0 rfl,U.nk 1 rfl,U.nk 0 rfl,(U.dd 0 1 rfl rfl (by decide)).symm,U.nq 1 rfl,U.nq 0 rfl,by omega,U.dd 1 2 rfl rfl (by decide),U.dd 0 2 rfl rfl (by decide),U.zz 1 rfl,U.zz 0 rfl⟩,⟨U.bk 6 rfl,U.nk 6 rfl,U.zz 6 rfl⟩,⟨U.bk 5 rfl,U.nk 5 rfl,U.zz 5 rfl⟩,⟨U.bk 4 rfl,U.nk 4 rfl,U.zz 4 rfl⟩,⟨U.bk 3 rfl,U.nk 3 rfl,U.zz 3 rfl⟩,⟨U.bk 2 rfl,U.nk 2 rfl,U.zz 2 rfl⟩⟩ (by kernel_rfl)
      exact dJ
    refine zaa 11 11 [.slice none 0 0] 32 (pg) ?_ ?_
    · intro v39 g40 Xg40 hg40 B
      replace U:=U.new Xg40 hg40 B;clear Xg40 hg40 B;refine⟨⟨(U.bk 2 rfl),(U.bk 5 rfl),(U.bk 4 rfl),(U.bk 3 rfl)⟩,?_⟩;refine cn [6,10] ?_
      refine dz 6 (some 24) 49 #[pg g,.int .u64 id,.int .u64 dp] (jY U.rg.sx hid (by omega) (by omega)) ?_ ?_
      · rintro _ v42 ⟨ar41,nr41,cr41,rfl,zr41,S,C,Q,mr41,h⟩
        have L:=U.lt;replace U:=(U.ask S C).add L Q h;clear L S C Q h;refine⟨_,rfl,⟨(U.bk 2 rfl),(U.bk 5 rfl),(U.bk 4 rfl),(U.bk 3 rfl)⟩,?_⟩;refine za 10 10 [.slice none 0 0] 32 (pg) ?_
        intro v43 g44 Xg44 hg44 B;replace U:=U.new Xg44 hg44 B;clear Xg44 hg44 B;refine⟨⟨(U.bk 3 rfl),(U.bk 6 rfl),(U.bk 5 rfl),(U.bk 4 rfl)⟩,?_⟩;refine zs 12 (U.bk 0 rfl) 0 (.agg #[.slice a5 R c5]) [.slice a5 R c5] [.slice a5 R c5] ?_
        intro v45 Y C;replace U:=U.put 0 rfl C Y (by decide);clear Y C;refine⟨⟨(U.bk 3 rfl),(U.bk 6 rfl),(U.bk 5 rfl),(U.bk 4 rfl)⟩,?_⟩;refine zs 13 (U.bk 1 rfl) 0 (.agg #[.slice ar41 nr41 cr41]) [.slice ar41 nr41 cr41] [.slice ar41 nr41 cr41] ?_
        intro v46 Y C;replace U:=U.put 1 rfl C Y (by decide);clear Y C;refine⟨⟨(U.bk 3 rfl),(U.bk 6 rfl),(U.bk 5 rfl),(U.bk 4 rfl)⟩,?_⟩;refine z 14 12 (.int .u64 ((M - 1) % 18446744073709551616)) ?_
        refine bh ?_
        exact cM (⟨g44,g40,ar41,nr41,cr41,zr41⟩:F1s) ⟨⟨U.rg,U.bk 0 rfl,U.bk 1 rfl,U.nk 0 rfl,U.nk 1 rfl,U.dd 0 1 rfl rfl (by decide),U.nq 1 rfl,U.nq 0 rfl,by omega,U.dd 0 2 rfl rfl (by decide),U.dd 1 2 rfl rfl (by decide),U.zz 0 rfl,U.zz 1 rfl⟩,⟨U.bk 6 rfl,U.nk 6 rfl,U.zz 6 rfl⟩,⟨U.bk 5 rfl,U.nk 5 rfl,U.zz 5 rfl⟩,⟨U.bk 4 rfl,U.nk 4 rfl,U.zz 4 rfl⟩,⟨U.bk 3 rfl,U.nk 3 rfl,U.zz 3 rfl⟩,⟨U.bk 2 rfl,U.nk 2 rfl,U.zz 2 rfl⟩⟩ (by kernel_rfl)
      refine zaa 10 10 [.slice none 0 0] 32 (pg) ?_ ?_
      · intro v47 g48 Xg48 hg48 B
        replace U:=U.new Xg48 hg48 B;clear Xg48 hg48 B;refine⟨⟨(U.bk 3 rfl),(U.bk 6 rfl),(U.bk 5 rfl),(U.bk 4 rfl)⟩,?_⟩;refine zc 6 24 49 #[pg g,.int .u64 id,.int .u64 dp] (jY U.rg.sx hid (by omega) (by omega)) ?_
        rintro _ v50 ⟨ar49,nr49,cr49,rfl,zr49,S,C,Q,mr49,h⟩;have L:=U.lt;replace U:=(U.ask S C).add L Q h;clear L S C Q h;refine⟨_,rfl,⟨(U.bk 3 rfl),(U.bk 6 rfl),(U.bk 5 rfl),(U.bk 4 rfl)⟩,?_⟩;refine zs 12 (U.bk 0 rfl) 0 (.agg #[.slice a5 R c5]) [.slice a5 R c5] [.slice a5 R c5] ?_
        intro v51 Y C;replace U:=U.put 0 rfl C Y (by decide);clear Y C;refine⟨⟨(U.bk 3 rfl),(U.bk 6 rfl),(U.bk 5 rfl),(U.bk 4 rfl)⟩,?_⟩;refine zs 13 (U.bk 1 rfl) 0 (.agg #[.slice ar49 nr49 cr49]) [.slice ar49 nr49 cr49] [.slice ar49 nr49 cr49] ?_
        intro v52 Y C;replace U:=U.put 1 rfl C Y (by decide);clear Y C;refine⟨⟨(U.bk 3 rfl),(U.bk 6 rfl),(U.bk 5 rfl),(U.bk 4 rfl)⟩,?_⟩;refine z 14 12 (.int .u64 ((M - 1) % 18446744073709551616)) ?_
        refine bh ?_
        exact cM (⟨g48,g40,ar49,nr49,cr49,zr49⟩:F1s) ⟨⟨U.rg,U.bk 0 rfl,U.bk 1 rfl,U.nk 0 rfl,U.nk 1 rfl,U.dd 0 1 rfl rfl (by decide),U.nq 1 rfl,U.nq 0 rfl,by omega,U.dd 0 2 rfl rfl (by decide),U.dd 1 2 rfl rfl (by decide),U.zz 0 rfl,U.zz 1 rfl⟩,⟨U.bk 6 rfl,U.nk 6 rfl,U.zz 6 rfl⟩,⟨U.bk 5 rfl,U.nk 5 rfl,U.zz 5 rfl⟩,⟨U.bk 4 rfl,U.nk 4 rfl,U.zz 4 rfl⟩,⟨U.bk 3 rfl,U.nk 3 rfl,U.zz 3 rfl⟩,⟨U.bk 2 rfl,U.nk 2 rfl,U.zz 2 rfl⟩⟩ (by kernel_rfl)
      exact dJ
    exact dJ
  clear U Q5;rintro⟨bk,bf,aF,nF,cF,zF⟩ v53 ⟨⟨A,v,G,nXbk,nXbf,aa,Q5,QF,mF,dRk,dRf,zbk,zbf⟩,⟨j,nXg2,zg2⟩,⟨m,nXg4,zg4⟩,⟨H,nXg6,zg6⟩,⟨F,nXg8,zg8⟩,⟨d,nXg10,zg10⟩⟩;simp only at A v G nXbk nXbf aa Q5 QF mF dRk dRf zbk zbf;refine aj (aA ?_);have lXg2:=j.lt;have lXg4:=m.lt;have lXg6:=H.lt;have lXg8:=F.lt;have lXg10:=d.lt;have lXbk:=v.lt;have lXbf:=G.lt;refine ta 13 [.slice none 0 0] 32 (pg) ?_
  intro v54 D f P B;have zg55:=Or.inl (b:=(fun b=>b=g) D) (Nat.le_trans A.size P);have nXg55:=A.new P;have eQ5g55:=ne1 Q5.lt P;have eQFg55:=ne1 QF.lt P;have dg55_g2:=ne4 j.lt P;have dg55_g4:=ne4 m.lt P;have dg55_g6:=ne4 H.lt P;have dg55_g8:=ne4 F.lt P;have dg55_g10:=ne4 d.lt P;have Z:=ne4 v.lt P;have dg55_bf:=ne4 G.lt P;replace A:=A.keep B;replace Q5:=Q5.keep B;replace QF:=QF.keep B;replace j:=j.keep B;replace m:=m.keep B;replace H:=H.keep B;replace F:=F.keep B;replace d:=d.keep B;replace v:=v.keep B;replace G:=G.keep B;clear B;refine ay (ah (aj (aA (t 28 (.func (.func 50) #[] #[pg g2,pg g4,pg D,pg bk,pg bf]) ?_))));have lXg2:=j.lt;have lXg4:=m.lt;have lXg6:=H.lt;have lXg8:=F.lt;have lXg10:=d.lt;have lXbk:=v.lt;have lXbf:=G.lt;have lXg55:=f.lt;refine ta 14 [.nilFunc] 106 (pg) ?_
  intro v56 g57 o J B;have zg57:=Or.inl (b:=(fun b=>b=g) g57) (Nat.le_trans A.size J);have nXg57:=A.new J;have eQ5g57:=ne1 Q5.lt J;have eQFg57:=ne1 QF.lt J;have dg57_g2:=ne4 j.lt J;have dg57_g4:=ne4 m.lt J;have dg57_g6:=ne4 H.lt J;have dg57_g8:=ne4 F.lt J;have dg57_g10:=ne4 d.lt J;have dg57_bk:=ne4 v.lt J;have dg57_bf:=ne4 G.lt J;have dg57_g55:=ne4 f.lt J;replace A:=A.keep B;replace Q5:=Q5.keep B;replace QF:=QF.keep B;replace j:=j.keep B;replace m:=m.keep B;replace H:=H.keep B;replace F:=F.keep B;replace d:=d.keep B;replace v:=v.keep B;replace G:=G.keep B;replace f:=f.keep B;clear B;refine ts o 0 (.func (.func 50) #[] #[pg g2,pg g4,pg D,pg bk,pg bf]) [.func (.func 50) #[] #[pg g2,pg g4,pg D,pg bk,pg bf]] [.func (.func 50) #[] #[pg g2,pg g4,pg D,pg bk,pg bf]] ?_
  intro v58 Y C;replace A:=Rg.cell A o C zg57 nXg57 (by decide);replace Q5:=Q5.cell C eQ5g57;replace QF:=QF.cell C eQFg57;replace j:=j.chg C dg57_g2.symm;replace m:=m.chg C dg57_g4.symm;replace H:=H.chg C dg57_g6.symm;replace F:=F.chg C dg57_g8.symm;replace d:=d.chg C dg57_g10.symm;replace v:=v.chg C dg57_bk.symm;replace G:=G.chg C dg57_bf.symm;replace f:=f.chg C dg57_g55.symm;clear C o;have o:=Y;clear Y;refine ay (ah (aj (aA ?_)));have lXg2:=j.lt;have lXg4:=m.lt;have lXg6:=H.lt;have lXg8:=F.lt;have lXg10:=d.lt;have lXbk:=v.lt;have lXbf:=G.lt;have lXg55:=f.lt;have lXg57:=o.lt;refine ta 15 [.int .i64 0] 3 (pg) ?_
  intro v59 O ab I B;have zg60:=Or.inl (b:=(fun b=>b=g) O) (Nat.le_trans A.size I);have nXg60:=A.new I;have eQ5g60:=ne1 Q5.lt I;have eQFg60:=ne1 QF.lt I;have dg60_g2:=ne4 j.lt I;have dg60_g4:=ne4 m.lt I;have dg60_g6:=ne4 H.lt I;have dg60_g8:=ne4 F.lt I;have dg60_g10:=ne4 d.lt I;have dg60_bk:=ne4 v.lt I;have dg60_bf:=ne4 G.lt I;have dg60_g55:=ne4 f.lt I;have dg60_g57:=ne4 o.lt I;replace A:=A.keep B;replace Q5:=Q5.keep B;replace QF:=QF.keep B;replace j:=j.keep B;replace m:=m.keep B;replace H:=H.keep B;replace F:=F.keep B;replace d:=d.keep B;replace v:=v.keep B;replace G:=G.keep B;replace f:=f.keep B;replace o:=o.keep B;clear B;refine ts ab 0 (.int .i64 0) [.int .i64 0] [.int .i64 0] ?_
  intro v61 Y C;replace A:=Rg.cell A ab C zg60 nXg60 (by decide);replace Q5:=Q5.cell C eQ5g60;replace QF:=QF.cell C eQFg60;replace j:=j.chg C dg60_g2.symm;replace m:=m.chg C dg60_g4.symm;replace H:=H.chg C dg60_g6.symm;replace F:=F.chg C dg60_g8.symm;replace d:=d.chg C dg60_g10.symm;replace v:=v.chg C dg60_bk.symm;replace G:=G.chg C dg60_bf.symm;replace f:=f.chg C dg60_g55.symm;replace o:=o.chg C dg60_g57.symm;clear C ab;have ab:=Y;clear Y;refine ay (ah (aj (aj (aA (tl 29 (pg g) j 0 ?_)))));refine tl 30 (.int .u64 id) m 0 ?_
  refine t 31 (pq g8 1) ?_
  refine tl 32 (.int .u64 dp) F 1 ?_
  refine t 33 (.int .u64 ((M - 1) % 18446744073709551616)) ?_
  refine tc 34 53 #[pg g,.int .u64 id,.int .u64 dp,.int .u64 ((M - 1) % 18446744073709551616)] (CX) ?_
  rintro _ v62 ⟨rfl,Yc1,Yc2,Yc3,Yc4,B⟩;refine⟨_,rfl,?_⟩;skip;replace A:=A.keep B;replace Q5:=Q5.keep B;replace QF:=QF.keep B;replace j:=j.keep B;replace m:=m.keep B;replace H:=H.keep B;replace F:=F.keep B;replace d:=d.keep B;replace v:=v.keep B;replace G:=G.keep B;replace f:=f.keep B;replace o:=o.keep B;replace ab:=ab.keep B;clear B;refine ay (ah (fM (aT [(8,pg g10),(9,.int .i64 0),(10,pg bk),(12,.int .u64 ((M - 1) % 18446744073709551616)),(13,pg D),(14,pg g57),(15,pg O),(34,.func (.func 81) #[] #[.pointer (some ⟨v61.heap.size+1,0,none⟩),.pointer (some ⟨v61.heap.size+1+1,0,none⟩),.pointer (some ⟨v61.heap.size+1+1+1,0,none⟩),.pointer (some ⟨v61.heap.size,0,none⟩)])] (by kernel_rfl) ?_)));refine⟨fun a r=>?_⟩;obtain⟨x,ha⟩:= Bj r;replace ha:=ha.trans (show _=(⟨#[x 0,x 1,x 2,x 3,x 4,x 5,x 6,x 7,pg g10,.int .i64 0,pg bk,x 11,.int .u64 ((M - 1) % 18446744073709551616),pg D,pg g57,pg O,x 16,x 17,x 18,x 19,x 20,x 21,x 22,x 23,x 24,x 25,x 26,x 27,x 28,x 29,x 30,x 31,x 32,x 33,.func (.func 81) #[] #[.pointer (some ⟨v61.heap.size+1,0,none⟩),.pointer (some ⟨v61.heap.size+1+1,0,none⟩),.pointer (some ⟨v61.heap.size+1+1+1,0,none⟩),.pointer (some ⟨v61.heap.size,0,none⟩)],x 35,x 36,x 37,x 38,x 39,x 40,x 41,x 42,x 43,x 44,x 45,x 46,x 47,x 48,x 49],[]⟩:Act) from rfl);subst ha;clear r
  have nX' : ∀ {b : Nat} {cs : List Value} {T : TypeId}, Blk v62 b cs T → T ≠ 94 → T ≠ 32 → T ≠ 3 → ¬ (b = g ∨ b = D ∨ b = bk ∨ b = bf ∨ b = O) := fun k h1 h2 h3 h => by
    obtain⟨cs',k'⟩:= A.sx.sa.kv;rcases h with e | e | e | e | e
    · rw[e] at k;exact h1 (k.eq k').2
    · rw[e] at k;exact h2 (k.eq f).2
    · rw[e] at k;exact h2 (k.eq v).2
    · rw[e] at k;exact h2 (k.eq G).2
    · rw[e] at k;exact h3 (k.eq ab).2
  have hXl : ∀ b, (b = g ∨ b = D ∨ b = bk ∨ b = bf ∨ b = O) → b < v62.heap.size := fun b h => by
    rcases h with e | e | e | e | e <;> rw[e]
    · exact A.sx.sa.lt A.sx.sa.top
    · exact f.lt
    · exact v.lt
    · exact G.lt
    · exact ab.lt
  have hX1 : ∀ b, (b = g ∨ b = D ∨ b = bk ∨ b = bf ∨ b = O) → b = g ∨ ¬ K b := fun b h => by
    rcases h with e | e | e | e | e
    · exact .inl e
    · exact .inr (e ▸ nXg55)
    · exact .inr (e ▸ nXbk)
    · exact .inr (e ▸ nXbf)
    · exact .inr (e ▸ nXg60)
  have hXk:Hid (bk≠g):=aB (fun e=>by obtain⟨cs',k'⟩:= A.sx.sa.kv;rw[← e] at k';exact absurd (v.eq k').2 (by decide));have sN:=nX' j (by decide) (by decide) (by decide);have iN:=nX' m (by decide) (by decide) (by decide);have IT:=AX (X:=fun b=>b=g∨b=D∨b=bk∨b=bf∨b=O) (xs:=fun i=>n+1+1+2 * i) A.sx.sa Yc1 Yc2 Yc3 Yc4 (nX' Yc1 (by decide) (by decide) (by decide)) (nX' Yc2 (by decide) (by decide) (by decide)) (nX' Yc3 (by decide) (by decide) (by decide)) (nX' Yc4 (by decide) (by decide) (by decide)) hX1 hXl hid (by omega) (by omega) (fun i hi=>by show n+1+1+2 * i≤_;omega) hRk
  have I0:ClI B v62 D bk bf O K g E W N (n+1) 0 R (j0 E id dp ((M - 1) % 18446744073709551616) x5 0) v62:=⟨Chg.refl _ _,A.sx,ab,⟨none,0,0,0,f,bQ _ _,Nat.zero_le _⟩,⟨a5,R,c5,z5,v,Q5,by omega⟩,aF,nF,cF,zF,G,QF,mF⟩;refine(wpIn_wide (n:=0)).1 ?_
  refine uj IT (by rfl) (enters_of Tryz.func81 (by kernel_rfl) rfl) (fun i args n V V' h hc=>h) (fun i args n V h=>by obtain⟨c,_,rfl⟩:= h;rfl)
    (fun V=>ClI B v62 D bk bf O K g E W N (n+1) 0 R (j0 E id dp ((M - 1) % 18446744073709551616) x5 0) V)
    (fun i V=>ClI B v62 D bk bf O K g E W N (n+1+1+2 * i) i R (j0 E id dp ((M - 1) % 18446744073709551616) x5 i) V)
    (fun i V=>ClI B v62 D bk bf O K g E W N (n+1+1+2 * i+1) i R (j0 E id dp ((M - 1) % 18446744073709551616) x5 i) V)
    (fun c i V=>False)
    (fun A B hx hr=>hx.rcd hr) (fun i A B hx hr=>hx.rcd hr) (fun i A B hx hr=>hx.rcd hr) (fun c i A B hx hr=>hx) (hXl g (.inl rfl))
    (fun V hv=>by have q:=hv.sx.sa.cnt;exact⟨q.1,q.2,hv.rd,hv.tick⟩)
    (fun i V hv=>by have q:=hv.sx.sa.cnt;exact⟨q.1,q.2,hv.rd,fun _=>hv.tick⟩)
    I0 ?_ ?_ ?_
  · rintro l2 i args V Wv hl hlV hrec hiN hT hb ⟨c,hc,rfl⟩
    simp;gi_wp2;refine⟨ae _ _,?_⟩;intro V2 W2 hT2 hb2 hAr2 hoth hsz3 hV2 rl hrec2;have I2:=hT2.rcd (Rec.of hb2);have zb:=hb.size;have zV:=hT.chg.size
    have cB:Blk W2 Wv.heap.size [.int .u64 c.2.1,.int .u64 c.2.2] 111:=⟨by rw[hoth _ (by omega)];exact(aC Wv [.int .u64 c.2.1,.int .u64 c.2.2] 111).blk⟩;obtain⟨aR,nR,cR,zR,p1,p2,p3⟩:= I2.rew;obtain⟨aS,nS,cS,zS,q1,q2,q3⟩:= I2.stk;obtain⟨aG,nG,cG,zG,r1,r2,r3⟩:= I2.frm
    have hi:i < 1000:=Nat.lt_of_lt_of_le hiN hcl;have fb:=o.chg I2.chg (nX' o (by decide) (by decide) (by decide));have sb:=j.chg I2.chg sN;have ib:=m.chg I2.chg iN;have tE:=qP (p:=c.1) I2.sx hid p2 (by omega) q2 (by omega) r2 (by omega) sb ib p1 q1 r1 nXg2 nXg4 nXg55 nXbk nXbf Z dg55_bf aa (fun e=>sN (.inr (.inl e))) (fun e=>sN (.inr (.inr (.inr (.inl e))))) (fun e=>iN (.inr (.inl e))) (fun e=>iN (.inr (.inr (.inr (.inl e))))) (dN p2 p1 (fun y h=>by cases h)) (dN p2 r1 (fun y h=>by cases h)) (dN q2 p1 (fun y h=>by cases h)) (dN q2 r1 (fun y h=>by cases h)) (dN r2 p1 (fun y h=>by cases h)) (dN r2 r1 (fun y h=>by cases h)) (by omega) (by omega);have rg:=wT A.sx.sa hc;have hst:=vZ (x:=x5) hc;have fc:=fb.cell (i:=0) rfl;have zS1:=(dN q2 p1 (fun y h=>by cases h));have zS2:=(dN q2 r1 (fun y h=>by cases h))
    have zS3:nS=0∨zS≠g:=q2.out.imp_right (fun k e=>k (e ▸ A.sx.sa.top))
    have cW : ∀ b, (b = g ∨ b = D ∨ b = bf) → b ≠ Wv.heap.size := fun b h e => by
      have:=hXl b (h.elim .inl (fun h=>h.elim (fun h=>.inr (.inl h)) (fun h=>.inr (.inr (.inr (.inl h))))));omega
    have HI2:=aB I2;have HcB:=aB cB;have Hq1:=aB q1;have Hq2:=aB q2;clear hT hb hT2 hb2 hAr2 hoth I2 cB p1 p2 q1 q2 r1 r2 r3 sb ib fb hrec IT I0 hX1 hc;obtain⟨cp,cb,ca⟩:= c;simp only at tE rg hst HcB ⊢;gi_wp2_with first
      | (refine⟨trivial,rfl,?_⟩;gi_at_call 50;refine(CallsIn.inRound l2 (callsIn_wide.2 tE)).mono ?_;rintro e' w3 ⟨b1,k1,d1,y1,b2,k2,d2,y2,rfl,S3,C3,R3,N1,m1,f1,F3,N2,m2,f2⟩;clear tE fc;have bk3:=Hq1.out.chg C3 (fun h=>h.elim (fun e=>(hXk.out e)) (fun h=>h.elim (fun e=>Z e.symm) aa));have cb3:=HcB.out.chg C3 (fun h=>cW _ h rfl);have tB:=tX (w:=w3) (Hq2.out.to w3 (fun hn=>C3.same zS (Hq2.out.lt.resolve_left hn) (fun h=>h.elim (zS3.resolve_left hn) (fun h=>h.elim (zS1.resolve_left hn) (zS2.resolve_left hn))))).a (by omega) rg.1 rg.2;have kc:=bk3.cell (i:=0) rfl;have c0:=cb3.cell (i:=0) rfl;have c1':=cb3.cell (i:=1) rfl)
      | (refine⟨trivial,rfl,?_⟩;gi_at_call 54;refine(CallsIn.inRound l2 (callsIn_wide.2 tB)).mono ?_;rintro e' w4 ⟨a4',k4,d4,z4',rfl,M4,h4,m4,B4⟩;clear tB kc c0 c1';obtain⟨⟨x1',x2',x3',x4'⟩,hI,hK⟩:= ClI.go HI2.out hXl Z aa nXbk nXg60 S3 C3 R3 N1 (by omega) F3 N2 m2 M4 h4 (by omega) B4;have kc:=(bk3.keep B4).cell (i:=0) rfl;have HI3:=aB hI;have HK3:=aB hK;clear hI hK bk3 cb3 S3 C3 R3 N1 F3 N2 M4 B4)
    refine⟨HK3.out,?_⟩
    show ClI B v62 D bk bf O K g E W N (n+1+1+2 * (i+1)) (i+1) R (j0 E id dp ((M - 1) % 18446744073709551616) x5 (i+1)) _
    rw[hst,show n+1+1+2 * (i+1)=n+1+1+2 * i+1+1 by omega];exact HI3.out
  · rintro D' W' hD hK hT
    obtain⟨aR,nR,cR,zR,p1,p2,p3⟩:= hT.rew;obtain⟨aS,nS,cS,zS,q1,q2,q3⟩:= hT.stk;obtain⟨aG,nG,cG,zG,r1,r2,r3⟩:= hT.frm;have fb:=o.chg hT.chg (nX' o (by decide) (by decide) (by decide));have sb:=j.chg hT.chg sN;have ib:=m.chg hT.chg iN
    have hrg:g10≠g:=fun e=>nXg10 (e ▸ A.sx.sa.top)
    have hrc:g10≠O:=dg60_g10.symm;have rb:=d.chg hT.chg (fun h=>h.elim hrg (fun h=>h.elim dg55_g10.symm (fun h=>h.elim dRk.symm (fun h=>h.elim dRf.symm hrc))))
    have hcr:O≠D:=dg60_g55
    have hcf:O≠bf:=dg60_bf
    have hcg:O≠g:=fun e=>nXg60 (e ▸ A.sx.sa.top)
    have tE:=qP (p:=((M - 1) % 18446744073709551616)) hT.sx hid p2 (by omega) q2 (by omega) r2 (by omega) sb ib p1 q1 r1 nXg2 nXg4 nXg55 nXbk nXbf Z dg55_bf aa (fun e=>sN (.inr (.inl e))) (fun e=>sN (.inr (.inr (.inr (.inl e))))) (fun e=>iN (.inr (.inl e))) (fun e=>iN (.inr (.inr (.inr (.inl e))))) (dN p2 p1 (fun y h=>by cases h)) (dN p2 r1 (fun y h=>by cases h)) (dN q2 p1 (fun y h=>by cases h)) (dN q2 r1 (fun y h=>by cases h)) (dN r2 p1 (fun y h=>by cases h)) (dN r2 r1 (fun y h=>by cases h)) (by omega) (by omega)
    have CC := A.cg.trans hT.chg (fun b hb h => by
      rcases h with e | e | e | e | e
      · exact e
      · rcases zg55 with z1 | z1 <;> first | omega | exact e.trans z1
      · rcases zbk with z1 | z1 <;> first | omega | exact e.trans z1
      · rcases zbf with z1 | z1 <;> first | omega | exact e.trans z1
      · rcases zg60 with z1 | z1 <;> first | omega | exact e.trans z1)
    have cT:=hT.cnt
    have hDl:D' < W'.heap.size:=lt_of_block hK;refine GE.out (n:=50) (ds:=[{ target:=.collected D',args:=#[] }]) (l:=[(8,pg g10),(9,.int .i64 0),(12,.int .u64 ((M - 1) % 18446744073709551616)),(13,pg D),(14,pg g57),(15,pg O)]) ?_ _ ⟨rfl,rfl,fun q u hq=>?_⟩
    · refine uE ?_
      refine ah (aj (aA (tl 45 (.func (.func 50) #[] #[pg g2,pg g4,pg D,pg bk,pg bf]) fb 0 ?_)));refine t 46 (.int .u64 ((M - 1) % 18446744073709551616)) ?_
      refine tc 47 50 #[.int .u64 ((M - 1) % 18446744073709551616),pg g2,pg g4,pg D,pg bk,pg bf] (tE) ?_
      rintro _ v63 ⟨b1,k1,d1,y1,b2,k2,d2,y2,rfl,S3,C3,R3,N1,m1,f1,F3,N2,m2,f2⟩;refine⟨_,rfl,?_⟩;have Xc3:=cT.chg C3 (fun h=>h.elim hcg (fun h=>h.elim hcr hcf));have Xr3:=rb.chg C3 (fun h=>h.elim hrg (fun h=>h.elim dg55_g10.symm dRf.symm));have hK3:=(C3.same D' hDl (fun h=>by have:=hXl D' (h.elim .inl (fun h=>h.elim (fun h=>.inr (.inl h)) (fun h=>.inr (.inr (.inr (.inl h))))));omega)).trans hK
      have CC3 := CC.trans C3 (fun b hb h => by
        rcases h with e | e | e
        · exact e
        · rcases zg55 with z1 | z1 <;> first | omega | exact e.trans z1
        · rcases zbf with z1 | z1 <;> first | omega | exact e.trans z1)
      have eN1g10:=dN N1 Xr3 (fun y h=>by cases h)
      have PF:PfE B w K g E W D' g10 y1 b1 k1 d1 (n+1+1+2 * (dk E id dp ((M - 1) % 18446744073709551616)).length+1) (_) () N _:=⟨S3,CC3,hK3,N1⟩
      have f1w:k1=0∨w.heap.size≤y1:=ne3 f1 CC.size;clear tE cT rb fb CC;refine ay (ah (aj ?_));replace R3:=R3.drew;replace Xc3:=Xc3.drew;replace Xr3:=Xr3.drew;replace PF:=PF.drew;refine bX (fun w'=>Blk w' D [.slice b1 k1 d1] 32∧Blk w' O [.int .i64 (((dk E id dp ((M - 1) % 18446744073709551616)).length:Nat):Int)] 3) (fun _=>false) ⟨R3,Xc3⟩ ?_
      refine zlr 0 48 [.slice b1 k1 d1] (fun _ h=>h.1) 0 ?_
      refine zl 1 49 (.int .i64 (((dk E id dp ((M - 1) % 18446744073709551616)).length:Nat):Int)) (fun _ h=>h.2) 0 ?_
      refine zs 2 Xr3 0 (.agg #[.slice b1 k1 d1]) [.slice b1 k1 d1] [.slice b1 k1 d1] ?_
      intro v64 Y C;replace R3:=R3.chg C dg55_g10;replace Xc3:=Xc3.chg C dg60_g10;replace PF:=PF.cell Xr3 C nXg10 zg10;clear C Xr3;have Xr3:=Y;clear Y;refine⟨⟨R3,Xc3⟩,?_⟩;refine z 3 9 (.int .i64 (((dk E id dp ((M - 1) % 18446744073709551616)).length:Nat):Int)) ?_
      refine bh (ah (aO ?_));obtain⟨u1,u2,u3⟩:= PF.fin (Nat.le_trans A.cg.size hD);have Xr4:=eH Xr3 (Rec.put (B:=w.heap.size) PF.df rfl (Nat.le_trans A.cg.size hD) (.deferred none));rw[show n+1+1+2 * (dk E id dp ((M - 1) % 18446744073709551616)).length+1=n+3+2 * (dk E id dp ((M - 1) % 18446744073709551616)).length by omega] at u1;exact Cu PF.df (rsctM 8 9 (T:=32) (by kernel_rfl) (by kernel_rfl) (by kernel_rfl) (lr Xr4 0)) ⟨_,_,_,_,rfl,u1,u2,u3,by omega,f1w⟩
    · have hm:=sU hq
      simp at hm;rcases hm with⟨rfl,rfl⟩ | ⟨rfl,rfl⟩ | ⟨rfl,rfl⟩ | ⟨rfl,rfl⟩ | ⟨rfl,rfl⟩ | ⟨rfl,rfl⟩ <;> rfl
  · rintro D' c i W' hD hK hi h
    exact h.elim
end
end Fo
end
end Go.Proofs.YthfepflplbahkaaGreatDoor
