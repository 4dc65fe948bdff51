import Derived.Test.YtjejmkcjflhoiaaGreatDoorJat
import Derived.Test.YtjejmkcjflhoiaaGreatDoorJau
import Derived.Test.YtjejmkcjflhoiaaGreatDoorJaq
set_option maxRecDepth 100000
set_option maxHeartbeats 8000000
namespace Go.Proofs.YtjejmkcjflhoiaaGreatDoor
section
open Pg (ay aQ bQ bR)
namespace Kv
open Go.RowKit Go.Lib Pg
attribute [local go_sem] Oper.semAt_some
section
variable {N n:Nat}{xs:Nat→Nat}{lb:Array Value}{Ar:Nat→Array Value→Nat→World→Prop}{Rd:World→Prop}{w:World}{g:Operand}{ps:Array Tmp}{X K D:Nat->Prop}{W:List aE}
def Ff(W0:World)(Tp:TypeId->Prop)(g x0:Nat)(xs:Nat->Nat)(gf:Nat)(lb:Array Value)(N:Nat)(Ar:Nat->Array Value->Nat->World->Prop)(Rd:World->Prop):Prop :=
 ∀ (l:Nat) (J0:World->Prop) (J Jt Jx:Nat->World->Prop) (W:World),(∀ b,W0.heap.size<=b->∀ cs,¬ Blk W b cs 5)->W0.heap.size<=W.heap.size->St W.heap.size J0->(∀ i,St W.heap.size (J i))->(∀ i,St W.heap.size (Jt i))->(∀ i,St W.heap.size (Jx i))->g < W.heap.size ->
  (∀ V,J0 V->V.cell? ⟨g,2,none⟩=some (.int .i64 x0)/\V.frozen? ⟨g,2,none⟩=false/\Rd V/\J 0 (tick g V x0)) ->
  (∀ i V,J i V->V.cell? ⟨g,2,none⟩=some (.int .i64 ((xs i:Nat):Int))/\V.frozen? ⟨g,2,none⟩=false/\Rd V/\(i < N->Jt i (tick g V (xs i)))) ->
  (∀ i args V V',i < N->Jt i V->W.heap.size<=V.heap.size->Below V.heap.size V V'->Ar i args V.heap.size V'->YieldAt Fence.wide 0 Tryz.prog l args V' fun e V''=>bF Tp W.heap.size V' V''/\((e=.returned (.bool true)/\J (i+1) V'')\/(e=.returned (.bool false)/\Jx (i+1) V''))) ->
  J0 W ->
  Calls Tryz.prog gf (#[.func (.yield l) #[] #[]] ++ lb) W fun e W'=>(∃ v,e=.returned v)/\W.heap.size<=W'.heap.size/\(J N W'\/∃ i,i < N/\Jx (i+1) W')
theorem tU{Tp:TypeId→Prop}{y g0 x0:Nat}(IT:Ff w Tp g0 x0 xs y lb N Ar Rd){assign body:Code}{Q:Exit→Act→World→Prop}{a:Act}(hg:a.eval g=.func (.func y) #[] lb)(eg:∀ args w,(callFunc y args).run Tryz.prog w=.ok (.enter y args) w)(E:∀ i args n V W,Ar i args n V→Cel V W→Ar i args n W)(U:∀ i args n V,Ar i args n V→args.size=ps.size)(O:World→Prop)(I M:Nat→World→Prop)(Ix:Code→Nat→World→Prop)(C:St w.heap.size O)(hI:∀ i,St w.heap.size (I i))(J:∀ i,St w.heap.size (M i))(t:∀ c i,St w.heap.size (Ix c i))(hgw:g0 < w.heap.size)(aa:∀ V,O V→V.cell? ⟨g0,2,none⟩=some (.int .i64 x0)∧V.frozen? ⟨g0,2,none⟩=false∧Rd V∧I 0 (tick g0 V x0))(hx:∀ i V,I i V→V.cell? ⟨g0,2,none⟩=some (.int .i64 ((xs i:Nat):Int))∧V.frozen? ⟨g0,2,none⟩=false∧Rd V∧(i < N→M i (tick g0 V (xs i))))(h0:O w)(o:BC Tp w N n ps assign body a.tmps Ar M I Ix)(r:∀ D W,w.heap.size≤D→W.heap[D]?=some (.deferred (some []))→I N W→Q .normal { a with defers:={ target:=.collected D,args:=#[] } :: a.defers } W)(s:∀ D c i W,w.heap.size≤D→W.heap[D]?=some (.deferred (some []))→i < N→Ix c (i+1) W→c.wpIn Fence.wide n Tryz.prog Q { a with defers:={ target:=.collected D,args:=#[] } :: a.defers } W) :
    (Code.rangeFunc g ps assign body).wpIn Fence.wide n Tryz.prog Q a w:=by
  refine wpIn_rangeFunc ?_
  intro fn _;obtain⟨f,l⟩:∃ f,(w.alloc (.deferred (some []))).alloc (.loop (dm fn a.tmps ps assign body w.heap.size .ready none))=f:=⟨_,rfl⟩
  have Z:Below w.heap.size w f:=by rw[← l];exact aA (ae w _) (ae _ _)
  have hs1:f.heap.size=w.heap.size+1+1:=by rw[← l];simp
  have H:f.heap[w.heap.size+1]?=some (.loop (dm fn a.tmps ps assign body w.heap.size .ready none)):=by
    rw[← l];have:=World.alloc_heap_new (w.alloc (.deferred (some []))) (.loop (dm fn a.tmps ps assign body w.heap.size .ready none));rwa [World.size_alloc] at this
  have F:f.heap[w.heap.size]?=some (.deferred (some [])):=by
    rw[← l];exact(Below.heap_alloc _ _ _ (by simp)).trans (World.alloc_heap_new w _)
  have t1:∀ V x,(tick g0 V x).heap[w.heap.size+1]?=V.heap[w.heap.size+1]?:=fun V x=>fT (by omega)
  have t2:∀ V x,(tick g0 V x).heap[w.heap.size]?=V.heap[w.heap.size]?:=fun V x=>fT (by omega)
  have S : ∀ b, w.heap.size ≤ b → ∀ cs, ¬ Blk f b cs 5 := fun b hb cs k => by
    have hlt:=k.lt;have m:=k.blk;rcases Nat.lt_or_ge w.heap.size b with A | A
    · obtain rfl : b = w.heap.size + 1 := by omega
      rw[H] at m
      cases m
    · obtain rfl : b = w.heap.size := by omega
      rw[F] at m
      cases m
  refine⟨w.heap.size + 1, [{ target := .collected w.heap.size, args := #[] }], f, { target := .fn (.func y) lb, args := #[.func (.yield (w.heap.size + 1)) #[] #[]] }, f, y,
    #[.func (.yield (w.heap.size+1)) #[] #[]] ++ lb,f,?_,?_,?_,?_,fun h=>(by cases h),?_⟩
  · rw[← l];exact run_enterLoop_outer _ _ _ _ _
  · simp only[resolve,hg]
    simp[go_sem]
  · intro f' _;trivial
  · simp[invoke,go_sem,eg]
  · refine callsIn_wide.2 ?_
    refine(IT (w.heap.size + 1)
      (fun W=>O W∧W.heap[w.heap.size+1]?=some (.loop (dm fn a.tmps ps assign body w.heap.size .ready none))∧W.heap[w.heap.size]?=some (.deferred (some [])))
      (fun i W=>I i W∧W.heap[w.heap.size+1]?=some (.loop (dm fn a.tmps ps assign body w.heap.size .ready none))∧W.heap[w.heap.size]?=some (.deferred (some [])))
      (fun i W=>M i W∧W.heap[w.heap.size+1]?=some (.loop (dm fn a.tmps ps assign body w.heap.size .ready none))∧W.heap[w.heap.size]?=some (.deferred (some [])))
      (fun i W=>∃ c,Ix c i W∧W.heap[w.heap.size+1]?=some (.loop (dm fn a.tmps ps assign body w.heap.size .done (some c)))∧W.heap[w.heap.size]?=some (.deferred (some [])))
      f S (by omega) (fun X Y hx d=>⟨C X Y hx.1 (d.mono (by omega)),d.same _ _ hx.2.1 (.inl (by omega)),d.same _ _ hx.2.2 (.inl (by omega))⟩)
      (fun i X Y hx d=>⟨hI i X Y hx.1 (d.mono (by omega)),d.same _ _ hx.2.1 (.inl (by omega)),d.same _ _ hx.2.2 (.inl (by omega))⟩)
      (fun i X Y hx d=>⟨J i X Y hx.1 (d.mono (by omega)),d.same _ _ hx.2.1 (.inl (by omega)),d.same _ _ hx.2.2 (.inl (by omega))⟩)
      (fun i X Y hx d=>by obtain⟨c,A,R,h3⟩:= hx;exact⟨c,t c i X Y A (d.mono (by omega)),d.same _ _ R (.inl (by omega)),d.same _ _ h3 (.inl (by omega))⟩)
      (by omega)
      (fun V hv=>by obtain⟨q1,L,u,z⟩:= aa V hv.1;exact⟨q1,L,u,z,(t1 V x0).trans hv.2.1,(t2 V x0).trans hv.2.2⟩)
      (fun i V hv=>by obtain⟨q1,L,u,z⟩:= hx i V hv.1;exact⟨q1,L,u,fun hi=>⟨z hi,(t1 V _).trans hv.2.1,(t2 V _).trans hv.2.2⟩⟩)
      ?_ ⟨C _ _ h0 (Rec.of Z),H,F⟩).mono ?_
    · rintro i args V V' q ⟨hi,p,m⟩ hsz hb T
      have d:=o _ i args V V' (by omega) (lt_of_block p) ⟨_,p⟩ q hi hb T;refine(jw (Tp:=Tp) (B:=w.heap.size) (i:=2 * i+1) (I:=qo I M) (Ix:=fun c k=>Ix c (k / 2)) (Ar:=fun k=>Ar (k / 2)) (fun j=>E (j / 2)) (fun j=>by unfold qo;split;exact hI _;exact J _) (fun c j=>t c _) (by omega) p (by rw[jW];exact hi) hb (by rw[show (2 * i+1) / 2=i by omega];exact T) (U _ _ _ _ T) (wpIn_mono d ?_)).mono ?_
      · intro e a1 f h
        cases e <;> first
          | (refine⟨h.1, fun V2 W2 q1 L u z q5 q6 q7 => ?_⟩
             rw[jW] at q1;rw[show (2 * i+1) / 2=i by omega] at u
             exact wpIn_mono (h.2 V2 W2 q1 L u z q5 q6 q7) (fun e a W h=>oX h))
          | exact h.elim
      · rintro e V'' ⟨K,h⟩
        have G:=K.same _ _ (Nat.le_refl _) (by omega) ((hb.block _ (lt_of_block m)).trans m) nQ;refine⟨K.from (by omega) (by omega),h.imp (fun h=>⟨h.1,by have:=h.2.1;rw[kR] at this;exact this,h.2.2,G⟩) (fun h=>?_)⟩;obtain⟨A,c,R,h3⟩:= h;rw[show (2 * i+1+1) / 2=i+1 by omega] at R;exact⟨A,c,R,h3,G⟩
    · rintro e W2 ⟨⟨v,rfl⟩,hsz,⟨hi,p,m⟩ | ⟨i,q,c,hi,p,m⟩⟩
      · exact⟨none,_,run_endLoop (P:=Tryz.prog) p (by simp[dm]),r _ _ (Nat.le_refl _) ((World.putObj_heap_other (by omega)).trans m) (hI _ _ _ hi (Rec.put p rfl (by omega) _))⟩
      · exact⟨some c,_,run_endLoop (P:=Tryz.prog) p (by simp[dm]),s _ c i _ (Nat.le_refl _) ((World.putObj_heap_other (by omega)).trans m) q (t c _ _ _ hi (Rec.put p rfl (by omega) _))⟩
theorem swalkH{Tp:TypeId->Prop}{g:Nat}{E:aE}{fv x:Value}{f t:List Int}(h:SA w K D g E W n N)(H:N<=100000000)(hf:By w fv f)(p:By w x t)(r:f.length<=1000000000)(o:t.length<=1000000000)(j:∀ b,X b->b=g\/¬ K b)(l:∀ b,X b->∀ cs,¬ Blk w b cs 5)(d:∀ b,X b->b < w.heap.size)(y:¬ Tp 172)(c:¬ Tp 185) :
  Calls Tryz.prog 75 #[.pointer (some ⟨g,0,none⟩),fv,x] w fun e w'=>∃ v EL,e=.returned v/\yE Tp X w.heap.size w' g EL v/\EL.map En.kl2=E.filter (nT f t)/\Below w.heap.size w w':=by
 obtain⟨F,V,m,Q,S,T,P,hX,rfl,J⟩:=h.open;obtain⟨L,q,hw⟩:=xwmG hX H j l d;have u:=mz (Tp:=Tp) q hf p r o y c;have c0:=hX.blk.cell (i:=0) rfl;obtain⟨M,O,rfl,-⟩:=id hf.ex;obtain⟨ta,tc,rfl,-⟩:=id p.ex;generalize hfn:f.length=fn at *;generalize htn:t.length=tn at *;have G:=aC hX;have I:=aC q;have A:=aC hw;clear hX q hw h J hf p hfn htn j l d y c;go_enter Tryz.func75,Tryz.ntmps75;go_wp2_with first
  | (go_at_call 33;go_must (refine u.mono ?_);rintro e R ⟨Y,rfl,s,C⟩;clear u)
  | (go_at_call 109;go_must (refine nE.mono ?_);rintro e U ⟨rfl,k1,B,z⟩)
 go_ret;exact⟨_,_,rfl,sL G.out.blk I.out s C k1 B z (Nat.le_refl _),A.out f t,aA s z⟩
end
end Kv
namespace Fo
open Go.RowKit Go.Lib Pg Lim Gl Kv Bk Pw
attribute [local go_sem] Oper.semAt_some
set_option linter.unusedVariables false
set_option linter.unusedSimpArgs false
section
variable {w W0:World}{g:Nat}{v:Value}{a:Act}{l:List Int}{xs:Nat→Nat}{Wn:List aE}
def ArK(cs:List (Int × Int × Int))(i:Nat)(args:Array Value)(_:Nat)(_:World):Prop:=∃ c,cs[i]?=some c/\args=#[.int .u64 c.1,.agg #[.int .u64 c.2.1,.int .u64 c.2.2]]
def o6(E:aE)(id fr la:Int):aE:=E.filter (nT (Kv.nxt (Ky.mk 8 id fr)) (Kv.nxt (Ky.mk 8 id la)))
def du(E:aE)(id fr la:Int):List (Int × Int × Int):=(o6 E id fr la).map (fun x=>(Ky.rdB x.1,cX x.2 0,cX x.2 1))
theorem pS(h:Blk w g [v] 22):(loadVar 22 ⟨g,0,none⟩).run Tryz.prog w=.ok v w:=by
 have:=h.cell (i:=0) rfl;go_simp
theorem D7{c:Code}{Q:Exit->Act->World->Prop}(h:c.wp Tryz.prog (Exit.then (fun a' w'=>Q .normal a' w') (fun _ _ _=>False)) a w):c.wp Tryz.prog Q a w :=
 Code.wp_mono (fun e a' w' h=>by
  cases e<;>first
   | exact h
   | exact h.elim) h
theorem rg_end{Q:Exit->Act->World->Prop}(h:Q .normal a w):Exit.then (fun a' w'=>Q .normal a' w') (fun _ _ _=>False) .normal a w:=h
theorem Fc(h:ByU w v l)(a:l.length<=1000000000):Calls Tryz.prog 74 #[v] w fun e w'=>∃ u,e=.returned u/\By w' u (Kv.nxt l)/\Below w.heap.size w w':=by
 obtain⟨b,f,c,rfl,d⟩:=bya h.byt;refine(Ky.mO h.byt a).mono ?_
 rintro e w' ⟨v,rfl,O,B⟩;exact⟨v,rfl,O.by,B⟩
theorem BV(l:List Int):(Kv.nxt l).length<=l.length:=by
 unfold Kv.nxt;split
 ·simp
 ·rename_i c cs e
  have a:(l.reverse.dropWhile (· == 255)).length<=l.length:=Nat.le_trans (List.IsSuffix.length_le (List.dropWhile_suffix _)) (by rw[List.length_reverse];exact Nat.le_refl _);rw[e] at a;simp at a ⊢;omega
theorem yH{K D X:Nat→Prop}{bs bi z u x0 N:Nat}{E:aE}{id fr la:Int}(hS:SA W0 K D g E Wn x0 N)(hbs:Blk W0 bs [.pointer (some ⟨g,0,none⟩)] 37)(hbi:Blk W0 bi [.int .u64 id] 22)(hbm:Blk W0 z [.int .u64 fr] 22)(hbl:Blk W0 u [.int .u64 la] 22)(hXs:¬ X bs)(hXi:¬ X bi)(hXm:¬ X z)(hXb:¬ X u)(hX1:∀ b,X b→b=g∨¬ K b)(hXl:∀ b,X b→b < W0.heap.size)(hid:0≤id∧id < 18446744073709551616)(hN:N≤100000000)(hx:x0≤2000000000000000000)(hxs:∀ i,i < N→xs i≤3000000000000000000)(hRk:∀ x ∈ o6 E id fr la,Ky.frm (8:Nat)=Ky.fIn x.1) :
    Ff W0 TpN g x0 xs 73 #[.pointer (some ⟨bi,0,none⟩),.pointer (some ⟨z,0,none⟩),.pointer (some ⟨u,0,none⟩),.pointer (some ⟨bs,0,none⟩)] (du E id fr la).length (ArK (du E id fr la)) (RdS W0 X K D g E Wn N):=by
  intro l J0 J Jt Jx W hNB hW0 hS0 hSJ hSt hSx hgW L hJ hY h0;obtain⟨_,_,⟨c0,u0,xx,s0⟩,_⟩:= L _ h0;have R:=ae W (.cells #[.func (.yield l) #[] #[]] 137);have Y1:=aD W [.func (.yield l) #[] #[]] 137
  have s1:(W.alloc (.cells #[.func (.yield l) #[] #[]] 137)).heap.size=W.heap.size+1:=by simp
  obtain⟨Wa,hWa⟩:∃ Wa,Hid (W.alloc (.cells #[.func (.yield l) #[] #[]] 137)=Wa):=⟨_,rfl⟩;rw[hWa.out] at R Y1 s1;have bsW:=hbs.chg c0 hXs
  have hK0:∀ b,K b→b < W0.heap.size:=fun b hb=>hS.lt hb
  have HX':Hid (∀ b,(X b∨(W0.heap.size≤b∧b < W.heap.size))→b=g∨¬ K b):=aC (fun b hb=>hb.elim (hX1 b) (fun h=>.inr (fun hk=>by have:=hK0 b hk;omega)))
  have HXl:Hid (∀ b,(X b∨(W0.heap.size≤b∧b < W.heap.size))→b < W.heap.size):=aC (fun b hb=>hb.elim (fun h=>Nat.lt_of_lt_of_le (hXl b h) hW0) (fun h=>h.2))
  have HXU:Hid (∀ b,(X b∨(W0.heap.size≤b∧b < W.heap.size))→∀ cs,¬ Blk W b cs 5):=aC (fun b hb=>hb.elim (u0 b) (fun h=>hNB b h.1))
  have S0:(fun q=>Blk q bi [.int .u64 id] 22∧Blk q z [.int .u64 fr] 22∧Blk q u [.int .u64 la] 22) Wa.drew:=⟨((hbi.chg c0 hXi).keep R).drew,((hbm.chg c0 hXm).keep R).drew,((hbl.chg c0 hXb).keep R).drew⟩;have HY:=aC hY;have HJ:=aC hJ;have HJ0:=aC L;have H0:=aC h0;have HS:=aC s0;have F:=aC c0;have HB1:=aC R;have HY1:=aC Y1;have HBS:=aC bsW;have f:=aC S0;clear L hJ hY h0 s0 c0 R Y1 bsW hNB u0 S0 hbs hbi hbm hbl;refine(callsIn_wide (n:=0)).1 ?_
  refine callsIn_of_wp_marks Tryz.func73 rfl trivial ?_ rfl;simp only[Tryz.ntmps73,List.size_toArray,List.length_cons,List.length_nil,Nat.reduceAdd,Nat.reduceSub,Array.replicate_succ,Array.replicate_zero,List.push_toArray,List.append_toArray,List.nil_append,List.cons_append];gi_wp2_with fail;rw[hWa.out];refine wpIn_wide.2 ?_
  refine D7 ?_
  refine bR (S:=fun q=>Blk q bi [.int .u64 id] 22∧Blk q z [.int .u64 fr] 22∧Blk q u [.int .u64 la] 22) (by kernel_rfl) f.out ?_
  refine aQ 0 (some 14) (.int .u64 id) 22 1 bi 0 (by kernel_rfl) (by kernel_rfl) (by kernel_rfl) (fun q h=>pS h.1) (fun _ _ _ h=>h) f.out ?_
  refine aQ 1 (some 15) (.int .u64 fr) 22 2 z 0 (by kernel_rfl) (by kernel_rfl) (by kernel_rfl) (fun q h=>pS h.2.1) (fun _ _ _ h=>h) f.out ?_
  refine aQ 4 (some 18) (.int .u64 id) 22 1 bi 0 (by kernel_rfl) (by kernel_rfl) (by kernel_rfl) (fun q h=>pS h.1) (fun _ _ _ h=>h) f.out ?_
  refine aQ 5 (some 19) (.int .u64 la) 22 3 u 0 (by kernel_rfl) (by kernel_rfl) (by kernel_rfl) (fun q h=>pS h.2.2) (fun _ _ _ h=>h) f.out ?_
  refine bQ 2 (some 16) 56 #[.int .i64 8,.int .u64 id,.int .u64 fr] (by kernel_rfl) (by kernel_rfl) (yd hid (by decide)) ?_
  rintro _ w1 ⟨k1,rfl,U1,C1⟩;have T1:=(⟨f.out.1.keep C1,f.out.2.1.keep C1,f.out.2.2.keep C1⟩:Blk w1 bi [.int .u64 id] 22∧Blk w1 z [.int .u64 fr] 22∧Blk w1 u [.int .u64 la] 22);refine⟨_,rfl,T1,?_⟩;refine bQ 3 (some 17) 74 #[k1] (by kernel_rfl) (by kernel_rfl) (Fc U1 (Nat.le_trans (Ky.kW _ _ _) (by decide))) ?_
  rintro _ w2 ⟨f1,rfl,F1,U⟩;have T2:=(⟨T1.1.keep U,T1.2.1.keep U,T1.2.2.keep U⟩:Blk w2 bi [.int .u64 id] 22∧Blk w2 z [.int .u64 fr] 22∧Blk w2 u [.int .u64 la] 22);refine⟨_,rfl,T2,?_⟩;refine bQ 6 (some 20) 56 #[.int .i64 8,.int .u64 id,.int .u64 la] (by kernel_rfl) (by kernel_rfl) (yd hid (by decide)) ?_
  rintro _ w3 ⟨k2,rfl,U2,Q⟩;have T3:=(⟨T2.1.keep Q,T2.2.1.keep Q,T2.2.2.keep Q⟩:Blk w3 bi [.int .u64 id] 22∧Blk w3 z [.int .u64 fr] 22∧Blk w3 u [.int .u64 la] 22);refine⟨_,rfl,T3,?_⟩;refine bQ 7 (some 21) 74 #[k2] (by kernel_rfl) (by kernel_rfl) (Fc U2 (Nat.le_trans (Ky.kW _ _ _) (by decide))) ?_
  rintro _ w4 ⟨f2,rfl,F2,O⟩;have T4:=(⟨T3.1.keep O,T3.2.1.keep O,T3.2.2.keep O⟩:Blk w4 bi [.int .u64 id] 22∧Blk w4 z [.int .u64 fr] 22∧Blk w4 u [.int .u64 la] 22);refine⟨_,rfl,T4,?_⟩;refine ay 8 (some 6) f1 (by kernel_rfl) (fun _ _=>by kernel_rfl) (fun _ _ _ h=>h) T4 ?_
  refine ay 9 (some 7) f2 (by kernel_rfl) (fun _ _=>by kernel_rfl) (fun _ _ _ h=>h) T4 ?_
  refine bM (by kernel_rfl) (rg_end ?_);simp only[Act.put,List.setIfInBounds_toArray,List.set_cons_zero,List.set_cons_succ];have B2:=aA (aA (aA (aA (aA HB1.out (cy Wa)) C1) U) Q) O
  have F1':=(F1.keep Q).keep O;obtain⟨fa,fc,hf1⟩:∃ P c,f1=.slice P (Kv.nxt (Ky.mk 8 id fr)).length c:=by obtain⟨P,c,e,_⟩:= F1.ex;exact⟨P,c,e⟩
  obtain⟨ta,tc,hf2⟩:∃ P c,f2=.slice P (Kv.nxt (Ky.mk 8 id la)).length c:=by obtain⟨P,c,e,_⟩:= F2.ex;exact⟨P,c,e⟩
  have cB:=(HBS.out.keep B2).cell (i:=0) rfl;have tP:=swalkH (Tp:=TpN) (X:=fun b=>X b∨(W0.heap.size≤b∧b < W.heap.size)) (HS.out.keep B2) hN F1' F2 (Nat.le_trans (BV _) (Nat.le_trans (Ky.kW _ _ _) (by decide))) (Nat.le_trans (BV _) (Nat.le_trans (Ky.kW _ _ _) (by decide))) HX'.out (fun b hb cs k=>HXU.out b hb cs ⟨by rw[← B2.block b (HXl.out b hb)];exact k.blk⟩) (fun b hb=>Nat.lt_of_lt_of_le (HXl.out b hb) B2.size) (fun h=>h) (fun h=>h);have t:=aC B2;have I:=aC (aA (aA (aA (aA (cy Wa) C1) U) Q) O);clear T1 T2 T3 T4 U1 U2 F1 F2 F1' C1 U Q O B2;obtain⟨fn,hfn⟩:∃ n,Hid ((Kv.nxt (Ky.mk 8 id fr)).length=n):=⟨_,rfl⟩;obtain⟨tn,htn⟩:∃ n,Hid ((Kv.nxt (Ky.mk 8 id la)).length=n):=⟨_,rfl⟩;rw[hfn.out] at hf1;rw[htn.out] at hf2;subst hf1 hf2;gi_wp2_with (refine⟨trivial,rfl,?_⟩;gi_at_call 75;refine(callsIn_wide.2 tP).mono ?_;rintro e' v ⟨v5,T,rfl,IG,j,y⟩);obtain⟨bs1,bs2,bw,W1,rfl,IT,hRd,hb1,m⟩:= IG.ex;have hsm:=IG.small;clear tP IG;have BW:=aA t.out y
  have hw1:W.heap.size+1≤w4.heap.size:=by have:=I.out.size;omega
  have hw2:W.heap.size+1≤v.heap.size:=Nat.le_trans hw1 y.size;have YB:=(HY1.out.keep I.out).keep y
  have hlen:(du E id fr la).length=T.length:=by simp[du,o6,← j]
  have hle:T.length≤N:=by
    have Z:=HS.out.size
    have h2:(T.map En.kl2).length≤E.length:=by rw[j];exact List.length_filter_le _ _
    rw[List.length_map] at h2;omega
  have ITC:=nZ (g:=g) (bs1:=bs1) (bs2:=bs2) (x0:=x0) (xs:=xs) IT (fun h=>h) (by omega) (fun i hi=>hxs i (by omega))
  have HRK:Hid (∀ e ∈ T,Ky.frm 8=Ky.fIn e.kl):=aC (fun e he=>hRk e.kl2 (by show _ ∈ E.filter _;rw[← j];exact List.mem_map_of_mem he))
  have HCL : Hid (∀ (i : Nat) (e : En), T[i]? = some e → (du E id fr la)[i]? = some (Ky.rdB e.kl, cX e.vl 0, cX e.vl 1)) := aC (fun i e he => by
    have Z:du E id fr la=(T.map En.kl2).map (fun x=>(Ky.rdB x.1,cX x.2 0,cX x.2 1)):=by rw[j];rfl
    rw[Z,List.getElem?_map,List.getElem?_map,he]
    rfl)
  have J2:=hS0 _ _ H0.out (Rec.of BW)
  have E2:Ext W.heap.size v v:=⟨fun _ _ _=>rfl,Nat.le_refl _⟩
  have RDC : Hid (∀ V, RdS W0 X K D g E Wn N V → Ext W.heap.size v V → RdC (fun b => X b ∨ (W0.heap.size ≤ b ∧ b < W.heap.size)) W1 g bs1 bs2 bw V) := aC (fun V hR Y => by
    obtain⟨c1,_,x,s1⟩:= hR;obtain⟨r1,r2,r3,_⟩:= hRd;refine⟨⟨?_,?_,?_,Nat.le_trans r1.size Y.2,fun b hb hn=>?_⟩,Y.blk r2 (by omega),Y.blk r3 (by omega),s1.kv⟩
    · rw[c1.os,← F.out.os,← BW.os,r1.os]
    · rw[c1.tape,← F.out.tape,← BW.tape,r1.tape]
    · rw[c1.output,← F.out.output,← BW.output,r1.output]
    · rw[← r1.same b hb hn]
      rw[not_or] at hn;rcases Nat.lt_or_ge b W0.heap.size with Z | Z
      · rw[c1.same b Z hn.1,BW.block b (by omega),F.out.same b Z hn.1]
      · exact Y.1 b (by omega) (Nat.lt_of_lt_of_le hb r1.size))
  have HEL:=aC j;have HSM:=aC hsm;have HYB:=aC YB;clear j hsm YB y hRd cB IT BW HB1 HY1 t I;refine kK ITC (by rfl) (enters_of Tryz.func164 (by kernel_rfl) rfl) (fun i args n V V' h hc=>h.cel hc) (fun i args n V h=>by obtain⟨e,kv,vv,s,_,rfl,_⟩:= h;rfl)
    (fun V=>J0 V∧Ext W.heap.size v V)
    (fun i V=>J i V∧Ext W.heap.size v V)
    (fun i V=>Jt i V∧Ext W.heap.size v V)
    (fun c i V=>c=.ret∧Jx i V∧v.heap.size≤V.heap.size)
    (fun A B hx p=>⟨hS0 A B hx.1 (p.mono (by omega)),hx.2.rcd p⟩)
    (fun i A B hx p=>⟨hSJ i A B hx.1 (p.mono (by omega)),hx.2.rcd p⟩)
    (fun i A B hx p=>⟨hSt i A B hx.1 (p.mono (by omega)),hx.2.rcd p⟩)
    (fun c i A B hx p=>⟨hx.1,hSx i A B hx.2.1 (p.mono (by omega)),Nat.le_trans hx.2.2 p.size⟩)
    (by omega)
    (fun V hv=>by obtain⟨q1,q2,q3,q4⟩:= HJ0.out V hv.1;exact⟨q1,q2,RDC.out V q3 hv.2,q4,hv.2.tick hgW⟩)
    (fun i V hv=>by obtain⟨q1,q2,q3,q4⟩:= HJ.out i V hv.1;exact⟨q1,q2,RDC.out V q3 hv.2,fun hi=>⟨q4 (by omega),hv.2.tick hgW⟩⟩)
    ⟨J2,E2⟩ ?_ ?_ ?_
  · rintro l2 i args V Wv hl hlV hrec hiN ⟨hJi,hExt⟩ hb ⟨e0,kv,vv,s0,G,rfl,hk0,hv0,_⟩
    obtain⟨ak0,nk,hk1⟩:= hk0.shape;obtain⟨av,nv,hv1⟩:= hv0.shape;subst hk1 hv1;simp;gi_wp2;refine⟨Below.refl _ _,?_⟩;intro V2 W2 hJ2 d m hAr2 hoth hsz3 hV2 rl hrec2;obtain⟨e1,kv1,vv1,t1,M,H,o,hv2,ht1⟩:= hAr2;obtain rfl:e1=e0:=by rw[G] at M;cases M;rfl
    simp at H;obtain⟨rfl,rfl⟩:= H;have C:=List.mem_of_getElem? G;have tA:=Ky.yK o.by (HSM.out e1 C).1 (r:=8) (by decide) (by decide) (HRK.out e1 C)
    have hN2:=aC (fun w3 (y:Below W2.heap.size W2 w3)=>cut_rd (ByU.of (hv2.keep y)) (HSM.out e1 C).2);have yB:=d.blk HYB.out (Nat.le_refl _);have HE2:=aC d;have HJT:=aC hJ2;have t:=aC m
    have hs2:v.heap.size≤V2.heap.size:=d.2
    have hs3:V2.heap.size≤W2.heap.size:=m.size;have HYV:=aC (yB.keep m)
    have HAr:Hid ((du E id fr la)[i]?=some (Ky.rdB e1.kl,cX e1.vl 0,cX e1.vl 1)):=aC (HCL.out i e1 G);clear hJi hExt hb hk0 hv0 o hv2 hoth d hJ2 m yB M G ht1 C;obtain⟨cc,hcc⟩:∃ cc,Hid (Ky.rdA 8 e1.kl=cc):=⟨_,rfl⟩;obtain⟨ss,hss⟩:∃ ss,Hid (Ky.rdB e1.kl=ss):=⟨_,rfl⟩;obtain⟨na,hna⟩:∃ nn,Hid (cX e1.vl 0=nn):=⟨_,rfl⟩;obtain⟨nb,hnb⟩:∃ nn,Hid (cX e1.vl 1=nn):=⟨_,rfl⟩;obtain⟨oo,hoo⟩:∃ oo,Hid (Rc.iZ (Rc.lE e1.vl)=oo):=⟨_,rfl⟩;simp only[hcc.out,hss.out] at tA;simp only[hss.out,hna.out,hnb.out] at HAr;have HY2:=aC (HY.out i #[.int .u64 ss,.agg #[.int .u64 na,.int .u64 nb]] V2);gi_wp2_with first
      | (refine⟨trivial,rfl,?_⟩;gi_at_call 76;refine(CallsIn.inRound l2 (callsIn_wide.2 tA)).mono ?_;rintro e' w6 ⟨rfl,y⟩;clear tA;have B4:=ae w6 (.cells #[.int .i64 (8:Int),.int .u64 cc,.int .u64 ss] 139);have k4:=aD w6 [.int .i64 (8:Int),.int .u64 cc,.int .u64 ss] 139;have tN:=hN2.out _ (aA y B4);rw[hna.out,hnb.out,hoo.out] at tN)
      | (refine⟨trivial,rfl,?_⟩;gi_at_call 77;refine(CallsIn.inRound l2 (callsIn_wide.2 tN)).mono ?_;rintro e' w8 ⟨rfl,B5⟩;clear tN;have B7:=ae w8 (.cells #[.int .u64 na,.int .u64 nb] 97);have B6:=aA (aA (aA y B4) B5) B7;have kC:=((k4.keep B5).keep B7).cell (i:=2) rfl;have yC:=(HYV.out.keep B6).cell (i:=0) rfl;have hYY:=HY2.out _ (by omega) HJT.out (by omega) (aA t.out B6) ⟨_,HAr.out,rfl⟩;obtain⟨fn,tmps,assign,body,hy,hR⟩:= hYY;have hR2:RoundIn (Fence.wide.inRound l2) 0 Tryz.prog l fn tmps assign body (w8.alloc (.cells #[.int .u64 na,.int .u64 nb] 97)) _:=⟨hR.1,fun c cs _=>hR.2 c cs (fun _ h=>by cases h)⟩;have HR:=aC hR2;have HK:=aC B6;clear hR hR2 y B4 B5 B6 B7 k4)
    refine⟨rfl,HR.out.mono ?_⟩;rintro e' w9 ⟨hk5,h5⟩
    have hkk:bF TpN W.heap.size W2 w9:=(bF.of HK.out).trans hk5;have hE5:=(HE2.out.keep t.out).keepsT hkk
    have o:bF TpN v.heap.size W2 w9:=hkk.mono (by omega);rcases h5 with⟨rfl,hJ5⟩ | ⟨rfl,hJ5⟩
    · gi_wp2
      exact⟨o,hJ5,hE5⟩
    · gi_wp2
      exact⟨o,rfl,hJ5,hE5.2⟩
  · rintro D' W' hD hK ⟨hJn,Y⟩
    gi_wp2;refine⟨by simp,.inl ⟨_,_,rfl,run_takeDeferred hK,?_⟩⟩;have:=Y.2;exact⟨_,results_none rfl _ _ _,⟨_,rfl⟩,by simp;omega,.inl (by rw[hlen];exact hSJ _ _ _ hJn (Rec.put hK rfl (by omega) _))⟩
  · rintro D' c i W' hD hK hiN ⟨rfl,hJx',hsz⟩
    gi_wp2;refine⟨by simp,.inl ⟨_,_,rfl,run_takeDeferred hK,?_⟩⟩;exact⟨_,results_none rfl _ _ _,⟨_,rfl⟩,by simp;omega,.inr ⟨i,by omega,hSx (i+1) _ _ hJx' (Rec.put hK rfl (by omega) _)⟩⟩
end
end Fo
end
section
namespace Fo
open Go.RowKit Go.Lib Pg Lim Gl Kv Bk Pw
attribute [local go_sem] Oper.semAt_some
set_option linter.unusedVariables false
set_option linter.unusedSimpArgs false
section
variable {w:World}{k a:Int}
theorem und_k(b:0<=a/\a < 18446744073709551616)(c:16 < (Ky.frm k).1):Calls Tryz.prog 111 #[.int .i64 k,.int .u64 a] w fun e w'=>∃ v,e=.returned (.tuple #[v,.int .i64 0])/\By w' v (Ky.mkb (Ky.frm k) (Ky.tn k a))/\Below w.heap.size w w':=by
 have u:=Ky.xn (w:=w) (k:=k) b.1 b.2;rw[if_pos c,if_pos c] at u;refine u.mono ?_
 rintro e w' ⟨v,rfl,O,B⟩;exact⟨v,rfl,O.by,B⟩
theorem AA(f:0<=a/\a < 18446744073709551616)(c:16 < (Ky.frm k).1):Calls Tryz.prog 65 #[.int .i64 k,.int .u64 a] w fun e w'=>∃ v,e=.returned v/\By w' v (Ky.mkb (Ky.frm k) (Ky.tn k a))/\Below w.heap.size w w':=by
 have b:=Below.refl w.heap.size w;refine aN (n:=14) Tryz.func65 rfl (by kernel_rfl) (by kernel_rfl) ?_
 refine ai (aB (t 4 (.slice none 0 0) (ax (ah (ai (aB (t 8 (.int .i64 k) (t 9 (.int .u64 a) (tc 10 111 #[.int .i64 k,.int .u64 a] (und_k f c) ?_)))))))));rintro _ v1 ⟨v,rfl,d,B⟩;refine⟨_,rfl,?_⟩;replace b:=aA b B;clear B;refine t 7 (.tuple #[v,.int .i64 0]) (t 11 (v) (t 12 (.int .i64 0) (t 5 (v) (t 6 (.int .i64 0) (ax (ah (ai (aB (t 13 (v) (t 4 (v) (ax (ah (aW [(4,v)] (by kernel_rfl) (aU (aV (v) (rs1 4 (by kernel_rfl) (by kernel_rfl)) ?_)))))))))))))));exact⟨_,rfl,d,b⟩
def fJ(E:aE)(k a:Int):Nat:=(E.filter (fun x=>decide (Ky.mkb (Ky.frm k) (Ky.tn k a) <+: x.1))).length
structure kU(Wb:World)(t:Nat)(K D:Nat->Prop)(g:Nat)(E:aE)(Wn:List aE)(N x i:Nat)(V:World):Prop where
 chg:Chg (fun b=>b=g\/b=t) Wb V
 sa:SA V K D g E Wn x N
 out:Blk V t [.int .i64 (i:Int)] 3
end
section
variable {Wb V V':World} {t g x i N:Nat} {K D:Nat->Prop} {E:aE} {Wn:List aE}
theorem rK {B:Nat} (h:SA V K D g E Wn x N) (a:Rec B V V'):SA V' K D g E Wn x N :=
 h.same (fun b d=>by obtain⟨cs,t,k,_⟩:=h.kind b d;exact(a.same b _ k.blk (.inr rfl)).trans k.blk.symm) (fun b _ _ c=>by obtain⟨cs,k⟩:=c;exact(a.same b _ k.blk (.inr rfl)).trans k.blk.symm)
theorem kU.rcd (h:kU Wb t K D g E Wn N x i V) (hr:Rec Wb.heap.size V V'):kU Wb t K D g E Wn N x i V':=⟨jN h.chg hr (Nat.le_refl _),rK h.sa hr,eU h.out hr⟩
theorem kU.ne (h:kU Wb t K D g E Wn N x i V):t≠g:=fun e=>by
 obtain⟨cs,k⟩:=h.sa.kv;subst e;exact absurd (h.out.eq k).2 (by decide)
theorem kU.tick (h:kU Wb t K D g E Wn N x i V):kU Wb t K D g E Wn N (x+1) i (tick g V x) :=
 ⟨h.chg.trans (ef g x V) (fun b _ e=>.inl e),h.sa.tick,h.out.chg (ef g x V) h.ne⟩
end
section
variable {w:World}{K:Nat->Prop}{D:Nat→Prop}{g N:Nat}{E:aE}{Wn W:List aE}{k a:Int}
theorem xZ{K:Nat→Prop}{x0:Nat}(hS:SA w K D g E Wn x0 N)(ha:0≤a∧a < 18446744073709551616)(G:16 < (Ky.frm k).1)(hN:N≤100000000)(hx:x0+N≤2000000000000000000) :
    Calls Tryz.prog 31 #[pg g,.int .i64 k,.int .u64 a] w fun e w'=>∃ j,e=.returned (.int .i64 ((j:Nat):Int))∧j=fJ E k a∧SA w' K D g E Wn (x0+1+j) N∧Chg (·=g) w w':=by
  have hglt:g < w.heap.size:=hS.lt hS.top;have Y:=ae w (.cells #[.int .i64 0] 3);have p:=aD w [.int .i64 0] 3;obtain⟨Wa,y⟩:∃ Wa,Hid (w.alloc (.cells #[.int .i64 0] 3)=Wa):=⟨_,rfl⟩
  have zA:Wa.heap.size=w.heap.size+1:=by rw[← y.out];simp
  rw[y.out] at Y p;have t:=hS.keep Y;have HS:=aC hS;have HB:=aC Y;have HT:=aC p;have HSB:=aC t;clear hS Y p t;refine(callsIn_wide (n:=0)).1 ?_
  refine callsIn_of_wp_marks Tryz.func31 rfl trivial ?_ rfl;simp only[Tryz.ntmps31,List.size_toArray,List.length_cons,List.length_nil,Nat.reduceAdd,Nat.reduceSub,Array.replicate_succ,Array.replicate_zero,List.push_toArray,List.append_toArray,List.nil_append,List.cons_append];gi_wp2_with (refine⟨trivial,rfl,?_⟩;gi_at_call 65;rw[y.out];refine(callsIn_wide.2 (AA ha G)).mono ?_;rintro U w1 ⟨u,rfl,U1,H⟩);have W:=HSB.out.keep H;have p:=HT.out.keep H;have zB1:=H.size
  have P:∀ b,K b→b < w.heap.size:=fun b hb=>HS.out.lt hb
  have hgt:w.heap.size≠g:=by omega
  have up := sd (Tp := fun _ => False) (X := fun b => b = g ∨ b = w.heap.size) W hN U1 (Nat.le_trans (Ky.l4 _ _) (by decide)) (fun b hb => hb.elim .inl (fun e => .inr (fun G => by have := P b G; omega))) (fun b hb cs q => by
    rcases hb with rfl | rfl
    · obtain⟨I,J⟩:= W.kv
      exact absurd (q.eq J).2 (by decide)
    · exact absurd (q.eq p).2 (by decide)) (fun b hb=>by rcases hb with h | h <;> omega) (fun h=>h) (fun h=>h)
  have HS1:=aC W;have HT1:=aC p;have HB1:=aC H;have HU:=aC up;clear up W p H U1;gi_wp2_with (refine⟨trivial,rfl,?_⟩;gi_at_call 64;refine(callsIn_wide.2 HU.out).mono ?_;rintro U C ⟨pv,EL,rfl,IG,hEL,T⟩);obtain⟨bs1,bs2,bw,W1,rfl,IT,d,hb1,f⟩:= IG.ex
  have O:EL.length=fJ E k a:=by have:=congrArg List.length hEL;rw[List.length_map] at this;exact this
  have hlN:EL.length≤N:=by rw[O];exact Nat.le_trans (List.length_filter_le _ _) HS.out.size
  have t:=HS1.out.keep T;have TB:=HT1.out.keep T;have zB2:=T.size
  have n1:bs1≠g:=fun e=>by obtain⟨I,J⟩:= t.kv;subst e;exact absurd (d.2.1.eq J).2 (by decide)
  have n2:bs2≠g:=fun e=>by obtain⟨I,J⟩:= t.kv;subst e;exact absurd (d.2.2.1.eq J).2 (by decide)
  have RD : ∀ V x i, kU C w.heap.size K D g E Wn N x i V → V.cell? ⟨g, 2, none⟩ = some (.int .i64 (x : Int)) ∧ V.frozen? ⟨g, 2, none⟩ = false ∧ RdC (fun b => b = g ∨ b = w.heap.size) W1 g bs1 bs2 bw V := fun V x i h => by
    have q:=h.sa.cnt;exact⟨q.1,q.2,d.1.trans h.chg (fun _ _ e=>e),d.2.1.chg h.chg (fun e=>e.elim n1 (fun e=>by omega)),d.2.2.1.chg h.chg (fun e=>e.elim n2 (fun e=>by omega)),h.sa.kv⟩
  have I0:kU C w.heap.size K D g E Wn N x0 0 C:=⟨Chg.refl _ _,t,TB⟩;have HI:=aC I0;have HB2:=aC T;have aa:=aC (nZ (g:=g) (bs1:=bs1) (bs2:=bs2) (x0:=x0) (xs:=fun i=>x0+1+i) IT (fun h=>h) (by omega) (fun i hi=>by show x0+1+i≤_;omega));clear I0 t TB T IT IG d;gi_wp2;refine kK aa.out (by rfl) (enters_of Tryz.func164 (by kernel_rfl) rfl) (fun i args n V V' h hc=>h.cel hc) (fun i args n V h=>by obtain⟨e,kv,vv,s,_,rfl,_⟩:= h;rfl)
    (fun V=>kU C w.heap.size K D g E Wn N x0 0 V)
    (fun i V=>kU C w.heap.size K D g E Wn N (x0+1+i) i V)
    (fun i V=>kU C w.heap.size K D g E Wn N (x0+1+i+1) i V)
    (fun c i V=>False)
    (fun A B hx z=>hx.rcd z) (fun i A B hx z=>hx.rcd z) (fun i A B hx z=>hx.rcd z) (fun c i A B hx z=>hx) (by omega)
    (fun V hv=>by obtain⟨q1,q2,q3⟩:= RD V _ _ hv;exact⟨q1,q2,q3,hv.tick⟩)
    (fun i V hv=>by obtain⟨q1,q2,q3⟩:= RD V _ _ hv;exact⟨q1,q2,q3,fun _=>hv.tick⟩)
    HI.out ?_ ?_ ?_
  · rintro l2 i args V Wv hl hlV hrec hiN M hb ⟨e0,kv,vv,s0,he0,rfl,hk0,hv0,_⟩
    simp;gi_wp2;refine⟨Below.refl _ _,?_⟩;intro V2 W2 l f Q L hsz3 hV2 r hrec2;have Z:=l.out.keep f;have c0:=Z.cell (i:=0) rfl;have f0:=Z.free 0;have v:=aC l;have hws:=l.chg.size;have z2:=f.size
    have HC:Chg (·=w.heap.size) W2 (W2.setCell ⟨w.heap.size,0,none⟩ (.int .i64 ((i:Int)+1))):=(Chg.refl (fun x=>x=w.heap.size) W2).cell (.inl (by rfl)) _;have S6:=Z.setCell (i:=0) (.int .i64 ((i:Int)+1));have m:=aC f;have hcc:=aC HC;have hs6:=aC S6;clear M hb L l Q f HC S6 Z hk0 hv0;gi_wp2;have hs:=hcc.out;refine⟨⟨hs.size,fun k o G h0 _=>(hs.same k (lt_of_block h0) (by omega)).trans h0⟩,?_,?_,?_⟩
    · exact(v.out.chg.trans (Chg.of (F:=fun _=>False) m.out) (fun _ _ h=>h.elim)).trans hs (fun b _ h=>.inr h)
    · rw[show x0+1+(i+1)=x0+1+i+1 by omega]
      exact(v.out.sa.keep m.out).chg hs (fun b e G => by have U : b = w.heap.size := e; have := P b G; omega) (fun b e cs kk => by
        have U:b=w.heap.size:=e;subst U
        exact absurd (kk.eq (v.out.out.keep m.out)).2 (by decide))
    · have q:=hs6.out
      rw[show ((i+1:Nat):Int)=(i:Int)+1 by omega];exact q
  · rintro D' W' hD hK M
    have h1c:=M.out.cell (i:=0) rfl;have R3:=Rec.put hK rfl hD (.deferred none);have R:=M.rcd R3;have S:=aC R;have HD:=aC hD;clear R M;gi_wp2;refine⟨by simp,.inl ⟨_,_,rfl,run_takeDeferred hK,?_⟩⟩;refine⟨_,results_tmp rfl _ _ _,fJ E k a,rfl,rfl,by have q:=S.out.sa;rw[O] at q;exact q,?_⟩;have q1:=aA (aA HB.out HB1.out) HB2.out;exact(Chg.of (F:=(·=g)) q1).trans S.out.chg (fun b hl e=>e.elim id (fun e=>by omega))
  · rintro D' c i W' hD hK hi h
    exact h.elim
theorem sY{B:Nat}{n:Nat}(h:Sx B w K g E W n N)(b:0<=a/\a < 18446744073709551616)(d:16 < (Ky.frm k).1)(c:N<=100000000)(hn:n + N<=2000000000000000000):Calls Tryz.prog 31 #[pg g,.int .i64 k,.int .u64 a] w fun e w'=>e=.returned (.int .i64 ((fJ E k a:Nat):Int))/\Sx B w' K g E W (n + 1 + fJ E k a) N/\fJ E k a<=N/\Chg (· = g) w w':=by
 refine(xZ h.sa b d c hn).mono ?_
 rintro e w' ⟨j,rfl,rfl,S,C⟩;exact⟨rfl,⟨S,Nat.le_trans h.lo C.size,h.kb⟩,Nat.le_trans (List.length_filter_le _ _) h.sa.size,C⟩
end
end Fo
end
section
namespace Fo
open Go.RowKit Go.Lib Pg Lim Gl Kv Bk Pw
attribute [local go_sem] Oper.semAt_some
set_option linter.unusedVariables false
set_option linter.unusedSimpArgs false
theorem KK:Kd Tryz.prog 126 87 1 24 (.slice none 0 0):=⟨by kernel_rfl,by kernel_rfl,rfl,by simp[Value.cells,Value.oneCell'],by decide⟩
structure KA (w:World) (B:Nat) (v:Value) (ks:List (Value × List Int)):Prop where
 ex:(v=.slice none 0 0/\ks=[])\/∃ b c,v=.slice (some ⟨b,0,none⟩) ks.length c/\B<=b/\Rw w 87 1 b ks.length c (ks.map (·.1))
 obs:∀ p∈ks,OB w (B <= ·) p.1 p.2
section
variable {w w':World} {B g x:Nat} {v:Value} {ks:List (Value × List Int)}
theorem KA.shape (h:KA w B v ks):∃ ao c,v=.slice ao ks.length c:=by
 rcases h.ex with⟨rfl,rfl⟩ | ⟨b,c,rfl,_⟩
 ·exact⟨none,0,rfl⟩
 ·exact⟨_,c,rfl⟩
theorem KA.nil (w:World) (B:Nat):KA w B (.slice none 0 0) []:=⟨.inl ⟨rfl,rfl⟩,fun _ h=>by cases h⟩
theorem KA.keep (h:KA w B v ks) (hb:Below w.heap.size w w'):KA w' B v ks:=⟨h.ex.imp id (fun⟨b,c,e,hl,hR⟩=>⟨b,c,e,hl,hR.keep hb⟩),fun p hp=>(h.obs p hp).keep hb⟩
theorem KA.rcd {C:Nat} (h:KA w B v ks) (hr:Rec C w w'):KA w' B v ks:=⟨h.ex.imp id (fun⟨b,c,e,hl,hR⟩=>⟨b,c,e,hl,Kv.Rw.rcd hR hr⟩),fun p hp=>Kv.OB.rcd (h.obs p hp) hr⟩
theorem KA.chg {F:Nat->Prop} (h:KA w B v ks) (hc:Chg F w w') (hF:∀ b,F b->b < B/\∀ cs,¬ Blk w b cs 5):KA w' B v ks :=
 ⟨h.ex.imp id (fun⟨b,c,e,a,d⟩=>⟨b,c,e,a,d.chg hc (fun hf=>by have:=(hF b hf).1;omega)⟩),fun p f=>(h.obs p f).chg hc (fun b hb cs=>(hF b hb).2 cs)⟩
theorem app_k {p:Value × List Int} {a:Addr} (h:KA w B v ks) (E:B<=w.heap.size) (G:ks.length<=2000000000) (n:OB w (B <= ·) p.1 p.2) (c0:w.cell? (a.add 0)=some p.1) :
  ∃ v' w',(Builtin.append_ #[126,126] 126 #[v,.slice (some a) 1 1]).run Tryz.prog w=.ok v' w'/\KA w' B v' (ks ++ [p])/\Chg (fun b=>B<=b/\∃ cs,Blk w b cs 87) w w':=by
 have d:∀ j u,[p.1][j]? = some u->w.cell? (a.add j)=some u:=fun j u s=>by
  match j with
  | 0=>simp at s;rw[<- s];exact c0
  | k+1=>simp at s
 have g:∀ b,(B<=b/\∃ cs,Blk w b cs 87)->∀ cs,¬ Blk w b cs 5:=fun b hb cs k=>by
  obtain⟨_,z,A⟩:=hb;exact absurd (k.eq A).2 (by decide)
 rcases h.ex with⟨rfl,rfl⟩ | ⟨b,c,rfl,hb,i⟩
 ·obtain⟨r,w',o,i,hw⟩:=gQ (w:=w) KK 126 a 1 1 [p.1] rfl d (by omega) (by omega) (by omega);refine⟨_,w',o,⟨.inr ⟨_,r,rfl,E,by simpa using i⟩,fun q l=>?_⟩,Chg.of hw⟩;simp at l;subst l;exact n.keep hw
 ·obtain⟨C,r,w',o,x,t,hC⟩:=eu KK 126 i a 1 1 [p.1] rfl d (fun u hu=>by simp at hu;subst hu;obtain⟨F,H,e⟩:=n.shape;rw[e];rfl) (by omega) (by omega)
  have f:Chg (fun b=>B<=b/\∃ cs,Blk w b cs 87) w w':=hC.mono (fun y _ e=>by have D:y=b:=e;subst D;exact⟨hb,i.kind⟩);refine⟨_,w',o,⟨.inr ⟨C,r,by simp,by rcases x with rfl | rfl<;>omega,by simpa using t⟩,fun q l=>?_⟩,f⟩;rcases List.mem_append.1 l with m | m
  ·exact(h.obs q m).chg f g
  ·simp at m;subst m;exact n.chg f g
end
section
variable {ops:Array Oper}{rest:List Oper}{pos:String}
def TpK(t:TypeId):Prop:=t=87
theorem zh{F:Fence}{n:Nat}{Q:Exit->Act->World->Prop}{after:Array Edge}{a:Act}{w w':World}{u v r:Value}(hF:∀ f,F.fn f)(hu:a.eval (.tmp 17)=u)(hv:a.eval (.tmp 19)=v)(b:(Builtin.append_ #[126,126] 126 #[u,v]).run Tryz.prog w=.ok r w')(h:wpListIn F n Tryz.prog ops Q rest (a.put (some 20) r) w') :
  wpListIn F n Tryz.prog ops Q ({ dst:=some 20,op:=.call { callee:=.builtin .append,args:=#[.tmp 17,.tmp 19],argTypes:=#[126,126] },type:=126,pos:=pos,after:=after,guard:=none } :: rest) a w :=
 Kv.pI rfl hF (Oper.semAt_eq _ _ _ (fun c h=>by cases h)) (Ky.j0 (x:=17) (y:=19) rfl rfl hu hv b) h
structure RmI(Wb:World)(t:Nat)(K D:Nat->Prop)(g:Nat)(E:aE)(Wn:List aE)(N x:Nat)(L:List (List Int))(V:World):Prop where
 chg:Chg (fun b=>b=g\/b=t) Wb V
 sa:SA V K D g E Wn x N
 out:∃ v ks,Blk V t [v] 126/\KA V Wb.heap.size v ks/\ks.map (·.2)=L
end
section
variable {Wb V V':World} {t g x N:Nat} {K D:Nat->Prop} {E:aE} {Wn:List aE} {L:List (List Int)}
theorem RmI.rcd (h:RmI Wb t K D g E Wn N x L V) (a:Rec Wb.heap.size V V'):RmI Wb t K D g E Wn N x L V':=by
 obtain⟨v,e,c,d,b⟩:=h.out;exact⟨jN h.chg a (Nat.le_refl _),rK h.sa a,v,e,eU c a,d.rcd a,b⟩
theorem RmI.tick (h:RmI Wb t K D g E Wn N x L V) (l:g < Wb.heap.size):RmI Wb t K D g E Wn N (x+1) L (tick g V x):=by
 obtain⟨v,f,c,j,n⟩:=h.out;have hc:=ef g x V
 have a:t≠g:=fun e=>by
  obtain⟨cs,k⟩:=h.sa.kv;subst e;exact absurd (c.eq k).2 (by decide)
 refine⟨h.chg.trans hc (fun b _ e=>.inl e),h.sa.tick,v,f,c.chg hc a,j.chg hc (fun b e=>?_),n⟩
 have d:b=g:=e;subst d;refine⟨l,fun cs q=>?_⟩;obtain⟨i,m⟩:=h.sa.kv;exact absurd (q.eq m).2 (by decide)
end
section
variable {n B g N:Nat}{R:Ending->World->Prop}{w:World}{ρ:Operand->Value}{o:Oper}{v:Value}{ao:Option Addr}{K:Nat->Prop}{E:aE}{Wn W:List aE}{id:Int}
def mJ(E:aE)(k a:Int):List (List Int):=(E.filter (fun x=>decide (Ky.mkb (Ky.frm k) (Ky.tn k a) <+: x.1))).map (·.1)
def lT(E:aE)(k a:Int):aE:=(mJ E k a).foldl Kv.rem E
theorem CV{l:Fr}{P:Program}{fn:Func}{D:Nat}(b:fn.results=#[])(d:w.heap[D]? = some (.deferred (some [])))(c:R (.returned (.tuple #[])) (w.putObj D (.deferred none))):GE n [{ target:=.collected D,args:=#[] }] (bodyPostM Fence.wide 0 P fn R) .normal l w:=⟨fun a r=>by
 obtain⟨tmps,dfs⟩:=a
 have e:dfs=[{ target:=.collected D,args:=#[] }]:=r.dfs;subst e;refine⟨by simp,.inl ⟨_,_,rfl,run_takeDeferred d,?_⟩⟩
 exact⟨_,by simp[results,b],c⟩⟩
theorem Et{b off:Nat}(hc:w.cell? ⟨b,off,none⟩=some v)(c:∃ p,o.op=.load 87 p/\ρ p=.pointer (some ⟨b,off,none⟩):=by exact⟨_,rfl,by kernel_rfl⟩):(execOp ρ o).run Tryz.prog w=.ok (.value v) w:=by
 obtain⟨p,h,a⟩:=c;have:=Kv.o9 hc;simp only[execOp,h,a];simp[Instr.loadAt,Instr.sureAddr,Result.andThen,this]
theorem Db{P:Program}(d b off n c k:Nat)(f:k < n)(a:0 < n->ao=some ⟨b,off,none⟩)(e:∃ T x y,o.op=.indexAddr T x y/\slT P T d=true/\ρ x=.slice ao n c/\ρ y=.int .i64 (k:Int):=by exact⟨_,_,_,rfl,by kernel_rfl,by kernel_rfl,by kernel_rfl⟩):(execOp ρ o).run P w=.ok (.value (.pointer (some ⟨b,off+k * d,none⟩))) w:=by
 rw[a (by omega)] at e;exact eR d b off n c k f e
theorem sO{K:Nat→Prop}{x0:Nat}{k a:Int}(h:Sx B w K g E Wn x0 N)(ha:0≤a∧a < 18446744073709551616)(O:16 < (Ky.frm k).1)(hN:N≤30000000)(hx:x0+N≤2000000000000000000) :
    Calls Tryz.prog 32 #[pg g,.int .i64 k,.int .u64 a] w fun e w'=>∃ K' n' N',e=.returned (.tuple #[])∧Sx B w' K' g (lT E k a) Wn n' N'∧n'≤x0+1+2 * N∧N'≤3 * N∧(∀ b,K' b→K b∨w.heap.size≤b)∧Chg K w w':=by
  obtain⟨D,hD0⟩:∃ D:Nat→Prop,D=(B≤·):=⟨_,rfl⟩
  have hS:SA w K D g E Wn x0 N:=by rw[hD0];exact h.sa
  have hlo:=h.lo;have hkb:=h.kb;clear h
  have hglt:g < w.heap.size:=hS.lt hS.top;have A1:=ae w (.cells #[.slice none 0 0] 126);have T1:=aD w [.slice none 0 0] 126;obtain⟨Wa,hWa⟩:∃ Wa,Hid (w.alloc (.cells #[.slice none 0 0] 126)=Wa):=⟨_,rfl⟩
  have zA:Wa.heap.size=w.heap.size+1:=by rw[← hWa.out];simp
  rw[hWa.out] at A1 T1;have SB:=hS.keep A1;have HS:=aC hS;have HB:=aC A1;have HT:=aC T1;have HSB:=aC SB;clear hS A1 T1 SB;refine(callsIn_wide (n:=0)).1 ?_
  refine callsIn_of_wp_marks Tryz.func32 rfl trivial ?_ rfl;simp only[Tryz.ntmps32,List.size_toArray,List.length_cons,List.length_nil,Nat.reduceAdd,Nat.reduceSub,Array.replicate_succ,Array.replicate_zero,List.push_toArray,List.append_toArray,List.nil_append,List.cons_append];gi_wp2_with (refine⟨trivial,rfl,?_⟩;gi_at_call 65;rw[hWa.out];refine(callsIn_wide.2 (AA ha O)).mono ?_;rintro e' w1 ⟨u,rfl,U1,B1⟩);have S1:=HSB.out.keep B1;have T1:=HT.out.keep B1;have zB1:=B1.size
  have G:∀ b,K b→b < w.heap.size:=fun b hb=>HS.out.lt hb
  have up := sd (Tp := TpK) (X := fun b => b = g ∨ b = w.heap.size) S1 (by omega) U1 (Nat.le_trans (Ky.l4 _ _) (by decide)) (fun b hb => hb.elim .inl (fun e => .inr (fun O => by have := G b O; omega))) (fun b hb cs q => by
    rcases hb with rfl | rfl
    · obtain⟨cs',k'⟩:= S1.kv
      exact absurd (q.eq k').2 (by decide)
    · exact absurd (q.eq T1).2 (by decide)) (fun b hb=>by rcases hb with h | h <;> omega) (by unfold TpK;decide) (by unfold TpK;decide)
  have HS1:=aC S1;have HT1:=aC T1;have HB1:=aC B1;have HU:=aC up;clear up S1 T1 B1 U1;gi_wp2_with (refine⟨trivial,rfl,?_⟩;gi_at_call 64;refine(callsIn_wide.2 HU.out).mono ?_;rintro e' M ⟨pv,J,rfl,IG,hEL,B2⟩);obtain⟨bs1,bs2,bw,W1,rfl,IT,y,hb1,m⟩:= IG.ex
  have hlE:Hid (J.length=fJ E k a):=by have:=congrArg List.length hEL;rw[List.length_map] at this;exact this
  have hlN:J.length≤N:=by rw[hlE.out];exact Nat.le_trans (List.length_filter_le _ _) HS.out.size
  have SB:=HS1.out.keep B2;have TB:=HT1.out.keep B2;have zB2:=B2.size
  have n1:bs1≠g:=fun e=>by obtain⟨cs',k'⟩:= SB.kv;subst e;exact absurd (y.2.1.eq k').2 (by decide)
  have n2:bs2≠g:=fun e=>by obtain⟨cs',k'⟩:= SB.kv;subst e;exact absurd (y.2.2.1.eq k').2 (by decide)
  have RD : ∀ V x L, RmI M w.heap.size K D g E Wn N x L V → V.cell? ⟨g, 2, none⟩ = some (.int .i64 (x : Int)) ∧ V.frozen? ⟨g, 2, none⟩ = false ∧ RdC (fun b => b = g ∨ b = w.heap.size) W1 g bs1 bs2 bw V := fun V x i h => by
    have q:=h.sa.cnt;exact⟨q.1,q.2,y.1.trans h.chg (fun _ _ e=>e),y.2.1.chg h.chg (fun e=>e.elim n1 (fun e=>by omega)),y.2.2.1.chg h.chg (fun e=>e.elim n2 (fun e=>by omega)),h.sa.kv⟩
  have hgB:g < M.heap.size:=by omega
  have HI:=aC (show RmI M w.heap.size K D g E Wn N x0 ((J.map En.kl).take 0) M from⟨Chg.refl _ _,SB,_,[],TB,KA.nil _ _,rfl⟩);have HB2:=aC B2;have HIT:=aC (nZ (g:=g) (bs1:=bs1) (bs2:=bs2) (x0:=x0) (xs:=fun i=>x0+1+i) IT (by unfold TpK;decide) (by omega) (fun i hi=>by show x0+1+i≤_;omega));have hsm:=aC IG.small;have hELH:=aC hEL;clear SB TB B2 IT IG y hEL;gi_wp2;refine kK HIT.out (by rfl) (enters_of Tryz.func164 (by kernel_rfl) rfl) (fun i args n V V' h hc=>h.cel hc) (fun i args n V h=>by obtain⟨e,kv,vv,s,_,rfl,_⟩:= h;rfl)
    (fun V=>RmI M w.heap.size K D g E Wn N x0 ((J.map En.kl).take 0) V)
    (fun i V=>RmI M w.heap.size K D g E Wn N (x0+1+i) ((J.map En.kl).take i) V)
    (fun i V=>RmI M w.heap.size K D g E Wn N (x0+1+i+1) ((J.map En.kl).take i) V)
    (fun c i V=>False)
    (fun A B hx hr=>hx.rcd hr) (fun i A B hx hr=>hx.rcd hr) (fun i A B hx hr=>hx.rcd hr) (fun c i A B hx hr=>hx) (by omega)
    (fun V hv=>by obtain⟨q1,q2,q3⟩:= RD V _ _ hv;exact⟨q1,q2,q3,hv.tick hgB⟩)
    (fun i V hv=>by obtain⟨q1,q2,q3⟩:= RD V _ _ hv;exact⟨q1,q2,q3,fun _=>hv.tick hgB⟩)
    HI.out ?_ ?_ ?_
  · rintro l2 i args V Wv hl hlV hrec hiN hT hb ⟨e0,kv,vv,s0,he0,rfl,hk0,hv0,_⟩
    simp;gi_wp2;refine⟨Below.refl _ _,?_⟩;intro V2 W2 H m hAr2 hoth hsz3 hV2 r hrec2;obtain⟨e1,kv1,vv1,t1,he1,aa,hk2,hv2,ht1⟩:= hAr2;obtain rfl:e1=e0:=by rw[he0] at he1;cases he1;rfl
    simp at aa;obtain⟨rfl,rfl⟩:= aa;obtain⟨ak,ck,hk1⟩:= hk2.shape;subst hk1;obtain⟨v,U,o1,W,o3⟩:= H.out
    have R:U.length=i:=by
      have:=congrArg List.length o3;rw[List.length_map,List.length_take,List.length_map] at this;omega
    obtain⟨ao,cc,rfl⟩:= W.shape;rw[R] at o1 W;have z2:=m.size;have zT:=H.chg.size;have P0:=o1.keep m;have Q0:=W.keep m;have d:=ae W2 (.cells #[.slice ak e1.kl.length ck] 87);have N4:=aD W2 [.slice ak e1.kl.length ck] 87;obtain⟨W4,hW4⟩:∃ W4,Hid (W2.alloc (.cells #[.slice ak e1.kl.length ck] 87)=W4):=⟨_,rfl⟩;rw[hW4.out] at d N4;have z4:=d.size;obtain⟨v5,w5,z,U5,C5⟩:= app_k (p:=(.slice ak e1.kl.length ck,e1.kl)) (a:=⟨W2.heap.size,0,none⟩) (Q0.keep d) (by omega) (by rw[R];omega) ((hk2.mono (fun b _ h=>by have:=h.1;omega)).keep d) (N4.cell (i:=0) rfl)
    have hl5:(U ++ [((.slice ak e1.kl.length ck:Value),e1.kl)]).length=i+1:=by rw[List.length_append,R];rfl
    obtain⟨a5,c5,rfl⟩:= U5.shape;rw[hl5] at U5 z;have S5:=(P0.keep d).chg C5 (fun h=>by obtain⟨_,cs,k⟩:= h;exact absurd (k.eq (P0.keep d)).2 (by decide));obtain⟨q1,hq1⟩:∃ q1,Hid (i+1=q1):=⟨_,rfl⟩;rw[hq1.out] at U5 z
    have C:Chg (·=w.heap.size) w5 (w5.setCell ⟨w.heap.size,0,none⟩ (.slice a5 q1 c5)):=(Chg.refl (fun x=>x=w.heap.size) w5).cell (.inl (by rfl)) _;have S6:=S5.setCell (i:=0) (.slice a5 q1 c5)
    have hK5 : bF TpK M.heap.size W4 w5 := ⟨C5.size, fun k o _ h0 hs => (C5.same k (lt_of_block h0) (fun h => by
      obtain⟨_,cs,kb⟩:= h;rw[kb.blk] at h0
      cases h0
      exact hs _ _ _ rfl rfl)).trans h0⟩
    have hKe:bF TpK M.heap.size W2 (w5.setCell ⟨w.heap.size,0,none⟩ (.slice a5 q1 c5)):=((bF.of d).trans hK5).trans ⟨C.size,fun k o O h0 _=>(C.same k (lt_of_block h0) (fun e=>by have e':k=w.heap.size:=e;omega)).trans h0⟩
    have hTI:RmI M w.heap.size K D g E Wn N (x0+1+(i+1)) ((J.map En.kl).take (i+1)) (w5.setCell ⟨w.heap.size,0,none⟩ (.slice a5 q1 c5)):=by
      refine⟨?_,?_,⟨_,U ++ [(.slice ak e1.kl.length ck,e1.kl)],S6,?_,?_⟩⟩
      · exact((H.chg.trans (Chg.of (F:=fun _=>False) (aA m d)) (fun _ _ h=>h.elim)).trans C5 (fun b h1 h2=>by have:=h2.1;omega)).trans C (fun b _ h=>.inr h)
      · have q := ((H.sa.keep (aA m d)).chg C5 (fun b h1 O => by have := G b O; have := h1.1; omega) (fun b h1 cs kk => by obtain⟨_, cs', k'⟩:= h1; exact absurd (kk.eq k').2 (by decide))).chg C (fun b e O => by have e' : b = w.heap.size := e; have := G b O; omega) (fun b e cs kk => by
          have e':b=w.heap.size:=e;subst e'
          exact absurd (kk.eq S5).2 (by decide))
        rw[show x0+1+(i+1)=x0+1+i+1 by omega];exact q
      · refine U5.chg C (fun b e=>?_)
        have e':b=w.heap.size:=e;subst e';exact⟨by omega,fun cs kk=>absurd (kk.eq S5).2 (by decide)⟩
      · rw[List.map_append,o3,List.take_add_one,List.getElem?_map,he0]
        rfl
    have p0c:=P0.cell (i:=0) rfl;have s5c:=S5.cell (i:=0) rfl;have s5f:=S5.free 0;have HKE:=aC hKe;have HTI:=aC hTI;clear hT hoth hb H m P0 Q0 N4 d U5 C5 S5 C S6 hK5 hKe hTI o1 W o3 R hl5 z2 zT z4 hsz3 hV2 hk2 hv2 hk0 hv0 he1;rw[← hW4.out] at z;clear hW4;gi_wp2_with (first | (have gate:=z;clear gate;(with_reducible refine zh ?_ ?_ ?_ z ?_);(exact fun _=>trivial);rfl;rfl;clear z));exact⟨HKE.out,HTI.out⟩
  · rintro P Y hD hK hT
    rename_i Q' Kc hc;obtain⟨v,U,o1,W,o3⟩:= hT.out;rw[List.take_of_length_le (by rw[List.length_map];exact Nat.le_refl _)] at o3;obtain⟨ao,cc,rfl⟩:= W.shape;obtain⟨j,Q⟩:∃ j,U.length=j:=⟨_,rfl⟩
    have hlen:j=J.length:=by rw[← Q,← List.length_map (f:=(·.2)),o3,List.length_map]
    rw[Q] at o1 W
    have zW':=hT.chg.size
    have hT':=hT.sa;rw[hD0] at hT'
    have I:J.map En.kl=mJ E k a:=by
      unfold mJ;rw[← hELH.out,List.map_map];rfl
    have zz:=aA (aA HB.out HB1.out) HB2.out
    have hC0:Chg K w Y:=(Chg.of (F:=K) zz).trans hT.chg (fun b hl e=>e.elim (fun e=>e ▸ HS.out.top) (fun e=>by omega))
    have Sx0:Sx B Y K g E Wn (x0+1+j) N:=⟨by rw[hlen];exact hT',Nat.le_trans hlo hC0.size,hkb⟩;obtain⟨pb,hao,hkl⟩:∃ pb,(0 < j→ao=some ⟨pb,0,none⟩)∧∀ i p,U[i]?=some p→∀ V K' E' n' N',Bk.At B Y K V K' g E' Wn n' N'→V.cell? ⟨pb,0+i * 1,none⟩=some p.1∧ByU V p.1 p.2:=by
      rcases W.ex with⟨e1,e2⟩ | ⟨b,c,e1,hb,hR⟩
      · exact⟨0,fun h=>by rw[e2] at Q;simp at Q;omega,fun i p hp=>by rw[e2] at hp;cases hp⟩
      · refine⟨b,fun _=>by cases e1;rfl,fun i p hp V K' E' n' N' hA=>⟨?_,?_⟩⟩
        · have hc:=hR.cell (i:=i) (by rw[List.getElem?_map,hp];rfl)
          rw[show 0+i * 1=i by omega,World.cell?_of_block (w:=Y) (hA.cc.same b hR.lt (fun O=>by have:=G b O;omega))];exact hc
        · exact(ByU.of (W.obs p (List.mem_of_getElem? hp))).chg hA.cc Sx0.sa.kind
    have hDlt:P < Y.heap.size:=lt_of_block hK
    have hDK:¬ K P:=fun hb=>by have:=G _ hb;omega
    have hsm2 : ∀ (i : Nat) (p : Value × List Int), U[i]? = some p → p.2.length ≤ 1000000000 := fun i p hp => by
      have:p.2 ∈ J.map En.kl:=by rw[← o3];exact List.mem_map.2 ⟨p,List.mem_of_getElem? hp,rfl⟩
      obtain⟨e,he,e2⟩:= List.mem_map.1 this;rw[← e2];exact(hsm.out e he).1
    have hfin : ∀ V K' n' N', Bk.At B Y K V K' g ((mJ E k a).foldl Kv.rem E) Wn n' N' → V.heap[P]? = some (.deferred (some [])) ∧ Sx B (V.putObj P (.deferred none)) K' g (lT E k a) Wn n' N' ∧ (∀ b, K' b → K b ∨ w.heap.size ≤ b) ∧ Chg K w (V.putObj P (.deferred none)) := fun V K' n' N' hA => by
      have hv:V.heap[P]?=some (.deferred (some [])):=(hA.cc.same P hDlt hDK).trans hK;have R3:=Rec.put (B:=w.heap.size) hv rfl (by omega) (.deferred none);refine⟨hv,⟨rK hA.sx.sa R3,Nat.le_trans hA.sx.lo R3.size,hA.sx.kb⟩,fun b hb=>(hA.km b hb).imp_right (Nat.le_trans hC0.size),?_⟩;exact jN (hC0.trans hA.cc (fun b _ h=>h)) R3 (Nat.le_refl _)
    have A:=Sx0.at
    have hn1:j≤N:=by omega
    refine hc _ _ (wpIn_wide.2 (GC.out (n:=31) (ds:=[{ target:=.collected P,args:=#[] }]) (l:=[(0,pg g),(6,pg w.heap.size)]) ?_ _ ⟨rfl,rfl,fun q u hq=>?_⟩))
    · have Xt:=o1
      refine ai (aB (tl 21 (.slice ao j cc) Xt 0 (t 22 (.int .i64 ((j:Nat):Int)) (t 23 (.int .i64 0) (ax (ah (ed ?_)))))));clear Xt;refine mj (fun i=>j - i) (fun(i:Nat)=>[(0,pg g),(21,.slice ao j cc),(22,.int .i64 ((j:Nat):Int)),(23,.int .i64 (i:Int))]) (fun i V=>i≤j∧∃ K2 n2 N2,Bk.At B Y K V K2 g (((mJ E k a).take i).foldl Kv.rem E) Wn n2 N2∧n2≤x0+1+j+i∧N2≤N+2 * i) (0:Nat) ⟨Nat.zero_le _,_,_,_,A,by omega,by omega⟩ (by kernel_rfl) ?_
      clear A;rintro i v1 ⟨hi,K2,n2,N2,A,hn2,hN2⟩;refine ai (aB ?_);by_cases ci:(i:Int) < ((j:Nat):Int)
      · have ab : i < j := by omega
        obtain⟨Z,T⟩:∃ p,U[i]?=some p:=⟨U[i],List.getElem?_eq_getElem (by omega)⟩;refine tq 24 (.bool (decide ((i:Int) < ((j:Nat):Int)))) (.bool true) (congrArg Value.bool (decide_eq_true ci)) (ax (ah (ai (cD (bC (ah (ai (ed (ai (aB (tr 25 (pq pb (0+i * 1)) (Db 1 pb 0 j cc i ab hao) (tr 26 (Z.1) (Et (hkl i Z T _ _ _ _ _ A).1) (t 9 (Z.1) (ax (ah (aB (t 27 (pg g) (t 28 (Z.1) (tc 29 66 #[pg g,Z.1] (xdel A.sx (hkl i Z T _ _ _ _ _ A).2 (hsm2 i Z T) (by omega) (by omega)) ?_)))))))))))))))))));rintro _ v3 ⟨rfl,K2,S,hK,hC⟩;refine⟨_,rfl,?_⟩;replace A:=A.op S hK hC;clear S hK hC;refine ax (gy (ah (aB (tq 30 (.int .i64 (IntKind.i64.wrap ((i:Int)+1))) (.int .i64 ((i:Int)+1)) (wi (by omega)) (t 23 (.int .i64 ((i:Int)+1)) (ax ?_))))))
        have hstep:((mJ E k a).take (i+1)).foldl Kv.rem E=Kv.rem (((mJ E k a).take i).foldl Kv.rem E) Z.2:=by
          rw[List.take_add_one,← I,← o3,List.getElem?_map,T,List.foldl_append];rfl
        rw[← hstep] at A;exact iu (i+1) (by show j - (i+1) < j - i;omega) ⟨ab,_,_,_,A,by omega,by omega⟩ (by kernel_rfl)
      · refine tq 24 (.bool (decide ((i:Int) < ((j:Nat):Int)))) (.bool false) (congrArg Value.bool (decide_eq_false ci)) ?_
        refine ax (ah (ai (cn (jR (jd (jd (rY ?_)))))))
        have hil:j≤i:=by omega
        rw[List.take_of_length_le (by rw[← I,List.length_map,← hlen];exact hil)] at A;obtain⟨f1,f2,f3,f4⟩:= hfin _ _ _ _ A;exact CV (by kernel_rfl) f1 ⟨_,_,_,rfl,f2,by omega,by omega,f3,f4⟩
    · have hm:=uu hq
      simp at hm;rcases hm with⟨rfl,rfl⟩ | ⟨rfl,rfl⟩ <;> rfl
  · rintro P c i Y hD hK hi h
    exact h.elim
theorem Ev(h:Sx B w K g E W n N)(hid:0<=id/\id < 18446744073709551616)(a:N<=30000000)(hn:n + 3 * N + 10<=2000000000000000000):Calls Tryz.prog 9 #[pg g,.int .u64 id] w fun e w'=>∃ K' n',e=.returned (.tuple #[.int .i64 ((fJ E 7 id:Nat):Int),.int .i64 ((fJ E 8 id:Nat):Int)])/\Sx B w' K' g E W n' N/\n'<=n + 2 + 2 * N/\(∀ b,K' b->K b\/w.heap.size<=b)/\Chg K w w':=by
 have A:=h.at
 refine aN (n:=12) Tryz.func9 rfl (by kernel_rfl) (by kernel_rfl) ?_
 refine ai (aB (t 4 (.int .i64 0) (t 5 (.int .i64 0) (ax (ah (ai (aB (t 6 (pg g) (t 7 (.int .u64 id) (tc 8 31 #[pg g,.int .i64 7,.int .u64 id] (sY A.sx hid (by decide) (by omega) (by omega)) ?_))))))))));rintro _ v2 ⟨rfl,S,q1,C⟩;refine⟨_,rfl,?_⟩;have hC:=C.mono (fun b _ (e:b=g)=>e▸A.sx.sa.top);replace A:=A.op S (fun _ h=>.inl h) hC;clear S hC C;refine t 9 (pg g) (t 10 (.int .u64 id) (tc 11 31 #[pg g,.int .i64 8,.int .u64 id] (sY A.sx hid (by decide) (by omega) (by omega)) ?_));rintro _ v4 ⟨rfl,S,c,C⟩;refine⟨_,rfl,?_⟩;have hC:=C.mono (fun b _ (e:b=g)=>e▸A.sx.sa.top);replace A:=A.op S (fun _ h=>.inl h) hC;clear S hC C;refine t 4 (.int .i64 ((fJ E 7 id:Nat):Int)) (t 5 (.int .i64 ((fJ E 8 id:Nat):Int)) (ax (ah (aW [(4,.int .i64 ((fJ E 7 id:Nat):Int)),(5,.int .i64 ((fJ E 8 id:Nat):Int))] (by kernel_rfl) (aU (aV (.tuple #[.int .i64 ((fJ E 7 id:Nat):Int),.int .i64 ((fJ E 8 id:Nat):Int)]) (rs2 4 5 (by kernel_rfl) (by kernel_rfl) (by kernel_rfl)) ?_))))));exact⟨_,_,rfl,A.sx,by omega,A.km,A.cc⟩
theorem gone_x(h:Sx B w K g E W n N)(hid:0<=id/\id < 18446744073709551616)(k:N<=10000000)(hn:n + 30 * N + 10<=2000000000000000000):Calls Tryz.prog 11 #[pg g,.int .u64 id] w fun e w'=>∃ K' n' N',e=.returned (.tuple #[])/\Sx B w' K' g (lT (lT E 7 id) 8 id) W n' N'/\n'<=n + 20 * N + 10/\N'<=9 * N/\(∀ b,K' b->K b\/w.heap.size<=b)/\Chg K w w':=by
 have A:=h.at
 refine aN (n:=10) Tryz.func11 rfl (by kernel_rfl) (by kernel_rfl) ?_
 refine ai (aB (t 4 (pg g) (t 5 (.int .u64 id) (tc 6 32 #[pg g,.int .i64 7,.int .u64 id] (sO A.sx hid (by decide) (by omega) (by omega)) ?_))));rintro _ v5 ⟨p,m,o,rfl,S,d,f,a,hC⟩;refine⟨_,rfl,?_⟩;replace A:=A.op S a hC;clear S a hC;refine ax (ah (aB (t 7 (pg g) (t 8 (.int .u64 id) (tc 9 32 #[pg g,.int .i64 8,.int .u64 id] (sO A.sx hid (by decide) (by omega) (by omega)) ?_)))));rintro _ v10 ⟨l,q,j,rfl,S,c,i,a,hC⟩;refine⟨_,rfl,?_⟩;replace A:=A.op S a hC;clear S a hC;refine ax (ey (.tuple #[]) (rs0 (by kernel_rfl)) ?_);exact⟨_,_,_,rfl,A.sx,by omega,by omega,A.km,A.cc⟩
end
end Fo
end
section
namespace Fo
open Go.RowKit Go.Lib Pg Lim Gl Kv Bk Pw
attribute [local go_sem] Oper.semAt_some
set_option linter.unusedVariables false
set_option linter.unusedSimpArgs false
section
variable {w:World}{p ao:Option Addr}{K:Nat->Prop}{z n c:Nat}{x:Int}{v:Value}{l:List Int}
theorem DP{id fr la:Int}:Calls Tryz.prog 39 #[.pointer p,.int .u64 id,.int .u64 fr,.int .u64 la] w fun e w'=>e=.returned (.func (.func 73) #[] #[.pointer (some ⟨w.heap.size + 1,0,none⟩),.pointer (some ⟨w.heap.size + 1 + 1,0,none⟩),.pointer (some ⟨w.heap.size + 1 + 1 + 1,0,none⟩),.pointer (some ⟨w.heap.size,0,none⟩)])/\Blk w' w.heap.size [.pointer p] 37/\Blk w' (w.heap.size + 1) [.int .u64 id] 22/\Blk w' (w.heap.size + 1 + 1) [.int .u64 fr] 22/\Blk w' (w.heap.size + 1 + 1 + 1) [.int .u64 la] 22/\Below w.heap.size w w':=by
 obtain⟨c,j⟩:∃ c,c=w.alloc (.cells #[.pointer p] 37):=⟨_,rfl⟩
 obtain⟨b,m⟩:∃ b,b=c.alloc (.cells #[.int .u64 id] 22):=⟨_,rfl⟩
 obtain⟨f,n⟩:∃ f,f=b.alloc (.cells #[.int .u64 fr] 22):=⟨_,rfl⟩
 obtain⟨d,l⟩:∃ d,d=f.alloc (.cells #[.int .u64 la] 22):=⟨_,rfl⟩
 have r:=ae w (.cells #[.pointer p] 37);have c1:=aD w [.pointer p] 37
 have s1:(w.alloc (.cells #[.pointer p] 37)).heap.size=w.heap.size+1:=by simp
 rw[<- j] at r s1;have o:=ae c (.cells #[.int .u64 id] 22);have c2:=aD c [.int .u64 id] 22
 have s2:(c.alloc (.cells #[.int .u64 id] 22)).heap.size=c.heap.size+1:=by simp
 rw[<- m] at o s2;have i:=ae b (.cells #[.int .u64 fr] 22);have c3:=aD b [.int .u64 fr] 22
 have s3:(b.alloc (.cells #[.int .u64 fr] 22)).heap.size=b.heap.size+1:=by simp
 rw[<- n] at i s3;have g:=ae f (.cells #[.int .u64 la] 22);have t:=aD f [.int .u64 la] 22;rw[<- l] at g
 have d1:Blk d w.heap.size [.pointer p] 37:=by
  have q:Blk c w.heap.size [.pointer p] 37:=by rw[j];exact c1
  exact((q.keep o).keep i).keep g
 have d2:Blk d (w.heap.size+1) [.int .u64 id] 22:=by
  have q:Blk b c.heap.size [.int .u64 id] 22:=by rw[m];exact c2
  rw[s1] at q;exact(q.keep i).keep g
 have d3:Blk d (w.heap.size+1+1) [.int .u64 fr] 22:=by
  have q:Blk f b.heap.size [.int .u64 fr] 22:=by rw[n];exact c3
  rw[s2,s1] at q;exact q.keep g
 have d4:Blk d (w.heap.size+1+1+1) [.int .u64 la] 22:=by
  have q:Blk d f.heap.size [.int .u64 la] 22:=by rw[l];exact t
  rw[s3,s2,s1] at q;exact q
 have bb:=aA (aA (aA r o) i) g;have s:=aC (And.intro d1 (And.intro d2 (And.intro d3 (And.intro d4 bb))));rw[l,n,m,j] at s;clear d1 d2 d3 d4 bb r o i g c1 c2 c3 t s1 s2 s3 j m n l;go_enter Tryz.func39,Tryz.ntmps39;go_wp2;go_ret;refine⟨by simp,?_⟩;simpa using s.out
theorem Nq.at(h:Nq w K z ao n c x)(hn:n≠0):∃ o y,w.cell? ⟨z,o,none⟩=some (.int .u64 y):=by
 obtain⟨d,e⟩:∃ d:World,d={ w with heap:=w.heap.mapIdx (fun i o=>if i=z then o else .deferred none) }:=⟨_,rfl⟩
 have j:d.heap[z]?=w.heap[z]?:=by
  rw[e];simp only[Array.getElem?_mapIdx,if_true]
  cases w.heap[z]? <;> rfl
 obtain⟨b,o,l,m,p,q,k⟩:=(h.to d (fun _=>j)).ex;have f:=k.cell 0 (by omega);by_cases hb:b=z
 ·subst hb;rw[World.cell?_of_block (w:=w) (a:=⟨b,o+0,none⟩) j] at f;exact⟨_,_,f⟩
 ·exfalso
  have g:d.heap[b]?=none\/d.heap[b]?=some (.deferred none):=by
   rw[e];simp only[Array.getElem?_mapIdx,if_neg hb]
   cases w.heap[b]? with
   | none=>exact .inl rfl
   | some o=>exact .inr rfl
  unfold World.cell? at f;rcases g with g | g<;>simp[g] at f
theorem dR{b:Nat}{t:TypeId}(h:Nq w K z ao n c x)(hb:Blk w b [v] t)(hv:∀ y,v≠.int .u64 y):n=0\/z≠b:=by
 by_cases hn:n=0
 ·exact .inl hn
 ·refine .inr fun e => ?_
  subst e;obtain⟨o,y,a⟩:=h.at hn;unfold World.cell? at a;rw[hb.blk] at a
  match o with
  | 0=>simp at a;exact hv y a
  | o+1=>simp at a
theorem Nq.rcd{C:Nat}{w':World}(h:Nq w K z ao n c x)(d:Rec C w w'):Nq w' K z ao n c x:=by
 have hs:n≠0->w'.heap[z]? = w.heap[z]? := fun hn=>by
  obtain⟨o,y,a⟩:=h.at hn;unfold World.cell? at a;split at a
  ·rename_i cs t f e
   have b:w.heap[z]?=some (.cells cs t f):=e;rw[b];exact d.same z _ b (.inr rfl)
  ·cases a
 exact⟨h.lt.imp_right fun h=>Nat.lt_of_lt_of_le h d.size,h.out,fun i g=>h.to i fun hn=>(g hn).trans (hs hn)⟩
theorem cX_rng(a:Oct l):(0<=cX l 0/\cX l 0 < 18446744073709551616)/\(0<=cX l 1/\cX l 1 < 18446744073709551616):=by
 have b:bE (rdL (cZ 8 l) 0 l):=by
  unfold rdL;split
  ·split
   ·exact a
   ·exact fun x hx=>a x (List.mem_of_mem_drop hx)
  ·exact a
 have e:Rc.lE l=Rc.rnx 0 1 (Rc.rnx 0 0 (0,l,fun _=>0)):=rfl;unfold cX Rc.gw;rw[e];split
 ·exact⟨wB (err:=0) a,wB b⟩
 ·exact⟨⟨Int.le_refl _,by decide⟩,Int.le_refl _,by decide⟩
def qE(E:aE)(id:Int)(s:Int × Int × Int)(c:Int × Int × Int):Int × Int × Int:=(s.1+s.2.1 * ky (hX (got E (Ky.mk 7 id c.1)) 0) s.2.2 / U36,s.2.1 * (c.2.2 * U36) / (c.2.1 * U36),hX (got E (Ky.mk 7 id c.1)) 0)
structure ClI(B:Nat)(Wb:World)(br bk bf bc:Nat)(K:Nat->Prop)(g:Nat)(E:aE)(Wn:List aE)(N x i M:Nat)(st:Int × Int × Int)(V:World):Prop where
 chg:Chg (fun b=>b=g\/b=br\/b=bk\/b=bf\/b=bc) Wb V
 sx:Sx B V K g E Wn x N
 cnt:Blk V bc [.int .i64 (i:Int)] 3
 rew:∃ a n c z,Blk V br [.slice a n c] 32/\Nq V K z a n c st.1/\n<=2000000 * i
 stk:∃ a n c z,Blk V bk [.slice a n c] 32/\Nq V K z a n c st.2.1/\n<=M+80 * i
 frm:∃ a n c z,Blk V bf [.slice a n c] 32/\Nq V K z a n c st.2.2/\n<=510
end
section
variable {B:Nat} {Wb V V':World} {br bk bf bc g N x i M:Nat} {K:Nat->Prop} {E:aE} {Wn:List aE} {st:Int × Int × Int}
theorem ClI.rcd (h:ClI B Wb br bk bf bc K g E Wn N x i M st V) (a:Rec Wb.heap.size V V'):ClI B Wb br bk bf bc K g E Wn N x i M st V':=by
 obtain⟨a1,b,c1,z1,p1,e,l⟩:=h.rew;obtain⟨a2,k,c2,z2,q1,m,c⟩:=h.stk;obtain⟨a3,f,c3,z3,r1,j,d⟩:=h.frm;exact⟨jN h.chg a (Nat.le_refl _),⟨rK h.sx.sa a,Nat.le_trans h.sx.lo a.size,h.sx.kb⟩,eU h.cnt a,⟨a1,b,c1,z1,eU p1 a,e.rcd a,l⟩,⟨a2,k,c2,z2,eU q1 a,m.rcd a,c⟩,a3,f,c3,z3,eU r1 a,j.rcd a,d⟩
theorem ClI.tick (h:ClI B Wb br bk bf bc K g E Wn N x i M st V):ClI B Wb br bk bf bc K g E Wn N (x+1) i M st (tick g V x):=by
 obtain⟨a1,o,c1,z1,p1,m,r⟩:=h.rew;obtain⟨a2,p,c2,z2,q1,l,v⟩:=h.stk;obtain⟨a3,C,c3,z3,r1,j,w⟩:=h.frm;have hc:=ef g x V
 have d:∀ {b:Nat} {cs:List Value} {t:TypeId},Blk V b cs t->t≠85->b≠g:=fun k u e=>by
  obtain⟨s,A⟩:=h.sx.sa.kv;subst e;exact u (k.eq A).2
 have f:∀ {a:Option Addr} {n c z:Nat} {y:Int},Nq V K z a n c y->n=0\/z≠g:=fun q=>q.out.imp_right (fun k e=>k (e▸h.sx.sa.top))
 exact⟨h.chg.trans hc (fun b _ e=>.inl e),⟨h.sx.sa.tick,Nat.le_trans h.sx.lo hc.size,h.sx.kb⟩,h.cnt.chg hc (d h.cnt (by decide)),⟨a1,o,c1,z1,p1.chg hc (d p1 (by decide)),m.cell hc (f m),r⟩,⟨a2,p,c2,z2,q1.chg hc (d q1 (by decide)),l.cell hc (f l),v⟩,a3,C,c3,z3,r1.chg hc (d r1 (by decide)),j.cell hc (f j),w⟩
theorem ClI.rd (h:ClI B Wb br bk bf bc K g E Wn N x i M st V):RdS Wb (fun b=>b=g\/b=br\/b=bk\/b=bf\/b=bc) K (B <= ·) g E Wn N V:=by
 obtain⟨a1,d,c1,z1,p1,o,j⟩:=h.rew;obtain⟨a2,f,c2,z2,q1,l,m⟩:=h.stk;obtain⟨a3,p,c3,z3,r1,e,n⟩:=h.frm;refine⟨h.chg,fun b hb cs k=>?_,_,h.sx.sa⟩;rcases hb with rfl | rfl | rfl | rfl | rfl
 ·obtain⟨a,c⟩:=h.sx.sa.kv;exact absurd (k.eq c).2 (by decide)
 ·exact absurd (k.eq p1).2 (by decide)
 ·exact absurd (k.eq q1).2 (by decide)
 ·exact absurd (k.eq r1).2 (by decide)
 ·exact absurd (k.eq h.cnt).2 (by decide)
theorem ClI.go {a1 a2 a4:Option Addr} {k1 d1 y1 I d2 y2 f d4 z4:Nat} {V1 F2 X:Int} {U p d:World} (j:ClI B Wb br bk bf bc K g E Wn N x i M st U) (hX:∀ b,(b=g\/b=br\/b=bk\/b=bf\/b=bc)->b < Wb.heap.size) (D:br≠bk) (t:bk≠bf) (nk:¬ K bk) (nc:¬ K bc)
  (H:Sx B p K g E Wn (x+1) N) (J:Chg (fun b=>b=g\/b=br\/b=bf) U p) (R3:Blk p br [.slice a1 k1 d1] 32) (N1:Nq p K y1 a1 k1 d1 V1) (m1:k1<=2000000 * (i+1)) (F3:Blk p bf [.slice a2 I d2] 32) (N2:Nq p K y2 a2 I d2 F2) (m2:I<=510)
  (M4:Nf d z4 a4 f d4 X) (h4:f=0\/p.heap.size<=z4) (m4:f<=M+80 * (i+1)) (l:Below p.heap.size p d) :
  ((d.cell? ⟨bk,0,none⟩).isSome=true/\d.frozen? ⟨bk,0,none⟩=false/\(d.setCell ⟨bk,0,none⟩ (.slice a4 f d4)).cell? ⟨bc,0,none⟩=some (.int .i64 (i:Int))/\(d.setCell ⟨bk,0,none⟩ (.slice a4 f d4)).frozen? ⟨bc,0,none⟩=false) /\
  ClI B Wb br bk bf bc K g E Wn N (x+1) (i+1) M (V1,X,F2) ((d.setCell ⟨bk,0,none⟩ (.slice a4 f d4)).setCell ⟨bc,0,none⟩ (.int .i64 ((i:Int)+1)))/\bF TpN Wb.heap.size U ((d.setCell ⟨bk,0,none⟩ (.slice a4 f d4)).setCell ⟨bc,0,none⟩ (.int .i64 ((i:Int)+1))):=by
 obtain⟨aS,nS,cS,zS,q1,q2,q3⟩:=j.stk
 have R:bk≠g:=fun e=>by obtain⟨L,P⟩:=j.sx.sa.kv;subst e;exact absurd (q1.eq P).2 (by decide)
 have T:bc≠g:=fun e=>by obtain⟨L,P⟩:=j.sx.sa.kv;subst e;exact absurd (j.cnt.eq P).2 (by decide)
 obtain⟨aR,nR,cR,zR,r1,_,_⟩:=j.rew;obtain⟨aF,nF,cF,zF,f1,_,_⟩:=j.frm
 have v:bc≠br:=fun e=>by subst e;exact absurd (j.cnt.eq r1).2 (by decide)
 have z:bc≠bf:=fun e=>by subst e;exact absurd (j.cnt.eq f1).2 (by decide)
 have A:bc≠bk:=fun e=>by subst e;exact absurd (j.cnt.eq q1).2 (by decide)
 have C:=(j.cnt.chg J (fun h=>h.elim T (fun h=>h.elim v z))).keep l;have c:=(q1.chg J (fun h=>h.elim R (fun h=>h.elim D.symm t))).keep l
 have m:Chg (·=bk) d (d.setCell ⟨bk,0,none⟩ (.slice a4 f d4)):=(Chg.refl (fun x=>x=bk) d).cell (.inl (by rfl)) _;have G:=c.setCell (i:=0) (.slice a4 f d4);have a:=C.chg m A;have x1:=c.cell (i:=0) rfl;have x2:=c.free 0;have x3:=a.cell (i:=0) rfl;have x4:=a.free 0;have P4:=eK H M4 h4;have V:=N1.keep l;have P2:=N2.keep l
 have s:=P4.cell m (dR P4 c (fun y h=>by cases h))
 have r:=V.cell m (dR V c (fun y h=>by cases h))
 have q:=P2.cell m (dR P2 c (fun y h=>by cases h));have Z:=(R3.keep l).chg m D;have F5:=(F3.keep l).chg m t.symm;have S5:=(H.sa.keep l).chg m (fun b e hb=>nk ((show b=bk from e)▸hb)) (fun b e cs S=>by have Q:b=bk:=e;subst Q;exact absurd (S.eq c).2 (by decide));have G5:=(((j.chg.trans J (fun b _ h=>h.elim .inl (fun h=>h.elim (fun h=>.inr (.inl h)) (fun h=>.inr (.inr (.inr (.inl h))))))).trans (Chg.of (F:=fun _=>False) l) (fun _ _ h=>h.elim))).trans m (fun b _ h=>.inr (.inr (.inl h)));have H5:=((J.trans (Chg.of (F:=fun b=>b=g\/b=br\/b=bf) l) (fun _ _ h=>h)).mono (fun b _ h=>(h.elim .inl (fun h=>h.elim (fun h=>.inr (.inl h)) (fun h=>.inr (.inr (.inr (.inl h))))):b=g\/b=br\/b=bk\/b=bf\/b=bc))).trans m (fun b _ h=>.inr (.inr (.inl h)));have l5:=Nat.le_trans (Nat.le_trans H.lo l.size) m.size;obtain⟨w,O⟩:∃ w,d.setCell ⟨bk,0,none⟩ (.slice a4 f d4)=w:=⟨_,rfl⟩
 rw[O] at G a x3 x4 s r q Z F5 S5 G5 H5 l5 ⊢
 have n:Chg (·=bc) w (w.setCell ⟨bc,0,none⟩ (.int .i64 ((i:Int)+1))):=(Chg.refl (fun x=>x=bc) w).cell (.inl (by rfl)) _;have u:=a.setCell (i:=0) (.int .i64 ((i:Int)+1))
 have hv:∀ y,(.int .i64 (i:Int):Value)≠.int .u64 y:=fun y h=>by cases h
 refine⟨⟨by rw[x1];rfl,x2,x3,x4⟩,⟨G5.trans n (fun b _ h=>.inr (.inr (.inr (.inr h)))),⟨S5.chg n (fun b e hb=>nc ((show b=bc from e)▸hb)) (fun b e cs S=>by have Q:b=bc:=e;subst Q;exact absurd (S.eq a).2 (by decide)),Nat.le_trans l5 n.size,H.kb⟩,?_,⟨a1,k1,d1,y1,Z.chg n v.symm,r.cell n (dR r a hv),m1⟩,⟨a4,f,d4,z4,G.chg n A.symm,s.cell n (dR s a hv),m4⟩,a2,I,d2,y2,F5.chg n z.symm,q.cell n (dR q a hv),m2⟩,?_⟩
 ·rw[show ((i+1:Nat):Int)=(i:Int)+1 by omega];exact u
 ·have W:=H5.trans n (fun b _ h=>.inr (.inr (.inr (.inr h))));exact⟨W.size,fun k o hk Y _=>(W.same k (lt_of_block Y) (fun h=>by have:=hX k h;omega)).trans Y⟩
end
section
variable {w:World}{K D:Nat->Prop}{E:aE}{W:List aE}{id fr la:Int}{i:Nat}
theorem xo{g n N:Nat}(h:SA w K D g E W n N){c:Int × Int × Int}(hc:(du E id fr la)[i]?=some c):(0<=c.2.1/\c.2.1 < 18446744073709551616)/\(0<=c.2.2/\c.2.2 < 18446744073709551616):=by
 obtain⟨x,hx,rfl⟩:=List.mem_map.1 (List.mem_of_getElem? hc);exact cX_rng (SA.octv h x (List.mem_filter.1 hx).1)
def kA(E:aE)(id fr la x:Int)(i:Nat):Int × Int × Int:=((du E id fr la).take i).foldl (qE E id) (0,x,hX (got E (Ky.mk 7 id fr)) 0)
theorem xT{x:Int}{c:Int × Int × Int}(hc:(du E id fr la)[i]?=some c):kA E id fr la x (i+1)=qE E id (kA E id fr la x i) c:=by
 unfold kA;rw[List.take_add_one,hc,List.foldl_append];rfl
end
end Fo
end
section
namespace Fo
open Go.RowKit Go.Lib Pg Lim Gl Kv Bk Pw
set_option linter.unusedVariables false
structure Ur (X:Nat->Prop) (w0:World) (B g0:Nat) (W:List aE) (w:World) (K:Nat->Prop) (E:aE) (n N:Nat) (bs:List Bx) (qs:List Nx):Prop where
 rg:Rg X B w0 w K g0 E W n N
 b:∀ p∈bs,Blk w p.1 p.2.1 p.2.2/\¬ K p.1/\(w0.heap.size<=p.1\/X p.1)
 q:∀ r∈qs,Nq w K r.1 r.2.1 r.2.2.1 r.2.2.2.1 r.2.2.2.2
 e:∀ p∈bs,∀ r∈qs,r.2.2.1=0\/r.1≠p.1
 d:bs.Pairwise (fun a b=>a.1≠b.1)
section
variable {w0 w w':World} {B g0 n N n' N' g i:Nat} {X K:Nat->Prop} {W:List aE} {E E':aE} {bs:List Bx} {qs:List Nx} {cs cs':List Value} {t:TypeId}
section
variable {z k d:Nat}{a:Option Addr}{x:Int}
theorem Ur.lt(h:Ur X w0 B g0 W w K E n N bs qs):∀ p∈bs,p.1 < w.heap.size:=fun p hp=>(h.b p hp).1.lt
theorem ur_of(h:Rg X B w0 w K g0 E W n N):Ur X w0 B g0 W w K E n N [] []:=⟨h,fun _ h=>(List.not_mem_nil h).elim,fun _ h=>(List.not_mem_nil h).elim,fun _ h=>(List.not_mem_nil h).elim,List.Pairwise.nil⟩
theorem Ur.keep(h:Ur X w0 B g0 W w K E n N bs qs)(b:Below w.heap.size w w'):Ur X w0 B g0 W w' K E n N bs qs:=⟨h.rg.keep b,fun p a=>⟨(h.b p a).1.keep b,(h.b p a).2⟩,fun r c=>(h.q r c).keep b,h.e,h.d⟩
theorem Ur.drew(h:Ur X w0 B g0 W w K E n N bs qs):Ur X w0 B g0 W w.drew K E n N bs qs:=h.keep (Below.refl _ _).drew
theorem Ur.ask(h:Ur X w0 B g0 W w K E n N bs qs)(S:Sx B w' K g0 E W n' N')(C:Chg (·=g0) w w'):Ur X w0 B g0 W w' K E n' N' bs qs:=⟨h.rg.op S C,fun p a=>⟨(h.b p a).1.chg C (fun e=>(h.b p a).2.1 (e▸h.rg.top)),(h.b p a).2⟩,fun r c=>(h.q r c).op (fun _ h=>.inl h) (C.mono (fun b _ (e:b=g0)=>e▸h.rg.top)),h.e,h.d⟩
theorem Ur.add{s:Nat}(h:Ur X w0 B g0 W w K E n N bs qs)(L:∀ p∈bs,p.1 < s)(Q:Nq w K z a k d x)(f:k=0\/s<=z):Ur X w0 B g0 W w K E n N bs ((z,a,k,d,x) :: qs):=⟨h.rg,h.b,List.forall_mem_cons.2 ⟨Q,h.q⟩,fun p c=>List.forall_mem_cons.2 ⟨f.imp_right (fun q e=>by have:=L p c;have g:z=p.1:=e;omega),h.e p c⟩,h.d⟩
theorem Ur.new(h:Ur X w0 B g0 W w K E n N bs qs)(Z:Blk w' g cs t)(a:w.heap.size<=g)(b:Below w.heap.size w w'):Ur X w0 B g0 W w' K E n N ((g,cs,t) :: bs) qs:=by
 have u:=h.keep b;refine⟨u.rg,List.forall_mem_cons.2 ⟨⟨Z,fun q=>by have:=h.rg.sx.sa.lt q;omega,.inl (Nat.le_trans h.rg.size a)⟩,u.b⟩,u.q,List.forall_mem_cons.2 ⟨fun r c=>ne1 (h.q r c).lt a,u.e⟩,List.pairwise_cons.2 ⟨fun p f e=>by have:=h.lt p f;have i:g=p.1:=e;omega,u.d⟩⟩
theorem Ur.bk(h:Ur X w0 B g0 W w K E n N bs qs)(i:Nat)(hi:bs[i]?=some (g,cs,t)):Blk w g cs t:=(h.b _ (List.mem_of_getElem? hi)).1
theorem Ur.nq(h:Ur X w0 B g0 W w K E n N bs qs)(i:Nat)(hi:qs[i]?=some (z,a,k,d,x)):Nq w K z a k d x:=h.q _ (List.mem_of_getElem? hi)
theorem Ur.put(h:Ur X w0 B g0 W w K E n N bs qs)(i:Nat)(hi:bs[i]?=some (g,cs,t))(C:Chg (·=g) w w')(Y:Blk w' g cs' t)(j:t≠5):Ur X w0 B g0 W w' K E n N (bs.set i (g,cs',t)) qs:=by
 have hm:=List.mem_of_getElem? hi;obtain⟨Z,nk,y⟩:=h.b _ hm;obtain⟨r1,f⟩:=qL (q:=(g,cs',t)) h.d hi rfl;refine⟨Rg.cell h.rg Z C y nk j,fun p a=>?_,fun r c=>(h.q r c).cell C (h.e _ hm r c),fun p a=>?_,r1⟩
 ·by_cases e:p=(g,cs',t)
  ·subst e;exact⟨Y,nk,y⟩
  ·rcases fe a with q | q
   ·exact absurd q e
   ·exact⟨(h.b p q).1.chg C (f p a e),(h.b p q).2⟩
 ·rcases fe a with q | q
  ·rw[q]
   show ∀ r∈qs,r.2.2.1=0\/r.1≠g
   exact h.e _ hm
  ·exact h.e p q
theorem Ur.nk(h:Ur X w0 B g0 W w K E n N bs qs)(i:Nat)(hi:bs[i]?=some (g,cs,t)):¬ K g:=(h.b _ (List.mem_of_getElem? hi)).2.1
theorem Ur.zz(h:Ur X w0 B g0 W w K E n N bs qs)(i:Nat)(hi:bs[i]?=some (g,cs,t)):w0.heap.size<=g\/X g:=(h.b _ (List.mem_of_getElem? hi)).2.2
theorem Ur.dd{g':Nat}{k:TypeId}(h:Ur X w0 B g0 W w K E n N bs qs)(i j:Nat)(hi:bs[i]?=some (g,cs,t))(c:bs[j]?=some (g',cs',k))(a:i < j):g≠g':=by
 obtain⟨li,b⟩:=List.getElem?_eq_some_iff.1 hi;obtain⟨e,f⟩:=List.getElem?_eq_some_iff.1 c;have:=List.pairwise_iff_getElem.1 h.d i j li e a;rw[b,f] at this;exact this
end
end
end Fo
end
section
namespace Fo
open Go.RowKit Go.Lib Pg Lim Gl Kv Bk Pw
attribute [local go_sem] Oper.semAt_some
set_option linter.unusedVariables false
set_option linter.unusedSimpArgs false
section
variable {w:World}
structure F1s where
 bk:Nat
 bf:Nat
 aF:Option Addr
 nF:Nat
 cF:Nat
 zF:Nat
structure F1(B:Nat)(w V:World)(K:Nat->Prop)(g:Nat)(E:aE)(W:List aE)(n N:Nat)(a5:Option Addr)(n5 c5 z5:Nat)(x5 F:Int)(r0:Nat)(s:F1s):Prop where
 A:Rg (·=g) B w V K g E W (n+1) N
 xk:Blk V s.bk [.slice a5 n5 c5] 32
 xf:Blk V s.bf [.slice s.aF s.nF s.cF] 32
 nk:¬ K s.bk
 nf:¬ K s.bf
 ne:s.bk≠s.bf
 q5:Nq V K z5 a5 n5 c5 x5
 qf:Nq V K s.zF s.aF s.nF s.cF F
 mf:s.nF<=510
 rk:s.bk≠r0
 rf:s.bf≠r0
 zk:w.heap.size<=s.bk\/s.bk=g
 zf:w.heap.size<=s.bf\/s.bf=g
def okM(Q:Exit->Act->World->Prop):Exit->Act->World->Prop
 | .normal,a,w=>Q .normal a w
 | .ret,a,w=>Q .ret a w
 | _,_,_=>False
theorem weakM{c:Code}{a:Act}{Q:Exit->Act->World->Prop}(h:c.wp Tryz.prog (okM Q) a w):c.wp Tryz.prog Q a w :=
 Code.wp_mono (fun e a' w' h=>by
  cases e<;>first
   | exact h
   | exact h.elim) h
structure PfE(B:Nat)(w:World)(K:Nat->Prop)(g:Nat)(E:aE)(W:List aE)(D r y:Nat)(a:Option Addr)(k d x:Nat)(V:Int)(u:Unit)(N:Nat)(V':World):Prop where
 s:Sx B V' K g E W x N
 c:Chg (·=g) w V'
 df:V'.heap[D]?=some (.deferred (some []))
 q:Nq V' K y a k d V
end
section
variable {B:Nat} {w V' V2:World} {K:Nat->Prop} {g:Nat} {E:aE} {W:List aE} {D r y:Nat} {a:Option Addr} {k d x:Nat} {V:Int} {N:Nat}
section
variable {b:Option Addr}{n:Nat}{fn:Func}{R:Ending->World->Prop}{w:World}{v:Value}
theorem PfE.drew(h:PfE B w K g E W D r y a k d x V () N V'):PfE B w K g E W D r y a k d x V () N V'.drew:=⟨h.s.keep (Below.refl _ _).drew,h.c.trans (Chg.of (F:=fun _=>False) (Below.refl _ _).drew) (fun _ _ h=>h.elim),h.df,h.q.drew⟩
theorem PfE.cell{c:Nat}(h:PfE B w K g E W D r y a k d x V () N V')(hX:Blk V' r [.slice b n c] 32)(C:Chg (·=r) V' V2)(nk:¬ K r)(i:w.heap.size<=r\/r=g):PfE B w K g E W D r y a k d x V () N V2:=by
 refine⟨⟨h.s.sa.chg C (fun b e hb=>nk ((show b=r from e)▸hb)) (fun b e cs j=>by have f:b=r:=e;subst f;exact absurd (j.eq hX).2 (by decide)),Nat.le_trans h.s.lo C.size,h.s.kb⟩,h.c.trans C (fun b hb e=>by have f:b=r:=e;rcases i with z1 | z1<;>first | omega | exact f.trans z1),?_,h.q.cell C (dR h.q hX (fun y h=>by cases h))⟩;refine(C.same D (lt_of_block h.df) (fun e=>?_)).trans h.df
 have f:D=r:=e;have:=h.df;rw[f,hX.blk] at this
 cases this
theorem PfE.fin(h:PfE B w K g E W D r y a k d x V () N V')(b:w.heap.size<=D):Sx B (V'.putObj D (.deferred none)) K g E W x N/\Chg (·=g) w (V'.putObj D (.deferred none))/\Nq (V'.putObj D (.deferred none)) K y a k d V:=by
 have R:=Rec.put (B:=w.heap.size) h.df rfl b (.deferred none);exact⟨⟨rK h.s.sa R,Nat.le_trans h.s.lo R.size,h.s.kb⟩,jN h.c R (Nat.le_refl _),h.q.rcd R⟩
theorem Dk{l:Fr}(f:w.heap[D]? = some (.deferred (some [])))(c:∀ a,Rd n [{ target:=.collected D,args:=#[] }] l a->(results fn a.tmps).run Tryz.prog (w.putObj D (.deferred none))=.ok v (w.putObj D (.deferred none)))(d:R (.returned v) (w.putObj D (.deferred none))):GE n [{ target:=.collected D,args:=#[] }] (okM (bodyPostM Fence.wide 0 Tryz.prog fn R)) .ret l w:=⟨fun a r=>by
 have b:=c a r;obtain⟨tmps,dfs⟩:=a
 have e:dfs=[{ target:=.collected D,args:=#[] }]:=r.dfs;subst e
 show bodyPostM Fence.wide 0 Tryz.prog fn R .ret _ _
 refine⟨by simp,.inl ⟨_,_,rfl,run_takeDeferred f,?_⟩⟩
 exact⟨_,b,d⟩⟩
theorem rsctM{ds:List Deferred}{l:Fr}{P:Program}(j k:Nat){T:TypeId}{g:Nat}{u:Value}(h:fn.results=#[.cell j T,.tmp k])(hu:lk l j=some (.pointer (some ⟨g,0,none⟩)))(hv:lk l k=some v)(d:(loadVar T ⟨g,0,none⟩).run P w=.ok u w)(a:Act)(r:Rd n ds l a):(results fn a.tmps).run P w=.ok (.tuple #[u,v]) w:=by
 have b:=r.gD hu;have c:=r.gD hv;simp at b c;simp[results,h,b,c,asAddr,d]
end
end
section
variable {n:Nat}{vs:List Value}{a:Act}{w:World}{K:Nat→Prop}{W:List aE}{a0 a1 a2 a3 a4 a5:Option Addr}
structure vi(B:Nat)(w:World)(K:Nat->Prop)(g:Nat)(E:aE)(W:List aE)(n N c:Nat)(V:Int)(e:Ending)(w':World):Prop where
 ex:∃ a k d z,e=.returned (.tuple #[.agg #[.slice a k d],.int .i64 (c:Int)])/\Sx B w' K g E W (n+3+2 * c) N/\Chg (·=g) w w'/\Nq w' K z a k d V/\k<=3000000000/\(k=0\/w.heap.size<=z)
def clV(E:aE)(id fr la x:Int):Int:=(kA E id fr la x (du E id fr la).length).1+(kA E id fr la x (du E id fr la).length).2.1 * ky (hX (got E (Ky.mk 7 id la)) 0) (kA E id fr la x (du E id fr la).length).2.2 / U36
theorem rd_en(d:a=⟨vs.toArray ++ Array.replicate (n - vs.length) undef,[]⟩)(hs:Nat.ble vs.length n=true):Rd n [] (en 0 vs) a:=by
 subst d;have hs:=Nat.le_of_ble_eq_true hs;refine⟨?_,rfl,fun k v e=>?_⟩
 ·simp;omega
 ·obtain⟨_,c⟩:=Ag vs 0 k v e;rw[Nat.sub_zero] at c;have b:=(List.getElem?_eq_some_iff.1 c).1;simp only;rw[Array.getElem?_append_left (by simpa using b)];simpa using c
theorem DI{l:Fr}(r:Rd n [] l a):∃ x:Nat->Value,a=⟨((List.range n).map fun k=>(lk l k).getD (x k)).toArray,[]⟩:=by
 refine⟨fun k=>a.tmps.getD k undef,?_⟩;obtain⟨f,df⟩:=a;obtain⟨b,c,d⟩:=r;simp only at b c d;subst c;congr 1
 apply Array.ext
 ·simp[b]
 ·intro i hi _;simp only[List.getElem_toArray,List.getElem_map,List.getElem_range]
  cases e:lk l i with
  | none=>simp[hi]
  | some v =>
   have:=d i v e;rw[Array.getElem?_eq_getElem hi] at this;simpa using this
theorem lx{B:Nat}{g:Nat}{E:aE}{N:Nat}{rt tk un pe id R:Int}{jl bo:Bool}{n0 c0 z0:Nat}{x0:Int}{n1 c1 z1:Nat}{x1:Int}{n2 c2 z2:Nat}{x2:Int}{n3 c3 z3:Nat}{x3:Int}{n4 c4 z4:Nat}{x4:Int}{P c5 z5:Nat}{x5:Int}(h:Sx B w K g E W n N)(hid:0≤id∧id < 18446744073709551616)(Q5:Nq w K z5 a5 P c5 x5)(m5:P≤1000000)(hRk:∀ x ∈ o6 E id R ((pe - 1) % 18446744073709551616),Ky.frm (8:Nat)=Ky.fIn x.1)(hn2:n≤1000000000000000000)(hcl:(du E id R ((pe - 1) % 18446744073709551616)).length≤1000)(hn:n+3000≤4000000000000000000)(hN:N+3000≤100000000):Calls Tryz.prog 14 #[pg g,.int .u64 id,.agg #[.int .u64 rt,.int .u64 tk,.slice a0 n0 c0,.bool jl,.int .u64 un,.bool bo,.int .u64 pe,.slice a1 n1 c1,.slice a2 n2 c2,.slice a3 n3 c3],.agg #[.slice a4 n4 c4,.int .u64 R,.slice a5 P c5]] w (vi B w K g E W n N (du E id R ((pe - 1) % 18446744073709551616)).length (clV E id R ((pe - 1) % 18446744073709551616) x5)):=by
  have A:=rg_of (X:=(·=g)) h rfl;have U:=(ur_of A).add (s:=0) (fun _ h=>(List.not_mem_nil h).elim) Q5 (.inr (Nat.zero_le _));clear A;refine(callsIn_wide (n:=0)).1 ?_
  refine callsIn_of_wp_marks Tryz.func14 rfl trivial ?_ rfl;refine wpIn_wide.2 (weakM (GC.out (n:=50) (ds:=[]) (l:=en 0 [pg g,.int .u64 id,.agg #[.int .u64 rt,.int .u64 tk,.slice a0 n0 c0,.bool jl,.int .u64 un,.bool bo,.int .u64 pe,.slice a1 n1 c1,.slice a2 n2 c2,.slice a3 n3 c3],.agg #[.slice a4 n4 c4,.int .u64 R,.slice a5 P c5]]) ?_ _ (rd_en (by rfl) (by kernel_rfl))));refine ai (aB (ta 4 [pg g] 37 (pg) ?_));intro v1 g2 j hg2 B;replace U:=U.new j hg2 B;clear j hg2 B;refine ta 5 [.int .u64 id] 22 (pg) ?_
  intro v3 g4 m hg4 B;replace U:=U.new m hg4 B;clear m hg4 B;refine ta 6 [.int .u64 rt,.int .u64 tk,.slice a0 n0 c0,.bool jl,.int .u64 un,.bool bo,.int .u64 pe,.slice a1 n1 c1,.slice a2 n2 c2,.slice a3 n3 c3] 39 (pg) ?_
  intro v5 g6 H hg6 B;replace U:=U.new H hg6 B;clear H hg6 B;refine ta 7 [.slice a4 n4 c4,.int .u64 R,.slice a5 P c5] 53 (pg) ?_
  intro v7 g8 G hg8 B;replace U:=U.new G hg8 B;clear G hg8 B;refine ta 8 [.slice none 0 0] 32 (pg) ?_
  intro v9 g10 d hg10 B;replace U:=U.new d hg10 B;clear d hg10 B;refine t 9 (.int .i64 0) (ax (ah ?_));refine fw (fun(s:F1s)=>[(4,pg g2),(5,pg g4),(7,pg g8),(8,pg g10),(9,.int .i64 0),(10,pg s.bk),(11,pg s.bf),(12,.int .u64 ((pe - 1) % 18446744073709551616))]) (fun s V=>F1 B w V K g E W n N a5 P c5 z5 x5 (hX (got E (Ky.mk 7 id R)) 0) g10 s∧(Blk V g2 [pg g] 37∧¬ K g2∧(w.heap.size≤g2∨(fun b=>b=g) g2))∧(Blk V g4 [.int .u64 id] 22∧¬ K g4∧(w.heap.size≤g4∨(fun b=>b=g) g4))∧(Blk V g6 [.int .u64 rt,.int .u64 tk,.slice a0 n0 c0,.bool jl,.int .u64 un,.bool bo,.int .u64 pe,.slice a1 n1 c1,.slice a2 n2 c2,.slice a3 n3 c3] 39∧¬ K g6∧(w.heap.size≤g6∨(fun b=>b=g) g6))∧(Blk V g8 [.slice a4 n4 c4,.int .u64 R,.slice a5 P c5] 53∧¬ K g8∧(w.heap.size≤g8∨(fun b=>b=g) g8))∧(Blk V g10 [.slice none 0 0] 32∧¬ K g10∧(w.heap.size≤g10∨(fun b=>b=g) g10))) ?_ ?_
  · replace U:=U.drew
    refine bB (fun w'=>Blk w' g8 [.slice a4 n4 c4,.int .u64 R,.slice a5 P c5] 53∧Blk w' g2 [pg g] 37∧Blk w' g4 [.int .u64 id] 22∧Blk w' g6 [.int .u64 rt,.int .u64 tk,.slice a0 n0 c0,.bool jl,.int .u64 un,.bool bo,.int .u64 pe,.slice a1 n1 c1,.slice a2 n2 c2,.slice a3 n3 c3] 39) (fun _=>false) ⟨(U.bk 1 rfl),(U.bk 4 rfl),(U.bk 3 rfl),(U.bk 2 rfl)⟩ ?_
    refine z 0 18 (pq g8 2) (zlr 1 19 [.slice a5 P c5] (fun _ h=>h.1) 2 (zl 2 20 (pg g) (fun _ h=>h.2.1) 0 (zl 3 21 (.int .u64 id) (fun _ h=>h.2.2.1) 0 (z 4 22 (pq g8 1) (zl 5 23 (.int .u64 R) (fun _ h=>h.1) 1 (z 7 25 (pq g6 6) (zl 8 26 (.int .u64 pe) (fun _ h=>h.2.2.2) 6 (zq 9 27 (.int .u64 (IntKind.u64.wrap (pe - 1))) (.int .u64 ((pe - 1) % 18446744073709551616)) (congrArg (Value.int .u64) (IntKind.wrap_u64 _)) (bO [6,10,11] ?_)))))))));refine cJ 6 (some 24) 35 #[pg g,.int .u64 id,.int .u64 R] (kF U.rg.sx hid (by omega) (by omega)) ?_ ?_
    · rintro _ v12 ⟨ar11,nr11,cr11,rfl,zr11,S,C,Q,mr11,h⟩
      have L:=U.lt;replace U:=(U.ask S C).add L Q h;clear L S C Q h;refine⟨_,rfl,⟨(U.bk 1 rfl),(U.bk 4 rfl),(U.bk 3 rfl),(U.bk 2 rfl)⟩,?_⟩;refine bO [10,11] ?_
      refine zaa 10 10 [.slice none 0 0] 32 (pg) ?_ ?_
      · intro v13 g14 Xg14 hg14 B
        replace U:=U.new Xg14 hg14 B;clear Xg14 hg14 B;refine⟨⟨(U.bk 2 rfl),(U.bk 5 rfl),(U.bk 4 rfl),(U.bk 3 rfl)⟩,?_⟩;refine za 11 11 [.slice none 0 0] 32 (pg) ?_
        intro v15 g16 Xg16 hg16 B;replace U:=U.new Xg16 hg16 B;clear Xg16 hg16 B;refine⟨⟨(U.bk 3 rfl),(U.bk 6 rfl),(U.bk 5 rfl),(U.bk 4 rfl)⟩,?_⟩;refine zs 12 (U.bk 1 rfl) 0 (.agg #[.slice a5 P c5]) [.slice a5 P c5] [.slice a5 P c5] ?_
        intro v17 Y C;replace U:=U.put 1 rfl C Y (by decide);clear Y C;refine⟨⟨(U.bk 3 rfl),(U.bk 6 rfl),(U.bk 5 rfl),(U.bk 4 rfl)⟩,?_⟩;refine zs 13 (U.bk 0 rfl) 0 (.agg #[.slice ar11 nr11 cr11]) [.slice ar11 nr11 cr11] [.slice ar11 nr11 cr11] ?_
        intro v18 Y C;replace U:=U.put 0 rfl C Y (by decide);clear Y C;refine⟨⟨(U.bk 3 rfl),(U.bk 6 rfl),(U.bk 5 rfl),(U.bk 4 rfl)⟩,?_⟩;refine z 14 12 (.int .u64 ((pe - 1) % 18446744073709551616)) (aT ?_);exact bj (⟨g14,g16,ar11,nr11,cr11,zr11⟩:F1s) ⟨⟨U.rg,U.bk 1 rfl,U.bk 0 rfl,U.nk 1 rfl,U.nk 0 rfl,(U.dd 0 1 rfl rfl (by decide)).symm,U.nq 1 rfl,U.nq 0 rfl,by omega,U.dd 1 2 rfl rfl (by decide),U.dd 0 2 rfl rfl (by decide),U.zz 1 rfl,U.zz 0 rfl⟩,⟨U.bk 6 rfl,U.nk 6 rfl,U.zz 6 rfl⟩,⟨U.bk 5 rfl,U.nk 5 rfl,U.zz 5 rfl⟩,⟨U.bk 4 rfl,U.nk 4 rfl,U.zz 4 rfl⟩,⟨U.bk 3 rfl,U.nk 3 rfl,U.zz 3 rfl⟩,⟨U.bk 2 rfl,U.nk 2 rfl,U.zz 2 rfl⟩⟩ (by kernel_rfl)
      refine zaa 11 11 [.slice none 0 0] 32 (pg) ?_ ?_
      · intro v19 g20 Xg20 hg20 B
        replace U:=U.new Xg20 hg20 B;clear Xg20 hg20 B;refine⟨⟨(U.bk 2 rfl),(U.bk 5 rfl),(U.bk 4 rfl),(U.bk 3 rfl)⟩,?_⟩;refine za 10 10 [.slice none 0 0] 32 (pg) ?_
        intro v21 g22 Xg22 hg22 B;replace U:=U.new Xg22 hg22 B;clear Xg22 hg22 B;refine⟨⟨(U.bk 3 rfl),(U.bk 6 rfl),(U.bk 5 rfl),(U.bk 4 rfl)⟩,?_⟩;refine zs 12 (U.bk 0 rfl) 0 (.agg #[.slice a5 P c5]) [.slice a5 P c5] [.slice a5 P c5] ?_
        intro v23 Y C;replace U:=U.put 0 rfl C Y (by decide);clear Y C;refine⟨⟨(U.bk 3 rfl),(U.bk 6 rfl),(U.bk 5 rfl),(U.bk 4 rfl)⟩,?_⟩;refine zs 13 (U.bk 1 rfl) 0 (.agg #[.slice ar11 nr11 cr11]) [.slice ar11 nr11 cr11] [.slice ar11 nr11 cr11] ?_
        intro v24 Y C;replace U:=U.put 1 rfl C Y (by decide);clear Y C;refine⟨⟨(U.bk 3 rfl),(U.bk 6 rfl),(U.bk 5 rfl),(U.bk 4 rfl)⟩,?_⟩;refine z 14 12 (.int .u64 ((pe - 1) % 18446744073709551616)) (aT ?_);exact bj (⟨g22,g20,ar11,nr11,cr11,zr11⟩:F1s) ⟨⟨U.rg,U.bk 0 rfl,U.bk 1 rfl,U.nk 0 rfl,U.nk 1 rfl,U.dd 0 1 rfl rfl (by decide),U.nq 1 rfl,U.nq 0 rfl,by omega,U.dd 0 2 rfl rfl (by decide),U.dd 1 2 rfl rfl (by decide),U.zz 0 rfl,U.zz 1 rfl⟩,⟨U.bk 6 rfl,U.nk 6 rfl,U.zz 6 rfl⟩,⟨U.bk 5 rfl,U.nk 5 rfl,U.zz 5 rfl⟩,⟨U.bk 4 rfl,U.nk 4 rfl,U.zz 4 rfl⟩,⟨U.bk 3 rfl,U.nk 3 rfl,U.zz 3 rfl⟩,⟨U.bk 2 rfl,U.nk 2 rfl,U.zz 2 rfl⟩⟩ (by kernel_rfl)
      exact cU
    refine zaa 10 10 [.slice none 0 0] 32 (pg) ?_ ?_
    · intro v25 g26 Xg26 hg26 B
      replace U:=U.new Xg26 hg26 B;clear Xg26 hg26 B;refine⟨⟨(U.bk 2 rfl),(U.bk 5 rfl),(U.bk 4 rfl),(U.bk 3 rfl)⟩,?_⟩;refine bO [6,11] ?_
      refine cJ 6 (some 24) 35 #[pg g,.int .u64 id,.int .u64 R] (kF U.rg.sx hid (by omega) (by omega)) ?_ ?_
      · rintro _ v28 ⟨ar27,nr27,cr27,rfl,zr27,S,C,Q,mr27,h⟩
        have L:=U.lt;replace U:=(U.ask S C).add L Q h;clear L S C Q h;refine⟨_,rfl,⟨(U.bk 2 rfl),(U.bk 5 rfl),(U.bk 4 rfl),(U.bk 3 rfl)⟩,?_⟩;refine za 11 11 [.slice none 0 0] 32 (pg) ?_
        intro v29 g30 Xg30 hg30 B;replace U:=U.new Xg30 hg30 B;clear Xg30 hg30 B;refine⟨⟨(U.bk 3 rfl),(U.bk 6 rfl),(U.bk 5 rfl),(U.bk 4 rfl)⟩,?_⟩;refine zs 12 (U.bk 1 rfl) 0 (.agg #[.slice a5 P c5]) [.slice a5 P c5] [.slice a5 P c5] ?_
        intro v31 Y C;replace U:=U.put 1 rfl C Y (by decide);clear Y C;refine⟨⟨(U.bk 3 rfl),(U.bk 6 rfl),(U.bk 5 rfl),(U.bk 4 rfl)⟩,?_⟩;refine zs 13 (U.bk 0 rfl) 0 (.agg #[.slice ar27 nr27 cr27]) [.slice ar27 nr27 cr27] [.slice ar27 nr27 cr27] ?_
        intro v32 Y C;replace U:=U.put 0 rfl C Y (by decide);clear Y C;refine⟨⟨(U.bk 3 rfl),(U.bk 6 rfl),(U.bk 5 rfl),(U.bk 4 rfl)⟩,?_⟩;refine z 14 12 (.int .u64 ((pe - 1) % 18446744073709551616)) (aT ?_);exact bj (⟨g26,g30,ar27,nr27,cr27,zr27⟩:F1s) ⟨⟨U.rg,U.bk 1 rfl,U.bk 0 rfl,U.nk 1 rfl,U.nk 0 rfl,(U.dd 0 1 rfl rfl (by decide)).symm,U.nq 1 rfl,U.nq 0 rfl,by omega,U.dd 1 2 rfl rfl (by decide),U.dd 0 2 rfl rfl (by decide),U.zz 1 rfl,U.zz 0 rfl⟩,⟨U.bk 6 rfl,U.nk 6 rfl,U.zz 6 rfl⟩,⟨U.bk 5 rfl,U.nk 5 rfl,U.zz 5 rfl⟩,⟨U.bk 4 rfl,U.nk 4 rfl,U.zz 4 rfl⟩,⟨U.bk 3 rfl,U.nk 3 rfl,U.zz 3 rfl⟩,⟨U.bk 2 rfl,U.nk 2 rfl,U.zz 2 rfl⟩⟩ (by kernel_rfl)
      refine zaa 11 11 [.slice none 0 0] 32 (pg) ?_ ?_
      · intro v33 g34 Xg34 hg34 B
        replace U:=U.new Xg34 hg34 B;clear Xg34 hg34 B;refine⟨⟨(U.bk 3 rfl),(U.bk 6 rfl),(U.bk 5 rfl),(U.bk 4 rfl)⟩,?_⟩;refine zc 6 24 35 #[pg g,.int .u64 id,.int .u64 R] (kF U.rg.sx hid (by omega) (by omega)) ?_
        rintro _ v36 ⟨ar35,nr35,cr35,rfl,zr35,S,C,Q,mr35,h⟩;have L:=U.lt;replace U:=(U.ask S C).add L Q h;clear L S C Q h;refine⟨_,rfl,⟨(U.bk 3 rfl),(U.bk 6 rfl),(U.bk 5 rfl),(U.bk 4 rfl)⟩,?_⟩;refine zs 12 (U.bk 1 rfl) 0 (.agg #[.slice a5 P c5]) [.slice a5 P c5] [.slice a5 P c5] ?_
        intro v37 Y C;replace U:=U.put 1 rfl C Y (by decide);clear Y C;refine⟨⟨(U.bk 3 rfl),(U.bk 6 rfl),(U.bk 5 rfl),(U.bk 4 rfl)⟩,?_⟩;refine zs 13 (U.bk 0 rfl) 0 (.agg #[.slice ar35 nr35 cr35]) [.slice ar35 nr35 cr35] [.slice ar35 nr35 cr35] ?_
        intro v38 Y C;replace U:=U.put 0 rfl C Y (by decide);clear Y C;refine⟨⟨(U.bk 3 rfl),(U.bk 6 rfl),(U.bk 5 rfl),(U.bk 4 rfl)⟩,?_⟩;refine z 14 12 (.int .u64 ((pe - 1) % 18446744073709551616)) (aT ?_);exact bj (⟨g26,g34,ar35,nr35,cr35,zr35⟩:F1s) ⟨⟨U.rg,U.bk 1 rfl,U.bk 0 rfl,U.nk 1 rfl,U.nk 0 rfl,(U.dd 0 1 rfl rfl (by decide)).symm,U.nq 1 rfl,U.nq 0 rfl,by omega,U.dd 1 2 rfl rfl (by decide),U.dd 0 2 rfl rfl (by decide),U.zz 1 rfl,U.zz 0 rfl⟩,⟨U.bk 6 rfl,U.nk 6 rfl,U.zz 6 rfl⟩,⟨U.bk 5 rfl,U.nk 5 rfl,U.zz 5 rfl⟩,⟨U.bk 4 rfl,U.nk 4 rfl,U.zz 4 rfl⟩,⟨U.bk 3 rfl,U.nk 3 rfl,U.zz 3 rfl⟩,⟨U.bk 2 rfl,U.nk 2 rfl,U.zz 2 rfl⟩⟩ (by kernel_rfl)
      exact cU
    refine zaa 11 11 [.slice none 0 0] 32 (pg) ?_ ?_
    · intro v39 g40 Xg40 hg40 B
      replace U:=U.new Xg40 hg40 B;clear Xg40 hg40 B;refine⟨⟨(U.bk 2 rfl),(U.bk 5 rfl),(U.bk 4 rfl),(U.bk 3 rfl)⟩,?_⟩;refine bO [6,10] ?_
      refine cJ 6 (some 24) 35 #[pg g,.int .u64 id,.int .u64 R] (kF U.rg.sx hid (by omega) (by omega)) ?_ ?_
      · rintro _ v42 ⟨ar41,nr41,cr41,rfl,zr41,S,C,Q,mr41,h⟩
        have L:=U.lt;replace U:=(U.ask S C).add L Q h;clear L S C Q h;refine⟨_,rfl,⟨(U.bk 2 rfl),(U.bk 5 rfl),(U.bk 4 rfl),(U.bk 3 rfl)⟩,?_⟩;refine za 10 10 [.slice none 0 0] 32 (pg) ?_
        intro v43 g44 Xg44 hg44 B;replace U:=U.new Xg44 hg44 B;clear Xg44 hg44 B;refine⟨⟨(U.bk 3 rfl),(U.bk 6 rfl),(U.bk 5 rfl),(U.bk 4 rfl)⟩,?_⟩;refine zs 12 (U.bk 0 rfl) 0 (.agg #[.slice a5 P c5]) [.slice a5 P c5] [.slice a5 P c5] ?_
        intro v45 Y C;replace U:=U.put 0 rfl C Y (by decide);clear Y C;refine⟨⟨(U.bk 3 rfl),(U.bk 6 rfl),(U.bk 5 rfl),(U.bk 4 rfl)⟩,?_⟩;refine zs 13 (U.bk 1 rfl) 0 (.agg #[.slice ar41 nr41 cr41]) [.slice ar41 nr41 cr41] [.slice ar41 nr41 cr41] ?_
        intro v46 Y C;replace U:=U.put 1 rfl C Y (by decide);clear Y C;refine⟨⟨(U.bk 3 rfl),(U.bk 6 rfl),(U.bk 5 rfl),(U.bk 4 rfl)⟩,?_⟩;refine z 14 12 (.int .u64 ((pe - 1) % 18446744073709551616)) (aT ?_);exact bj (⟨g44,g40,ar41,nr41,cr41,zr41⟩:F1s) ⟨⟨U.rg,U.bk 0 rfl,U.bk 1 rfl,U.nk 0 rfl,U.nk 1 rfl,U.dd 0 1 rfl rfl (by decide),U.nq 1 rfl,U.nq 0 rfl,by omega,U.dd 0 2 rfl rfl (by decide),U.dd 1 2 rfl rfl (by decide),U.zz 0 rfl,U.zz 1 rfl⟩,⟨U.bk 6 rfl,U.nk 6 rfl,U.zz 6 rfl⟩,⟨U.bk 5 rfl,U.nk 5 rfl,U.zz 5 rfl⟩,⟨U.bk 4 rfl,U.nk 4 rfl,U.zz 4 rfl⟩,⟨U.bk 3 rfl,U.nk 3 rfl,U.zz 3 rfl⟩,⟨U.bk 2 rfl,U.nk 2 rfl,U.zz 2 rfl⟩⟩ (by kernel_rfl)
      refine zaa 10 10 [.slice none 0 0] 32 (pg) ?_ ?_
      · intro v47 g48 Xg48 hg48 B
        replace U:=U.new Xg48 hg48 B;clear Xg48 hg48 B;refine⟨⟨(U.bk 3 rfl),(U.bk 6 rfl),(U.bk 5 rfl),(U.bk 4 rfl)⟩,?_⟩;refine zc 6 24 35 #[pg g,.int .u64 id,.int .u64 R] (kF U.rg.sx hid (by omega) (by omega)) ?_
        rintro _ v50 ⟨ar49,nr49,cr49,rfl,zr49,S,C,Q,mr49,h⟩;have L:=U.lt;replace U:=(U.ask S C).add L Q h;clear L S C Q h;refine⟨_,rfl,⟨(U.bk 3 rfl),(U.bk 6 rfl),(U.bk 5 rfl),(U.bk 4 rfl)⟩,?_⟩;refine zs 12 (U.bk 0 rfl) 0 (.agg #[.slice a5 P c5]) [.slice a5 P c5] [.slice a5 P c5] ?_
        intro v51 Y C;replace U:=U.put 0 rfl C Y (by decide);clear Y C;refine⟨⟨(U.bk 3 rfl),(U.bk 6 rfl),(U.bk 5 rfl),(U.bk 4 rfl)⟩,?_⟩;refine zs 13 (U.bk 1 rfl) 0 (.agg #[.slice ar49 nr49 cr49]) [.slice ar49 nr49 cr49] [.slice ar49 nr49 cr49] ?_
        intro v52 Y C;replace U:=U.put 1 rfl C Y (by decide);clear Y C;refine⟨⟨(U.bk 3 rfl),(U.bk 6 rfl),(U.bk 5 rfl),(U.bk 4 rfl)⟩,?_⟩;refine z 14 12 (.int .u64 ((pe - 1) % 18446744073709551616)) (aT ?_);exact bj (⟨g48,g40,ar49,nr49,cr49,zr49⟩:F1s) ⟨⟨U.rg,U.bk 0 rfl,U.bk 1 rfl,U.nk 0 rfl,U.nk 1 rfl,U.dd 0 1 rfl rfl (by decide),U.nq 1 rfl,U.nq 0 rfl,by omega,U.dd 0 2 rfl rfl (by decide),U.dd 1 2 rfl rfl (by decide),U.zz 0 rfl,U.zz 1 rfl⟩,⟨U.bk 6 rfl,U.nk 6 rfl,U.zz 6 rfl⟩,⟨U.bk 5 rfl,U.nk 5 rfl,U.zz 5 rfl⟩,⟨U.bk 4 rfl,U.nk 4 rfl,U.zz 4 rfl⟩,⟨U.bk 3 rfl,U.nk 3 rfl,U.zz 3 rfl⟩,⟨U.bk 2 rfl,U.nk 2 rfl,U.zz 2 rfl⟩⟩ (by kernel_rfl)
      exact cU
    exact cU
  clear U Q5;rintro⟨bk,bf,aF,nF,cF,zF⟩ v53 ⟨⟨A,v,F,nXbk,nXbf,aa,Q5,QF,mF,dRk,dRf,zbk,zbf⟩,⟨j,nXg2,zg2⟩,⟨m,nXg4,zg4⟩,⟨H,nXg6,zg6⟩,⟨G,nXg8,zg8⟩,⟨d,nXg10,zg10⟩⟩;simp only at A v F nXbk nXbf aa Q5 QF mF dRk dRf zbk zbf;refine ai (aB ?_);have lXg2:=j.lt;have lXg4:=m.lt;have lXg6:=H.lt;have lXg8:=G.lt;have lXg10:=d.lt;have lXbk:=v.lt;have lXbf:=F.lt;refine ta 13 [.slice none 0 0] 32 (pg) ?_
  intro v54 D f O B;have zg55:=Or.inl (b:=(fun b=>b=g) D) (Nat.le_trans A.size O);have nXg55:=A.new O;have eQ5g55:=ne1 Q5.lt O;have eQFg55:=ne1 QF.lt O;have dg55_g2:=ne4 j.lt O;have dg55_g4:=ne4 m.lt O;have dg55_g6:=ne4 H.lt O;have dg55_g8:=ne4 G.lt O;have dg55_g10:=ne4 d.lt O;have ab:=ne4 v.lt O;have dg55_bf:=ne4 F.lt O;replace A:=A.keep B;replace Q5:=Q5.keep B;replace QF:=QF.keep B;replace j:=j.keep B;replace m:=m.keep B;replace H:=H.keep B;replace G:=G.keep B;replace d:=d.keep B;replace v:=v.keep B;replace F:=F.keep B;clear B;refine ax (ah (ai (aB (t 28 (.func (.func 36) #[] #[pg g2,pg g4,pg D,pg bk,pg bf]) ?_))));have lXg2:=j.lt;have lXg4:=m.lt;have lXg6:=H.lt;have lXg8:=G.lt;have lXg10:=d.lt;have lXbk:=v.lt;have lXbf:=F.lt;have lXg55:=f.lt;refine ta 14 [.nilFunc] 92 (pg) ?_
  intro v56 g57 o J B;have zg57:=Or.inl (b:=(fun b=>b=g) g57) (Nat.le_trans A.size J);have nXg57:=A.new J;have eQ5g57:=ne1 Q5.lt J;have eQFg57:=ne1 QF.lt J;have dg57_g2:=ne4 j.lt J;have dg57_g4:=ne4 m.lt J;have dg57_g6:=ne4 H.lt J;have dg57_g8:=ne4 G.lt J;have dg57_g10:=ne4 d.lt J;have dg57_bk:=ne4 v.lt J;have dg57_bf:=ne4 F.lt J;have dg57_g55:=ne4 f.lt J;replace A:=A.keep B;replace Q5:=Q5.keep B;replace QF:=QF.keep B;replace j:=j.keep B;replace m:=m.keep B;replace H:=H.keep B;replace G:=G.keep B;replace d:=d.keep B;replace v:=v.keep B;replace F:=F.keep B;replace f:=f.keep B;clear B;refine ts o 0 (.func (.func 36) #[] #[pg g2,pg g4,pg D,pg bk,pg bf]) [.func (.func 36) #[] #[pg g2,pg g4,pg D,pg bk,pg bf]] [.func (.func 36) #[] #[pg g2,pg g4,pg D,pg bk,pg bf]] ?_
  intro v58 Y C;replace A:=Rg.cell A o C zg57 nXg57 (by decide);replace Q5:=Q5.cell C eQ5g57;replace QF:=QF.cell C eQFg57;replace j:=j.chg C dg57_g2.symm;replace m:=m.chg C dg57_g4.symm;replace H:=H.chg C dg57_g6.symm;replace G:=G.chg C dg57_g8.symm;replace d:=d.chg C dg57_g10.symm;replace v:=v.chg C dg57_bk.symm;replace F:=F.chg C dg57_bf.symm;replace f:=f.chg C dg57_g55.symm;clear C o;have o:=Y;clear Y;refine ax (ah (ai (aB ?_)));have lXg2:=j.lt;have lXg4:=m.lt;have lXg6:=H.lt;have lXg8:=G.lt;have lXg10:=d.lt;have lXbk:=v.lt;have lXbf:=F.lt;have lXg55:=f.lt;have lXg57:=o.lt;refine ta 15 [.int .i64 0] 3 (pg) ?_
  intro v59 M Z I B;have zg60:=Or.inl (b:=(fun b=>b=g) M) (Nat.le_trans A.size I);have nXg60:=A.new I;have eQ5g60:=ne1 Q5.lt I;have eQFg60:=ne1 QF.lt I;have dg60_g2:=ne4 j.lt I;have dg60_g4:=ne4 m.lt I;have dg60_g6:=ne4 H.lt I;have dg60_g8:=ne4 G.lt I;have ac:=ne4 d.lt I;have dg60_bk:=ne4 v.lt I;have dg60_bf:=ne4 F.lt I;have dg60_g55:=ne4 f.lt I;have dg60_g57:=ne4 o.lt I;replace A:=A.keep B;replace Q5:=Q5.keep B;replace QF:=QF.keep B;replace j:=j.keep B;replace m:=m.keep B;replace H:=H.keep B;replace G:=G.keep B;replace d:=d.keep B;replace v:=v.keep B;replace F:=F.keep B;replace f:=f.keep B;replace o:=o.keep B;clear B;refine ts Z 0 (.int .i64 0) [.int .i64 0] [.int .i64 0] ?_
  intro v61 Y C;replace A:=Rg.cell A Z C zg60 nXg60 (by decide);replace Q5:=Q5.cell C eQ5g60;replace QF:=QF.cell C eQFg60;replace j:=j.chg C dg60_g2.symm;replace m:=m.chg C dg60_g4.symm;replace H:=H.chg C dg60_g6.symm;replace G:=G.chg C dg60_g8.symm;replace d:=d.chg C ac.symm;replace v:=v.chg C dg60_bk.symm;replace F:=F.chg C dg60_bf.symm;replace f:=f.chg C dg60_g55.symm;replace o:=o.chg C dg60_g57.symm;clear C Z;have Z:=Y;clear Y;refine ax (ah (ai (ai (aB (tl 29 (pg g) j 0 (tl 30 (.int .u64 id) m 0 (t 31 (pq g8 1) (tl 32 (.int .u64 R) G 1 (t 33 (.int .u64 ((pe - 1) % 18446744073709551616)) (tc 34 39 #[pg g,.int .u64 id,.int .u64 R,.int .u64 ((pe - 1) % 18446744073709551616)] (DP) ?_))))))))));rintro _ v62 ⟨rfl,Yc1,Yc2,Yc3,Yc4,B⟩;refine⟨_,rfl,?_⟩;skip;replace A:=A.keep B;replace Q5:=Q5.keep B;replace QF:=QF.keep B;replace j:=j.keep B;replace m:=m.keep B;replace H:=H.keep B;replace G:=G.keep B;replace d:=d.keep B;replace v:=v.keep B;replace F:=F.keep B;replace f:=f.keep B;replace o:=o.keep B;replace Z:=Z.keep B;clear B;refine ax (ah (ed (aW [(8,pg g10),(9,.int .i64 0),(10,pg bk),(12,.int .u64 ((pe - 1) % 18446744073709551616)),(13,pg D),(14,pg g57),(15,pg M),(34,.func (.func 73) #[] #[.pointer (some ⟨v61.heap.size+1,0,none⟩),.pointer (some ⟨v61.heap.size+1+1,0,none⟩),.pointer (some ⟨v61.heap.size+1+1+1,0,none⟩),.pointer (some ⟨v61.heap.size,0,none⟩)])] (by kernel_rfl) ?_)));refine⟨fun a r=>?_⟩;obtain⟨x,ha⟩:= DI r;replace ha:=ha.trans (show _=(⟨#[x 0,x 1,x 2,x 3,x 4,x 5,x 6,x 7,pg g10,.int .i64 0,pg bk,x 11,.int .u64 ((pe - 1) % 18446744073709551616),pg D,pg g57,pg M,x 16,x 17,x 18,x 19,x 20,x 21,x 22,x 23,x 24,x 25,x 26,x 27,x 28,x 29,x 30,x 31,x 32,x 33,.func (.func 73) #[] #[.pointer (some ⟨v61.heap.size+1,0,none⟩),.pointer (some ⟨v61.heap.size+1+1,0,none⟩),.pointer (some ⟨v61.heap.size+1+1+1,0,none⟩),.pointer (some ⟨v61.heap.size,0,none⟩)],x 35,x 36,x 37,x 38,x 39,x 40,x 41,x 42,x 43,x 44,x 45,x 46,x 47,x 48,x 49],[]⟩:Act) from rfl);subst ha;clear r
  have nX' : ∀ {b : Nat} {cs : List Value} {T : TypeId}, Blk v62 b cs T → T ≠ 85 → T ≠ 32 → T ≠ 3 → ¬ (b = g ∨ b = D ∨ b = bk ∨ b = bf ∨ b = M) := fun k h1 h2 h3 h => by
    obtain⟨cs',k'⟩:= A.sx.sa.kv;rcases h with e | e | e | e | e
    · rw[e] at k;exact h1 (k.eq k').2
    · rw[e] at k;exact h2 (k.eq f).2
    · rw[e] at k;exact h2 (k.eq v).2
    · rw[e] at k;exact h2 (k.eq F).2
    · rw[e] at k;exact h3 (k.eq Z).2
  have hXl : ∀ b, (b = g ∨ b = D ∨ b = bk ∨ b = bf ∨ b = M) → b < v62.heap.size := fun b h => by
    rcases h with e | e | e | e | e <;> rw[e]
    · exact A.sx.sa.lt A.sx.sa.top
    · exact f.lt
    · exact v.lt
    · exact F.lt
    · exact Z.lt
  have hX1 : ∀ b, (b = g ∨ b = D ∨ b = bk ∨ b = bf ∨ b = M) → b = g ∨ ¬ K b := fun b h => by
    rcases h with e | e | e | e | e
    · exact .inl e
    · exact .inr (e ▸ nXg55)
    · exact .inr (e ▸ nXbk)
    · exact .inr (e ▸ nXbf)
    · exact .inr (e ▸ nXg60)
  have hXk:Hid (bk≠g):=aC (fun e=>by obtain⟨cs',k'⟩:= A.sx.sa.kv;rw[← e] at k';exact absurd (v.eq k').2 (by decide));have sN:=nX' j (by decide) (by decide) (by decide);have iN:=nX' m (by decide) (by decide) (by decide);have IT:=yH (X:=fun b=>b=g∨b=D∨b=bk∨b=bf∨b=M) (xs:=fun i=>n+1+1+2 * i) A.sx.sa Yc1 Yc2 Yc3 Yc4 (nX' Yc1 (by decide) (by decide) (by decide)) (nX' Yc2 (by decide) (by decide) (by decide)) (nX' Yc3 (by decide) (by decide) (by decide)) (nX' Yc4 (by decide) (by decide) (by decide)) hX1 hXl hid (by omega) (by omega) (fun i hi=>by show n+1+1+2 * i≤_;omega) hRk
  have I0:ClI B v62 D bk bf M K g E W N (n+1) 0 P (kA E id R ((pe - 1) % 18446744073709551616) x5 0) v62:=⟨Chg.refl _ _,A.sx,Z,⟨none,0,0,0,f,dt _ _,Nat.zero_le _⟩,⟨a5,P,c5,z5,v,Q5,by omega⟩,aF,nF,cF,zF,F,QF,mF⟩;refine(wpIn_wide (n:=0)).1 ?_
  refine tU IT (by rfl) (enters_of Tryz.func73 (by kernel_rfl) rfl) (fun i args n V V' h hc=>h) (fun i args n V h=>by obtain⟨c,_,rfl⟩:= h;rfl)
    (fun V=>ClI B v62 D bk bf M K g E W N (n+1) 0 P (kA E id R ((pe - 1) % 18446744073709551616) x5 0) V)
    (fun i V=>ClI B v62 D bk bf M K g E W N (n+1+1+2 * i) i P (kA E id R ((pe - 1) % 18446744073709551616) x5 i) V)
    (fun i V=>ClI B v62 D bk bf M K g E W N (n+1+1+2 * i+1) i P (kA E id R ((pe - 1) % 18446744073709551616) x5 i) V)
    (fun c i V=>False)
    (fun A B hx hr=>hx.rcd hr) (fun i A B hx hr=>hx.rcd hr) (fun i A B hx hr=>hx.rcd hr) (fun c i A B hx hr=>hx) (hXl g (.inl rfl))
    (fun V hv=>by have q:=hv.sx.sa.cnt;exact⟨q.1,q.2,hv.rd,hv.tick⟩)
    (fun i V hv=>by have q:=hv.sx.sa.cnt;exact⟨q.1,q.2,hv.rd,fun _=>hv.tick⟩)
    I0 ?_ ?_ ?_
  · rintro l2 i args V Wv hl hlV hrec hiN hT hb ⟨c,hc,rfl⟩
    simp;gi_wp2;refine⟨ae _ _,?_⟩;intro V2 W2 hT2 hb2 hAr2 hoth hsz3 hV2 rl hrec2;have I2:=hT2.rcd (Rec.of hb2);have zb:=hb.size;have zV:=hT.chg.size
    have cB:Blk W2 Wv.heap.size [.int .u64 c.2.1,.int .u64 c.2.2] 97:=⟨by rw[hoth _ (by omega)];exact(aD Wv [.int .u64 c.2.1,.int .u64 c.2.2] 97).blk⟩;obtain⟨aR,nR,cR,zR,p1,p2,p3⟩:= I2.rew;obtain⟨aS,nS,cS,zS,q1,q2,q3⟩:= I2.stk;obtain⟨aG,nG,cG,zG,r1,r2,r3⟩:= I2.frm
    have hi:i < 1000:=Nat.lt_of_lt_of_le hiN hcl;have fb:=o.chg I2.chg (nX' o (by decide) (by decide) (by decide));have sb:=j.chg I2.chg sN;have ib:=m.chg I2.chg iN;have tE:=sH (p:=c.1) I2.sx hid p2 (by omega) q2 (by omega) r2 (by omega) sb ib p1 q1 r1 nXg2 nXg4 nXg55 nXbk nXbf ab dg55_bf aa (fun e=>sN (.inr (.inl e))) (fun e=>sN (.inr (.inr (.inr (.inl e))))) (fun e=>iN (.inr (.inl e))) (fun e=>iN (.inr (.inr (.inr (.inl e))))) (dR p2 p1 (fun y h=>by cases h)) (dR p2 r1 (fun y h=>by cases h)) (dR q2 p1 (fun y h=>by cases h)) (dR q2 r1 (fun y h=>by cases h)) (dR r2 p1 (fun y h=>by cases h)) (dR r2 r1 (fun y h=>by cases h)) (by omega) (by omega);have rg:=xo A.sx.sa hc;have hst:=xT (x:=x5) hc;have fc:=fb.cell (i:=0) rfl;have zS1:=(dR q2 p1 (fun y h=>by cases h));have zS2:=(dR q2 r1 (fun y h=>by cases h))
    have zS3:nS=0∨zS≠g:=q2.out.imp_right (fun k e=>k (e ▸ A.sx.sa.top))
    have cW : ∀ b, (b = g ∨ b = D ∨ b = bf) → b ≠ Wv.heap.size := fun b h e => by
      have:=hXl b (h.elim .inl (fun h=>h.elim (fun h=>.inr (.inl h)) (fun h=>.inr (.inr (.inr (.inl h))))));omega
    have HI2:=aC I2;have HcB:=aC cB;have Hq1:=aC q1;have Hq2:=aC q2;clear hT hb hT2 hb2 hAr2 hoth I2 cB p1 p2 q1 q2 r1 r2 r3 sb ib fb hrec IT I0 hX1 hc;obtain⟨cp,cb,ca⟩:= c;simp only at tE rg hst HcB ⊢;gi_wp2_with first
      | (refine⟨trivial,rfl,?_⟩;gi_at_call 36;refine(CallsIn.inRound l2 (callsIn_wide.2 tE)).mono ?_;rintro e' w3 ⟨b1,k1,d1,y1,b2,k2,d2,y2,rfl,S3,C3,R3,N1,m1,f1,F3,N2,m2,f2⟩;clear tE fc;have bk3:=Hq1.out.chg C3 (fun h=>h.elim (fun e=>(hXk.out e)) (fun h=>h.elim (fun e=>ab e.symm) aa));have cb3:=HcB.out.chg C3 (fun h=>cW _ h rfl);have tB:=tf (w:=w3) (Hq2.out.to w3 (fun hn=>C3.same zS (Hq2.out.lt.resolve_left hn) (fun h=>h.elim (zS3.resolve_left hn) (fun h=>h.elim (zS1.resolve_left hn) (zS2.resolve_left hn))))).a (by omega) rg.1 rg.2;have kc:=bk3.cell (i:=0) rfl;have c0:=cb3.cell (i:=0) rfl;have c1':=cb3.cell (i:=1) rfl)
      | (refine⟨trivial,rfl,?_⟩;gi_at_call 40;refine(CallsIn.inRound l2 (callsIn_wide.2 tB)).mono ?_;rintro e' w4 ⟨a4',k4,d4,z4',rfl,M4,h4,m4,B4⟩;clear tB kc c0 c1';obtain⟨⟨x1',x2',x3',x4'⟩,hI,hK⟩:= ClI.go HI2.out hXl ab aa nXbk nXg60 S3 C3 R3 N1 (by omega) F3 N2 m2 M4 h4 (by omega) B4;have kc:=(bk3.keep B4).cell (i:=0) rfl;have HI3:=aC hI;have HK3:=aC hK;clear hI hK bk3 cb3 S3 C3 R3 N1 F3 N2 M4 B4)
    refine⟨HK3.out,?_⟩
    show ClI B v62 D bk bf M K g E W N (n+1+1+2 * (i+1)) (i+1) P (kA E id R ((pe - 1) % 18446744073709551616) x5 (i+1)) _
    rw[hst,show n+1+1+2 * (i+1)=n+1+1+2 * i+1+1 by omega];exact HI3.out
  · rintro D' W' hD hK hT
    obtain⟨aR,nR,cR,zR,p1,p2,p3⟩:= hT.rew;obtain⟨aS,nS,cS,zS,q1,q2,q3⟩:= hT.stk;obtain⟨aG,nG,cG,zG,r1,r2,r3⟩:= hT.frm;have fb:=o.chg hT.chg (nX' o (by decide) (by decide) (by decide));have sb:=j.chg hT.chg sN;have ib:=m.chg hT.chg iN
    have hrg:g10≠g:=fun e=>nXg10 (e ▸ A.sx.sa.top)
    have hrc:g10≠M:=ac.symm;have rb:=d.chg hT.chg (fun h=>h.elim hrg (fun h=>h.elim dg55_g10.symm (fun h=>h.elim dRk.symm (fun h=>h.elim dRf.symm hrc))))
    have hcr:M≠D:=dg60_g55
    have hcf:M≠bf:=dg60_bf
    have hcg:M≠g:=fun e=>nXg60 (e ▸ A.sx.sa.top)
    have tE:=sH (p:=((pe - 1) % 18446744073709551616)) hT.sx hid p2 (by omega) q2 (by omega) r2 (by omega) sb ib p1 q1 r1 nXg2 nXg4 nXg55 nXbk nXbf ab dg55_bf aa (fun e=>sN (.inr (.inl e))) (fun e=>sN (.inr (.inr (.inr (.inl e))))) (fun e=>iN (.inr (.inl e))) (fun e=>iN (.inr (.inr (.inr (.inl e))))) (dR p2 p1 (fun y h=>by cases h)) (dR p2 r1 (fun y h=>by cases h)) (dR q2 p1 (fun y h=>by cases h)) (dR q2 r1 (fun y h=>by cases h)) (dR r2 p1 (fun y h=>by cases h)) (dR r2 r1 (fun y h=>by cases h)) (by omega) (by omega)
    have CC := A.cg.trans hT.chg (fun b hb h => by
      rcases h with e | e | e | e | e
      · exact e
      · rcases zg55 with z1 | z1 <;> first | omega | exact e.trans z1
      · rcases zbk with z1 | z1 <;> first | omega | exact e.trans z1
      · rcases zbf with z1 | z1 <;> first | omega | exact e.trans z1
      · rcases zg60 with z1 | z1 <;> first | omega | exact e.trans z1)
    have cT:=hT.cnt
    have hDl:D' < W'.heap.size:=lt_of_block hK;refine GE.out (n:=50) (ds:=[{ target:=.collected D',args:=#[] }]) (l:=[(8,pg g10),(9,.int .i64 0),(12,.int .u64 ((pe - 1) % 18446744073709551616)),(13,pg D),(14,pg g57),(15,pg M)]) ?_ _ ⟨rfl,rfl,fun q u hq=>?_⟩
    · refine gy ?_
      refine ah (ai (aB (tl 45 (.func (.func 36) #[] #[pg g2,pg g4,pg D,pg bk,pg bf]) fb 0 (t 46 (.int .u64 ((pe - 1) % 18446744073709551616)) (tc 47 36 #[.int .u64 ((pe - 1) % 18446744073709551616),pg g2,pg g4,pg D,pg bk,pg bf] (tE) ?_)))));rintro _ v63 ⟨b1,k1,d1,y1,b2,k2,d2,y2,rfl,S3,C3,R3,N1,m1,f1,F3,N2,m2,f2⟩;refine⟨_,rfl,?_⟩;have Xc3:=cT.chg C3 (fun h=>h.elim hcg (fun h=>h.elim hcr hcf));have Xr3:=rb.chg C3 (fun h=>h.elim hrg (fun h=>h.elim dg55_g10.symm dRf.symm));have hK3:=(C3.same D' hDl (fun h=>by have:=hXl D' (h.elim .inl (fun h=>h.elim (fun h=>.inr (.inl h)) (fun h=>.inr (.inr (.inr (.inl h))))));omega)).trans hK
      have CC3 := CC.trans C3 (fun b hb h => by
        rcases h with e | e | e
        · exact e
        · rcases zg55 with z1 | z1 <;> first | omega | exact e.trans z1
        · rcases zbf with z1 | z1 <;> first | omega | exact e.trans z1)
      have eN1g10:=dR N1 Xr3 (fun y h=>by cases h)
      have PF:PfE B w K g E W D' g10 y1 b1 k1 d1 (n+1+1+2 * (du E id R ((pe - 1) % 18446744073709551616)).length+1) (_) () N _:=⟨S3,CC3,hK3,N1⟩
      have f1w:k1=0∨w.heap.size≤y1:=ne3 f1 CC.size;clear tE cT rb fb CC;refine ax (ah (ai ?_));replace R3:=R3.drew;replace Xc3:=Xc3.drew;replace Xr3:=Xr3.drew;replace PF:=PF.drew;refine bB (fun w'=>Blk w' D [.slice b1 k1 d1] 32∧Blk w' M [.int .i64 (((du E id R ((pe - 1) % 18446744073709551616)).length:Nat):Int)] 3) (fun _=>false) ⟨R3,Xc3⟩ ?_
      refine zlr 0 48 [.slice b1 k1 d1] (fun _ h=>h.1) 0 (zl 1 49 (.int .i64 (((du E id R ((pe - 1) % 18446744073709551616)).length:Nat):Int)) (fun _ h=>h.2) 0 (zs 2 Xr3 0 (.agg #[.slice b1 k1 d1]) [.slice b1 k1 d1] [.slice b1 k1 d1] ?_));intro v64 Y C;replace R3:=R3.chg C dg55_g10;replace Xc3:=Xc3.chg C ac;replace PF:=PF.cell Xr3 C nXg10 zg10;clear C Xr3;have Xr3:=Y;clear Y;refine⟨⟨R3,Xc3⟩,?_⟩;refine z 3 9 (.int .i64 (((du E id R ((pe - 1) % 18446744073709551616)).length:Nat):Int)) (aT (ah (aU ?_)));obtain⟨u1,u2,u3⟩:= PF.fin (Nat.le_trans A.cg.size hD);have Xr4:=eU Xr3 (Rec.put (B:=w.heap.size) PF.df rfl (Nat.le_trans A.cg.size hD) (.deferred none));rw[show n+1+1+2 * (du E id R ((pe - 1) % 18446744073709551616)).length+1=n+3+2 * (du E id R ((pe - 1) % 18446744073709551616)).length by omega] at u1;exact Dk PF.df (rsctM 8 9 (T:=32) (by kernel_rfl) (by kernel_rfl) (by kernel_rfl) (lr Xr4 0)) ⟨_,_,_,_,rfl,u1,u2,u3,by omega,f1w⟩
    · have hm:=uu hq
      simp at hm;rcases hm with⟨rfl,rfl⟩ | ⟨rfl,rfl⟩ | ⟨rfl,rfl⟩ | ⟨rfl,rfl⟩ | ⟨rfl,rfl⟩ | ⟨rfl,rfl⟩ <;> rfl
  · rintro D' c i W' hD hK hi h
    exact h.elim
end
end Fo
end
end Go.Proofs.YtjejmkcjflhoiaaGreatDoor
