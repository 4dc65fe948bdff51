import Derived.Test.YtpoifdokmjhclaaGreatJyu
set_option maxRecDepth 100000
set_option maxHeartbeats 8000000
namespace Go.Proofs.YtpoifdokmjhclaaGreat
section
namespace Bk
open Go.RowKit Go.Lib Pg Kv
attribute [local go_sem] Oper.semAt_some
section
variable {a:Nat}{w2 V V':World}{cs:List Value}
def RdS(W0:World)(X K D:Nat->Prop)(g:Nat)(E:aD)(Wn:List aD)(N:Nat)(V:World):Prop:=Chg X W0 V/\(∀ b,X b->∀ cs,¬ Blk V b cs 5)/\∃ x,SA V K D g E Wn x N
def Ext(a:Nat)(w2 V:World):Prop:=(∀ b,a<=b->b < w2.heap.size->V.heap[b]?=w2.heap[b]?)/\w2.heap.size<=V.heap.size
theorem Ext.rcd(h:Ext a w2 V)(hr:Rec w2.heap.size V V'):Ext a w2 V' :=
 ⟨λb f c=>by
  have e:=h.1 b f c
  have d:w2.heap[b]?=some w2.heap[b]:=Array.getElem?_eq_getElem c;rw[d] at e ⊢
  exact hr.same b _ e (.inl c),Nat.le_trans h.2 hr.size⟩
theorem Ext.keep(h:Ext a w2 V)(hb:BW V V'):Ext a w2 V' :=
 ⟨λb h1 h2=>(hb.block b (Nat.lt_of_lt_of_le h2 h.2)).trans (h.1 b h1 h2),Nat.le_trans h.2 hb.size⟩
theorem Ext.tick{g x:Nat}(h:Ext a w2 V)(hg:g < a):Ext a w2 (tick g V x) :=
 ⟨λb h1 h2=>(fJ).trans (h.1 b h1 h2),by rw[fw];exact h.2⟩
theorem Ext.blk{b:Nat}{t:TypeId}(h:Ext a w2 V)(k:Blk w2 b cs t)(hb:a<=b):Blk V b cs t:=k.same (h.1 b hb k.lt)
end
end Bk
end
section
namespace Kv
open Go.RowKit Go.Lib Pg Bk
attribute [local go_sem] Oper.semAt_some
section
variable {a:Nat}{R V V' w:World}{F:Nat->Prop}{g:Operand}{lb:Array Value}{Ar:Nat→Array Value→Nat→World→Prop}{Rd:World→Prop}{ps:Array Tmp}
structure fQ(a:Nat)(R V:World):Prop where
 same:∀ b cs t m,a<=b->R.heap[b]?=some (.cells cs t m)->V.heap[b]?=some (.cells cs t m)
 size:R.heap.size<=V.heap.size
theorem fQ.of(h:Ext a R V):fQ a R V:=⟨λb _ _ _ h1 h2=>(h.1 b h1 (lt_of_block h2)).trans h2,h.2⟩
theorem fQ.rcd{B:Nat}(h:fQ a R V)(hr:Rec B V V'):fQ a R V':=⟨λb cs t m h1 h2=>hr.same b _ (h.same b cs t m h1 h2) (.inr rfl),Nat.le_trans h.size hr.size⟩
theorem fQ.keep(h:fQ a R V)(hb:BW V V'):fQ a R V':=⟨λb cs t m h1 h2=>(hb.block b (lt_of_block (h.same b cs t m h1 h2))).trans (h.same b cs t m h1 h2),Nat.le_trans h.size hb.size⟩
theorem fQ.chg(h:fQ a R V)(hc:Chg F V V')(hF:∀ b,F b->b < a\/R.heap.size<=b):fQ a R V':=⟨λb cs t m d c=>(hc.same b (lt_of_block (h.same b cs t m d c)) (λhf=>by have:=hF b hf;have:=lt_of_block c;omega)).trans (h.same b cs t m d c),Nat.le_trans h.size hc.size⟩
theorem fQ.tick{g x:Nat}(h:fQ a R V)(hg:g < a):fQ a R (tick g V x):=h.chg (ee g x V) (λb e=>.inl (by have e':b=g:=e;omega))
theorem Ext.mix{Tp:TypeId->Prop}(h:Ext a R V)(hk:bM Tp a V V')(hc:fQ a R V'):Ext a R V' :=
 ⟨λb d f=>by
  have e:=h.1 b d f
  have c:R.heap[b]?=some R.heap[b]:=Array.getElem?_eq_getElem f
  cases ho:R.heap[b] with
  | cells cs t m=>rw[ho] at c;rw[hc.same b cs t m d c,c]
  | _=>rw[ho] at c;rw[c] at e ⊢;exact hk.same b _ d e (λ_ _ _ h=>by cases h),hc.size⟩
def ItrE(W0:World)(Tp:TypeId->Prop)(g x0:Nat)(gf:Nat)(lb:Array Value)(N:Nat)(Ar:Nat->Array Value->Nat->World->Prop)(Rd:World->Prop):Prop :=
 ∀ (l:Nat) (J0:World->Prop) (J Jt Jx:World->Nat->World->Prop) (W:World),(∀ b,W0.heap.size<=b->∀ cs,¬ Blk W b cs 5)->W0.heap.size<=W.heap.size->St W.heap.size J0->(∀ R i,St W.heap.size (J R i))->(∀ R i,St W.heap.size (Jt R i))->(∀ R i,St W.heap.size (Jx R i))->g < W.heap.size ->
  (∀ V,J0 V->V.cell? ⟨g,2,none⟩=some (.int .i64 x0)/\V.frozen? ⟨g,2,none⟩=false/\Rd V/\∀ R,W.heap.size<=R.heap.size->fQ W.heap.size R V->J R 0 (tick g V x0)) ->
  (∀ R i V,J R i V->V.cell? ⟨g,2,none⟩=some (.int .i64 ((x0+1+i:Nat):Int))/\V.frozen? ⟨g,2,none⟩=false/\Rd V/\fQ W.heap.size R V/\(i < N->Jt R i (tick g V (x0+1+i)))) ->
  (∀ R i args V V',W.heap.size<=R.heap.size->i < N->Jt R i V->W.heap.size<=V.heap.size->BW V V'->Ar i args V.heap.size V'->YieldAt Fence.wide 0 Tryz.prog l args V' λe V''=>bM Tp W.heap.size V' V''/\((e=.returned (.bool true)/\J R (i+1) V'')\/(e=.returned (.bool false)/\Jx R (i+1) V''))) ->
  J0 W ->
  Calls Tryz.prog gf (#[.func (.yield l) #[] #[]] ++ lb) W λe W'=>(∃ v,e=.returned v)/\W.heap.size<=W'.heap.size/\∃ R:World,W.heap.size<=R.heap.size/\(J R N W'\/∃ i,i < N/\Jx R (i+1) W')
theorem o5{Tp:TypeId→Prop}{u N n g0 x0:Nat}(IT:ItrE w Tp g0 x0 u lb N Ar Rd){assign body:Code}{Q:Exit→Act→World→Prop}{a:Act}(hg:a.eval g=.func (.func u) #[] lb)(eg:∀ args w,(callFunc u args).run Tryz.prog w=.ok (.enter u args) w)(J:∀ i args n V W,Ar i args n V→Cel V W→Ar i args n W)(hAn:∀ i args n V,Ar i args n V→args.size=ps.size)(O:World→Prop)(I G:World→Nat→World→Prop)(Ix:World→Code→Nat→World→Prop)(F:St w.heap.size O)(hI:∀ R i,St w.heap.size (I R i))(y:∀ R i,St w.heap.size (G R i))(p:∀ R c i,St w.heap.size (Ix R c i))(hgw:g0 < w.heap.size)(ab:∀ V,O V→V.cell? ⟨g0,2,none⟩=some (.int .i64 x0)∧V.frozen? ⟨g0,2,none⟩=false∧Rd V∧∀ R,w.heap.size+2≤R.heap.size→fQ (w.heap.size+2) R V→I R 0 (tick g0 V x0))(hx:∀ R i V,I R i V→V.cell? ⟨g0,2,none⟩=some (.int .i64 ((x0+1+i:Nat):Int))∧V.frozen? ⟨g0,2,none⟩=false∧Rd V∧fQ (w.heap.size+2) R V∧(i < N→G R i (tick g0 V (x0+1+i))))(h0:O w)(m:∀ R,w.heap.size+2≤R.heap.size→CQ Tp w N n ps assign body a.tmps Ar (G R) (I R) (Ix R))(q:∀ R D W,w.heap.size+2≤R.heap.size→w.heap.size≤D→W.heap[D]?=some (.deferred (some []))→I R N W→Q .normal { a with defers:={ target:=.collected D,args:=#[] } :: a.defers } W)(s:∀ R D c i W,w.heap.size+2≤R.heap.size→w.heap.size≤D→W.heap[D]?=some (.deferred (some []))→i < N→Ix R c (i+1) W→c.wpIn Fence.wide n Tryz.prog Q { a with defers:={ target:=.collected D,args:=#[] } :: a.defers } W) :
    (Code.rangeFunc g ps assign body).wpIn Fence.wide n Tryz.prog Q a w:=by
  refine wpIn_rangeFunc ?_
  intro fn _;obtain⟨f,l⟩:∃ f,(w.alloc (.deferred (some []))).alloc (.loop (db fn a.tmps ps assign body w.heap.size .ready none))=f:=⟨_,rfl⟩
  have T:BW w f:=by rw[← l];exact ae (aa w _) (aa _ _)
  have H:f.heap.size=w.heap.size+1+1:=by rw[← l];simp
  have E:f.heap[w.heap.size+1]?=some (.loop (db fn a.tmps ps assign body w.heap.size .ready none)):=by
    rw[← l];have:=World.alloc_heap_new (w.alloc (.deferred (some []))) (.loop (db fn a.tmps ps assign body w.heap.size .ready none));rwa [World.size_alloc] at this
  have z:f.heap[w.heap.size]?=some (.deferred (some [])):=by
    rw[← l];exact(Below.heap_alloc _ _ _ (by simp)).trans (World.alloc_heap_new w _)
  have t1:∀ V x,(tick g0 V x).heap[w.heap.size+1]?=V.heap[w.heap.size+1]?:=λV x=>fJ
  have t2:∀ V x,(tick g0 V x).heap[w.heap.size]?=V.heap[w.heap.size]?:=λV x=>fJ
  have hNB : ∀ b, w.heap.size ≤ b → ∀ cs, ¬ Blk f b cs 5 := λb hb cs k => by
    have hlt:=k.lt;have hk:=k.blk;rcases Nat.lt_or_ge w.heap.size b with L | L
    · obtain rfl : b = w.heap.size + 1 := by omega
      rw[E] at hk
      cases hk
    · obtain rfl : b = w.heap.size := by omega
      rw[z] at hk
      cases hk
  refine⟨w.heap.size + 1, [{ target := .collected w.heap.size, args := #[] }], f, { target := .fn (.func u) lb, args := #[.func (.yield (w.heap.size + 1)) #[] #[]] }, f, u,
    #[.func (.yield (w.heap.size+1)) #[] #[]] ++ lb,f,?_,?_,?_,?_,λh=>(by cases h),?_⟩
  · rw[← l];exact run_enterLoop_outer _ _ _ _ _
  · simp only[resolve,hg]
    simp[go_sem]
  · intro f' _;trivial
  · simp[invoke,go_sem,eg]
  · refine callsIn_wide.2 ?_
    refine(IT (w.heap.size + 1)
      (λW=>O W∧W.heap[w.heap.size+1]?=some (.loop (db fn a.tmps ps assign body w.heap.size .ready none))∧W.heap[w.heap.size]?=some (.deferred (some [])))
      (λR i W=>I R i W∧W.heap[w.heap.size+1]?=some (.loop (db fn a.tmps ps assign body w.heap.size .ready none))∧W.heap[w.heap.size]?=some (.deferred (some [])))
      (λR i W=>G R i W∧W.heap[w.heap.size+1]?=some (.loop (db fn a.tmps ps assign body w.heap.size .ready none))∧W.heap[w.heap.size]?=some (.deferred (some [])))
      (λR i W=>∃ c,Ix R c i W∧W.heap[w.heap.size+1]?=some (.loop (db fn a.tmps ps assign body w.heap.size .done (some c)))∧W.heap[w.heap.size]?=some (.deferred (some [])))
      f hNB (by omega) (λX Y hx d=>⟨F X Y hx.1 (d.mono (by omega)),d.same _ _ hx.2.1 (.inl (by omega)),d.same _ _ hx.2.2 (.inl (by omega))⟩)
      (λR i X Y hx d=>⟨hI R i X Y hx.1 (d.mono (by omega)),d.same _ _ hx.2.1 (.inl (by omega)),d.same _ _ hx.2.2 (.inl (by omega))⟩)
      (λR i X Y hx d=>⟨y R i X Y hx.1 (d.mono (by omega)),d.same _ _ hx.2.1 (.inl (by omega)),d.same _ _ hx.2.2 (.inl (by omega))⟩)
      (λR i X Y hx d=>by obtain⟨c,L,S,Z⟩:= hx;exact⟨c,p R c i X Y L (d.mono (by omega)),d.same _ _ S (.inl (by omega)),d.same _ _ Z (.inl (by omega))⟩)
      (by omega)
      (λV hv=>by obtain⟨q1,K,t,M⟩:= ab V hv.1;exact⟨q1,K,t,λR hR hE=>⟨M R (by omega) (H ▸ hE),(t1 V x0).trans hv.2.1,(t2 V x0).trans hv.2.2⟩⟩)
      (λR i V hv=>by obtain⟨q1,K,t,q5,M⟩:= hx R i V hv.1;exact⟨q1,K,t,H ▸ q5,λhi=>⟨M hi,(t1 V _).trans hv.2.1,(t2 V _).trans hv.2.2⟩⟩)
      ?_ ⟨F _ _ h0 (Rec.of T),E,z⟩).mono ?_
    · rintro R i args V V' hRs r ⟨hi,o,hk⟩ U hb ha
      have d:=m R (by omega) _ i args V V' (by omega) (lt_of_block o) ⟨_,o⟩ r hi hb ha;refine(jr (Tp:=Tp) (B:=w.heap.size) (i:=2 * i+1) (I:=qf (I R) (G R)) (Ix:=λc k=>Ix R c (k / 2)) (Ar:=λk=>Ar (k / 2)) (λj=>J (j / 2)) (λj=>by unfold qf;split;exact hI R _;exact y R _) (λc j=>p R c _) o (by rw[jX];exact hi) hb (by rw[show (2 * i+1) / 2=i by omega];exact ha) (hAn _ _ _ _ ha) (wpIn_mono d ?_)).mono ?_
      · intro e a1 f h
        cases e <;> first
          | (refine⟨h.1, λV2 W2 q1 K t M q5 q6 q7 => ?_⟩
             rw[jX] at q1;rw[show (2 * i+1) / 2=i by omega] at t
             exact wpIn_mono (h.2 V2 W2 q1 K t M q5 q6 q7) (λe a W h=>o7 h))
          | exact h.elim
      · rintro e V'' ⟨A,h⟩
        have C:=A.same _ _ (Nat.le_refl _) (by omega) ((hb.block _ (lt_of_block hk)).trans hk) mW;refine⟨A.from (by omega) (by omega),h.imp (λh=>⟨h.1,by have:=h.2.1;rw[lN] at this;exact this,h.2.2,C⟩) (λh=>?_)⟩;obtain⟨L,c,S,Z⟩:= h;rw[show (2 * i+1+1) / 2=i+1 by omega] at S;exact⟨L,c,S,Z,C⟩
    · rintro e W2 ⟨⟨v,rfl⟩,U,R,hRs,⟨hi,o,hk⟩ | ⟨i,r,c,hi,o,hk⟩⟩
      · exact⟨none,_,run_endLoop (P:=Tryz.prog) o (by simp[db]),q R _ _ (by omega) (Nat.le_refl _) ((World.putObj_heap_other (by omega)).trans hk) (hI R _ _ _ hi (Rec.put o rfl (by omega) _))⟩
      · exact⟨some c,_,run_endLoop (P:=Tryz.prog) o (by simp[db]),s R _ c i _ (by omega) (Nat.le_refl _) ((World.putObj_heap_other (by omega)).trans hk) r (p R c _ _ _ hi (Rec.put o rfl (by omega) _))⟩
end
end Kv
end
end Go.Proofs.YtpoifdokmjhclaaGreat
