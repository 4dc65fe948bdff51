/- Several texts, joined: FoJ. -/
import Derived.Test.YthfepflplbahkaaGreatDoorJav
import Derived.Test.YthfepflplbahkaaGreatDoorJaw
set_option maxRecDepth 100000
set_option maxHeartbeats 8000000
namespace Go.Proofs.YthfepflplbahkaaGreatDoor
namespace Kv
open Go.RowKit Go.Lib Pg
section
variable {N n:Nat}{xs:Nat → Nat}{lb:Array Value}{Ar:Nat → Array Value → Nat → World → Prop}{Rd:World → Prop}{w:World}{g:Operand}{ps:Array Tmp}{X K D:Nat->Prop}{W:List aI}
attribute [local go_sem] Oper.semAt_some
def DL(W0:World)(Tp:TypeId->Prop)(g x0:Nat)(xs:Nat->Nat)(gf:Nat)(lb:Array Value)(N:Nat)(Ar:Nat->Array Value->Nat->World->Prop)(Rd:World->Prop):Prop :=
 ∀ (l:Nat) (J0:World->Prop) (J Jt Jx:Nat->World->Prop) (W:World),(∀ b,W0.heap.size<=b->∀ cs,¬ Blk W b cs 5)->W0.heap.size<=W.heap.size->St W.heap.size J0->(∀ i,St W.heap.size (J i))->(∀ i,St W.heap.size (Jt i))->(∀ i,St W.heap.size (Jx i))->g < W.heap.size ->
  (∀ V,J0 V->V.cell? ⟨g,2,none⟩=some (.int .i64 x0)/\V.frozen? ⟨g,2,none⟩=false/\Rd V/\J 0 (tick g V x0)) ->
  (∀ i V,J i V->V.cell? ⟨g,2,none⟩=some (.int .i64 ((xs i:Nat):Int))/\V.frozen? ⟨g,2,none⟩=false/\Rd V/\(i < N->Jt i (tick g V (xs i)))) ->
  (∀ i args V V',i < N->Jt i V->W.heap.size<=V.heap.size->Below V.heap.size V V'->Ar i args V.heap.size V'->YieldAt Fence.wide 0 Tryz.prog l args V' fun e V''=>bE Tp W.heap.size V' V''/\((e=.returned (.bool true)/\J (i + 1) V'')\/(e=.returned (.bool false)/\Jx (i + 1) V''))) ->
  J0 W ->
  Calls Tryz.prog gf (#[.func (.yield l) #[] #[]] ++ lb) W fun e W'=>(∃ v,e=.returned v)/\W.heap.size<=W'.heap.size/\(J N W'\/∃ i,i < N/\Jx (i + 1) W')
theorem sn{Tp : TypeId → Prop}{gf g0 x0:Nat}(IT : DL w Tp g0 x0 xs gf lb N Ar Rd){assign body:Code}{Q : Exit → Act → World → Prop}{a:Act}(hg : a.eval g = .func (.func gf) #[] lb)(eg : ∀ args w, (callFunc gf args).run Tryz.prog w = .ok (.enter gf args) w)(hArS : ∀ i args n V W, Ar i args n V → Cel V W → Ar i args n W)(hAn : ∀ i args n V, Ar i args n V → args.size = ps.size)(I0 : World → Prop)(I It : Nat → World → Prop)(Ix : Code → Nat → World → Prop)(hI0 : St w.heap.size I0)(hI : ∀ i, St w.heap.size (I i))(hIt : ∀ i, St w.heap.size (It i))(hIx : ∀ c i, St w.heap.size (Ix c i))(hgw : g0 < w.heap.size)(hx0 : ∀ V, I0 V → V.cell? ⟨g0, 2, none⟩ = some (.int .i64 x0) ∧ V.frozen? ⟨g0, 2, none⟩ = false ∧ Rd V ∧ I 0 (tick g0 V x0))(hx : ∀ i V, I i V → V.cell? ⟨g0, 2, none⟩ = some (.int .i64 ((xs i : Nat) : Int)) ∧ V.frozen? ⟨g0, 2, none⟩ = false ∧ Rd V ∧ (i < N → It i (tick g0 V (xs i))))(h0 : I0 w)(hround : xO Tp w N n ps assign body a.tmps Ar It I Ix)(hdone : ∀ D W, w.heap.size ≤ D → W.heap[D]? = some (.deferred (some [])) → I N W → Q .normal { a with defers := { target := .collected D, args := #[] } :: a.defers } W)(hstop : ∀ D c i W, w.heap.size ≤ D → W.heap[D]? = some (.deferred (some [])) → i < N → Ix c (i + 1) W → c.wpIn Fence.wide n Tryz.prog Q { a with defers := { target := .collected D, args := #[] } :: a.defers } W) :
    (Code.rangeFunc g ps assign body).wpIn Fence.wide n Tryz.prog Q a w := by
  refine wpIn_rangeFunc ?_
  intro fn _;obtain⟨W1, hW1⟩ : ∃ W1, (w.alloc (.deferred (some []))).alloc (.loop (dq fn a.tmps ps assign body w.heap.size .ready none)) = W1 := ⟨_, rfl⟩
  have hB1 : Below w.heap.size w W1 := by rw[← hW1]; exact ah (ae w _) (ae _ _)
  have hs1 : W1.heap.size = w.heap.size + 1 + 1 := by rw[← hW1]; simp
  have hL1 : W1.heap[w.heap.size + 1]? = some (.loop (dq fn a.tmps ps assign body w.heap.size .ready none)) := by
    rw[← hW1]; have := World.alloc_heap_new (w.alloc (.deferred (some []))) (.loop (dq fn a.tmps ps assign body w.heap.size .ready none)); rwa [World.size_alloc] at this
  have hK1 : W1.heap[w.heap.size]? = some (.deferred (some [])) := by
    rw[← hW1]; exact(Below.heap_alloc _ _ _ (by simp)).trans (World.alloc_heap_new w _)
  have t1 : ∀ V x, (tick g0 V x).heap[w.heap.size + 1]? = V.heap[w.heap.size + 1]? := fun V x => fJ (by omega)
  have t2 : ∀ V x, (tick g0 V x).heap[w.heap.size]? = V.heap[w.heap.size]? := fun V x => fJ (by omega)
  have hNB : ∀ b, w.heap.size ≤ b → ∀ cs, ¬ Blk W1 b cs 5 := fun b hb cs k => by
    have hlt := k.lt;have hk := k.blk;rcases Nat.lt_or_ge w.heap.size b with h1 | h1
    · obtain rfl : b = w.heap.size + 1 := by omega
      rw[hL1] at hk
      cases hk
    · obtain rfl : b = w.heap.size := by omega
      rw[hK1] at hk
      cases hk
  refine⟨w.heap.size + 1, [{ target := .collected w.heap.size, args := #[] }], W1, { target := .fn (.func gf) lb, args := #[.func (.yield (w.heap.size + 1)) #[] #[]] }, W1, gf,
    #[.func (.yield (w.heap.size + 1)) #[] #[]] ++ lb, W1, ?_, ?_, ?_, ?_, fun h => (by cases h), ?_⟩
  · rw[← hW1]; exact run_enterLoop_outer _ _ _ _ _
  · simp only[resolve, hg]
    simp[go_sem]
  · intro f' _; trivial
  · simp[invoke, go_sem, eg]
  · refine callsIn_wide.2 ?_
    refine(IT (w.heap.size + 1)
      (fun W => I0 W ∧ W.heap[w.heap.size + 1]? = some (.loop (dq fn a.tmps ps assign body w.heap.size .ready none)) ∧ W.heap[w.heap.size]? = some (.deferred (some [])))
      (fun i W => I i W ∧ W.heap[w.heap.size + 1]? = some (.loop (dq fn a.tmps ps assign body w.heap.size .ready none)) ∧ W.heap[w.heap.size]? = some (.deferred (some [])))
      (fun i W => It i W ∧ W.heap[w.heap.size + 1]? = some (.loop (dq fn a.tmps ps assign body w.heap.size .ready none)) ∧ W.heap[w.heap.size]? = some (.deferred (some [])))
      (fun i W => ∃ c, Ix c i W ∧ W.heap[w.heap.size + 1]? = some (.loop (dq fn a.tmps ps assign body w.heap.size .done (some c))) ∧ W.heap[w.heap.size]? = some (.deferred (some [])))
      W1 hNB (by omega) (fun X Y hx hr => ⟨hI0 X Y hx.1 (hr.mono (by omega)), hr.same _ _ hx.2.1 (.inl (by omega)), hr.same _ _ hx.2.2 (.inl (by omega))⟩)
      (fun i X Y hx hr => ⟨hI i X Y hx.1 (hr.mono (by omega)), hr.same _ _ hx.2.1 (.inl (by omega)), hr.same _ _ hx.2.2 (.inl (by omega))⟩)
      (fun i X Y hx hr => ⟨hIt i X Y hx.1 (hr.mono (by omega)), hr.same _ _ hx.2.1 (.inl (by omega)), hr.same _ _ hx.2.2 (.inl (by omega))⟩)
      (fun i X Y hx hr => by obtain⟨c, h1, h2, h3⟩:= hx; exact⟨c, hIx c i X Y h1 (hr.mono (by omega)), hr.same _ _ h2 (.inl (by omega)), hr.same _ _ h3 (.inl (by omega))⟩)
      (by omega)
      (fun V hv => by obtain⟨q1, q2, q3, q4⟩:= hx0 V hv.1; exact⟨q1, q2, q3, q4, (t1 V x0).trans hv.2.1, (t2 V x0).trans hv.2.2⟩)
      (fun i V hv => by obtain⟨q1, q2, q3, q4⟩:= hx i V hv.1; exact⟨q1, q2, q3, fun hi => ⟨q4 hi, (t1 V _).trans hv.2.1, (t2 V _).trans hv.2.2⟩⟩)
      ?_ ⟨hI0 _ _ h0 (Rec.of hB1), hL1, hK1⟩).mono ?_
    · rintro i args V V' hiN ⟨hi, hl, hk⟩ hsz hb ha
      have hr := hround _ i args V V' (by omega) (lt_of_block hl) ⟨_, hl⟩ hiN hi hb ha;refine(ja (Tp := Tp) (B := w.heap.size) (i := 2 * i + 1) (I := oT I It) (Ix := fun c k => Ix c (k / 2)) (Ar := fun k => Ar (k / 2)) (fun j => hArS (j / 2)) (fun j => by unfold oT; split; exact hI _; exact hIt _) (fun c j => hIx c _) (by omega) hl (by rw[jX]; exact hi) hb (by rw[show (2 * i + 1) / 2 = i by omega]; exact ha) (hAn _ _ _ _ ha) (wpIn_mono hr ?_)).mono ?_
      · intro e a1 W1 h
        cases e <;> first
          | (refine⟨h.1, fun V2 W2 q1 q2 q3 q4 q5 q6 q7 => ?_⟩
             rw[jX] at q1;rw[show (2 * i + 1) / 2 = i by omega] at q3;exact wpIn_mono (h.2 V2 W2 q1 q2 q3 q4 q5 q6 q7) (fun e a W h => oh h))
          | exact h.elim
      · rintro e V'' ⟨hkp, h⟩
        have hk2 := hkp.same _ _ (Nat.le_refl _) (by omega) ((hb.block _ (lt_of_block hk)).trans hk) lT;refine⟨hkp.from (by omega) (by omega), h.imp (fun h => ⟨h.1, by have := h.2.1; rw[kK] at this; exact this, h.2.2, hk2⟩) (fun h => ?_)⟩;obtain⟨h1, c, h2, h3⟩:= h;rw[show (2 * i + 1 + 1) / 2 = i + 1 by omega] at h2;exact⟨h1, c, h2, h3, hk2⟩
    · rintro e W2 ⟨⟨v, rfl⟩, hsz, ⟨hi, hl, hk⟩ | ⟨i, hiN, c, hi, hl, hk⟩⟩
      · exact⟨none, _, run_endLoop (P := Tryz.prog) hl (by simp[dq]), hdone _ _ (Nat.le_refl _) ((World.putObj_heap_other (by omega)).trans hk) (hI _ _ _ hi (Rec.put hl rfl (by omega) _))⟩
      · exact⟨some c, _, run_endLoop (P := Tryz.prog) hl (by simp[dq]), hstop _ c i _ (Nat.le_refl _) ((World.putObj_heap_other (by omega)).trans hk) hiN (hIx c _ _ _ hi (Rec.put hl rfl (by omega) _))⟩
theorem swalkH{Tp:TypeId->Prop}{g:Nat}{E:aI}{fv tv:Value}{f t:List Int}(h:SA w K D g E W n N)(hN:N<=100000000)(hf:By w fv f)(ht:By w tv t)(hfl:f.length<=1000000000)(htl:t.length<=1000000000)(hX1:∀ b,X b->b=g\/¬ K b)(hXU:∀ b,X b->∀ cs,¬ Blk w b cs 5)(hXl:∀ b,X b->b < w.heap.size)(hT:¬ Tp 166)(hTe:¬ Tp 196) :
  Calls Tryz.prog 83 #[.pointer (some ⟨g,0,none⟩),fv,tv] w fun e w'=>∃ v EL,e=.returned v/\Ac Tp X w.heap.size w' g EL v/\EL.map En.kl2=E.filter (mn f t)/\Below w.heap.size w w':=by
 obtain⟨F,V,m,Q,jv,T,oj,hX,rfl,hB⟩:=h.open;obtain⟨L,Km,hw⟩:=xwmG hX hN hX1 hXU hXl;have tW:=mb (Tp:=Tp) Km hf ht hfl htl hT hTe;have c0:=hX.blk.cell (i:=0) rfl;obtain⟨fa,fc,rfl,-⟩:=id hf.ex;obtain⟨ta,tc,rfl,-⟩:=id ht.ex;generalize hfn:f.length=fn at *;generalize htn:t.length=tn at *;have HX:=aB hX;have HK:=aB Km;have HW:=aB hw;clear hX Km hw h hB hf ht hfn htn hX1 hXU hXl hT hTe;go_enter Tryz.func83,Tryz.ntmps83;go_wp2_with first
  | (go_at_call 42; go_must (refine tW.mono ?_); rintro e w1 ⟨bw,rfl,B1,IT⟩; clear tW)
  | (go_at_call 118; go_must (refine l4.mono ?_); rintro e w2 ⟨rfl,k1,k2,B2⟩)
 go_ret;exact⟨_,_,rfl,qS HX.out.blk HK.out B1 IT k1 k2 B2 (Nat.le_refl _),HW.out f t,ah B1 B2⟩
end
end Kv
namespace Fo
open Go.RowKit Go.Lib Pg Lim Gl Kv Bk Pw
section
variable {w W0:World}{g:Nat}{v:Value}{a:Act}{l:List Int}{xs:Nat → Nat}{Wn:List aI}
attribute [local go_sem] Oper.semAt_some
set_option linter.unusedVariables false
set_option linter.unusedSimpArgs false
def ArK(cs:List (Int × Int × Int))(i:Nat)(args:Array Value)(_:Nat)(_:World):Prop:=∃ c,cs[i]? = some c/\args=#[.int .u64 c.1,.agg #[.int .u64 c.2.1,.int .u64 c.2.2]]
def oA(E:aI)(id fr la:Int):aI:=E.filter (mn (Ky.nxt (Ky.mk 8 id fr)) (Ky.nxt (Ky.mk 8 id la)))
def dt(E:aI)(id fr la:Int):List (Int × Int × Int):=(oA E id fr la).map (fun x=>(Ky.rdB x.1,cX x.2 0,cX x.2 1))
theorem ff(h:Blk w g [v] 22):(loadVar 22 ⟨g,0,none⟩).run Tryz.prog w=.ok v w:=by
 have:=h.cell (i:=0) rfl;go_simp
theorem Cx{c:Code}{Q:Exit->Act->World->Prop}(h:c.wp Tryz.prog (Exit.then (fun a' w'=>Q .normal a' w') (fun _ _ _=>False)) a w):c.wp Tryz.prog Q a w :=
 Code.wp_mono (fun e a' w' h=>by
  cases e<;>first
   | exact h
   | exact h.elim) h
theorem rg_end{Q:Exit->Act->World->Prop}(h:Q .normal a w):Exit.then (fun a' w'=>Q .normal a' w') (fun _ _ _=>False) .normal a w:=h
theorem DI(h:ByU w v l)(hl:l.length<=1000000000):Calls Tryz.prog 82 #[v] w fun e w'=>∃ u,e=.returned u/\By w' u (Ky.nxt l)/\Below w.heap.size w w':=by
 obtain⟨b,ao,c,rfl,h2⟩:=bya h.byt;refine(Ky.l9 h.byt hl).mono ?_
 rintro e w' ⟨v,rfl,O,B⟩;exact⟨v,rfl,O.by,B⟩
theorem xw(l:List Int):(Ky.nxt l).length<=l.length:=by
 unfold Ky.nxt;split
 ·simp
 ·rename_i c cs e
  have h1:(l.reverse.dropWhile (· == 255)).length<=l.length:=Nat.le_trans (List.IsSuffix.length_le (List.dropWhile_suffix _)) (by rw[List.length_reverse]; exact Nat.le_refl _);rw[e] at h1;simp at h1 ⊢;omega
theorem xn{K D X:Nat → Prop}{bs bi bm bl x0 N:Nat}{E:aI}{id fr la:Int}(hS : SA W0 K D g E Wn x0 N)(hbs : Blk W0 bs [.pointer (some ⟨g, 0, none⟩)] 37)(hbi : Blk W0 bi [.int .u64 id] 22)(hbm : Blk W0 bm [.int .u64 fr] 22)(hbl : Blk W0 bl [.int .u64 la] 22)(hXs : ¬ X bs)(hXi : ¬ X bi)(hXm : ¬ X bm)(hXb : ¬ X bl)(hX1 : ∀ b, X b → b = g ∨ ¬ K b)(hXl : ∀ b, X b → b < W0.heap.size)(hid : 0 ≤ id ∧ id < 18446744073709551616)(hN : N ≤ 100000000)(hx : x0 ≤ 2000000000000000000)(hxs : ∀ i, i < N → xs i ≤ 3000000000000000000)(hRk : ∀ x ∈ oA E id fr la, Ky.frm (8 : Nat) = Ky.fIn x.1) :
    DL W0 TpN g x0 xs 81 #[.pointer (some ⟨bi, 0, none⟩), .pointer (some ⟨bm, 0, none⟩), .pointer (some ⟨bl, 0, none⟩), .pointer (some ⟨bs, 0, none⟩)] (dt E id fr la).length (ArK (dt E id fr la)) (RdS W0 X K D g E Wn N) := by
  intro l J0 J Jt Jx W hNB hW0 hS0 hSJ hSt hSx hgW hJ0 hJ hY h0;obtain⟨_, _, ⟨c0, u0, xx, s0⟩, _⟩:= hJ0 _ h0;have B1 := ae W (.cells #[.func (.yield l) #[] #[]] 149);have Y1 := aC W [.func (.yield l) #[] #[]] 149
  have s1 : (W.alloc (.cells #[.func (.yield l) #[] #[]] 149)).heap.size = W.heap.size + 1 := by simp
  obtain⟨Wa, hWa⟩ : ∃ Wa, Hid (W.alloc (.cells #[.func (.yield l) #[] #[]] 149) = Wa) := ⟨_, rfl⟩;rw[hWa.out] at B1 Y1 s1;have bsW := hbs.chg c0 hXs
  have hK0 : ∀ b, K b → b < W0.heap.size := fun b hb => hS.lt hb
  have HX' : Hid (∀ b, (X b ∨ (W0.heap.size ≤ b ∧ b < W.heap.size)) → b = g ∨ ¬ K b) := aB (fun b hb => hb.elim (hX1 b) (fun h => .inr (fun hk => by have := hK0 b hk; omega)))
  have HXl : Hid (∀ b, (X b ∨ (W0.heap.size ≤ b ∧ b < W.heap.size)) → b < W.heap.size) := aB (fun b hb => hb.elim (fun h => Nat.lt_of_lt_of_le (hXl b h) hW0) (fun h => h.2))
  have HXU : Hid (∀ b, (X b ∨ (W0.heap.size ≤ b ∧ b < W.heap.size)) → ∀ cs, ¬ Blk W b cs 5) := aB (fun b hb => hb.elim (u0 b) (fun h => hNB b h.1))
  have S0 : (fun w' => Blk w' bi [.int .u64 id] 22 ∧ Blk w' bm [.int .u64 fr] 22 ∧ Blk w' bl [.int .u64 la] 22) Wa.drew := ⟨((hbi.chg c0 hXi).keep B1).drew, ((hbm.chg c0 hXm).keep B1).drew, ((hbl.chg c0 hXb).keep B1).drew⟩;have HY := aB hY;have HJ := aB hJ;have HJ0 := aB hJ0;have H0 := aB h0;have HS := aB s0;have HC0 := aB c0;have HB1 := aB B1;have HY1 := aB Y1;have HBS := aB bsW;have HS0 := aB S0;clear hJ0 hJ hY h0 s0 c0 B1 Y1 bsW hNB u0 S0 hbs hbi hbm hbl;refine(callsIn_wide (n := 0)).1 ?_
  refine callsIn_of_wp_marks Tryz.func81 rfl trivial ?_ rfl;simp only[Tryz.ntmps81, List.size_toArray, List.length_cons, List.length_nil, Nat.reduceAdd, Nat.reduceSub, Array.replicate_succ, Array.replicate_zero, List.push_toArray, List.append_toArray, List.nil_append, List.cons_append];gi_wp2_with fail;rw[hWa.out];refine wpIn_wide.2 ?_
  refine Cx ?_
  refine bF (S := fun w' => Blk w' bi [.int .u64 id] 22 ∧ Blk w' bm [.int .u64 fr] 22 ∧ Blk w' bl [.int .u64 la] 22) (by kernel_rfl) HS0.out ?_
  refine aM 0 (some 14) (.int .u64 id) 22 1 bi 0 (by kernel_rfl) (by kernel_rfl) (by kernel_rfl) (fun w' h => ff h.1) (fun _ _ _ h => h) HS0.out ?_
  refine aM 1 (some 15) (.int .u64 fr) 22 2 bm 0 (by kernel_rfl) (by kernel_rfl) (by kernel_rfl) (fun w' h => ff h.2.1) (fun _ _ _ h => h) HS0.out ?_
  refine aM 4 (some 18) (.int .u64 id) 22 1 bi 0 (by kernel_rfl) (by kernel_rfl) (by kernel_rfl) (fun w' h => ff h.1) (fun _ _ _ h => h) HS0.out ?_
  refine aM 5 (some 19) (.int .u64 la) 22 3 bl 0 (by kernel_rfl) (by kernel_rfl) (by kernel_rfl) (fun w' h => ff h.2.2) (fun _ _ _ h => h) HS0.out ?_
  refine aV 2 (some 16) 65 #[.int .i64 8, .int .u64 id, .int .u64 fr] (by kernel_rfl) (by kernel_rfl) (vX hid (jt id fr)) ?_
  rintro _ w1 ⟨k1, rfl, U1, C1⟩;have T1 := (⟨HS0.out.1.keep C1, HS0.out.2.1.keep C1, HS0.out.2.2.keep C1⟩ : Blk w1 bi [.int .u64 id] 22 ∧ Blk w1 bm [.int .u64 fr] 22 ∧ Blk w1 bl [.int .u64 la] 22);refine⟨_, rfl, T1, ?_⟩;refine aV 3 (some 17) 82 #[k1] (by kernel_rfl) (by kernel_rfl) (DI U1 (Nat.le_trans (Ky.j8 _ _ _) (by decide))) ?_
  rintro _ w2 ⟨f1, rfl, F1, C2⟩;have T2 := (⟨T1.1.keep C2, T1.2.1.keep C2, T1.2.2.keep C2⟩ : Blk w2 bi [.int .u64 id] 22 ∧ Blk w2 bm [.int .u64 fr] 22 ∧ Blk w2 bl [.int .u64 la] 22);refine⟨_, rfl, T2, ?_⟩;refine aV 6 (some 20) 65 #[.int .i64 8, .int .u64 id, .int .u64 la] (by kernel_rfl) (by kernel_rfl) (vX hid (jt id la)) ?_
  rintro _ w3 ⟨k2, rfl, U2, C3⟩;have T3 := (⟨T2.1.keep C3, T2.2.1.keep C3, T2.2.2.keep C3⟩ : Blk w3 bi [.int .u64 id] 22 ∧ Blk w3 bm [.int .u64 fr] 22 ∧ Blk w3 bl [.int .u64 la] 22);refine⟨_, rfl, T3, ?_⟩;refine aV 7 (some 21) 82 #[k2] (by kernel_rfl) (by kernel_rfl) (DI U2 (Nat.le_trans (Ky.j8 _ _ _) (by decide))) ?_
  rintro _ w4 ⟨f2, rfl, F2, C4⟩;have T4 := (⟨T3.1.keep C4, T3.2.1.keep C4, T3.2.2.keep C4⟩ : Blk w4 bi [.int .u64 id] 22 ∧ Blk w4 bm [.int .u64 fr] 22 ∧ Blk w4 bl [.int .u64 la] 22);refine⟨_, rfl, T4, ?_⟩;refine aj 8 (some 6) f1 (by kernel_rfl) (fun _ _ => by kernel_rfl) (fun _ _ _ h => h) T4 ?_
  refine aj 9 (some 7) f2 (by kernel_rfl) (fun _ _ => by kernel_rfl) (fun _ _ _ h => h) T4 ?_
  refine bj (by kernel_rfl) (rg_end ?_);simp only[Act.put, List.setIfInBounds_toArray, List.set_cons_zero, List.set_cons_succ];have B2 := ah (ah (ah (ah (ah HB1.out (bR Wa)) C1) C2) C3) C4
  have F1' := (F1.keep C3).keep C4;obtain⟨fa, fc, hf1⟩ : ∃ ao c, f1 = .slice ao (Ky.nxt (Ky.mk 8 id fr)).length c := by obtain⟨ao, c, e, _⟩:= F1.ex; exact⟨ao, c, e⟩
  obtain⟨ta, tc, hf2⟩ : ∃ ao c, f2 = .slice ao (Ky.nxt (Ky.mk 8 id la)).length c := by obtain⟨ao, c, e, _⟩:= F2.ex; exact⟨ao, c, e⟩
  have cB := (HBS.out.keep B2).cell (i := 0) rfl;have tP := swalkH (Tp := TpN) (X := fun b => X b ∨ (W0.heap.size ≤ b ∧ b < W.heap.size)) (HS.out.keep B2) hN F1' F2 (Nat.le_trans (xw _) (Nat.le_trans (Ky.j8 _ _ _) (by decide))) (Nat.le_trans (xw _) (Nat.le_trans (Ky.j8 _ _ _) (by decide))) HX'.out (fun b hb cs k => HXU.out b hb cs ⟨by rw[← B2.block b (HXl.out b hb)]; exact k.blk⟩) (fun b hb => Nat.lt_of_lt_of_le (HXl.out b hb) B2.size) (fun h => h) (fun h => h);have HB2 := aB B2;have HC4 := aB (ah (ah (ah (ah (bR Wa) C1) C2) C3) C4);clear T1 T2 T3 T4 U1 U2 F1 F2 F1' C1 C2 C3 C4 B2;obtain⟨fn, hfn⟩ : ∃ n, Hid ((Ky.nxt (Ky.mk 8 id fr)).length = n) := ⟨_, rfl⟩;obtain⟨tn, htn⟩ : ∃ n, Hid ((Ky.nxt (Ky.mk 8 id la)).length = n) := ⟨_, rfl⟩;rw[hfn.out] at hf1;rw[htn.out] at hf2;subst hf1 hf2;gi_wp2_with (refine⟨trivial, rfl, ?_⟩; gi_at_call 83; refine(callsIn_wide.2 tP).mono ?_; rintro e' w5 ⟨v5, EL, rfl, IG, hEL, B3⟩);obtain⟨bs1, bs2, bw, W1, rfl, IT, hRd, hb1, hb2⟩:= IG.ex;have hsm := IG.small;clear tP IG;have BW := ah HB2.out B3
  have hw1 : W.heap.size + 1 ≤ w4.heap.size := by have := HC4.out.size; omega
  have hw2 : W.heap.size + 1 ≤ w5.heap.size := Nat.le_trans hw1 B3.size;have YB := (HY1.out.keep HC4.out).keep B3
  have hlen : (dt E id fr la).length = EL.length := by simp[dt, oA, ← hEL]
  have hle : EL.length ≤ N := by
    have h1 := HS.out.size
    have h2 : (EL.map En.kl2).length ≤ E.length := by rw[hEL]; exact List.length_filter_le _ _
    rw[List.length_map] at h2;omega
  have ITC := mQ (g := g) (bs1 := bs1) (bs2 := bs2) (x0 := x0) (xs := xs) IT (fun h => h) (by omega) (fun i hi => hxs i (by omega))
  have HRK : Hid (∀ e ∈ EL, Ky.frm 8 = Ky.fIn e.kl) := aB (fun e he => hRk e.kl2 (by show _ ∈ E.filter _; rw[← hEL]; exact List.mem_map_of_mem he))
  have HCL : Hid (∀ (i : Nat) (e : En), EL[i]? = some e → (dt E id fr la)[i]? = some (Ky.rdB e.kl, cX e.vl 0, cX e.vl 1)) := aB (fun i e he => by
    have h1 : dt E id fr la = (EL.map En.kl2).map (fun x => (Ky.rdB x.1, cX x.2 0, cX x.2 1)) := by rw[hEL]; rfl
    rw[h1, List.getElem?_map, List.getElem?_map, he];rfl)
  have J2 := hS0 _ _ H0.out (Rec.of BW)
  have E2 : Ext W.heap.size w5 w5 := ⟨fun _ _ _ => rfl, Nat.le_refl _⟩
  have RDC : Hid (∀ V, RdS W0 X K D g E Wn N V → Ext W.heap.size w5 V → RdC (fun b => X b ∨ (W0.heap.size ≤ b ∧ b < W.heap.size)) W1 g bs1 bs2 bw V) := aB (fun V hR hE => by
    obtain⟨c1, _, x, s1⟩:= hR;obtain⟨r1, r2, r3, _⟩:= hRd;refine⟨⟨?_, ?_, ?_, Nat.le_trans r1.size hE.2, fun b hb hn => ?_⟩, hE.blk r2 (by omega), hE.blk r3 (by omega), s1.kv⟩
    · rw[c1.os, ← HC0.out.os, ← BW.os, r1.os]
    · rw[c1.tape, ← HC0.out.tape, ← BW.tape, r1.tape]
    · rw[c1.output, ← HC0.out.output, ← BW.output, r1.output]
    · rw[← r1.same b hb hn]
      rw[not_or] at hn;rcases Nat.lt_or_ge b W0.heap.size with h1 | h1
      · rw[c1.same b h1 hn.1, BW.block b (by omega), HC0.out.same b h1 hn.1]
      · exact hE.1 b (by omega) (Nat.lt_of_lt_of_le hb r1.size))
  have HEL := aB hEL;have HSM := aB hsm;have HYB := aB YB;clear hEL hsm YB B3 hRd cB IT BW HB1 HY1 HB2 HC4;refine kh ITC (by rfl) (enters_of Tryz.func169 (by kernel_rfl) rfl) (fun i args n V V' h hc => h.cel hc) (fun i args n V h => by obtain⟨e, kv, vv, s, _, rfl, _⟩:= h; rfl)
    (fun V => J0 V ∧ Ext W.heap.size w5 V)
    (fun i V => J i V ∧ Ext W.heap.size w5 V)
    (fun i V => Jt i V ∧ Ext W.heap.size w5 V)
    (fun c i V => c = .ret ∧ Jx i V ∧ w5.heap.size ≤ V.heap.size)
    (fun A B hx hr => ⟨hS0 A B hx.1 (hr.mono (by omega)), hx.2.rcd hr⟩)
    (fun i A B hx hr => ⟨hSJ i A B hx.1 (hr.mono (by omega)), hx.2.rcd hr⟩)
    (fun i A B hx hr => ⟨hSt i A B hx.1 (hr.mono (by omega)), hx.2.rcd hr⟩)
    (fun c i A B hx hr => ⟨hx.1, hSx i A B hx.2.1 (hr.mono (by omega)), Nat.le_trans hx.2.2 hr.size⟩)
    (by omega)
    (fun V hv => by obtain⟨q1, q2, q3, q4⟩:= HJ0.out V hv.1; exact⟨q1, q2, RDC.out V q3 hv.2, q4, hv.2.tick hgW⟩)
    (fun i V hv => by obtain⟨q1, q2, q3, q4⟩:= HJ.out i V hv.1; exact⟨q1, q2, RDC.out V q3 hv.2, fun hi => ⟨q4 (by omega), hv.2.tick hgW⟩⟩)
    ⟨J2, E2⟩ ?_ ?_ ?_
  · rintro l2 i args V Wv hl hlV hrec hiN ⟨hJi, hExt⟩ hb ⟨e0, kv, vv, s0, he0, rfl, hk0, hv0, _⟩
    obtain⟨ak0, nk, hk1⟩:= hk0.shape;obtain⟨av, nv, hv1⟩:= hv0.shape;subst hk1 hv1;simp;gi_wp2;refine⟨Below.refl _ _, ?_⟩;intro V2 W2 hJ2 hExt2 hb2 hAr2 hoth hsz3 hV2 rl hrec2;obtain⟨e1, kv1, vv1, t1, he1, harr, hk2, hv2, ht1⟩:= hAr2;obtain rfl : e1 = e0 := by rw[he0] at he1; cases he1; rfl
    simp at harr;obtain⟨rfl, rfl⟩:= harr;have hmE := List.mem_of_getElem? he0;have tA := Ky.zW hk2.by (HSM.out e1 hmE).1 (r := 8) (by decide) (by decide) (HRK.out e1 hmE)
    have hN2 := aB (fun w3 (B3 : Below W2.heap.size W2 w3) => cut_rd (ByU.of (hv2.keep B3)) (HSM.out e1 hmE).2);have yB := hExt2.blk HYB.out (Nat.le_refl _);have HE2 := aB hExt2;have HJT := aB hJ2;have HB2 := aB hb2
    have hs2 : w5.heap.size ≤ V2.heap.size := hExt2.2
    have hs3 : V2.heap.size ≤ W2.heap.size := hb2.size;have HYV := aB (yB.keep hb2)
    have HAr : Hid ((dt E id fr la)[i]? = some (Ky.rdB e1.kl, cX e1.vl 0, cX e1.vl 1)) := aB (HCL.out i e1 he0);clear hJi hExt hb hk0 hv0 hk2 hv2 hoth hExt2 hJ2 hb2 yB he1 he0 ht1 hmE;obtain⟨cc, hcc⟩ : ∃ cc, Hid (Ky.rdA 8 e1.kl = cc) := ⟨_, rfl⟩;obtain⟨ss, hss⟩ : ∃ ss, Hid (Ky.rdB e1.kl = ss) := ⟨_, rfl⟩;obtain⟨na, hna⟩ : ∃ nn, Hid (cX e1.vl 0 = nn) := ⟨_, rfl⟩;obtain⟨nb, hnb⟩ : ∃ nn, Hid (cX e1.vl 1 = nn) := ⟨_, rfl⟩;obtain⟨oo, hoo⟩ : ∃ oo, Hid (Rc.iO (Rc.kX e1.vl) = oo) := ⟨_, rfl⟩;simp only[hcc.out, hss.out] at tA;simp only[hss.out, hna.out, hnb.out] at HAr;have HY2 := aB (HY.out i #[.int .u64 ss, .agg #[.int .u64 na, .int .u64 nb]] V2);gi_wp2_with first
      | (refine⟨trivial, rfl, ?_⟩; gi_at_call 84; refine(CallsIn.inRound l2 (callsIn_wide.2 tA)).mono ?_; rintro e' w6 ⟨rfl, B3⟩; clear tA; have B4 := ae w6 (.cells #[.int .i64 (8 : Int), .int .u64 cc, .int .u64 ss] 151); have k4 := aC w6 [.int .i64 (8 : Int), .int .u64 cc, .int .u64 ss] 151; have tN := hN2.out _ (ah B3 B4); rw[hna.out, hnb.out, hoo.out] at tN)
      | (refine⟨trivial, rfl, ?_⟩; gi_at_call 85; refine(CallsIn.inRound l2 (callsIn_wide.2 tN)).mono ?_; rintro e' w8 ⟨rfl, B5⟩; clear tN; have B7 := ae w8 (.cells #[.int .u64 na, .int .u64 nb] 111); have B6 := ah (ah (ah B3 B4) B5) B7; have kC := ((k4.keep B5).keep B7).cell (i := 2) rfl; have yC := (HYV.out.keep B6).cell (i := 0) rfl; have hYY := HY2.out _ (by omega) HJT.out (by omega) (ah HB2.out B6) ⟨_, HAr.out, rfl⟩; obtain⟨fn, tmps, assign, body, hy, hR⟩:= hYY; have hR2 : RoundIn (Fence.wide.inRound l2) 0 Tryz.prog l fn tmps assign body (w8.alloc (.cells #[.int .u64 na, .int .u64 nb] 111)) _ := ⟨hR.1, fun c cs _ => hR.2 c cs (fun _ h => by cases h)⟩; have HR := aB hR2; have HK := aB B6; clear hR hR2 B3 B4 B5 B6 B7 k4)
    refine⟨rfl, HR.out.mono ?_⟩;rintro e' w9 ⟨hk5, h5⟩
    have hkk : bE TpN W.heap.size W2 w9 := (bE.of HK.out).trans hk5;have hE5 := (HE2.out.keep HB2.out).keepsT hkk
    have hk2 : bE TpN w5.heap.size W2 w9 := hkk.mono (by omega);rcases h5 with⟨rfl, hJ5⟩ | ⟨rfl, hJ5⟩
    · gi_wp2
      exact⟨hk2, hJ5, hE5⟩
    · gi_wp2
      exact⟨hk2, rfl, hJ5, hE5.2⟩
  · rintro D' W' hD hK ⟨hJn, hE⟩
    gi_wp2;refine⟨by simp, .inl ⟨_, _, rfl, run_takeDeferred hK, ?_⟩⟩;have := hE.2;exact⟨_, results_none rfl _ _ _, ⟨_, rfl⟩, by simp; omega, .inl (by rw[hlen]; exact hSJ _ _ _ hJn (Rec.put hK rfl (by omega) _))⟩
  · rintro D' c i W' hD hK hiN ⟨rfl, hJx', hsz⟩
    gi_wp2;refine⟨by simp, .inl ⟨_, _, rfl, run_takeDeferred hK, ?_⟩⟩;exact⟨_, results_none rfl _ _ _, ⟨_, rfl⟩, by simp; omega, .inr ⟨i, by omega, hSx (i + 1) _ _ hJx' (Rec.put hK rfl (by omega) _)⟩⟩
end
end Fo
end Go.Proofs.YthfepflplbahkaaGreatDoor
