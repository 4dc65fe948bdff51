/- Several texts, joined: FoJ, FoE, FoG, FoK, FoL. -/
import Derived.Test.YthfepflplbahkaaGreatDoorJat
import Derived.Test.YthfepflplbahkaaGreatDoorJau
import Derived.Test.YthfepflplbahkaaGreatDoorJaq
set_option maxRecDepth 100000
set_option maxHeartbeats 8000000
namespace Go.Proofs.YthfepflplbahkaaGreatDoor
section
namespace Kv
open Go.RowKit Go.Lib Pg
section
variable {N n:Nat}{xs:Nat → Nat}{lb:Array Value}{Ar:Nat → Array Value → Nat → World → Prop}{Rd:World → Prop}{w:World}{g:Operand}{ps:Array Tmp}{X K D:Nat->Prop}{W:List aD}
attribute [local go_sem] Oper.semAt_some
def D8(W0:World)(Tp:TypeId->Prop)(g x0:Nat)(xs:Nat->Nat)(gf:Nat)(lb:Array Value)(N:Nat)(Ar:Nat->Array Value->Nat->World->Prop)(Rd:World->Prop):Prop :=
 ∀ (l:Nat) (J0:World->Prop) (J Jt Jx:Nat->World->Prop) (W:World),(∀ b,W0.heap.size<=b->∀ cs,¬ Blk W b cs 5)->W0.heap.size<=W.heap.size->St W.heap.size J0->(∀ i,St W.heap.size (J i))->(∀ i,St W.heap.size (Jt i))->(∀ i,St W.heap.size (Jx i))->g < W.heap.size ->
  (∀ V,J0 V->V.cell? ⟨g,2,none⟩=some (.int .i64 x0)/\V.frozen? ⟨g,2,none⟩=false/\Rd V/\J 0 (tick g V x0)) ->
  (∀ i V,J i V->V.cell? ⟨g,2,none⟩=some (.int .i64 ((xs i:Nat):Int))/\V.frozen? ⟨g,2,none⟩=false/\Rd V/\(i < N->Jt i (tick g V (xs i)))) ->
  (∀ i args V V',i < N->Jt i V->W.heap.size<=V.heap.size->Below V.heap.size V V'->Ar i args V.heap.size V'->YieldAt Fence.wide 0 Tryz.prog l args V' fun e V''=>bj Tp W.heap.size V' V''/\((e=.returned (.bool true)/\J (i + 1) V'')\/(e=.returned (.bool false)/\Jx (i + 1) V''))) ->
  J0 W ->
  Calls Tryz.prog gf (#[.func (.yield l) #[] #[]] ++ lb) W fun e W'=>(∃ v,e=.returned v)/\W.heap.size<=W'.heap.size/\(J N W'\/∃ i,i < N/\Jx (i + 1) W')
theorem ue{Tp : TypeId → Prop}{gf g0 x0:Nat}(IT : D8 w Tp g0 x0 xs gf lb N Ar Rd){assign body:Code}{Q : Exit → Act → World → Prop}{a:Act}(hg : a.eval g = .func (.func gf) #[] lb)(eg : ∀ args w, (callFunc gf args).run Tryz.prog w = .ok (.enter gf args) w)(hArS : ∀ i args n V W, Ar i args n V → Cel V W → Ar i args n W)(hAn : ∀ i args n V, Ar i args n V → args.size = ps.size)(I0 : World → Prop)(I It : Nat → World → Prop)(Ix : Code → Nat → World → Prop)(hI0 : St w.heap.size I0)(hI : ∀ i, St w.heap.size (I i))(hIt : ∀ i, St w.heap.size (It i))(ac : ∀ c i, St w.heap.size (Ix c i))(hgw : g0 < w.heap.size)(hx0 : ∀ V, I0 V → V.cell? ⟨g0, 2, none⟩ = some (.int .i64 x0) ∧ V.frozen? ⟨g0, 2, none⟩ = false ∧ Rd V ∧ I 0 (tick g0 V x0))(hx : ∀ i V, I i V → V.cell? ⟨g0, 2, none⟩ = some (.int .i64 ((xs i : Nat) : Int)) ∧ V.frozen? ⟨g0, 2, none⟩ = false ∧ Rd V ∧ (i < N → It i (tick g0 V (xs i))))(h0 : I0 w)(aa : zZ Tp w N n ps assign body a.tmps Ar It I Ix)(ab : ∀ D W, w.heap.size ≤ D → W.heap[D]? = some (.deferred (some [])) → I N W → Q .normal { a with defers := { target := .collected D, args := #[] } :: a.defers } W)(ad : ∀ D c i W, w.heap.size ≤ D → W.heap[D]? = some (.deferred (some [])) → i < N → Ix c (i + 1) W → c.wpIn Fence.wide n Tryz.prog Q { a with defers := { target := .collected D, args := #[] } :: a.defers } W) :
    (Code.rangeFunc g ps assign body).wpIn Fence.wide n Tryz.prog Q a w := by
  refine wpIn_rangeFunc ?_
  intro fn _;obtain⟨f, l⟩ : ∃ f, (w.alloc (.deferred (some []))).alloc (.loop (db fn a.tmps ps assign body w.heap.size .ready none)) = f := ⟨_, rfl⟩
  have F : Below w.heap.size w f := by rw[← l]; exact aj (ae w _) (ae _ _)
  have M : f.heap.size = w.heap.size + 1 + 1 := by rw[← l]; simp
  have s : f.heap[w.heap.size + 1]? = some (.loop (db fn a.tmps ps assign body w.heap.size .ready none)) := by
    rw[← l]; have := World.alloc_heap_new (w.alloc (.deferred (some []))) (.loop (db fn a.tmps ps assign body w.heap.size .ready none)); rwa [World.size_alloc] at this
  have t : f.heap[w.heap.size]? = some (.deferred (some [])) := by
    rw[← l]; exact(Below.heap_alloc _ _ _ (by simp)).trans (World.alloc_heap_new w _)
  have t1 : ∀ V x, (tick g0 V x).heap[w.heap.size + 1]? = V.heap[w.heap.size + 1]? := fun V x => fG (by omega)
  have t2 : ∀ V x, (tick g0 V x).heap[w.heap.size]? = V.heap[w.heap.size]? := fun V x => fG (by omega)
  have G : ∀ b, w.heap.size ≤ b → ∀ cs, ¬ Blk f b cs 5 := fun b hb cs k => by
    have O := k.lt;have m := k.blk;rcases Nat.lt_or_ge w.heap.size b with u | u
    · obtain rfl : b = w.heap.size + 1 := by omega
      rw[s] at m
      cases m
    · obtain rfl : b = w.heap.size := by omega
      rw[t] at m
      cases m
  refine⟨w.heap.size + 1, [{ target := .collected w.heap.size, args := #[] }], f, { target := .fn (.func gf) lb, args := #[.func (.yield (w.heap.size + 1)) #[] #[]] }, f, gf,
    #[.func (.yield (w.heap.size + 1)) #[] #[]] ++ lb, f, ?_, ?_, ?_, ?_, fun h => (by cases h), ?_⟩
  · rw[← l]; exact run_enterLoop_outer _ _ _ _ _
  · simp only[resolve, hg]
    simp[go_sem]
  · intro f' _; trivial
  · simp[invoke, go_sem, eg]
  · refine callsIn_wide.2 ?_
    refine(IT (w.heap.size + 1)
      (fun W => I0 W ∧ W.heap[w.heap.size + 1]? = some (.loop (db fn a.tmps ps assign body w.heap.size .ready none)) ∧ W.heap[w.heap.size]? = some (.deferred (some [])))
      (fun i W => I i W ∧ W.heap[w.heap.size + 1]? = some (.loop (db fn a.tmps ps assign body w.heap.size .ready none)) ∧ W.heap[w.heap.size]? = some (.deferred (some [])))
      (fun i W => It i W ∧ W.heap[w.heap.size + 1]? = some (.loop (db fn a.tmps ps assign body w.heap.size .ready none)) ∧ W.heap[w.heap.size]? = some (.deferred (some [])))
      (fun i W => ∃ c, Ix c i W ∧ W.heap[w.heap.size + 1]? = some (.loop (db fn a.tmps ps assign body w.heap.size .done (some c))) ∧ W.heap[w.heap.size]? = some (.deferred (some [])))
      f G (by omega) (fun X Y hx d => ⟨hI0 X Y hx.1 (d.mono (by omega)), d.same _ _ hx.2.1 (.inl (by omega)), d.same _ _ hx.2.2 (.inl (by omega))⟩)
      (fun i X Y hx d => ⟨hI i X Y hx.1 (d.mono (by omega)), d.same _ _ hx.2.1 (.inl (by omega)), d.same _ _ hx.2.2 (.inl (by omega))⟩)
      (fun i X Y hx d => ⟨hIt i X Y hx.1 (d.mono (by omega)), d.same _ _ hx.2.1 (.inl (by omega)), d.same _ _ hx.2.2 (.inl (by omega))⟩)
      (fun i X Y hx d => by obtain⟨c, u, E, H⟩:= hx; exact⟨c, ac c i X Y u (d.mono (by omega)), d.same _ _ E (.inl (by omega)), d.same _ _ H (.inl (by omega))⟩)
      (by omega)
      (fun V p => by obtain⟨q1, y, r, z⟩:= hx0 V p.1; exact⟨q1, y, r, z, (t1 V x0).trans p.2.1, (t2 V x0).trans p.2.2⟩)
      (fun i V p => by obtain⟨q1, y, r, z⟩:= hx i V p.1; exact⟨q1, y, r, fun hi => ⟨z hi, (t1 V _).trans p.2.1, (t2 V _).trans p.2.2⟩⟩)
      ?_ ⟨hI0 _ _ h0 (Rec.of F), s, t⟩).mono ?_
    · rintro i args V R q ⟨hi, o, m⟩ J hb K
      have d := aa _ i args V R (by omega) (lt_of_block o) ⟨_, o⟩ q hi hb K;refine(jc (Tp := Tp) (B := w.heap.size) (i := 2 * i + 1) (I := o8 I It) (Ix := fun c k => Ix c (k / 2)) (Ar := fun k => Ar (k / 2)) (fun j => hArS (j / 2)) (fun j => by unfold o8; split; exact hI _; exact hIt _) (fun c j => ac c _) (by omega) o (by rw[jr]; exact hi) hb (by rw[show (2 * i + 1) / 2 = i by omega]; exact K) (hAn _ _ _ _ K) (wpIn_mono d ?_)).mono ?_
      · intro e a1 f h
        cases e <;> first
          | (refine⟨h.1, fun S L q1 y r z q5 T U => ?_⟩
             rw[jr] at q1;rw[show (2 * i + 1) / 2 = i by omega] at r;exact wpIn_mono (h.2 S L q1 y r z q5 T U) (fun e a W h => oq h))
          | exact h.elim
      · rintro e Z ⟨A, h⟩
        have C := A.same _ _ (Nat.le_refl _) (by omega) ((hb.block _ (lt_of_block m)).trans m) mu;refine⟨A.from (by omega) (by omega), h.imp (fun h => ⟨h.1, by have := h.2.1; rw[kt] at this; exact this, h.2.2, C⟩) (fun h => ?_)⟩;obtain⟨u, c, E, H⟩:= h;rw[show (2 * i + 1 + 1) / 2 = i + 1 by omega] at E;exact⟨u, c, E, H, C⟩
    · rintro e L ⟨⟨v, rfl⟩, J, ⟨hi, o, m⟩ | ⟨i, q, c, hi, o, m⟩⟩
      · exact⟨none, _, run_endLoop (P := Tryz.prog) o (by simp[db]), ab _ _ (Nat.le_refl _) ((World.putObj_heap_other (by omega)).trans m) (hI _ _ _ hi (Rec.put o rfl (by omega) _))⟩
      · exact⟨some c, _, run_endLoop (P := Tryz.prog) o (by simp[db]), ad _ c i _ (Nat.le_refl _) ((World.putObj_heap_other (by omega)).trans m) q (ac c _ _ _ hi (Rec.put o rfl (by omega) _))⟩
theorem swalkH{Tp:TypeId->Prop}{g:Nat}{E:aD}{fv Y:Value}{f t:List Int}(h:SA w K D g E W n N)(hN:N<=100000000)(hf:By w fv f)(S:By w Y t)(R:f.length<=1000000000)(U:t.length<=1000000000)(M:∀ b,X b->b=g\/¬ K b)(O:∀ b,X b->∀ cs,¬ Blk w b cs 5)(P:∀ b,X b->b < w.heap.size)(Z:¬ Tp 166)(J:¬ Tp 196) :
  Calls Tryz.prog 83 #[.pointer (some ⟨g,0,none⟩),fv,Y] w fun e w'=>∃ v EL,e=.returned v/\AF Tp X w.heap.size w' g EL v/\EL.map En.kl2=E.filter (l8 f t)/\Below w.heap.size w w':=by
 obtain⟨F,V,m,Q,x,T,y,a,rfl,p⟩:=h.open;obtain⟨L,c,hw⟩:=xwmG a hN M O P;have k:=lV (Tp:=Tp) c hf S R U Z J;have c0:=a.blk.cell (i:=0) rfl;obtain⟨z,A,rfl,-⟩:=id hf.ex;obtain⟨B,C,rfl,-⟩:=id S.ex;generalize d:f.length=fn at *;generalize j:t.length=tn at *;have q:=aB a;have r:=aB c;have s:=aB hw;clear a c hw h p hf S d j M O P Z J;go_enter Tryz.func83,Tryz.ntmps83;go_wp2_with first
  | (go_at_call 42; go_must (refine k.mono ?_); rintro e G ⟨H,rfl,l,u⟩; clear k)
  | (go_at_call 118; go_must (refine l9.mono ?_); rintro e I ⟨rfl,k1,k2,o⟩)
 go_ret;exact⟨_,_,rfl,rX q.out.blk r.out l u k1 k2 o (Nat.le_refl _),s.out f t,aj l o⟩
end
end Kv
namespace Fo
open Go.RowKit Go.Lib Pg Lim Gl Kv Bk Pw
section
variable {w W0:World}{g:Nat}{v:Value}{a:Act}{l:List Int}{xs:Nat → Nat}{Wn:List aD}
attribute [local go_sem] Oper.semAt_some
set_option linter.unusedVariables false
set_option linter.unusedSimpArgs false
def ArK(cs:List (Int × Int × Int))(i:Nat)(args:Array Value)(_:Nat)(_:World):Prop:=∃ c,cs[i]? = some c/\args=#[.int .u64 c.1,.agg #[.int .u64 c.2.1,.int .u64 c.2.2]]
def oD(E:aD)(id fr la:Int):aD:=E.filter (l8 (Ky.nxt (Ky.mk 8 id fr)) (Ky.nxt (Ky.mk 8 id la)))
def dj(E:aD)(id fr la:Int):List (Int × Int × Int):=(oD E id fr la).map (fun x=>(Ky.rdB x.1,cX x.2 0,cX x.2 1))
theorem pC(h:Blk w g [v] 22):(loadVar 22 ⟨g,0,none⟩).run Tryz.prog w=.ok v w:=by
 have:=h.cell (i:=0) rfl;go_simp
theorem Dz{c:Code}{Q:Exit->Act->World->Prop}(h:c.wp Tryz.prog (Exit.then (fun a' w'=>Q .normal a' w') (fun _ _ _=>False)) a w):c.wp Tryz.prog Q a w :=
 Code.wp_mono (fun e a' w' h=>by
  cases e<;>first
   | exact h
   | exact h.elim) h
theorem rg_end{Q:Exit->Act->World->Prop}(h:Q .normal a w):Exit.then (fun a' w'=>Q .normal a' w') (fun _ _ _=>False) .normal a w:=h
theorem DT(h:ByU w v l)(a:l.length<=1000000000):Calls Tryz.prog 82 #[v] w fun e w'=>∃ u,e=.returned u/\By w' u (Ky.nxt l)/\Below w.heap.size w w':=by
 obtain⟨b,d,c,rfl,f⟩:=bya h.byt;refine(Ky.ni h.byt a).mono ?_
 rintro e w' ⟨v,rfl,O,B⟩;exact⟨v,rfl,O.by,B⟩
theorem Ab(l:List Int):(Ky.nxt l).length<=l.length:=by
 unfold Ky.nxt;split
 ·simp
 ·rename_i c cs e
  have a:(l.reverse.dropWhile (· == 255)).length<=l.length:=Nat.le_trans (List.IsSuffix.length_le (List.dropWhile_suffix _)) (by rw[List.length_reverse]; exact Nat.le_refl _);rw[e] at a;simp at a ⊢;omega
theorem zg{K D X:Nat → Prop}{bs bi bm bl x0 N:Nat}{E:aD}{id fr la:Int}(hS : SA W0 K D g E Wn x0 N)(hbs : Blk W0 bs [.pointer (some ⟨g, 0, none⟩)] 37)(hbi : Blk W0 bi [.int .u64 id] 22)(hbm : Blk W0 bm [.int .u64 fr] 22)(hbl : Blk W0 bl [.int .u64 la] 22)(hXs : ¬ X bs)(hXi : ¬ X bi)(hXm : ¬ X bm)(hXb : ¬ X bl)(hX1 : ∀ b, X b → b = g ∨ ¬ K b)(hXl : ∀ b, X b → b < W0.heap.size)(hid : 0 ≤ id ∧ id < 18446744073709551616)(hN : N ≤ 100000000)(hx : x0 ≤ 2000000000000000000)(hxs : ∀ i, i < N → xs i ≤ 3000000000000000000)(hRk : ∀ x ∈ oD E id fr la, Ky.frm (8 : Nat) = Ky.fIn x.1) :
    D8 W0 TpN g x0 xs 81 #[.pointer (some ⟨bi, 0, none⟩), .pointer (some ⟨bm, 0, none⟩), .pointer (some ⟨bl, 0, none⟩), .pointer (some ⟨bs, 0, none⟩)] (dj E id fr la).length (ArK (dj E id fr la)) (RdS W0 X K D g E Wn N) := by
  intro l J0 J Jt Jx W aa hW0 ab ac hSt ad af C hJ hY h0;obtain⟨_, _, ⟨c0, u0, xx, s0⟩, _⟩:= C _ h0;have O := ae W (.cells #[.func (.yield l) #[] #[]] 149);have Y1 := aC W [.func (.yield l) #[] #[]] 149
  have s1 : (W.alloc (.cells #[.func (.yield l) #[] #[]] 149)).heap.size = W.heap.size + 1 := by simp
  obtain⟨Wa, hWa⟩ : ∃ Wa, Hid (W.alloc (.cells #[.func (.yield l) #[] #[]] 149) = Wa) := ⟨_, rfl⟩;rw[hWa.out] at O Y1 s1;have bsW := hbs.chg c0 hXs
  have hK0 : ∀ b, K b → b < W0.heap.size := fun b hb => hS.lt hb
  have HX' : Hid (∀ b, (X b ∨ (W0.heap.size ≤ b ∧ b < W.heap.size)) → b = g ∨ ¬ K b) := aB (fun b hb => hb.elim (hX1 b) (fun h => .inr (fun hk => by have := hK0 b hk; omega)))
  have HXl : Hid (∀ b, (X b ∨ (W0.heap.size ≤ b ∧ b < W.heap.size)) → b < W.heap.size) := aB (fun b hb => hb.elim (fun h => Nat.lt_of_lt_of_le (hXl b h) hW0) (fun h => h.2))
  have HXU : Hid (∀ b, (X b ∨ (W0.heap.size ≤ b ∧ b < W.heap.size)) → ∀ cs, ¬ Blk W b cs 5) := aB (fun b hb => hb.elim (u0 b) (fun h => aa b h.1))
  have S0 : (fun j => Blk j bi [.int .u64 id] 22 ∧ Blk j bm [.int .u64 fr] 22 ∧ Blk j bl [.int .u64 la] 22) Wa.drew := ⟨((hbi.chg c0 hXi).keep O).drew, ((hbm.chg c0 hXm).keep O).drew, ((hbl.chg c0 hXb).keep O).drew⟩;have HY := aB hY;have HJ := aB hJ;have HJ0 := aB C;have H0 := aB h0;have HS := aB s0;have v := aB c0;have HB1 := aB O;have HY1 := aB Y1;have HBS := aB bsW;have d := aB S0;clear C hJ hY h0 s0 c0 O Y1 bsW aa u0 S0 hbs hbi hbm hbl;refine(callsIn_wide (n := 0)).1 ?_
  refine callsIn_of_wp_marks Tryz.func81 rfl trivial ?_ rfl;simp only[Tryz.ntmps81, List.size_toArray, List.length_cons, List.length_nil, Nat.reduceAdd, Nat.reduceSub, Array.replicate_succ, Array.replicate_zero, List.push_toArray, List.append_toArray, List.nil_append, List.cons_append];gi_wp2_with fail;rw[hWa.out];refine wpIn_wide.2 ?_
  refine Dz ?_
  refine bT (S := fun j => Blk j bi [.int .u64 id] 22 ∧ Blk j bm [.int .u64 fr] 22 ∧ Blk j bl [.int .u64 la] 22) (by kernel_rfl) d.out ?_
  refine aO 0 (some 14) (.int .u64 id) 22 1 bi 0 (by kernel_rfl) (by kernel_rfl) (by kernel_rfl) (fun j h => pC h.1) (fun _ _ _ h => h) d.out ?_
  refine aO 1 (some 15) (.int .u64 fr) 22 2 bm 0 (by kernel_rfl) (by kernel_rfl) (by kernel_rfl) (fun j h => pC h.2.1) (fun _ _ _ h => h) d.out ?_
  refine aO 4 (some 18) (.int .u64 id) 22 1 bi 0 (by kernel_rfl) (by kernel_rfl) (by kernel_rfl) (fun j h => pC h.1) (fun _ _ _ h => h) d.out ?_
  refine aO 5 (some 19) (.int .u64 la) 22 3 bl 0 (by kernel_rfl) (by kernel_rfl) (by kernel_rfl) (fun j h => pC h.2.2) (fun _ _ _ h => h) d.out ?_
  refine bN 2 (some 16) 65 #[.int .i64 8, .int .u64 id, .int .u64 fr] (by kernel_rfl) (by kernel_rfl) (vV hid (by decide)) ?_
  rintro _ w1 ⟨k1, rfl, U1, P⟩;have T1 := (⟨d.out.1.keep P, d.out.2.1.keep P, d.out.2.2.keep P⟩ : Blk w1 bi [.int .u64 id] 22 ∧ Blk w1 bm [.int .u64 fr] 22 ∧ Blk w1 bl [.int .u64 la] 22);refine⟨_, rfl, T1, ?_⟩;refine bN 3 (some 17) 82 #[k1] (by kernel_rfl) (by kernel_rfl) (DT U1 (Nat.le_trans (Ky.jT _ _ _) (by decide))) ?_
  rintro _ w2 ⟨f1, rfl, F1, Q⟩;have T2 := (⟨T1.1.keep Q, T1.2.1.keep Q, T1.2.2.keep Q⟩ : Blk w2 bi [.int .u64 id] 22 ∧ Blk w2 bm [.int .u64 fr] 22 ∧ Blk w2 bl [.int .u64 la] 22);refine⟨_, rfl, T2, ?_⟩;refine bN 6 (some 20) 65 #[.int .i64 8, .int .u64 id, .int .u64 la] (by kernel_rfl) (by kernel_rfl) (vV hid (by decide)) ?_
  rintro _ w3 ⟨k2, rfl, U2, F⟩;have T3 := (⟨T2.1.keep F, T2.2.1.keep F, T2.2.2.keep F⟩ : Blk w3 bi [.int .u64 id] 22 ∧ Blk w3 bm [.int .u64 fr] 22 ∧ Blk w3 bl [.int .u64 la] 22);refine⟨_, rfl, T3, ?_⟩;refine bN 7 (some 21) 82 #[k2] (by kernel_rfl) (by kernel_rfl) (DT U2 (Nat.le_trans (Ky.jT _ _ _) (by decide))) ?_
  rintro _ w4 ⟨f2, rfl, F2, G⟩;have T4 := (⟨T3.1.keep G, T3.2.1.keep G, T3.2.2.keep G⟩ : Blk w4 bi [.int .u64 id] 22 ∧ Blk w4 bm [.int .u64 fr] 22 ∧ Blk w4 bl [.int .u64 la] 22);refine⟨_, rfl, T4, ?_⟩;refine ai 8 (some 6) f1 (by kernel_rfl) (fun _ _ => by kernel_rfl) (fun _ _ _ h => h) T4 ?_
  refine ai 9 (some 7) f2 (by kernel_rfl) (fun _ _ => by kernel_rfl) (fun _ _ _ h => h) T4 ?_
  refine bF (by kernel_rfl) (rg_end ?_);simp only[Act.put, List.setIfInBounds_toArray, List.set_cons_zero, List.set_cons_succ];have R := aj (aj (aj (aj (aj HB1.out (bV Wa)) P) Q) F) G
  have F1' := (F1.keep F).keep G;obtain⟨fa, fc, hf1⟩ : ∃ H c, f1 = .slice H (Ky.nxt (Ky.mk 8 id fr)).length c := by obtain⟨H, c, e, _⟩:= F1.ex; exact⟨H, c, e⟩
  obtain⟨ta, tc, hf2⟩ : ∃ H c, f2 = .slice H (Ky.nxt (Ky.mk 8 id la)).length c := by obtain⟨H, c, e, _⟩:= F2.ex; exact⟨H, c, e⟩
  have cB := (HBS.out.keep R).cell (i := 0) rfl;have tP := swalkH (Tp := TpN) (X := fun b => X b ∨ (W0.heap.size ≤ b ∧ b < W.heap.size)) (HS.out.keep R) hN F1' F2 (Nat.le_trans (Ab _) (Nat.le_trans (Ky.jT _ _ _) (by decide))) (Nat.le_trans (Ab _) (Nat.le_trans (Ky.jT _ _ _) (by decide))) HX'.out (fun b hb cs k => HXU.out b hb cs ⟨by rw[← R.block b (HXl.out b hb)]; exact k.blk⟩) (fun b hb => Nat.lt_of_lt_of_le (HXl.out b hb) R.size) (fun h => h) (fun h => h);have m := aB R;have I := aB (aj (aj (aj (aj (bV Wa) P) Q) F) G);clear T1 T2 T3 T4 U1 U2 F1 F2 F1' P Q F G R;obtain⟨fn, hfn⟩ : ∃ n, Hid ((Ky.nxt (Ky.mk 8 id fr)).length = n) := ⟨_, rfl⟩;obtain⟨tn, htn⟩ : ∃ n, Hid ((Ky.nxt (Ky.mk 8 id la)).length = n) := ⟨_, rfl⟩;rw[hfn.out] at hf1;rw[htn.out] at hf2;subst hf1 hf2;gi_wp2_with (refine⟨trivial, rfl, ?_⟩; gi_at_call 83; refine(callsIn_wide.2 tP).mono ?_; rintro e' t ⟨v5, T, rfl, IG, f, u⟩);obtain⟨bs1, bs2, bw, W1, rfl, IT, hRd, hb1, o⟩:= IG.ex;have hsm := IG.small;clear tP IG;have U := aj m.out u
  have hw1 : W.heap.size + 1 ≤ w4.heap.size := by have := I.out.size; omega
  have hw2 : W.heap.size + 1 ≤ t.heap.size := Nat.le_trans hw1 u.size;have YB := (HY1.out.keep I.out).keep u
  have hlen : (dj E id fr la).length = T.length := by simp[dj, oD, ← f]
  have hle : T.length ≤ N := by
    have Y := HS.out.size
    have h2 : (T.map En.kl2).length ≤ E.length := by rw[f]; exact List.length_filter_le _ _
    rw[List.length_map] at h2;omega
  have ITC := nh (g := g) (bs1 := bs1) (bs2 := bs2) (x0 := x0) (xs := xs) IT (fun h => h) (by omega) (fun i hi => hxs i (by omega))
  have HRK : Hid (∀ e ∈ T, Ky.frm 8 = Ky.fIn e.kl) := aB (fun e he => hRk e.kl2 (by show _ ∈ E.filter _; rw[← f]; exact List.mem_map_of_mem he))
  have HCL : Hid (∀ (i : Nat) (e : En), T[i]? = some e → (dj E id fr la)[i]? = some (Ky.rdB e.kl, cX e.vl 0, cX e.vl 1)) := aB (fun i e he => by
    have Y : dj E id fr la = (T.map En.kl2).map (fun x => (Ky.rdB x.1, cX x.2 0, cX x.2 1)) := by rw[f]; rfl
    rw[Y, List.getElem?_map, List.getElem?_map, he];rfl)
  have J2 := ab _ _ H0.out (Rec.of U)
  have E2 : Ext W.heap.size t t := ⟨fun _ _ _ => rfl, Nat.le_refl _⟩
  have RDC : Hid (∀ V, RdS W0 X K D g E Wn N V → Ext W.heap.size t V → RdC (fun b => X b ∨ (W0.heap.size ≤ b ∧ b < W.heap.size)) W1 g bs1 bs2 bw V) := aB (fun V hR Z => by
    obtain⟨c1, _, x, s1⟩:= hR;obtain⟨r1, r2, r3, _⟩:= hRd;refine⟨⟨?_, ?_, ?_, Nat.le_trans r1.size Z.2, fun b hb hn => ?_⟩, Z.blk r2 (by omega), Z.blk r3 (by omega), s1.kv⟩
    · rw[c1.os, ← v.out.os, ← U.os, r1.os]
    · rw[c1.tape, ← v.out.tape, ← U.tape, r1.tape]
    · rw[c1.output, ← v.out.output, ← U.output, r1.output]
    · rw[← r1.same b hb hn]
      rw[not_or] at hn;rcases Nat.lt_or_ge b W0.heap.size with Y | Y
      · rw[c1.same b Y hn.1, U.block b (by omega), v.out.same b Y hn.1]
      · exact Z.1 b (by omega) (Nat.lt_of_lt_of_le hb r1.size))
  have HEL := aB f;have HSM := aB hsm;have HYB := aB YB;clear f hsm YB u hRd cB IT U HB1 HY1 m I;refine kF ITC (by rfl) (enters_of Tryz.func169 (by kernel_rfl) rfl) (fun i args n V V' h hc => h.cel hc) (fun i args n V h => by obtain⟨e, kv, vv, s, _, rfl, _⟩:= h; rfl)
    (fun V => J0 V ∧ Ext W.heap.size t V)
    (fun i V => J i V ∧ Ext W.heap.size t V)
    (fun i V => Jt i V ∧ Ext W.heap.size t V)
    (fun c i V => c = .ret ∧ Jx i V ∧ t.heap.size ≤ V.heap.size)
    (fun A B hx p => ⟨ab A B hx.1 (p.mono (by omega)), hx.2.rcd p⟩)
    (fun i A B hx p => ⟨ac i A B hx.1 (p.mono (by omega)), hx.2.rcd p⟩)
    (fun i A B hx p => ⟨hSt i A B hx.1 (p.mono (by omega)), hx.2.rcd p⟩)
    (fun c i A B hx p => ⟨hx.1, ad i A B hx.2.1 (p.mono (by omega)), Nat.le_trans hx.2.2 p.size⟩)
    (by omega)
    (fun V L => by obtain⟨q1, q2, q3, q4⟩:= HJ0.out V L.1; exact⟨q1, q2, RDC.out V q3 L.2, q4, L.2.tick af⟩)
    (fun i V L => by obtain⟨q1, q2, q3, q4⟩:= HJ.out i V L.1; exact⟨q1, q2, RDC.out V q3 L.2, fun hi => ⟨q4 (by omega), L.2.tick af⟩⟩)
    ⟨J2, E2⟩ ?_ ?_ ?_
  · rintro l2 i args V Wv hl hlV hrec hiN ⟨hJi, hExt⟩ hb ⟨e0, kv, vv, s0, w, rfl, hk0, hv0, _⟩
    obtain⟨ak0, nk, hk1⟩:= hk0.shape;obtain⟨av, nv, hv1⟩:= hv0.shape;subst hk1 hv1;simp;gi_wp2;refine⟨Below.refl _ _, ?_⟩;intro V2 W2 hJ2 a o hAr2 hoth hsz3 hV2 rl hrec2;obtain⟨e1, kv1, vv1, t1, M, z, q, hv2, ht1⟩:= hAr2;obtain rfl : e1 = e0 := by rw[w] at M; cases M; rfl
    simp at z;obtain⟨rfl, rfl⟩:= z;have y := List.mem_of_getElem? w;have tA := Ky.yL q.by (HSM.out e1 y).1 (r := 8) (by decide) (by decide) (HRK.out e1 y)
    have hN2 := aB (fun w3 (u : Below W2.heap.size W2 w3) => cut_rd (ByU.of (hv2.keep u)) (HSM.out e1 y).2);have yB := a.blk HYB.out (Nat.le_refl _);have HE2 := aB a;have HJT := aB hJ2;have m := aB o
    have hs2 : t.heap.size ≤ V2.heap.size := a.2
    have hs3 : V2.heap.size ≤ W2.heap.size := o.size;have HYV := aB (yB.keep o)
    have HAr : Hid ((dj E id fr la)[i]? = some (Ky.rdB e1.kl, cX e1.vl 0, cX e1.vl 1)) := aB (HCL.out i e1 w);clear hJi hExt hb hk0 hv0 q hv2 hoth a hJ2 o yB M w ht1 y;obtain⟨cc, hcc⟩ : ∃ cc, Hid (Ky.rdA 8 e1.kl = cc) := ⟨_, rfl⟩;obtain⟨ss, hss⟩ : ∃ ss, Hid (Ky.rdB e1.kl = ss) := ⟨_, rfl⟩;obtain⟨na, hna⟩ : ∃ nn, Hid (cX e1.vl 0 = nn) := ⟨_, rfl⟩;obtain⟨nb, hnb⟩ : ∃ nn, Hid (cX e1.vl 1 = nn) := ⟨_, rfl⟩;obtain⟨oo, hoo⟩ : ∃ oo, Hid (Rc.iE (Rc.kL e1.vl) = oo) := ⟨_, rfl⟩;simp only[hcc.out, hss.out] at tA;simp only[hss.out, hna.out, hnb.out] at HAr;have HY2 := aB (HY.out i #[.int .u64 ss, .agg #[.int .u64 na, .int .u64 nb]] V2);gi_wp2_with first
      | (refine⟨trivial, rfl, ?_⟩; gi_at_call 84; refine(CallsIn.inRound l2 (callsIn_wide.2 tA)).mono ?_; rintro e' w6 ⟨rfl, u⟩; clear tA; have B4 := ae w6 (.cells #[.int .i64 (8 : Int), .int .u64 cc, .int .u64 ss] 151); have k4 := aC w6 [.int .i64 (8 : Int), .int .u64 cc, .int .u64 ss] 151; have tN := hN2.out _ (aj u B4); rw[hna.out, hnb.out, hoo.out] at tN)
      | (refine⟨trivial, rfl, ?_⟩; gi_at_call 85; refine(CallsIn.inRound l2 (callsIn_wide.2 tN)).mono ?_; rintro e' w8 ⟨rfl, B5⟩; clear tN; have B7 := ae w8 (.cells #[.int .u64 na, .int .u64 nb] 111); have B6 := aj (aj (aj u B4) B5) B7; have kC := ((k4.keep B5).keep B7).cell (i := 2) rfl; have yC := (HYV.out.keep B6).cell (i := 0) rfl; have hYY := HY2.out _ (by omega) HJT.out (by omega) (aj m.out B6) ⟨_, HAr.out, rfl⟩; obtain⟨fn, tmps, assign, body, hy, hR⟩:= hYY; have hR2 : RoundIn (Fence.wide.inRound l2) 0 Tryz.prog l fn tmps assign body (w8.alloc (.cells #[.int .u64 na, .int .u64 nb] 111)) _ := ⟨hR.1, fun c cs _ => hR.2 c cs (fun _ h => by cases h)⟩; have HR := aB hR2; have HK := aB B6; clear hR hR2 u B4 B5 B6 B7 k4)
    refine⟨rfl, HR.out.mono ?_⟩;rintro e' w9 ⟨hk5, h5⟩
    have hkk : bj TpN W.heap.size W2 w9 := (bj.of HK.out).trans hk5;have hE5 := (HE2.out.keep m.out).keepsT hkk
    have q : bj TpN t.heap.size W2 w9 := hkk.mono (by omega);rcases h5 with⟨rfl, hJ5⟩ | ⟨rfl, hJ5⟩
    · gi_wp2
      exact⟨q, hJ5, hE5⟩
    · gi_wp2
      exact⟨q, rfl, hJ5, hE5.2⟩
  · rintro D' W' hD hK ⟨hJn, Z⟩
    gi_wp2;refine⟨by simp, .inl ⟨_, _, rfl, run_takeDeferred hK, ?_⟩⟩;have := Z.2;exact⟨_, results_none rfl _ _ _, ⟨_, rfl⟩, by simp; omega, .inl (by rw[hlen]; exact ac _ _ _ hJn (Rec.put hK rfl (by omega) _))⟩
  · rintro D' c i W' hD hK hiN ⟨rfl, hJx', hsz⟩
    gi_wp2;refine⟨by simp, .inl ⟨_, _, rfl, run_takeDeferred hK, ?_⟩⟩;exact⟨_, results_none rfl _ _ _, ⟨_, rfl⟩, by simp; omega, .inr ⟨i, by omega, ad (i + 1) _ _ hJx' (Rec.put hK rfl (by omega) _)⟩⟩
end
end Fo
end
section
namespace Fo
open Go.RowKit Go.Lib Pg Lim Gl Kv Bk Pw
section
variable {w:World}{k a:Int}
attribute [local go_sem] Oper.semAt_some
set_option linter.unusedVariables false
set_option linter.unusedSimpArgs false
theorem und_k(c:0<=a/\a < 18446744073709551616)(b:16 < (Ky.frm k).1):Calls Tryz.prog 120 #[.int .i64 k,.int .u64 a] w fun e w'=>∃ v,e=.returned (.tuple #[v,.int .i64 0])/\By w' v (Ky.mkb (Ky.frm k) (Ky.tn k a))/\Below w.heap.size w w':=by
 have u:=Ky.wM (w:=w) (k:=k) c.1 c.2;rw[if_pos b,if_pos b] at u;refine u.mono ?_
 rintro e w' ⟨v,rfl,O,B⟩;exact⟨v,rfl,O.by,B⟩
theorem xM(f:0<=a/\a < 18446744073709551616)(d:16 < (Ky.frm k).1):Calls Tryz.prog 74 #[.int .i64 k,.int .u64 a] w fun e w'=>∃ v,e=.returned v/\By w' v (Ky.mkb (Ky.frm k) (Ky.tn k a))/\Below w.heap.size w w':=by
 have b:=Below.refl w.heap.size w;refine aM (n:=14) Tryz.func74 rfl (by kernel_rfl) (by kernel_rfl) ?_
 refine ax (aA (t 4 (.slice none 0 0) ?_));refine ay (ah (ax (aA (t 8 (.int .i64 k) ?_))));refine t 9 (.int .u64 a) ?_
 refine tc 10 120 #[.int .i64 k,.int .u64 a] (und_k f d) ?_
 rintro _ v1 ⟨v,rfl,c,B⟩;refine⟨_,rfl,?_⟩;replace b:=aj b B;clear B;refine t 7 (.tuple #[v,.int .i64 0]) ?_
 refine t 11 (v) ?_
 refine t 12 (.int .i64 0) ?_
 refine t 5 (v) ?_
 refine t 6 (.int .i64 0) ?_
 refine ay (ah (ax (aA (t 13 (v) ?_))));refine t 4 (v) ?_
 refine ay (ah (aT [(4,v)] (by kernel_rfl) ?_));refine aP (aQ (v) (rs1 4 (by kernel_rfl) (by kernel_rfl)) ?_);exact⟨_,rfl,c,b⟩
def gS(E:aD)(k a:Int):Nat:=(E.filter (fun x=>decide (Ky.mkb (Ky.frm k) (Ky.tn k a) <+: x.1))).length
structure ko(Wb:World)(t:Nat)(K D:Nat->Prop)(g:Nat)(E:aD)(Wn:List aD)(N x i:Nat)(V:World):Prop where
 chg:Chg (fun b=>b=g\/b=t) Wb V
 sa:SA V K D g E Wn x N
 out:Blk V t [.int .i64 (i:Int)] 3
end
section
variable {Wb V V':World} {t g x i N:Nat} {K D:Nat->Prop} {E:aD} {Wn:List aD}
theorem qG {B:Nat} (h:SA V K D g E Wn x N) (a:Rec B V V'):SA V' K D g E Wn x N :=
 h.same (fun b d=>by obtain⟨cs,t,k,_⟩:=h.kind b d; exact(a.same b _ k.blk (.inr rfl)).trans k.blk.symm) (fun b _ _ c=>by obtain⟨cs,k⟩:=c; exact(a.same b _ k.blk (.inr rfl)).trans k.blk.symm)
theorem ko.rcd (h:ko Wb t K D g E Wn N x i V) (hr:Rec Wb.heap.size V V'):ko Wb t K D g E Wn N x i V':=⟨jx h.chg hr (Nat.le_refl _),qG h.sa hr,eF h.out hr⟩
theorem ko.ne (h:ko Wb t K D g E Wn N x i V):t≠g:=fun e=>by
 obtain⟨cs,k⟩:=h.sa.kv;subst e;exact absurd (h.out.eq k).2 (by decide)
theorem ko.tick (h:ko Wb t K D g E Wn N x i V):ko Wb t K D g E Wn N (x + 1) i (tick g V x) :=
 ⟨h.chg.trans (dR g x V) (fun b _ e=>.inl e),h.sa.tick,h.out.chg (dR g x V) h.ne⟩
end
section
variable {w:World}{K:Nat->Prop}{D:Nat → Prop}{g N:Nat}{E:aD}{Wn W:List aD}{k a:Int}
theorem wN{K:Nat → Prop}{x0:Nat}(hS : SA w K D g E Wn x0 N)(ha : 0 ≤ a ∧ a < 18446744073709551616)(hk : 16 < (Ky.frm k).1)(hN : N ≤ 100000000)(hx : x0 + N ≤ 2000000000000000000) :
    Calls Tryz.prog 40 #[pg g, .int .i64 k, .int .u64 a] w fun e w' => ∃ j, e = .returned (.int .i64 ((j : Nat) : Int)) ∧ j = gS E k a ∧ SA w' K D g E Wn (x0 + 1 + j) N ∧ Chg (· = g) w w' := by
  have hglt : g < w.heap.size := hS.lt hS.top;have U := ae w (.cells #[.int .i64 0] 3);have m := aC w [.int .i64 0] 3;obtain⟨Wa, p⟩ : ∃ Wa, Hid (w.alloc (.cells #[.int .i64 0] 3) = Wa) := ⟨_, rfl⟩
  have zA : Wa.heap.size = w.heap.size + 1 := by rw[← p.out]; simp
  rw[p.out] at U m;have t := hS.keep U;have HS := aB hS;have HB := aB U;have HT := aB m;have HSB := aB t;clear hS U m t;refine(callsIn_wide (n := 0)).1 ?_
  refine callsIn_of_wp_marks Tryz.func40 rfl trivial ?_ rfl;simp only[Tryz.ntmps40, List.size_toArray, List.length_cons, List.length_nil, Nat.reduceAdd, Nat.reduceSub, Array.replicate_succ, Array.replicate_zero, List.push_toArray, List.append_toArray, List.nil_append, List.cons_append];gi_wp2_with (refine⟨trivial, rfl, ?_⟩; gi_at_call 74; rw[p.out]; refine(callsIn_wide.2 (xM ha hk)).mono ?_; rintro W w1 ⟨u, rfl, U1, G⟩);have Y := HSB.out.keep G;have m := HT.out.keep G;have zB1 := G.size
  have H : ∀ b, K b → b < w.heap.size := fun b hb => HS.out.lt hb
  have hgt : w.heap.size ≠ g := by omega
  have up := ri (Tp := fun _ => False) (X := fun b => b = g ∨ b = w.heap.size) Y hN U1 (Nat.le_trans (Ky.ly _ _) (by decide)) (fun b hb => hb.elim .inl (fun e => .inr (fun hk => by have := H b hk; omega))) (fun b hb cs q => by
    rcases hb with rfl | rfl
    · obtain⟨I, J⟩:= Y.kv
      exact absurd (q.eq J).2 (by decide)
    · exact absurd (q.eq m).2 (by decide)) (fun b hb => by rcases hb with h | h <;> omega) (fun h => h) (fun h => h)
  have HS1 := aB Y;have HT1 := aB m;have HB1 := aB G;have HU := aB up;clear up Y m G U1;gi_wp2_with (refine⟨trivial, rfl, ?_⟩; gi_at_call 73; refine(callsIn_wide.2 HU.out).mono ?_; rintro W z ⟨pv, EL, rfl, IG, hEL, L⟩);obtain⟨bs1, bs2, bw, W1, rfl, IT, d, hb1, f⟩:= IG.ex
  have M : EL.length = gS E k a := by have := congrArg List.length hEL; rw[List.length_map] at this; exact this
  have hlN : EL.length ≤ N := by rw[M]; exact Nat.le_trans (List.length_filter_le _ _) HS.out.size
  have t := HS1.out.keep L;have TB := HT1.out.keep L;have zB2 := L.size
  have n1 : bs1 ≠ g := fun e => by obtain⟨I, J⟩:= t.kv; subst e; exact absurd (d.2.1.eq J).2 (by decide)
  have n2 : bs2 ≠ g := fun e => by obtain⟨I, J⟩:= t.kv; subst e; exact absurd (d.2.2.1.eq J).2 (by decide)
  have RD : ∀ V x i, ko z w.heap.size K D g E Wn N x i V → V.cell? ⟨g, 2, none⟩ = some (.int .i64 (x : Int)) ∧ V.frozen? ⟨g, 2, none⟩ = false ∧ RdC (fun b => b = g ∨ b = w.heap.size) W1 g bs1 bs2 bw V := fun V x i h => by
    have q := h.sa.cnt;exact⟨q.1, q.2, d.1.trans h.chg (fun _ _ e => e), d.2.1.chg h.chg (fun e => e.elim n1 (fun e => by omega)), d.2.2.1.chg h.chg (fun e => e.elim n2 (fun e => by omega)), h.sa.kv⟩
  have I0 : ko z w.heap.size K D g E Wn N x0 0 z := ⟨Chg.refl _ _, t, TB⟩;have HI := aB I0;have HB2 := aB L;have HIT := aB (nh (g := g) (bs1 := bs1) (bs2 := bs2) (x0 := x0) (xs := fun i => x0 + 1 + i) IT (fun h => h) (by omega) (fun i hi => by show x0 + 1 + i ≤ _; omega));clear I0 t TB L IT IG d;gi_wp2;refine kF HIT.out (by rfl) (enters_of Tryz.func169 (by kernel_rfl) rfl) (fun i args n V V' h hc => h.cel hc) (fun i args n V h => by obtain⟨e, kv, vv, s, _, rfl, _⟩:= h; rfl)
    (fun V => ko z w.heap.size K D g E Wn N x0 0 V)
    (fun i V => ko z w.heap.size K D g E Wn N (x0 + 1 + i) i V)
    (fun i V => ko z w.heap.size K D g E Wn N (x0 + 1 + i + 1) i V)
    (fun c i V => False)
    (fun A B hx C => hx.rcd C) (fun i A B hx C => hx.rcd C) (fun i A B hx C => hx.rcd C) (fun c i A B hx C => hx) (by omega)
    (fun V O => by obtain⟨q1, q2, q3⟩:= RD V _ _ O; exact⟨q1, q2, q3, O.tick⟩)
    (fun i V O => by obtain⟨q1, q2, q3⟩:= RD V _ _ O; exact⟨q1, q2, q3, fun _ => O.tick⟩)
    HI.out ?_ ?_ ?_
  · rintro l2 i args V Wv hl hlV hrec hiN P hb ⟨e0, kv, vv, s0, he0, rfl, hk0, hv0, _⟩
    simp;gi_wp2;refine⟨Below.refl _ _, ?_⟩;intro V2 W2 l f Q R hsz3 hV2 r hrec2;have Z := l.out.keep f;have c0 := Z.cell (i := 0) rfl;have f0 := Z.free 0;have v := aB l;have hws := l.chg.size;have z2 := f.size
    have HC : Chg (· = w.heap.size) W2 (W2.setCell ⟨w.heap.size, 0, none⟩ (.int .i64 ((i : Int) + 1))) := (Chg.refl (fun x => x = w.heap.size) W2).cell (.inl (by rfl)) _;have S6 := Z.setCell (i := 0) (.int .i64 ((i : Int) + 1));have y := aB f;have hcc := aB HC;have hs6 := aB S6;clear P hb R l Q f HC S6 Z hk0 hv0;gi_wp2;have hs := hcc.out;refine⟨⟨hs.size, fun k o hk h0 _ => (hs.same k (lt_of_block h0) (by omega)).trans h0⟩, ?_, ?_, ?_⟩
    · exact(v.out.chg.trans (Chg.of (F := fun _ => False) y.out) (fun _ _ h => h.elim)).trans hs (fun b _ h => .inr h)
    · rw[show x0 + 1 + (i + 1) = x0 + 1 + i + 1 by omega]
      exact(v.out.sa.keep y.out).chg hs (fun b e hk => by have W : b = w.heap.size := e; have := H b hk; omega) (fun b e cs kk => by
        have W : b = w.heap.size := e;subst W;exact absurd (kk.eq (v.out.out.keep y.out)).2 (by decide))
    · have q := hs6.out
      rw[show ((i + 1 : Nat) : Int) = (i : Int) + 1 by omega];exact q
  · rintro D' W' hD hK P
    have h1c := P.out.cell (i := 0) rfl;have R3 := Rec.put hK rfl hD (.deferred none);have S := P.rcd R3;have T := aB S;have HD := aB hD;clear S P;gi_wp2;refine⟨by simp, .inl ⟨_, _, rfl, run_takeDeferred hK, ?_⟩⟩;refine⟨_, results_tmp rfl _ _ _, gS E k a, rfl, rfl, by have q := T.out.sa; rw[M] at q; exact q, ?_⟩;have q1 := aj (aj HB.out HB1.out) HB2.out;exact(Chg.of (F := (· = g)) q1).trans T.out.chg (fun b hl e => e.elim id (fun e => by omega))
  · rintro D' c i W' hD hK hi h
    exact h.elim
theorem rv{B:Nat}{n:Nat}(h:Sx B w K g E W n N)(d:0<=a/\a < 18446744073709551616)(b:16 < (Ky.frm k).1)(c:N<=100000000)(hn:n + N<=2000000000000000000):Calls Tryz.prog 40 #[pg g,.int .i64 k,.int .u64 a] w fun e w'=>e=.returned (.int .i64 ((gS E k a:Nat):Int))/\Sx B w' K g E W (n + 1 + gS E k a) N/\gS E k a<=N/\Chg (· = g) w w':=by
 refine(wN h.sa d b c hn).mono ?_
 rintro e w' ⟨j,rfl,rfl,S,C⟩;exact⟨rfl,⟨S,Nat.le_trans h.lo C.size,h.kb⟩,Nat.le_trans (List.length_filter_le _ _) h.sa.size,C⟩
end
end Fo
end
section
namespace Fo
open Go.RowKit Go.Lib Pg Lim Gl Kv Bk Pw
attribute [local go_sem] Oper.semAt_some
set_option linter.unusedVariables false
set_option linter.unusedSimpArgs false
theorem KK:Kd Tryz.prog 135 96 1 24 (.slice none 0 0):=⟨by kernel_rfl,by kernel_rfl,rfl,by simp[Value.cells,Value.oneCell'],by decide⟩
structure KA (w:World) (B:Nat) (v:Value) (ks:List (Value × List Int)):Prop where
 ex:(v=.slice none 0 0/\ks=[])\/∃ b c,v=.slice (some ⟨b,0,none⟩) ks.length c/\B<=b/\Rw w 96 1 b ks.length c (ks.map (·.1))
 obs:∀ p∈ks,OB w (B <= ·) p.1 p.2
section
variable {w w':World} {B g x:Nat} {v:Value} {ks:List (Value × List Int)}
theorem KA.shape (h:KA w B v ks):∃ ao c,v=.slice ao ks.length c:=by
 rcases h.ex with⟨rfl,rfl⟩ | ⟨b,c,rfl,_⟩
 ·exact⟨none,0,rfl⟩
 ·exact⟨_,c,rfl⟩
theorem KA.nil (w:World) (B:Nat):KA w B (.slice none 0 0) []:=⟨.inl ⟨rfl,rfl⟩,fun _ h=>by cases h⟩
theorem KA.keep (h:KA w B v ks) (hb:Below w.heap.size w w'):KA w' B v ks:=⟨h.ex.imp id (fun⟨b,c,e,hl,hR⟩=>⟨b,c,e,hl,hR.keep hb⟩),fun p hp=>(h.obs p hp).keep hb⟩
theorem KA.rcd {C:Nat} (h:KA w B v ks) (hr:Rec C w w'):KA w' B v ks:=⟨h.ex.imp id (fun⟨b,c,e,hl,hR⟩=>⟨b,c,e,hl,Kv.Rw.rcd hR hr⟩),fun p hp=>Kv.OB.rcd (h.obs p hp) hr⟩
theorem KA.chg {F:Nat->Prop} (h:KA w B v ks) (hc:Chg F w w') (hF:∀ b,F b->b < B/\∀ cs,¬ Blk w b cs 5):KA w' B v ks :=
 ⟨h.ex.imp id (fun⟨b,c,e,f,d⟩=>⟨b,c,e,f,d.chg hc (fun hf=>by have:=(hF b hf).1; omega)⟩),fun p a=>(h.obs p a).chg hc (fun b hb cs=>(hF b hb).2 cs)⟩
theorem app_k {p:Value × List Int} {a:Addr} (h:KA w B v ks) (G:B<=w.heap.size) (H:ks.length<=2000000000) (F:OB w (B <= ·) p.1 p.2) (c0:w.cell? (a.add 0)=some p.1) :
  ∃ v' w',(Builtin.append_ #[135,135] 135 #[v,.slice (some a) 1 1]).run Tryz.prog w=.ok v' w'/\KA w' B v' (ks ++ [p])/\Chg (fun b=>B<=b/\∃ cs,Blk w b cs 96) w w':=by
 have d:∀ j u,[p.1][j]? = some u->w.cell? (a.add j)=some u:=fun j u n=>by
  match j with
  | 0=>simp at n; rw[<- n]; exact c0
  | k + 1=>simp at n
 have g:∀ b,(B<=b/\∃ cs,Blk w b cs 96)->∀ cs,¬ Blk w b cs 5:=fun b hb cs k=>by
  obtain⟨_,x,z⟩:=hb;exact absurd (k.eq z).2 (by decide)
 rcases h.ex with⟨rfl,rfl⟩ | ⟨b,c,rfl,hb,i⟩
 ·obtain⟨o,w',r,i,hw⟩:=fi (w:=w) KK 135 a 1 1 [p.1] rfl d (by omega) (by omega) (by omega);refine⟨_,w',r,⟨.inr ⟨_,o,rfl,G,by simpa using i⟩,fun q l => ?_⟩,Chg.of hw⟩;simp at l;subst l;exact F.keep hw
 ·obtain⟨A,o,w',r,s,t,hC⟩:=dz KK 135 i a 1 1 [p.1] rfl d (fun u hu=>by simp at hu; subst hu; obtain⟨D,E,e⟩:=F.shape; rw[e]; rfl) (by omega) (by omega)
  have f:Chg (fun b=>B<=b/\∃ cs,Blk w b cs 96) w w':=hC.mono (fun y _ e=>by have C:y=b:=e; subst C; exact⟨hb,i.kind⟩);refine⟨_,w',r,⟨.inr ⟨A,o,by simp,by rcases s with rfl | rfl<;>omega,by simpa using t⟩,fun q l => ?_⟩,f⟩;rcases List.mem_append.1 l with m | m
  ·exact(h.obs q m).chg f g
  ·simp at m;subst m;exact F.chg f g
end
section
variable {ops:Array Oper}{rest:List Oper}{pos:String}
def TpK(t:TypeId):Prop:=t=96
theorem AX{F:Fence}{n:Nat}{Q:Exit->Act->World->Prop}{after:Array Edge}{a:Act}{w w':World}{u v r:Value}(hF:∀ f,F.fn f)(hu:a.eval (.tmp 17)=u)(d:a.eval (.tmp 19)=v)(b:(Builtin.append_ #[135,135] 135 #[u,v]).run Tryz.prog w=.ok r w')(h:wpListIn F n Tryz.prog ops Q rest (a.put (some 20) r) w') :
  wpListIn F n Tryz.prog ops Q ({ dst:=some 20,op:=.call { callee:=.builtin .append,args:=#[.tmp 17,.tmp 19],argTypes:=#[135,135] },type:=135,pos:=pos,after:=after,guard:=none } :: rest) a w :=
 Ky.jP rfl hF (Oper.semAt_eq _ _ _ (fun c h=>by cases h)) (Ky.il (x:=17) (y:=19) rfl rfl hu d b) h
structure RmI(Wb:World)(t:Nat)(K D:Nat->Prop)(g:Nat)(E:aD)(Wn:List aD)(N x:Nat)(L:List (List Int))(V:World):Prop where
 chg:Chg (fun b=>b=g\/b=t) Wb V
 sa:SA V K D g E Wn x N
 out:∃ v ks,Blk V t [v] 135/\KA V Wb.heap.size v ks/\ks.map (·.2)=L
end
section
variable {Wb V V':World} {t g x N:Nat} {K D:Nat->Prop} {E:aD} {Wn:List aD} {L:List (List Int)}
theorem RmI.rcd (h:RmI Wb t K D g E Wn N x L V) (a:Rec Wb.heap.size V V'):RmI Wb t K D g E Wn N x L V':=by
 obtain⟨v,d,c,e,b⟩:=h.out;exact⟨jx h.chg a (Nat.le_refl _),qG h.sa a,v,d,eF c a,e.rcd a,b⟩
theorem RmI.tick (h:RmI Wb t K D g E Wn N x L V) (n:g < Wb.heap.size):RmI Wb t K D g E Wn N (x + 1) L (tick g V x):=by
 obtain⟨v,f,c,j,d⟩:=h.out;have hc:=dR g x V
 have a:t≠g:=fun e=>by
  obtain⟨cs,k⟩:=h.sa.kv;subst e;exact absurd (c.eq k).2 (by decide)
 refine⟨h.chg.trans hc (fun b _ e=>.inl e),h.sa.tick,v,f,c.chg hc a,j.chg hc (fun b e => ?_),d⟩
 have m:b=g:=e;subst m;refine⟨n,fun cs q => ?_⟩;obtain⟨l,i⟩:=h.sa.kv;exact absurd (q.eq i).2 (by decide)
end
section
variable {n B g N:Nat}{R:Ending->World->Prop}{w:World}{ρ:Operand->Value}{o:Oper}{v:Value}{ao:Option Addr}{K:Nat->Prop}{E:aD}{Wn W:List aD}{id:Int}
def mP(E:aD)(k a:Int):List (List Int):=(E.filter (fun x=>decide (Ky.mkb (Ky.frm k) (Ky.tn k a) <+: x.1))).map (·.1)
def nu(E:aD)(k a:Int):aD:=(mP E k a).foldl Kv.rem E
theorem BJ{l:Fr}{P:Program}{fn:Func}{D:Nat}(b:fn.results=#[])(d:w.heap[D]? = some (.deferred (some [])))(c:R (.returned (.tuple #[])) (w.putObj D (.deferred none))):GE n [{ target:=.collected D,args:=#[] }] (bodyPostM Fence.wide 0 P fn R) .normal l w:=⟨fun a r=>by
 obtain⟨tmps,dfs⟩:=a
 have e:dfs=[{ target:=.collected D,args:=#[] }]:=r.dfs;subst e;refine⟨by simp,.inl ⟨_,_,rfl,run_takeDeferred d,?_⟩⟩;exact⟨_,by simp[results,b],c⟩⟩
theorem Cp{b off:Nat}(hc:w.cell? ⟨b,off,none⟩=some v)(c:∃ p,o.op=.load 96 p/\ρ p=.pointer (some ⟨b,off,none⟩):=by exact⟨_,rfl,by kernel_rfl⟩):(execOp ρ o).run Tryz.prog w=.ok (.value v) w:=by
 obtain⟨p,h,a⟩:=c;have:=Kv.oK hc;simp only[execOp,h,a];simp[Instr.loadAt,Instr.sureAddr,Result.andThen,this]
theorem AY{P:Program}(a b off n c k:Nat)(f:k < n)(d:0 < n->ao=some ⟨b,off,none⟩)(e:∃ T x y,o.op=.indexAddr T x y/\slT P T a=true/\ρ x=.slice ao n c/\ρ y=.int .i64 (k:Int):=by exact⟨_,_,_,rfl,by kernel_rfl,by kernel_rfl,by kernel_rfl⟩):(execOp ρ o).run P w=.ok (.value (.pointer (some ⟨b,off + k * a,none⟩))) w:=by
 rw[d (by omega)] at e;exact vp a b off n c k f e
theorem rh{K:Nat → Prop}{x0:Nat}{k a:Int}(h : Sx B w K g E Wn x0 N)(ha : 0 ≤ a ∧ a < 18446744073709551616)(hk : 16 < (Ky.frm k).1)(hN : N ≤ 30000000)(hx : x0 + N ≤ 2000000000000000000) :
    Calls Tryz.prog 41 #[pg g, .int .i64 k, .int .u64 a] w fun e w' => ∃ K' n' N', e = .returned (.tuple #[]) ∧ Sx B w' K' g (nu E k a) Wn n' N' ∧ n' ≤ x0 + 1 + 2 * N ∧ N' ≤ 3 * N ∧ (∀ b, K' b → K b ∨ w.heap.size ≤ b) ∧ Chg K w w' := by
  obtain⟨D, hD0⟩ : ∃ D : Nat → Prop, D = (B ≤ ·) := ⟨_, rfl⟩
  have hS : SA w K D g E Wn x0 N := by rw[hD0]; exact h.sa
  have hlo := h.lo;have hkb := h.kb;clear h
  have hglt : g < w.heap.size := hS.lt hS.top;have A1 := ae w (.cells #[.slice none 0 0] 135);have T1 := aC w [.slice none 0 0] 135;obtain⟨Wa, hWa⟩ : ∃ Wa, Hid (w.alloc (.cells #[.slice none 0 0] 135) = Wa) := ⟨_, rfl⟩
  have zA : Wa.heap.size = w.heap.size + 1 := by rw[← hWa.out]; simp
  rw[hWa.out] at A1 T1;have SB := hS.keep A1;have HS := aB hS;have HB := aB A1;have HT := aB T1;have HSB := aB SB;clear hS A1 T1 SB;refine(callsIn_wide (n := 0)).1 ?_
  refine callsIn_of_wp_marks Tryz.func41 rfl trivial ?_ rfl;simp only[Tryz.ntmps41, List.size_toArray, List.length_cons, List.length_nil, Nat.reduceAdd, Nat.reduceSub, Array.replicate_succ, Array.replicate_zero, List.push_toArray, List.append_toArray, List.nil_append, List.cons_append];gi_wp2_with (refine⟨trivial, rfl, ?_⟩; gi_at_call 74; rw[hWa.out]; refine(callsIn_wide.2 (xM ha hk)).mono ?_; rintro e' w1 ⟨u, rfl, U1, B1⟩);have S1 := HSB.out.keep B1;have T1 := HT.out.keep B1;have zB1 := B1.size
  have G : ∀ b, K b → b < w.heap.size := fun b hb => HS.out.lt hb
  have up := ri (Tp := TpK) (X := fun b => b = g ∨ b = w.heap.size) S1 (by omega) U1 (Nat.le_trans (Ky.ly _ _) (by decide)) (fun b hb => hb.elim .inl (fun e => .inr (fun hk => by have := G b hk; omega))) (fun b hb cs q => by
    rcases hb with rfl | rfl
    · obtain⟨cs', k'⟩:= S1.kv
      exact absurd (q.eq k').2 (by decide)
    · exact absurd (q.eq T1).2 (by decide)) (fun b hb => by rcases hb with h | h <;> omega) (by unfold TpK; decide) (by unfold TpK; decide)
  have HS1 := aB S1;have HT1 := aB T1;have HB1 := aB B1;have HU := aB up;clear up S1 T1 B1 U1;gi_wp2_with (refine⟨trivial, rfl, ?_⟩; gi_at_call 73; refine(callsIn_wide.2 HU.out).mono ?_; rintro e' J ⟨pv, M, rfl, IG, hEL, B2⟩);obtain⟨bs1, bs2, bw, W1, rfl, IT, y, hb1, m⟩:= IG.ex
  have hlE : Hid (M.length = gS E k a) := by have := congrArg List.length hEL; rw[List.length_map] at this; exact this
  have hlN : M.length ≤ N := by rw[hlE.out]; exact Nat.le_trans (List.length_filter_le _ _) HS.out.size
  have SB := HS1.out.keep B2;have TB := HT1.out.keep B2;have zB2 := B2.size
  have n1 : bs1 ≠ g := fun e => by obtain⟨cs', k'⟩:= SB.kv; subst e; exact absurd (y.2.1.eq k').2 (by decide)
  have n2 : bs2 ≠ g := fun e => by obtain⟨cs', k'⟩:= SB.kv; subst e; exact absurd (y.2.2.1.eq k').2 (by decide)
  have RD : ∀ V x L, RmI J w.heap.size K D g E Wn N x L V → V.cell? ⟨g, 2, none⟩ = some (.int .i64 (x : Int)) ∧ V.frozen? ⟨g, 2, none⟩ = false ∧ RdC (fun b => b = g ∨ b = w.heap.size) W1 g bs1 bs2 bw V := fun V x i h => by
    have q := h.sa.cnt;exact⟨q.1, q.2, y.1.trans h.chg (fun _ _ e => e), y.2.1.chg h.chg (fun e => e.elim n1 (fun e => by omega)), y.2.2.1.chg h.chg (fun e => e.elim n2 (fun e => by omega)), h.sa.kv⟩
  have hgB : g < J.heap.size := by omega
  have HI := aB (show RmI J w.heap.size K D g E Wn N x0 ((M.map En.kl).take 0) J from⟨Chg.refl _ _, SB, _, [], TB, KA.nil _ _, rfl⟩);have HB2 := aB B2;have HIT := aB (nh (g := g) (bs1 := bs1) (bs2 := bs2) (x0 := x0) (xs := fun i => x0 + 1 + i) IT (by unfold TpK; decide) (by omega) (fun i hi => by show x0 + 1 + i ≤ _; omega));have hsm := aB IG.small;have hELH := aB hEL;clear SB TB B2 IT IG y hEL;gi_wp2;refine kF HIT.out (by rfl) (enters_of Tryz.func169 (by kernel_rfl) rfl) (fun i args n V V' h hc => h.cel hc) (fun i args n V h => by obtain⟨e, kv, vv, s, _, rfl, _⟩:= h; rfl)
    (fun V => RmI J w.heap.size K D g E Wn N x0 ((M.map En.kl).take 0) V)
    (fun i V => RmI J w.heap.size K D g E Wn N (x0 + 1 + i) ((M.map En.kl).take i) V)
    (fun i V => RmI J w.heap.size K D g E Wn N (x0 + 1 + i + 1) ((M.map En.kl).take i) V)
    (fun c i V => False)
    (fun A B hx hr => hx.rcd hr) (fun i A B hx hr => hx.rcd hr) (fun i A B hx hr => hx.rcd hr) (fun c i A B hx hr => hx) (by omega)
    (fun V W => by obtain⟨q1, q2, q3⟩:= RD V _ _ W; exact⟨q1, q2, q3, W.tick hgB⟩)
    (fun i V W => by obtain⟨q1, q2, q3⟩:= RD V _ _ W; exact⟨q1, q2, q3, fun _ => W.tick hgB⟩)
    HI.out ?_ ?_ ?_
  · rintro l2 i args V Wv hl hlV hrec hiN hT hb ⟨e0, kv, vv, s0, he0, rfl, hk0, hv0, _⟩
    simp;gi_wp2;refine⟨Below.refl _ _, ?_⟩;intro V2 W2 H m hAr2 hoth hsz3 hV2 r hrec2;obtain⟨e1, kv1, vv1, t1, he1, Y, hk2, hv2, ht1⟩:= hAr2;obtain rfl : e1 = e0 := by rw[he0] at he1; cases he1; rfl
    simp at Y;obtain⟨rfl, rfl⟩:= Y;obtain⟨ak, ck, hk1⟩:= hk2.shape;subst hk1;obtain⟨v, O, o1, P, Z⟩:= H.out
    have Q : O.length = i := by
      have := congrArg List.length Z;rw[List.length_map, List.length_take, List.length_map] at this;omega
    obtain⟨ao, cc, rfl⟩:= P.shape;rw[Q] at o1 P;have z2 := m.size;have zT := H.chg.size;have P0 := o1.keep m;have Q0 := P.keep m;have d := ae W2 (.cells #[.slice ak e1.kl.length ck] 96);have N4 := aC W2 [.slice ak e1.kl.length ck] 96;obtain⟨W4, hW4⟩ : ∃ W4, Hid (W2.alloc (.cells #[.slice ak e1.kl.length ck] 96) = W4) := ⟨_, rfl⟩;rw[hW4.out] at d N4;have z4 := d.size;obtain⟨v5, w5, z, U5, C5⟩:= app_k (p := (.slice ak e1.kl.length ck, e1.kl)) (a := ⟨W2.heap.size, 0, none⟩) (Q0.keep d) (by omega) (by rw[Q]; omega) ((hk2.mono (fun b _ h => by have := h.1; omega)).keep d) (N4.cell (i := 0) rfl)
    have hl5 : (O ++ [((.slice ak e1.kl.length ck : Value), e1.kl)]).length = i + 1 := by rw[List.length_append, Q]; rfl
    obtain⟨a5, c5, rfl⟩:= U5.shape;rw[hl5] at U5 z;have S5 := (P0.keep d).chg C5 (fun h => by obtain⟨_, cs, k⟩:= h; exact absurd (k.eq (P0.keep d)).2 (by decide));obtain⟨q1, hq1⟩ : ∃ q1, Hid (i + 1 = q1) := ⟨_, rfl⟩;rw[hq1.out] at U5 z
    have C : Chg (· = w.heap.size) w5 (w5.setCell ⟨w.heap.size, 0, none⟩ (.slice a5 q1 c5)) := (Chg.refl (fun x => x = w.heap.size) w5).cell (.inl (by rfl)) _;have S6 := S5.setCell (i := 0) (.slice a5 q1 c5)
    have hK5 : bj TpK J.heap.size W4 w5 := ⟨C5.size, fun k o _ h0 hs => (C5.same k (lt_of_block h0) (fun h => by
      obtain⟨_, cs, kb⟩:= h;rw[kb.blk] at h0
      cases h0;exact hs _ _ _ rfl rfl)).trans h0⟩
    have hKe : bj TpK J.heap.size W2 (w5.setCell ⟨w.heap.size, 0, none⟩ (.slice a5 q1 c5)) := ((bj.of d).trans hK5).trans ⟨C.size, fun k o hk h0 _ => (C.same k (lt_of_block h0) (fun e => by have e' : k = w.heap.size := e; omega)).trans h0⟩
    have hTI : RmI J w.heap.size K D g E Wn N (x0 + 1 + (i + 1)) ((M.map En.kl).take (i + 1)) (w5.setCell ⟨w.heap.size, 0, none⟩ (.slice a5 q1 c5)) := by
      refine⟨?_, ?_, ⟨_, O ++ [(.slice ak e1.kl.length ck, e1.kl)], S6, ?_, ?_⟩⟩
      · exact((H.chg.trans (Chg.of (F := fun _ => False) (aj m d)) (fun _ _ h => h.elim)).trans C5 (fun b h1 h2 => by have := h2.1; omega)).trans C (fun b _ h => .inr h)
      · have q := ((H.sa.keep (aj m d)).chg C5 (fun b h1 hk => by have := G b hk; have := h1.1; omega) (fun b h1 cs kk => by obtain⟨_, cs', k'⟩:= h1; exact absurd (kk.eq k').2 (by decide))).chg C (fun b e hk => by have e' : b = w.heap.size := e; have := G b hk; omega) (fun b e cs kk => by
          have e' : b = w.heap.size := e;subst e';exact absurd (kk.eq S5).2 (by decide))
        rw[show x0 + 1 + (i + 1) = x0 + 1 + i + 1 by omega];exact q
      · refine U5.chg C (fun b e => ?_)
        have e' : b = w.heap.size := e;subst e';exact⟨by omega, fun cs kk => absurd (kk.eq S5).2 (by decide)⟩
      · rw[List.map_append, Z, List.take_add_one, List.getElem?_map, he0]
        rfl
    have p0c := P0.cell (i := 0) rfl;have s5c := S5.cell (i := 0) rfl;have s5f := S5.free 0;have HKE := aB hKe;have HTI := aB hTI;clear hT hoth hb H m P0 Q0 N4 d U5 C5 S5 C S6 hK5 hKe hTI o1 P Z Q hl5 z2 zT z4 hsz3 hV2 hk2 hv2 hk0 hv0 he1;rw[← hW4.out] at z;clear hW4;gi_wp2_with (first | (have gate := z; clear gate; (with_reducible refine AX ?_ ?_ ?_ z ?_); (exact fun _ => trivial); rfl; rfl; clear z));exact⟨HKE.out, HTI.out⟩
  · rintro R W' hD hK hT
    rename_i Q' Kc hc;obtain⟨v, O, o1, P, Z⟩:= hT.out;rw[List.take_of_length_le (by rw[List.length_map]; exact Nat.le_refl _)] at Z;obtain⟨ao, cc, rfl⟩:= P.shape;obtain⟨j, T⟩ : ∃ j, O.length = j := ⟨_, rfl⟩
    have hlen : j = M.length := by rw[← T, ← List.length_map (f := (·.2)), Z, List.length_map]
    rw[T] at o1 P
    have zW' := hT.chg.size
    have hT' := hT.sa;rw[hD0] at hT'
    have I : M.map En.kl = mP E k a := by
      unfold mP;rw[← hELH.out, List.map_map];rfl
    have zz := aj (aj HB.out HB1.out) HB2.out
    have hC0 : Chg K w W' := (Chg.of (F := K) zz).trans hT.chg (fun b hl e => e.elim (fun e => e ▸ HS.out.top) (fun e => by omega))
    have Sx0 : Sx B W' K g E Wn (x0 + 1 + j) N := ⟨by rw[hlen]; exact hT', Nat.le_trans hlo hC0.size, hkb⟩;obtain⟨pb, hao, hkl⟩ : ∃ pb, (0 < j → ao = some ⟨pb, 0, none⟩) ∧ ∀ i p, O[i]? = some p → ∀ V K' E' n' N', Bk.At B W' K V K' g E' Wn n' N' → V.cell? ⟨pb, 0 + i * 1, none⟩ = some p.1 ∧ ByU V p.1 p.2 := by
      rcases P.ex with⟨e1, e2⟩ | ⟨b, c, e1, hb, hR⟩
      · exact⟨0, fun h => by rw[e2] at T; simp at T; omega, fun i p hp => by rw[e2] at hp; cases hp⟩
      · refine⟨b, fun _ => by cases e1; rfl, fun i p hp V K' E' n' N' hA => ⟨?_, ?_⟩⟩
        · have hc := hR.cell (i := i) (by rw[List.getElem?_map, hp]; rfl)
          rw[show 0 + i * 1 = i by omega, World.cell?_of_block (w := W') (hA.cc.same b hR.lt (fun hk => by have := G b hk; omega))];exact hc
        · exact(ByU.of (P.obs p (List.mem_of_getElem? hp))).chg hA.cc Sx0.sa.kind
    have hDlt : R < W'.heap.size := lt_of_block hK
    have hDK : ¬ K R := fun hb => by have := G _ hb; omega
    have hsm2 : ∀ (i : Nat) (p : Value × List Int), O[i]? = some p → p.2.length ≤ 1000000000 := fun i p hp => by
      have : p.2 ∈ M.map En.kl := by rw[← Z]; exact List.mem_map.2 ⟨p, List.mem_of_getElem? hp, rfl⟩
      obtain⟨e, he, e2⟩:= List.mem_map.1 this;rw[← e2];exact(hsm.out e he).1
    have hfin : ∀ V K' n' N', Bk.At B W' K V K' g ((mP E k a).foldl Kv.rem E) Wn n' N' → V.heap[R]? = some (.deferred (some [])) ∧ Sx B (V.putObj R (.deferred none)) K' g (nu E k a) Wn n' N' ∧ (∀ b, K' b → K b ∨ w.heap.size ≤ b) ∧ Chg K w (V.putObj R (.deferred none)) := fun V K' n' N' hA => by
      have W : V.heap[R]? = some (.deferred (some [])) := (hA.cc.same R hDlt hDK).trans hK;have R3 := Rec.put (B := w.heap.size) W rfl (by omega) (.deferred none);refine⟨W, ⟨qG hA.sx.sa R3, Nat.le_trans hA.sx.lo R3.size, hA.sx.kb⟩, fun b hb => (hA.km b hb).imp_right (Nat.le_trans hC0.size), ?_⟩;exact jx (hC0.trans hA.cc (fun b _ h => h)) R3 (Nat.le_refl _)
    have A := Sx0.at
    have hn1 : j ≤ N := by omega
    refine hc _ _ (wpIn_wide.2 (GC.out (n := 31) (ds := [{ target := .collected R, args := #[] }]) (l := [(0, pg g), (6, pg w.heap.size)]) ?_ _ ⟨rfl, rfl, fun q u hq => ?_⟩))
    · have Xt := o1
      refine ax (aA (tl 21 (.slice ao j cc) Xt 0 ?_));refine t 22 (.int .i64 ((j : Nat) : Int)) ?_
      refine t 23 (.int .i64 0) ?_
      refine ay (ah (fw ?_));clear Xt;refine pM (fun i => j - i) (fun(i : Nat) => [(0, pg g), (21, .slice ao j cc), (22, .int .i64 ((j : Nat) : Int)), (23, .int .i64 (i : Int))]) (fun i V => i ≤ j ∧ ∃ K2 n2 N2, Bk.At B W' K V K2 g (((mP E k a).take i).foldl Kv.rem E) Wn n2 N2 ∧ n2 ≤ x0 + 1 + j + i ∧ N2 ≤ N + 2 * i) (0 : Nat) ⟨Nat.zero_le _, _, _, _, A, by omega, by omega⟩ (by kernel_rfl) ?_
      clear A;rintro i v1 ⟨hi, K2, n2, N2, A, hn2, hN2⟩;refine ax (aA ?_);by_cases ci : (i : Int) < ((j : Nat) : Int)
      · have hk_i : i < j := by omega
        obtain⟨pk, U⟩ : ∃ p, O[i]? = some p := ⟨O[i], List.getElem?_eq_getElem (by omega)⟩;refine tq 24 (.bool (decide ((i : Int) < ((j : Nat) : Int)))) (.bool true) (congrArg Value.bool (decide_eq_true ci)) ?_
        refine ay (ah (ax (ez ?_)));refine bZ (ah (ax (fw (ax (aA (tr 25 (pq pb (0 + i * 1)) (AY 1 pb 0 j cc i hk_i hao) ?_))))));refine tr 26 (pk.1) (Cp (hkl i pk U _ _ _ _ _ A).1) ?_
        refine t 9 (pk.1) ?_
        refine ay (ah (aA (t 27 (pg g) ?_)));refine t 28 (pk.1) ?_
        refine tc 29 75 #[pg g, pk.1] (xdel A.sx (hkl i pk U _ _ _ _ _ A).2 (hsm2 i pk U) (by omega) (by omega)) ?_
        rintro _ v3 ⟨rfl, K2, S, hK, hC⟩;refine⟨_, rfl, ?_⟩;replace A := A.op S hK hC;clear S hK hC;refine ay (uN (ah (aA (tq 30 (.int .i64 (IntKind.i64.wrap ((i : Int) + 1))) (.int .i64 ((i : Int) + 1)) (wi (by omega)) ?_))));refine t 23 (.int .i64 ((i : Int) + 1)) ?_
        refine ay ?_
        have hstep : ((mP E k a).take (i + 1)).foldl Kv.rem E = Kv.rem (((mP E k a).take i).foldl Kv.rem E) pk.2 := by
          rw[List.take_add_one, ← I, ← Z, List.getElem?_map, U, List.foldl_append];rfl
        rw[← hstep] at A;exact lS (i + 1) (by show j - (i + 1) < j - i; omega) ⟨hk_i, _, _, _, A, by omega, by omega⟩ (by kernel_rfl)
      · refine tq 24 (.bool (decide ((i : Int) < ((j : Nat) : Int)))) (.bool false) (congrArg Value.bool (decide_eq_false ci)) ?_
        refine ay (ah (ax (dO ?_)));refine kZ (kS (kS (vo ?_)))
        have hil : j ≤ i := by omega
        rw[List.take_of_length_le (by rw[← I, List.length_map, ← hlen]; exact hil)] at A;obtain⟨f1, f2, f3, f4⟩:= hfin _ _ _ _ A;exact BJ (by kernel_rfl) f1 ⟨_, _, _, rfl, f2, by omega, by omega, f3, f4⟩
    · have hm := r7 hq
      simp at hm;rcases hm with⟨rfl, rfl⟩ | ⟨rfl, rfl⟩ <;> rfl
  · rintro R c i W' hD hK hi h
    exact h.elim
theorem BG(h:Sx B w K g E W n N)(hid:0<=id/\id < 18446744073709551616)(c:N<=30000000)(hn:n + 3 * N + 10<=2000000000000000000):Calls Tryz.prog 12 #[pg g,.int .u64 id] w fun e w'=>∃ K' n',e=.returned (.tuple #[.int .i64 ((gS E 7 id:Nat):Int),.int .i64 ((gS E 8 id:Nat):Int)])/\Sx B w' K' g E W n' N/\n'<=n + 2 + 2 * N/\(∀ b,K' b->K b\/w.heap.size<=b)/\Chg K w w':=by
 have A:=h.at
 refine aM (n:=12) Tryz.func12 rfl (by kernel_rfl) (by kernel_rfl) ?_
 refine ax (aA (t 4 (.int .i64 0) ?_));refine t 5 (.int .i64 0) ?_
 refine ay (ah (ax (aA (t 6 (pg g) ?_))));refine t 7 (.int .u64 id) ?_
 refine tc 8 40 #[pg g,.int .i64 7,.int .u64 id] (rv A.sx hid (by decide) (by omega) (by omega)) ?_
 rintro _ v2 ⟨rfl,S,q1,C⟩;refine⟨_,rfl,?_⟩;have hC:=C.mono (fun b _ (e:b=g)=>e▸A.sx.sa.top);replace A:=A.op S (fun _ h=>.inl h) hC;clear S hC C;refine t 9 (pg g) ?_
 refine t 10 (.int .u64 id) ?_
 refine tc 11 40 #[pg g,.int .i64 8,.int .u64 id] (rv A.sx hid (by decide) (by omega) (by omega)) ?_
 rintro _ v4 ⟨rfl,S,a,C⟩;refine⟨_,rfl,?_⟩;have hC:=C.mono (fun b _ (e:b=g)=>e▸A.sx.sa.top);replace A:=A.op S (fun _ h=>.inl h) hC;clear S hC C;refine t 4 (.int .i64 ((gS E 7 id:Nat):Int)) ?_
 refine t 5 (.int .i64 ((gS E 8 id:Nat):Int)) ?_
 refine ay (ah (aT [(4,.int .i64 ((gS E 7 id:Nat):Int)),(5,.int .i64 ((gS E 8 id:Nat):Int))] (by kernel_rfl) ?_));refine aP (aQ (.tuple #[.int .i64 ((gS E 7 id:Nat):Int),.int .i64 ((gS E 8 id:Nat):Int)]) (rs2 4 5 (by kernel_rfl) (by kernel_rfl) (by kernel_rfl)) ?_);exact⟨_,_,rfl,A.sx,by omega,A.km,A.cc⟩
theorem gone_x(h:Sx B w K g E W n N)(hid:0<=id/\id < 18446744073709551616)(q:N<=10000000)(hn:n + 30 * N + 10<=2000000000000000000):Calls Tryz.prog 14 #[pg g,.int .u64 id] w fun e w'=>∃ K' n' N',e=.returned (.tuple #[])/\Sx B w' K' g (nu (nu E 7 id) 8 id) W n' N'/\n'<=n + 20 * N + 10/\N'<=9 * N/\(∀ b,K' b->K b\/w.heap.size<=b)/\Chg K w w':=by
 have A:=h.at
 refine aM (n:=10) Tryz.func14 rfl (by kernel_rfl) (by kernel_rfl) ?_
 refine ax (aA (t 4 (pg g) ?_));refine t 5 (.int .u64 id) ?_
 refine tc 6 41 #[pg g,.int .i64 7,.int .u64 id] (rh A.sx hid (by decide) (by omega) (by omega)) ?_
 rintro _ v5 ⟨j,k,l,rfl,S,c,d,a,hC⟩;refine⟨_,rfl,?_⟩;replace A:=A.op S a hC;clear S a hC;refine ay (ah (aA (t 7 (pg g) ?_)));refine t 8 (.int .u64 id) ?_
 refine tc 9 41 #[pg g,.int .i64 8,.int .u64 id] (rh A.sx hid (by decide) (by omega) (by omega)) ?_
 rintro _ v10 ⟨m,o,p,rfl,S,f,i,a,hC⟩;refine⟨_,rfl,?_⟩;replace A:=A.op S a hC;clear S a hC;refine ay (iX (.tuple #[]) (rs0 (by kernel_rfl)) ?_);exact⟨_,_,_,rfl,A.sx,by omega,by omega,A.km,A.cc⟩
end
end Fo
end
section
namespace Fo
open Go.RowKit Go.Lib Pg Lim Gl Kv Bk Pw
section
variable {w:World}{p ao:Option Addr}{K:Nat->Prop}{z n c:Nat}{x:Int}{v:Value}{l:List Int}
attribute [local go_sem] Oper.semAt_some
set_option linter.unusedVariables false
set_option linter.unusedSimpArgs false
theorem Dq{id fr la:Int}:Calls Tryz.prog 53 #[.pointer p,.int .u64 id,.int .u64 fr,.int .u64 la] w fun e w'=>e=.returned (.func (.func 81) #[] #[.pointer (some ⟨w.heap.size + 1,0,none⟩),.pointer (some ⟨w.heap.size + 1 + 1,0,none⟩),.pointer (some ⟨w.heap.size + 1 + 1 + 1,0,none⟩),.pointer (some ⟨w.heap.size,0,none⟩)])/\Blk w' w.heap.size [.pointer p] 37/\Blk w' (w.heap.size + 1) [.int .u64 id] 22/\Blk w' (w.heap.size + 1 + 1) [.int .u64 fr] 22/\Blk w' (w.heap.size + 1 + 1 + 1) [.int .u64 la] 22/\Below w.heap.size w w':=by
 obtain⟨a,g⟩:∃ a,a=w.alloc (.cells #[.pointer p] 37):=⟨_,rfl⟩
 obtain⟨b,h⟩:∃ b,b=a.alloc (.cells #[.int .u64 id] 22):=⟨_,rfl⟩
 obtain⟨c,i⟩:∃ c,c=b.alloc (.cells #[.int .u64 fr] 22):=⟨_,rfl⟩
 obtain⟨d,j⟩:∃ d,d=c.alloc (.cells #[.int .u64 la] 22):=⟨_,rfl⟩
 have b1:=ae w (.cells #[.pointer p] 37);have c1:=aC w [.pointer p] 37
 have s1:(w.alloc (.cells #[.pointer p] 37)).heap.size=w.heap.size + 1:=by simp
 rw[<- g] at b1 s1;have b2:=ae a (.cells #[.int .u64 id] 22);have k:=aC a [.int .u64 id] 22
 have s2:(a.alloc (.cells #[.int .u64 id] 22)).heap.size=a.heap.size + 1:=by simp
 rw[<- h] at b2 s2;have b3:=ae b (.cells #[.int .u64 fr] 22);have l:=aC b [.int .u64 fr] 22
 have s3:(b.alloc (.cells #[.int .u64 fr] 22)).heap.size=b.heap.size + 1:=by simp
 rw[<- i] at b3 s3;have f:=ae c (.cells #[.int .u64 la] 22);have m:=aC c [.int .u64 la] 22;rw[<- j] at f
 have d1:Blk d w.heap.size [.pointer p] 37:=by
  have q:Blk a w.heap.size [.pointer p] 37:=by rw[g]; exact c1
  exact((q.keep b2).keep b3).keep f
 have d2:Blk d (w.heap.size + 1) [.int .u64 id] 22:=by
  have q:Blk b a.heap.size [.int .u64 id] 22:=by rw[h]; exact k
  rw[s1] at q;exact(q.keep b3).keep f
 have d3:Blk d (w.heap.size + 1 + 1) [.int .u64 fr] 22:=by
  have q:Blk c b.heap.size [.int .u64 fr] 22:=by rw[i]; exact l
  rw[s2,s1] at q;exact q.keep f
 have d4:Blk d (w.heap.size + 1 + 1 + 1) [.int .u64 la] 22:=by
  have q:Blk d c.heap.size [.int .u64 la] 22:=by rw[j]; exact m
  rw[s3,s2,s1] at q;exact q
 have bb:=aj (aj (aj b1 b2) b3) f;have n:=aB (And.intro d1 (And.intro d2 (And.intro d3 (And.intro d4 bb))));rw[j,i,h,g] at n;clear d1 d2 d3 d4 bb b1 b2 b3 f c1 k l m s1 s2 s3 g h i j;go_enter Tryz.func53,Tryz.ntmps53;go_wp2;go_ret;refine⟨by simp,?_⟩;simpa using n.out
theorem Nq.at(h:Nq w K z ao n c x)(hn:n≠0):∃ o y,w.cell? ⟨z,o,none⟩=some (.int .u64 y):=by
 obtain⟨d,e⟩:∃ d:World,d={ w with heap:=w.heap.mapIdx (fun i o=>if i=z then o else .deferred none) }:=⟨_,rfl⟩
 have j:d.heap[z]? = w.heap[z]? := by
  rw[e];simp only[Array.getElem?_mapIdx,if_true]
  cases w.heap[z]? <;> rfl
 obtain⟨b,o,l,m,p,q,k⟩:=(h.to d (fun _=>j)).ex;have f:=k.cell 0 (by omega);by_cases hb:b=z
 ·subst hb;rw[World.cell?_of_block (w:=w) (a:=⟨b,o + 0,none⟩) j] at f;exact⟨_,_,f⟩
 ·exfalso
  have g:d.heap[b]? = none\/d.heap[b]? = some (.deferred none):=by
   rw[e];simp only[Array.getElem?_mapIdx,if_neg hb]
   cases w.heap[b]? with
   | none=>exact .inl rfl
   | some o=>exact .inr rfl
  unfold World.cell? at f;rcases g with g | g<;>simp[g] at f
theorem dL{b:Nat}{t:TypeId}(h:Nq w K z ao n c x)(hb:Blk w b [v] t)(d:∀ y,v≠.int .u64 y):n=0\/z≠b:=by
 by_cases hn:n=0
 ·exact .inl hn
 ·refine .inr fun e => ?_
  subst e;obtain⟨o,y,a⟩:=h.at hn;unfold World.cell? at a;rw[hb.blk] at a
  match o with
  | 0=>simp at a; exact d y a
  | o + 1=>simp at a
theorem Nq.rcd{C:Nat}{w':World}(h:Nq w K z ao n c x)(b:Rec C w w'):Nq w' K z ao n c x:=by
 have hs:n≠0->w'.heap[z]? = w.heap[z]? := fun hn=>by
  obtain⟨o,y,a⟩:=h.at hn;unfold World.cell? at a;split at a
  ·rename_i cs t f e
   have d:w.heap[z]? = some (.cells cs t f):=e;rw[d];exact b.same z _ d (.inr rfl)
  ·cases a
 exact⟨h.lt.imp_right fun h=>Nat.lt_of_lt_of_le h b.size,h.out,fun i g=>h.to i fun hn=>(g hn).trans (hs hn)⟩
theorem cX_rng(a:Oct l):(0<=cX l 0/\cX l 0 < 18446744073709551616)/\(0<=cX l 1/\cX l 1 < 18446744073709551616):=by
 have b:a7 (rdL (cN 8 l) 0 l):=by
  unfold rdL;split
  ·split
   ·exact a
   ·exact fun x hx=>a x (List.mem_of_mem_drop hx)
  ·exact a
 have e:Rc.kL l=Rc.rnx 0 1 (Rc.rnx 0 0 (0,l,fun _=>0)):=rfl;unfold cX Rc.ga;rw[e];split
 ·exact⟨vx (err:=0) a,vx b⟩
 ·exact⟨⟨Int.le_refl _,by decide⟩,Int.le_refl _,by decide⟩
def oZ(E:aD)(id:Int)(s:Int × Int × Int)(c:Int × Int × Int):Int × Int × Int:=(s.1 + s.2.1 * gU (hX (got E (Ky.mk 7 id c.1)) 0) s.2.2 / U36,s.2.1 * (c.2.2 * U36) / (c.2.1 * U36),hX (got E (Ky.mk 7 id c.1)) 0)
structure ClI(B:Nat)(Wb:World)(br bk bf bc:Nat)(K:Nat->Prop)(g:Nat)(E:aD)(Wn:List aD)(N x i M:Nat)(st:Int × Int × Int)(V:World):Prop where
 chg:Chg (fun b=>b=g\/b=br\/b=bk\/b=bf\/b=bc) Wb V
 sx:Sx B V K g E Wn x N
 cnt:Blk V bc [.int .i64 (i:Int)] 3
 rew:∃ a n c z,Blk V br [.slice a n c] 32/\Nq V K z a n c st.1/\n<=2000000 * i
 stk:∃ a n c z,Blk V bk [.slice a n c] 32/\Nq V K z a n c st.2.1/\n<=M + 80 * i
 frm:∃ a n c z,Blk V bf [.slice a n c] 32/\Nq V K z a n c st.2.2/\n<=510
end
section
variable {B:Nat} {Wb V V':World} {br bk bf bc g N x i M:Nat} {K:Nat->Prop} {E:aD} {Wn:List aD} {st:Int × Int × Int}
theorem ClI.rcd (h:ClI B Wb br bk bf bc K g E Wn N x i M st V) (a:Rec Wb.heap.size V V'):ClI B Wb br bk bf bc K g E Wn N x i M st V':=by
 obtain⟨a1,f,c1,z1,p,o,e⟩:=h.rew;obtain⟨a2,j,n,z2,q1,m,l⟩:=h.stk;obtain⟨a3,k,d,z3,r1,c,b⟩:=h.frm;exact⟨jx h.chg a (Nat.le_refl _),⟨qG h.sx.sa a,Nat.le_trans h.sx.lo a.size,h.sx.kb⟩,eF h.cnt a,⟨a1,f,c1,z1,eF p a,o.rcd a,e⟩,⟨a2,j,n,z2,eF q1 a,m.rcd a,l⟩,a3,k,d,z3,eF r1 a,c.rcd a,b⟩
theorem ClI.tick (h:ClI B Wb br bk bf bc K g E Wn N x i M st V):ClI B Wb br bk bf bc K g E Wn N (x + 1) i M st (tick g V x):=by
 obtain⟨a1,p,c1,z1,j,l,r⟩:=h.rew;obtain⟨a2,s,u,z2,q1,m,v⟩:=h.stk;obtain⟨a3,w,A,z3,r1,o,C⟩:=h.frm;have hc:=dR g x V
 have d:∀ {b:Nat} {cs:List Value} {t:TypeId},Blk V b cs t->t≠94->b≠g:=fun k D e=>by
  obtain⟨F,G⟩:=h.sx.sa.kv;subst e;exact D (k.eq G).2
 have f:∀ {a:Option Addr} {n c z:Nat} {y:Int},Nq V K z a n c y->n=0\/z≠g:=fun q=>q.out.imp_right (fun k e=>k (e▸h.sx.sa.top))
 exact⟨h.chg.trans hc (fun b _ e=>.inl e),⟨h.sx.sa.tick,Nat.le_trans h.sx.lo hc.size,h.sx.kb⟩,h.cnt.chg hc (d h.cnt (by decide)),⟨a1,p,c1,z1,j.chg hc (d j (by decide)),l.cell hc (f l),r⟩,⟨a2,s,u,z2,q1.chg hc (d q1 (by decide)),m.cell hc (f m),v⟩,a3,w,A,z3,r1.chg hc (d r1 (by decide)),o.cell hc (f o),C⟩
theorem ClI.rd (h:ClI B Wb br bk bf bc K g E Wn N x i M st V):RdS Wb (fun b=>b=g\/b=br\/b=bk\/b=bf\/b=bc) K (B <= ·) g E Wn N V:=by
 obtain⟨a1,r,c1,z1,c,n,q⟩:=h.rew;obtain⟨a2,f,m,z2,q1,l,s⟩:=h.stk;obtain⟨a3,j,p,z3,r1,e,o⟩:=h.frm;refine⟨h.chg,fun b hb cs k => ?_,_,h.sx.sa⟩;rcases hb with rfl | rfl | rfl | rfl | rfl
 ·obtain⟨d,a⟩:=h.sx.sa.kv;exact absurd (k.eq a).2 (by decide)
 ·exact absurd (k.eq c).2 (by decide)
 ·exact absurd (k.eq q1).2 (by decide)
 ·exact absurd (k.eq r1).2 (by decide)
 ·exact absurd (k.eq h.cnt).2 (by decide)
theorem ClI.go {a1 a2 a4:Option Addr} {k1 d1 y1 k2 d2 y2 k4 d4 z4:Nat} {V1 F2 V4:Int} {W2 w3 w4:World} (I2:ClI B Wb br bk bf bc K g E Wn N x i M st W2) (hX:∀ b,(b=g\/b=br\/b=bk\/b=bf\/b=bc)->b < Wb.heap.size) (drk:br≠bk) (dkf:bk≠bf) (nk:¬ K bk) (nc:¬ K bc)
  (S3:Sx B w3 K g E Wn (x + 1) N) (C3:Chg (fun b=>b=g\/b=br\/b=bf) W2 w3) (R3:Blk w3 br [.slice a1 k1 d1] 32) (N1:Nq w3 K y1 a1 k1 d1 V1) (m1:k1<=2000000 * (i + 1)) (F3:Blk w3 bf [.slice a2 k2 d2] 32) (N2:Nq w3 K y2 a2 k2 d2 F2) (m2:k2<=510)
  (M4:Nf w4 z4 a4 k4 d4 V4) (h4:k4=0\/w3.heap.size<=z4) (m4:k4<=M + 80 * (i + 1)) (B4:Below w3.heap.size w3 w4) :
  ((w4.cell? ⟨bk,0,none⟩).isSome=true/\w4.frozen? ⟨bk,0,none⟩=false/\(w4.setCell ⟨bk,0,none⟩ (.slice a4 k4 d4)).cell? ⟨bc,0,none⟩=some (.int .i64 (i:Int))/\(w4.setCell ⟨bk,0,none⟩ (.slice a4 k4 d4)).frozen? ⟨bc,0,none⟩=false) /\
  ClI B Wb br bk bf bc K g E Wn N (x + 1) (i + 1) M (V1,V4,F2) ((w4.setCell ⟨bk,0,none⟩ (.slice a4 k4 d4)).setCell ⟨bc,0,none⟩ (.int .i64 ((i:Int) + 1)))/\bj TpN Wb.heap.size W2 ((w4.setCell ⟨bk,0,none⟩ (.slice a4 k4 d4)).setCell ⟨bc,0,none⟩ (.int .i64 ((i:Int) + 1))):=by
 obtain⟨aS,nS,cS,zS,q1,q2,q3⟩:=I2.stk
 have v:bk≠g:=fun e=>by obtain⟨w,z⟩:=I2.sx.sa.kv; subst e; exact absurd (q1.eq z).2 (by decide)
 have A:bc≠g:=fun e=>by obtain⟨w,z⟩:=I2.sx.sa.kv; subst e; exact absurd (I2.cnt.eq z).2 (by decide)
 obtain⟨aR,nR,cR,zR,r1,_,_⟩:=I2.rew;obtain⟨aF,nF,cF,zF,f1,_,_⟩:=I2.frm
 have n:bc≠br:=fun e=>by subst e; exact absurd (I2.cnt.eq r1).2 (by decide)
 have p:bc≠bf:=fun e=>by subst e; exact absurd (I2.cnt.eq f1).2 (by decide)
 have q:bc≠bk:=fun e=>by subst e; exact absurd (I2.cnt.eq q1).2 (by decide)
 have r:=(I2.cnt.chg C3 (fun h=>h.elim A (fun h=>h.elim n p))).keep B4;have c:=(q1.chg C3 (fun h=>h.elim v (fun h=>h.elim drk.symm dkf))).keep B4
 have d:Chg (· = bk) w4 (w4.setCell ⟨bk,0,none⟩ (.slice a4 k4 d4)):=(Chg.refl (fun x=>x=bk) w4).cell (.inl (by rfl)) _;have s:=c.setCell (i:=0) (.slice a4 k4 d4);have a:=r.chg d q;have Y:=c.cell (i:=0) rfl;have Z:=c.free 0;have I:=a.cell (i:=0) rfl;have J:=a.free 0;have L:=dK S3 M4 h4;have O:=N1.keep B4;have P:=N2.keep B4
 have j:=L.cell d (dL L c (fun y h=>by cases h))
 have l:=O.cell d (dL O c (fun y h=>by cases h))
 have m:=P.cell d (dL P c (fun y h=>by cases h));have Q:=(R3.keep B4).chg d drk;have R:=(F3.keep B4).chg d dkf.symm;have S:=(S3.sa.keep B4).chg d (fun b e hb=>nk ((show b=bk from e)▸hb)) (fun b e cs C=>by have D:b=bk:=e; subst D; exact absurd (C.eq c).2 (by decide));have T:=(((I2.chg.trans C3 (fun b _ h=>h.elim .inl (fun h=>h.elim (fun h=>.inr (.inl h)) (fun h=>.inr (.inr (.inr (.inl h))))))).trans (Chg.of (F:=fun _=>False) B4) (fun _ _ h=>h.elim))).trans d (fun b _ h=>.inr (.inr (.inl h)));have U:=((C3.trans (Chg.of (F:=fun b=>b=g\/b=br\/b=bf) B4) (fun _ _ h=>h)).mono (fun b _ h=>(h.elim .inl (fun h=>h.elim (fun h=>.inr (.inl h)) (fun h=>.inr (.inr (.inr (.inl h))))):b=g\/b=br\/b=bk\/b=bf\/b=bc))).trans d (fun b _ h=>.inr (.inr (.inl h)));have V:=Nat.le_trans (Nat.le_trans S3.lo B4.size) d.size;obtain⟨t,G⟩:∃ t,w4.setCell ⟨bk,0,none⟩ (.slice a4 k4 d4)=t:=⟨_,rfl⟩
 rw[G] at s a I J j l m Q R S T U V ⊢
 have f:Chg (· = bc) t (t.setCell ⟨bc,0,none⟩ (.int .i64 ((i:Int) + 1))):=(Chg.refl (fun x=>x=bc) t).cell (.inl (by rfl)) _;have u:=a.setCell (i:=0) (.int .i64 ((i:Int) + 1))
 have H:∀ y,(.int .i64 (i:Int):Value)≠.int .u64 y:=fun y h=>by cases h
 refine⟨⟨by rw[Y]; rfl,Z,I,J⟩,⟨T.trans f (fun b _ h=>.inr (.inr (.inr (.inr h)))),⟨S.chg f (fun b e hb=>nc ((show b=bc from e)▸hb)) (fun b e cs C=>by have D:b=bc:=e; subst D; exact absurd (C.eq a).2 (by decide)),Nat.le_trans V f.size,S3.kb⟩,?_,⟨a1,k1,d1,y1,Q.chg f n.symm,l.cell f (dL l a H),m1⟩,⟨a4,k4,d4,z4,s.chg f q.symm,j.cell f (dL j a H),m4⟩,a2,k2,d2,y2,R.chg f p.symm,m.cell f (dL m a H),m2⟩,?_⟩
 ·rw[show ((i + 1:Nat):Int)=(i:Int) + 1 by omega];exact u
 ·have W:=U.trans f (fun b _ h=>.inr (.inr (.inr (.inr h))));exact⟨W.size,fun k o hk X _=>(W.same k (lt_of_block X) (fun h=>by have:=hX k h; omega)).trans X⟩
end
section
variable {w:World}{K D:Nat->Prop}{E:aD}{W:List aD}{id fr la:Int}{i:Nat}
theorem vJ{g n N:Nat}(h:SA w K D g E W n N){c:Int × Int × Int}(hc:(dj E id fr la)[i]? = some c):(0<=c.2.1/\c.2.1 < 18446744073709551616)/\(0<=c.2.2/\c.2.2 < 18446744073709551616):=by
 obtain⟨x,hx,rfl⟩:=List.mem_map.1 (List.mem_of_getElem? hc);exact cX_rng (SA.octv h x (List.mem_filter.1 hx).1)
def kA(E:aD)(id fr la x:Int)(i:Nat):Int × Int × Int:=((dj E id fr la).take i).foldl (oZ E id) (0,x,hX (got E (Ky.mk 7 id fr)) 0)
theorem wJ{x:Int}{c:Int × Int × Int}(hc:(dj E id fr la)[i]? = some c):kA E id fr la x (i + 1)=oZ E id (kA E id fr la x i) c:=by
 unfold kA;rw[List.take_add_one,hc,List.foldl_append];rfl
end
end Fo
end
section
namespace Fo
open Go.RowKit Go.Lib Pg Lim Gl Kv Bk Pw
section
variable {w:World}
attribute [local go_sem] Oper.semAt_some
set_option linter.unusedVariables false
set_option linter.unusedSimpArgs false
structure F1s where
 bk:Nat
 bf:Nat
 aF:Option Addr
 nF:Nat
 cF:Nat
 zF:Nat
structure F1(B:Nat)(w V:World)(K:Nat->Prop)(g:Nat)(E:aD)(W:List aD)(n N:Nat)(a5:Option Addr)(n5 c5 z5:Nat)(x5 F:Int)(r0:Nat)(s:F1s):Prop where
 A:Rg (· = g) B w V K g E W (n + 1) N
 xk:Blk V s.bk [.slice a5 n5 c5] 32
 xf:Blk V s.bf [.slice s.aF s.nF s.cF] 32
 nk:¬ K s.bk
 nf:¬ K s.bf
 ne:s.bk≠s.bf
 q5:Nq V K z5 a5 n5 c5 x5
 qf:Nq V K s.zF s.aF s.nF s.cF F
 mf:s.nF<=510
 rk:s.bk≠r0
 rf:s.bf≠r0
 zk:w.heap.size<=s.bk\/s.bk=g
 zf:w.heap.size<=s.bf\/s.bf=g
def okM(Q:Exit->Act->World->Prop):Exit->Act->World->Prop
 | .normal,a,w=>Q .normal a w
 | .ret,a,w=>Q .ret a w
 | _,_,_=>False
theorem weakM{c:Code}{a:Act}{Q:Exit->Act->World->Prop}(h:c.wp Tryz.prog (okM Q) a w):c.wp Tryz.prog Q a w :=
 Code.wp_mono (fun e a' w' h=>by
  cases e<;>first
   | exact h
   | exact h.elim) h
structure PfE(B:Nat)(w:World)(K:Nat->Prop)(g:Nat)(E:aD)(W:List aD)(D r y:Nat)(a:Option Addr)(k d x:Nat)(V:Int)(u:Unit)(N:Nat)(V':World):Prop where
 s:Sx B V' K g E W x N
 c:Chg (· = g) w V'
 df:V'.heap[D]? = some (.deferred (some []))
 q:Nq V' K y a k d V
end
section
variable {B:Nat} {w V' V2:World} {K:Nat->Prop} {g:Nat} {E:aD} {W:List aD} {D r y:Nat} {a:Option Addr} {k d x:Nat} {V:Int} {N:Nat}
section
variable {b:Option Addr}{n:Nat}{fn:Func}{R:Ending->World->Prop}{w:World}{v:Value}
theorem PfE.drew(h:PfE B w K g E W D r y a k d x V () N V'):PfE B w K g E W D r y a k d x V () N V'.drew:=⟨h.s.keep (Below.refl _ _).drew,h.c.trans (Chg.of (F:=fun _=>False) (Below.refl _ _).drew) (fun _ _ h=>h.elim),h.df,h.q.drew⟩
theorem PfE.cell{c:Nat}(h:PfE B w K g E W D r y a k d x V () N V')(j:Blk V' r [.slice b n c] 32)(C:Chg (· = r) V' V2)(nk:¬ K r)(l:w.heap.size<=r\/r=g):PfE B w K g E W D r y a k d x V () N V2:=by
 refine⟨⟨h.s.sa.chg C (fun b e hb=>nk ((show b=r from e)▸hb)) (fun b e cs i=>by have f:b=r:=e; subst f; exact absurd (i.eq j).2 (by decide)),Nat.le_trans h.s.lo C.size,h.s.kb⟩,h.c.trans C (fun b hb e=>by have f:b=r:=e; rcases l with z1 | z1<;>first | omega | exact f.trans z1),?_,h.q.cell C (dL h.q j (fun y h=>by cases h))⟩;refine(C.same D (lt_of_block h.df) (fun e => ?_)).trans h.df
 have f:D=r:=e;have:=h.df;rw[f,j.blk] at this
 cases this
theorem PfE.fin(h:PfE B w K g E W D r y a k d x V () N V')(b:w.heap.size<=D):Sx B (V'.putObj D (.deferred none)) K g E W x N/\Chg (· = g) w (V'.putObj D (.deferred none))/\Nq (V'.putObj D (.deferred none)) K y a k d V:=by
 have R:=Rec.put (B:=w.heap.size) h.df rfl b (.deferred none);exact⟨⟨qG h.s.sa R,Nat.le_trans h.s.lo R.size,h.s.kb⟩,jx h.c R (Nat.le_refl _),h.q.rcd R⟩
theorem Bp{l:Fr}(f:w.heap[D]? = some (.deferred (some [])))(c:∀ a,Rd n [{ target:=.collected D,args:=#[] }] l a->(results fn a.tmps).run Tryz.prog (w.putObj D (.deferred none))=.ok v (w.putObj D (.deferred none)))(d:R (.returned v) (w.putObj D (.deferred none))):GE n [{ target:=.collected D,args:=#[] }] (okM (bodyPostM Fence.wide 0 Tryz.prog fn R)) .ret l w:=⟨fun a r=>by
 have b:=c a r;obtain⟨tmps,dfs⟩:=a
 have e:dfs=[{ target:=.collected D,args:=#[] }]:=r.dfs;subst e
 show bodyPostM Fence.wide 0 Tryz.prog fn R .ret _ _
 refine⟨by simp,.inl ⟨_,_,rfl,run_takeDeferred f,?_⟩⟩;exact⟨_,b,d⟩⟩
theorem rsctM{ds:List Deferred}{l:Fr}{P:Program}(j k:Nat){T:TypeId}{g:Nat}{u:Value}(h:fn.results=#[.cell j T,.tmp k])(hu:lk l j=some (.pointer (some ⟨g,0,none⟩)))(e:lk l k=some v)(d:(loadVar T ⟨g,0,none⟩).run P w=.ok u w)(a:Act)(r:Rd n ds l a):(results fn a.tmps).run P w=.ok (.tuple #[u,v]) w:=by
 have b:=r.gD hu;have c:=r.gD e;simp at b c;simp[results,h,b,c,asAddr,d]
end
end
section
variable {n:Nat}{vs:List Value}{a:Act}{w:World}{K:Nat → Prop}{W:List aD}{a0 a1 a2 a3 a4 a5:Option Addr}
structure nD(B:Nat)(w:World)(K:Nat->Prop)(g:Nat)(E:aD)(W:List aD)(n N c:Nat)(V:Int)(e:Ending)(w':World):Prop where
 ex:∃ a k d z,e=.returned (.tuple #[.agg #[.slice a k d],.int .i64 (c:Int)])/\Sx B w' K g E W (n + 3 + 2 * c) N/\Chg (· = g) w w'/\Nq w' K z a k d V/\k<=3000000000/\(k=0\/w.heap.size<=z)
def clV(E:aD)(id fr la x:Int):Int:=(kA E id fr la x (dj E id fr la).length).1 + (kA E id fr la x (dj E id fr la).length).2.1 * gU (hX (got E (Ky.mk 7 id la)) 0) (kA E id fr la x (dj E id fr la).length).2.2 / U36
theorem rd_en(e:a=⟨vs.toArray ++ Array.replicate (n - vs.length) undef,[]⟩)(hs:Nat.ble vs.length n=true):Rd n [] (en 0 vs) a:=by
 subst e;have hs:=Nat.le_of_ble_eq_true hs;refine⟨?_,rfl,fun k v d => ?_⟩
 ·simp;omega
 ·obtain⟨_,c⟩:=zy vs 0 k v d;rw[Nat.sub_zero] at c;have b:=(List.getElem?_eq_some_iff.1 c).1;simp only;rw[Array.getElem?_append_left (by simpa using b)];simpa using c
theorem CW{l:Fr}(r:Rd n [] l a):∃ x:Nat->Value,a=⟨((List.range n).map fun k=>(lk l k).getD (x k)).toArray,[]⟩:=by
 refine⟨fun k=>a.tmps.getD k undef,?_⟩;obtain⟨f,df⟩:=a;obtain⟨d,c,b⟩:=r;simp only at d c b;subst c;congr 1
 apply Array.ext
 ·simp[d]
 ·intro i hi _;simp only[List.getElem_toArray,List.getElem_map,List.getElem_range]
  cases e:lk l i with
  | none=>simp[hi]
  | some v =>
   have:=b i v e;rw[Array.getElem?_eq_getElem hi] at this;simpa using this
theorem kG{B:Nat}{g:Nat}{E:aD}{N:Nat}{rt tk un pe id dp:Int}{jl bo:Bool}{n0 c0 z0:Nat}{x0:Int}{n1 c1 z1:Nat}{x1:Int}{n2 c2 z2:Nat}{x2:Int}{n3 c3 z3:Nat}{x3:Int}{n4 c4 z4:Nat}{x4:Int}{n5 c5 z5:Nat}{x5:Int}(h : Sx B w K g E W n N)(hid : 0 ≤ id ∧ id < 18446744073709551616)(Q5 : Nq w K z5 a5 n5 c5 x5)(m5 : n5 ≤ 1000000)(hRk : ∀ x ∈ oD E id dp ((pe - 1) % 18446744073709551616), Ky.frm (8 : Nat) = Ky.fIn x.1)(hn2 : n ≤ 1000000000000000000)(hcl : (dj E id dp ((pe - 1) % 18446744073709551616)).length ≤ 1000)(hn : n + 3000 ≤ 4000000000000000000)(hN : N + 3000 ≤ 100000000) : Calls Tryz.prog 20 #[pg g, .int .u64 id, .agg #[.int .u64 rt, .int .u64 tk, .slice a0 n0 c0, .bool jl, .int .u64 un, .bool bo, .int .u64 pe, .slice a1 n1 c1, .slice a2 n2 c2, .slice a3 n3 c3], .agg #[.slice a4 n4 c4, .int .u64 dp, .slice a5 n5 c5]] w (nD B w K g E W n N (dj E id dp ((pe - 1) % 18446744073709551616)).length (clV E id dp ((pe - 1) % 18446744073709551616) x5)) := by
  have A := rg_of (X := (· = g)) h rfl;refine(callsIn_wide (n := 0)).1 ?_
  refine callsIn_of_wp_marks Tryz.func20 rfl trivial ?_ rfl;refine wpIn_wide.2 (weakM (GC.out (n := 50) (ds := []) (l := en 0 [pg g, .int .u64 id, .agg #[.int .u64 rt, .int .u64 tk, .slice a0 n0 c0, .bool jl, .int .u64 un, .bool bo, .int .u64 pe, .slice a1 n1 c1, .slice a2 n2 c2, .slice a3 n3 c3], .agg #[.slice a4 n4 c4, .int .u64 dp, .slice a5 n5 c5]]) ?_ _ (rd_en (by rfl) (by kernel_rfl))));refine ax (aA (ta 4 [pg g] 37 (pg) ?_));intro v1 g2 f hg2 B;have zg2 := Or.inl (b := (fun b => b = g) g2) (Nat.le_trans A.size hg2);have bb := A.new hg2;have eQ5g2 := ne1 Q5.lt hg2;replace A := A.keep B;replace Q5 := Q5.keep B;clear B;have I := f.lt;refine ta 5 [.int .u64 id] 22 (pg) ?_
  intro v3 g4 j hg4 B;have zg4 := Or.inl (b := (fun b => b = g) g4) (Nat.le_trans A.size hg4);have bc := A.new hg4;have eQ5g4 := ne1 Q5.lt hg4;have dg4_g2 := ne4 f.lt hg4;replace A := A.keep B;replace Q5 := Q5.keep B;replace f := f.keep B;clear B;have I := f.lt;have L := j.lt;refine ta 6 [.int .u64 rt, .int .u64 tk, .slice a0 n0 c0, .bool jl, .int .u64 un, .bool bo, .int .u64 pe, .slice a1 n1 c1, .slice a2 n2 c2, .slice a3 n3 c3] 39 (pg) ?_
  intro v5 g6 m hg6 B;have zg6 := Or.inl (b := (fun b => b = g) g6) (Nat.le_trans A.size hg6);have bw := A.new hg6;have eQ5g6 := ne1 Q5.lt hg6;have dg6_g2 := ne4 f.lt hg6;have dg6_g4 := ne4 j.lt hg6;replace A := A.keep B;replace Q5 := Q5.keep B;replace f := f.keep B;replace j := j.keep B;clear B;have I := f.lt;have L := j.lt;have Q := m.lt;refine ta 7 [.slice a4 n4 c4, .int .u64 dp, .slice a5 n5 c5] 54 (pg) ?_
  intro v7 g8 o hg8 B;have zg8 := Or.inl (b := (fun b => b = g) g8) (Nat.le_trans A.size hg8);have bx := A.new hg8;have eQ5g8 := ne1 Q5.lt hg8;have dg8_g2 := ne4 f.lt hg8;have dg8_g4 := ne4 j.lt hg8;have dg8_g6 := ne4 m.lt hg8;replace A := A.keep B;replace Q5 := Q5.keep B;replace f := f.keep B;replace j := j.keep B;replace m := m.keep B;clear B;have I := f.lt;have L := j.lt;have Q := m.lt;have R := o.lt;refine ta 8 [.slice none 0 0] 32 (pg) ?_
  intro v9 g10 d bd B;have zg10 := Or.inl (b := (fun b => b = g) g10) (Nat.le_trans A.size bd);have ao := A.new bd;have eQ5g10 := ne1 Q5.lt bd;have dg10_g2 := ne4 f.lt bd;have dg10_g4 := ne4 j.lt bd;have dg10_g6 := ne4 m.lt bd;have dg10_g8 := ne4 o.lt bd;replace A := A.keep B;replace Q5 := Q5.keep B;replace f := f.keep B;replace j := j.keep B;replace m := m.keep B;replace o := o.keep B;clear B;refine t 9 (.int .i64 0) ?_
  refine ay (ah ?_);refine pW (fun(s : F1s) => [(4, pg g2), (5, pg g4), (7, pg g8), (8, pg g10), (9, .int .i64 0), (10, pg s.bk), (11, pg s.bf), (12, .int .u64 ((pe - 1) % 18446744073709551616))]) (fun s V => F1 B w V K g E W n N a5 n5 c5 z5 x5 (hX (got E (Ky.mk 7 id dp)) 0) g10 s ∧ Blk V g2 [pg g] 37 ∧ Blk V g4 [.int .u64 id] 22 ∧ Blk V g6 [.int .u64 rt, .int .u64 tk, .slice a0 n0 c0, .bool jl, .int .u64 un, .bool bo, .int .u64 pe, .slice a1 n1 c1, .slice a2 n2 c2, .slice a3 n3 c3] 39 ∧ Blk V g8 [.slice a4 n4 c4, .int .u64 dp, .slice a5 n5 c5] 54 ∧ Blk V g10 [.slice none 0 0] 32) ?_ ?_
  · replace A := A.drew
    replace Q5 := Q5.drew;replace f := f.drew;replace j := j.drew;replace m := m.drew;replace o := o.drew;replace d := d.drew;refine cj (fun w' => Blk w' g8 [.slice a4 n4 c4, .int .u64 dp, .slice a5 n5 c5] 54 ∧ Blk w' g2 [pg g] 37 ∧ Blk w' g4 [.int .u64 id] 22 ∧ Blk w' g6 [.int .u64 rt, .int .u64 tk, .slice a0 n0 c0, .bool jl, .int .u64 un, .bool bo, .int .u64 pe, .slice a1 n1 c1, .slice a2 n2 c2, .slice a3 n3 c3] 39) (fun _ => false) ⟨o, f, j, m⟩ ?_
    refine z 0 18 (pq g8 2) ?_
    refine zlr 1 19 [.slice a5 n5 c5] (fun _ h => h.1) 2 ?_
    refine zl 2 20 (pg g) (fun _ h => h.2.1) 0 ?_
    refine zl 3 21 (.int .u64 id) (fun _ h => h.2.2.1) 0 ?_
    refine z 4 22 (pq g8 1) ?_
    refine zl 5 23 (.int .u64 dp) (fun _ h => h.1) 1 ?_
    refine z 7 25 (pq g6 6) ?_
    refine zl 8 26 (.int .u64 pe) (fun _ h => h.2.2.2) 6 ?_
    refine zq 9 27 (.int .u64 (IntKind.u64.wrap (pe - 1))) (.int .u64 ((pe - 1) % 18446744073709551616)) (congrArg (Value.int .u64) (IntKind.wrap_u64 _)) ?_
    refine cD [6, 10, 11] ?_
    refine dW 6 (some 24) 49 #[pg g, .int .u64 id, .int .u64 dp] (jS A.sx hid (by omega) (by omega)) ?_ ?_
    · rintro _ v12 ⟨aW, aX, aY, rfl, zr11, S, C, F, mr11, be⟩
      have eQr11g2 := ne2 be f.lt;have eQr11g4 := ne2 be j.lt;have eQr11g6 := ne2 be m.lt;have eQr11g8 := ne2 be o.lt;have eQr11g10 := ne2 be d.lt;have fQr11 := ne3 be A.size;clear be;have hC := C.mono (fun b _ (e : b = g) => e ▸ A.top);replace Q5 := Q5.op (fun _ h => .inl h) hC;replace f := f.chg C (fun e => bb (e ▸ A.top));replace j := j.chg C (fun e => bc (e ▸ A.top));replace m := m.chg C (fun e => bw (e ▸ A.top));replace o := o.chg C (fun e => bx (e ▸ A.top));replace d := d.chg C (fun e => ao (e ▸ A.top));replace A := A.op S C;clear S hC C;refine⟨_, rfl, ⟨o, f, j, m⟩, ?_⟩;refine cD [10, 11] ?_
      have I := f.lt;have L := j.lt;have Q := m.lt;have R := o.lt;have H := d.lt;refine zaa 10 10 [.slice none 0 0] 32 (pg) ?_ ?_
      · intro v13 g14 ab ap B
        have zg14 := Or.inl (b := (fun b => b = g) g14) (Nat.le_trans A.size ap);have nXg14 := A.new ap;have eQ5g14 := ne1 Q5.lt ap;have eQr11g14 := ne1 F.lt ap;have dg14_g2 := ne4 f.lt ap;have dg14_g4 := ne4 j.lt ap;have dg14_g6 := ne4 m.lt ap;have dg14_g8 := ne4 o.lt ap;have bl := ne4 d.lt ap;replace A := A.keep B;replace Q5 := Q5.keep B;replace f := f.keep B;replace j := j.keep B;replace m := m.keep B;replace o := o.keep B;replace d := d.keep B;replace F := F.keep B;clear B;refine⟨⟨o, f, j, m⟩, ?_⟩;have I := f.lt;have L := j.lt;have Q := m.lt;have R := o.lt;have H := d.lt;have lXg14 := ab.lt;refine za 11 11 [.slice none 0 0] 32 (pg) ?_
        intro v15 g16 bg ai B;have zg16 := Or.inl (b := (fun b => b = g) g16) (Nat.le_trans A.size ai);have nXg16 := A.new ai;have eQ5g16 := ne1 Q5.lt ai;have eQr11g16 := ne1 F.lt ai;have dg16_g2 := ne4 f.lt ai;have dg16_g4 := ne4 j.lt ai;have dg16_g6 := ne4 m.lt ai;have dg16_g8 := ne4 o.lt ai;have bm := ne4 d.lt ai;have aI := ne4 ab.lt ai;replace A := A.keep B;replace Q5 := Q5.keep B;replace f := f.keep B;replace j := j.keep B;replace m := m.keep B;replace o := o.keep B;replace d := d.keep B;replace F := F.keep B;replace ab := ab.keep B;clear B;refine⟨⟨o, f, j, m⟩, ?_⟩;refine zs 12 ab 0 (.agg #[.slice a5 n5 c5]) [.slice a5 n5 c5] [.slice a5 n5 c5] ?_
        intro v17 Y C;replace A := Rg.cell A ab C zg14 nXg14 (by decide);replace Q5 := Q5.cell C eQ5g14;replace f := f.chg C dg14_g2.symm;replace j := j.chg C dg14_g4.symm;replace m := m.chg C dg14_g6.symm;replace o := o.chg C dg14_g8.symm;replace d := d.chg C bl.symm;replace F := F.cell C eQr11g14;replace bg := bg.chg C aI;clear C ab;have ab := Y;clear Y;refine⟨⟨o, f, j, m⟩, ?_⟩;refine zs 13 bg 0 (.agg #[.slice aW aX aY]) [.slice aW aX aY] [.slice aW aX aY] ?_
        intro v18 Y C;replace A := Rg.cell A bg C zg16 nXg16 (by decide);replace Q5 := Q5.cell C eQ5g16;replace f := f.chg C dg16_g2.symm;replace j := j.chg C dg16_g4.symm;replace m := m.chg C dg16_g6.symm;replace o := o.chg C dg16_g8.symm;replace d := d.chg C bm.symm;replace F := F.cell C eQr11g16;replace ab := ab.chg C aI.symm;clear C bg;have bg := Y;clear Y;refine⟨⟨o, f, j, m⟩, ?_⟩;refine z 14 12 (.int .u64 ((pe - 1) % 18446744073709551616)) ?_
        refine bB ?_
        exact dH (⟨g14, g16, aW, aX, aY, zr11⟩ : F1s) ⟨⟨A, ab, bg, nXg14, nXg16, aI.symm, Q5, F, by omega, bl, bm, zg14, zg16⟩, f, j, m, o, d⟩ (by kernel_rfl)
      have I := f.lt;have L := j.lt;have Q := m.lt;have R := o.lt;have H := d.lt;refine zaa 11 11 [.slice none 0 0] 32 (pg) ?_ ?_
      · intro v19 g20 ac aq B
        have zg20 := Or.inl (b := (fun b => b = g) g20) (Nat.le_trans A.size aq);have nXg20 := A.new aq;have eQ5g20 := ne1 Q5.lt aq;have eQr11g20 := ne1 F.lt aq;have dg20_g2 := ne4 f.lt aq;have dg20_g4 := ne4 j.lt aq;have dg20_g6 := ne4 m.lt aq;have dg20_g8 := ne4 o.lt aq;have bn := ne4 d.lt aq;replace A := A.keep B;replace Q5 := Q5.keep B;replace f := f.keep B;replace j := j.keep B;replace m := m.keep B;replace o := o.keep B;replace d := d.keep B;replace F := F.keep B;clear B;refine⟨⟨o, f, j, m⟩, ?_⟩;have I := f.lt;have L := j.lt;have Q := m.lt;have R := o.lt;have H := d.lt;have lXg20 := ac.lt;refine za 10 10 [.slice none 0 0] 32 (pg) ?_
        intro v21 g22 bh aj B;have zg22 := Or.inl (b := (fun b => b = g) g22) (Nat.le_trans A.size aj);have nXg22 := A.new aj;have eQ5g22 := ne1 Q5.lt aj;have eQr11g22 := ne1 F.lt aj;have dg22_g2 := ne4 f.lt aj;have dg22_g4 := ne4 j.lt aj;have dg22_g6 := ne4 m.lt aj;have dg22_g8 := ne4 o.lt aj;have bp := ne4 d.lt aj;have aJ := ne4 ac.lt aj;replace A := A.keep B;replace Q5 := Q5.keep B;replace f := f.keep B;replace j := j.keep B;replace m := m.keep B;replace o := o.keep B;replace d := d.keep B;replace F := F.keep B;replace ac := ac.keep B;clear B;refine⟨⟨o, f, j, m⟩, ?_⟩;refine zs 12 bh 0 (.agg #[.slice a5 n5 c5]) [.slice a5 n5 c5] [.slice a5 n5 c5] ?_
        intro v23 Y C;replace A := Rg.cell A bh C zg22 nXg22 (by decide);replace Q5 := Q5.cell C eQ5g22;replace f := f.chg C dg22_g2.symm;replace j := j.chg C dg22_g4.symm;replace m := m.chg C dg22_g6.symm;replace o := o.chg C dg22_g8.symm;replace d := d.chg C bp.symm;replace F := F.cell C eQr11g22;replace ac := ac.chg C aJ.symm;clear C bh;have bh := Y;clear Y;refine⟨⟨o, f, j, m⟩, ?_⟩;refine zs 13 ac 0 (.agg #[.slice aW aX aY]) [.slice aW aX aY] [.slice aW aX aY] ?_
        intro v24 Y C;replace A := Rg.cell A ac C zg20 nXg20 (by decide);replace Q5 := Q5.cell C eQ5g20;replace f := f.chg C dg20_g2.symm;replace j := j.chg C dg20_g4.symm;replace m := m.chg C dg20_g6.symm;replace o := o.chg C dg20_g8.symm;replace d := d.chg C bn.symm;replace F := F.cell C eQr11g20;replace bh := bh.chg C aJ;clear C ac;have ac := Y;clear Y;refine⟨⟨o, f, j, m⟩, ?_⟩;refine z 14 12 (.int .u64 ((pe - 1) % 18446744073709551616)) ?_
        refine bB ?_
        exact dH (⟨g22, g20, aW, aX, aY, zr11⟩ : F1s) ⟨⟨A, bh, ac, nXg22, nXg20, aJ, Q5, F, by omega, bp, bn, zg22, zg20⟩, f, j, m, o, d⟩ (by kernel_rfl)
      exact dY
    have I := f.lt;have L := j.lt;have Q := m.lt;have R := o.lt;have H := d.lt;refine zaa 10 10 [.slice none 0 0] 32 (pg) ?_ ?_
    · intro v25 g26 v aZ B
      have zg26 := Or.inl (b := (fun b => b = g) g26) (Nat.le_trans A.size aZ);have aK := A.new aZ;have eQ5g26 := ne1 Q5.lt aZ;have bz := ne4 f.lt aZ;have bA := ne4 j.lt aZ;have bC := ne4 m.lt aZ;have bD := ne4 o.lt aZ;have af := ne4 d.lt aZ;replace A := A.keep B;replace Q5 := Q5.keep B;replace f := f.keep B;replace j := j.keep B;replace m := m.keep B;replace o := o.keep B;replace d := d.keep B;clear B;refine⟨⟨o, f, j, m⟩, ?_⟩;refine cD [6, 11] ?_
      refine dW 6 (some 24) 49 #[pg g, .int .u64 id, .int .u64 dp] (jS A.sx hid (by omega) (by omega)) ?_ ?_
      · rintro _ v28 ⟨ar27, nr27, cr27, rfl, zr27, S, C, a6, mr27, a7⟩
        have eQr27g2 := ne2 a7 f.lt;have eQr27g4 := ne2 a7 j.lt;have eQr27g6 := ne2 a7 m.lt;have eQr27g8 := ne2 a7 o.lt;have eQr27g10 := ne2 a7 d.lt;have eQr27g26 := ne2 a7 v.lt;have fQr27 := ne3 a7 A.size;clear a7;have hC := C.mono (fun b _ (e : b = g) => e ▸ A.top);replace Q5 := Q5.op (fun _ h => .inl h) hC;replace f := f.chg C (fun e => bb (e ▸ A.top));replace j := j.chg C (fun e => bc (e ▸ A.top));replace m := m.chg C (fun e => bw (e ▸ A.top));replace o := o.chg C (fun e => bx (e ▸ A.top));replace d := d.chg C (fun e => ao (e ▸ A.top));replace v := v.chg C (fun e => aK (e ▸ A.top));replace A := A.op S C;clear S hC C;refine⟨_, rfl, ⟨o, f, j, m⟩, ?_⟩;have I := f.lt;have L := j.lt;have Q := m.lt;have R := o.lt;have H := d.lt;have lXg26 := v.lt;refine za 11 11 [.slice none 0 0] 32 (pg) ?_
        intro v29 g30 bi ak B;have zg30 := Or.inl (b := (fun b => b = g) g30) (Nat.le_trans A.size ak);have nXg30 := A.new ak;have eQ5g30 := ne1 Q5.lt ak;have eQr27g30 := ne1 a6.lt ak;have dg30_g2 := ne4 f.lt ak;have dg30_g4 := ne4 j.lt ak;have dg30_g6 := ne4 m.lt ak;have dg30_g8 := ne4 o.lt ak;have bq := ne4 d.lt ak;have aL := ne4 v.lt ak;replace A := A.keep B;replace Q5 := Q5.keep B;replace f := f.keep B;replace j := j.keep B;replace m := m.keep B;replace o := o.keep B;replace d := d.keep B;replace v := v.keep B;replace a6 := a6.keep B;clear B;refine⟨⟨o, f, j, m⟩, ?_⟩;refine zs 12 v 0 (.agg #[.slice a5 n5 c5]) [.slice a5 n5 c5] [.slice a5 n5 c5] ?_
        intro v31 Y C;replace A := Rg.cell A v C zg26 aK (by decide);replace Q5 := Q5.cell C eQ5g26;replace f := f.chg C bz.symm;replace j := j.chg C bA.symm;replace m := m.chg C bC.symm;replace o := o.chg C bD.symm;replace d := d.chg C af.symm;replace a6 := a6.cell C eQr27g26;replace bi := bi.chg C aL;clear C v;have v := Y;clear Y;refine⟨⟨o, f, j, m⟩, ?_⟩;refine zs 13 bi 0 (.agg #[.slice ar27 nr27 cr27]) [.slice ar27 nr27 cr27] [.slice ar27 nr27 cr27] ?_
        intro v32 Y C;replace A := Rg.cell A bi C zg30 nXg30 (by decide);replace Q5 := Q5.cell C eQ5g30;replace f := f.chg C dg30_g2.symm;replace j := j.chg C dg30_g4.symm;replace m := m.chg C dg30_g6.symm;replace o := o.chg C dg30_g8.symm;replace d := d.chg C bq.symm;replace v := v.chg C aL.symm;replace a6 := a6.cell C eQr27g30;clear C bi;have bi := Y;clear Y;refine⟨⟨o, f, j, m⟩, ?_⟩;refine z 14 12 (.int .u64 ((pe - 1) % 18446744073709551616)) ?_
        refine bB ?_
        exact dH (⟨g26, g30, ar27, nr27, cr27, zr27⟩ : F1s) ⟨⟨A, v, bi, aK, nXg30, aL.symm, Q5, a6, by omega, af, bq, zg26, zg30⟩, f, j, m, o, d⟩ (by kernel_rfl)
      have I := f.lt;have L := j.lt;have Q := m.lt;have R := o.lt;have H := d.lt;have lXg26 := v.lt;refine zaa 11 11 [.slice none 0 0] 32 (pg) ?_ ?_
      · intro v33 g34 al ar B
        have zg34 := Or.inl (b := (fun b => b = g) g34) (Nat.le_trans A.size ar);have nXg34 := A.new ar;have eQ5g34 := ne1 Q5.lt ar;have dg34_g2 := ne4 f.lt ar;have dg34_g4 := ne4 j.lt ar;have dg34_g6 := ne4 m.lt ar;have dg34_g8 := ne4 o.lt ar;have br := ne4 d.lt ar;have aM := ne4 v.lt ar;replace A := A.keep B;replace Q5 := Q5.keep B;replace f := f.keep B;replace j := j.keep B;replace m := m.keep B;replace o := o.keep B;replace d := d.keep B;replace v := v.keep B;clear B;refine⟨⟨o, f, j, m⟩, ?_⟩;refine zc 6 24 49 #[pg g, .int .u64 id, .int .u64 dp] (jS A.sx hid (by omega) (by omega)) ?_
        rintro _ v36 ⟨ar35, nr35, cr35, rfl, zr35, S, C, bE, mr35, au⟩;have eQr35g2 := ne2 au f.lt;have eQr35g4 := ne2 au j.lt;have eQr35g6 := ne2 au m.lt;have eQr35g8 := ne2 au o.lt;have eQr35g10 := ne2 au d.lt;have eQr35g26 := ne2 au v.lt;have eQr35g34 := ne2 au al.lt;have fQr35 := ne3 au A.size;clear au;have hC := C.mono (fun b _ (e : b = g) => e ▸ A.top);replace Q5 := Q5.op (fun _ h => .inl h) hC;replace f := f.chg C (fun e => bb (e ▸ A.top));replace j := j.chg C (fun e => bc (e ▸ A.top));replace m := m.chg C (fun e => bw (e ▸ A.top));replace o := o.chg C (fun e => bx (e ▸ A.top));replace d := d.chg C (fun e => ao (e ▸ A.top));replace v := v.chg C (fun e => aK (e ▸ A.top));replace al := al.chg C (fun e => nXg34 (e ▸ A.top));replace A := A.op S C;clear S hC C;refine⟨_, rfl, ⟨o, f, j, m⟩, ?_⟩;refine zs 12 v 0 (.agg #[.slice a5 n5 c5]) [.slice a5 n5 c5] [.slice a5 n5 c5] ?_
        intro v37 Y C;replace A := Rg.cell A v C zg26 aK (by decide);replace Q5 := Q5.cell C eQ5g26;replace f := f.chg C bz.symm;replace j := j.chg C bA.symm;replace m := m.chg C bC.symm;replace o := o.chg C bD.symm;replace d := d.chg C af.symm;replace al := al.chg C aM;replace bE := bE.cell C eQr35g26;clear C v;have v := Y;clear Y;refine⟨⟨o, f, j, m⟩, ?_⟩;refine zs 13 al 0 (.agg #[.slice ar35 nr35 cr35]) [.slice ar35 nr35 cr35] [.slice ar35 nr35 cr35] ?_
        intro v38 Y C;replace A := Rg.cell A al C zg34 nXg34 (by decide);replace Q5 := Q5.cell C eQ5g34;replace f := f.chg C dg34_g2.symm;replace j := j.chg C dg34_g4.symm;replace m := m.chg C dg34_g6.symm;replace o := o.chg C dg34_g8.symm;replace d := d.chg C br.symm;replace v := v.chg C aM.symm;replace bE := bE.cell C eQr35g34;clear C al;have al := Y;clear Y;refine⟨⟨o, f, j, m⟩, ?_⟩;refine z 14 12 (.int .u64 ((pe - 1) % 18446744073709551616)) ?_
        refine bB ?_
        exact dH (⟨g26, g34, ar35, nr35, cr35, zr35⟩ : F1s) ⟨⟨A, v, al, aK, nXg34, aM.symm, Q5, bE, by omega, af, br, zg26, zg34⟩, f, j, m, o, d⟩ (by kernel_rfl)
      exact dY
    have I := f.lt;have L := j.lt;have Q := m.lt;have R := o.lt;have H := d.lt;refine zaa 11 11 [.slice none 0 0] 32 (pg) ?_ ?_
    · intro v39 g40 D a8 B
      have zg40 := Or.inl (b := (fun b => b = g) g40) (Nat.le_trans A.size a8);have aN := A.new a8;have eQ5g40 := ne1 Q5.lt a8;have bF := ne4 f.lt a8;have bG := ne4 j.lt a8;have bH := ne4 m.lt a8;have bI := ne4 o.lt a8;have ag := ne4 d.lt a8;replace A := A.keep B;replace Q5 := Q5.keep B;replace f := f.keep B;replace j := j.keep B;replace m := m.keep B;replace o := o.keep B;replace d := d.keep B;clear B;refine⟨⟨o, f, j, m⟩, ?_⟩;refine cD [6, 10] ?_
      refine dW 6 (some 24) 49 #[pg g, .int .u64 id, .int .u64 dp] (jS A.sx hid (by omega) (by omega)) ?_ ?_
      · rintro _ v42 ⟨ar41, nr41, cr41, rfl, zr41, S, C, a9, mr41, ba⟩
        have eQr41g2 := ne2 ba f.lt;have eQr41g4 := ne2 ba j.lt;have eQr41g6 := ne2 ba m.lt;have eQr41g8 := ne2 ba o.lt;have eQr41g10 := ne2 ba d.lt;have eQr41g40 := ne2 ba D.lt;have fQr41 := ne3 ba A.size;clear ba;have hC := C.mono (fun b _ (e : b = g) => e ▸ A.top);replace Q5 := Q5.op (fun _ h => .inl h) hC;replace f := f.chg C (fun e => bb (e ▸ A.top));replace j := j.chg C (fun e => bc (e ▸ A.top));replace m := m.chg C (fun e => bw (e ▸ A.top));replace o := o.chg C (fun e => bx (e ▸ A.top));replace d := d.chg C (fun e => ao (e ▸ A.top));replace D := D.chg C (fun e => aN (e ▸ A.top));replace A := A.op S C;clear S hC C;refine⟨_, rfl, ⟨o, f, j, m⟩, ?_⟩;have I := f.lt;have L := j.lt;have Q := m.lt;have R := o.lt;have H := d.lt;have lXg40 := D.lt;refine za 10 10 [.slice none 0 0] 32 (pg) ?_
        intro v43 g44 bj am B;have zg44 := Or.inl (b := (fun b => b = g) g44) (Nat.le_trans A.size am);have nXg44 := A.new am;have eQ5g44 := ne1 Q5.lt am;have eQr41g44 := ne1 a9.lt am;have dg44_g2 := ne4 f.lt am;have dg44_g4 := ne4 j.lt am;have dg44_g6 := ne4 m.lt am;have dg44_g8 := ne4 o.lt am;have bs := ne4 d.lt am;have aO := ne4 D.lt am;replace A := A.keep B;replace Q5 := Q5.keep B;replace f := f.keep B;replace j := j.keep B;replace m := m.keep B;replace o := o.keep B;replace d := d.keep B;replace D := D.keep B;replace a9 := a9.keep B;clear B;refine⟨⟨o, f, j, m⟩, ?_⟩;refine zs 12 bj 0 (.agg #[.slice a5 n5 c5]) [.slice a5 n5 c5] [.slice a5 n5 c5] ?_
        intro v45 Y C;replace A := Rg.cell A bj C zg44 nXg44 (by decide);replace Q5 := Q5.cell C eQ5g44;replace f := f.chg C dg44_g2.symm;replace j := j.chg C dg44_g4.symm;replace m := m.chg C dg44_g6.symm;replace o := o.chg C dg44_g8.symm;replace d := d.chg C bs.symm;replace D := D.chg C aO.symm;replace a9 := a9.cell C eQr41g44;clear C bj;have bj := Y;clear Y;refine⟨⟨o, f, j, m⟩, ?_⟩;refine zs 13 D 0 (.agg #[.slice ar41 nr41 cr41]) [.slice ar41 nr41 cr41] [.slice ar41 nr41 cr41] ?_
        intro v46 Y C;replace A := Rg.cell A D C zg40 aN (by decide);replace Q5 := Q5.cell C eQ5g40;replace f := f.chg C bF.symm;replace j := j.chg C bG.symm;replace m := m.chg C bH.symm;replace o := o.chg C bI.symm;replace d := d.chg C ag.symm;replace a9 := a9.cell C eQr41g40;replace bj := bj.chg C aO;clear C D;have D := Y;clear Y;refine⟨⟨o, f, j, m⟩, ?_⟩;refine z 14 12 (.int .u64 ((pe - 1) % 18446744073709551616)) ?_
        refine bB ?_
        exact dH (⟨g44, g40, ar41, nr41, cr41, zr41⟩ : F1s) ⟨⟨A, bj, D, nXg44, aN, aO, Q5, a9, by omega, bs, ag, zg44, zg40⟩, f, j, m, o, d⟩ (by kernel_rfl)
      have I := f.lt;have L := j.lt;have Q := m.lt;have R := o.lt;have H := d.lt;have lXg40 := D.lt;refine zaa 10 10 [.slice none 0 0] 32 (pg) ?_ ?_
      · intro v47 g48 an av B
        have zg48 := Or.inl (b := (fun b => b = g) g48) (Nat.le_trans A.size av);have nXg48 := A.new av;have eQ5g48 := ne1 Q5.lt av;have dg48_g2 := ne4 f.lt av;have dg48_g4 := ne4 j.lt av;have dg48_g6 := ne4 m.lt av;have dg48_g8 := ne4 o.lt av;have bt := ne4 d.lt av;have aQ := ne4 D.lt av;replace A := A.keep B;replace Q5 := Q5.keep B;replace f := f.keep B;replace j := j.keep B;replace m := m.keep B;replace o := o.keep B;replace d := d.keep B;replace D := D.keep B;clear B;refine⟨⟨o, f, j, m⟩, ?_⟩;refine zc 6 24 49 #[pg g, .int .u64 id, .int .u64 dp] (jS A.sx hid (by omega) (by omega)) ?_
        rintro _ v50 ⟨ar49, nr49, cr49, rfl, zr49, S, C, bJ, mr49, aw⟩;have eQr49g2 := ne2 aw f.lt;have eQr49g4 := ne2 aw j.lt;have eQr49g6 := ne2 aw m.lt;have eQr49g8 := ne2 aw o.lt;have eQr49g10 := ne2 aw d.lt;have eQr49g40 := ne2 aw D.lt;have eQr49g48 := ne2 aw an.lt;have fQr49 := ne3 aw A.size;clear aw;have hC := C.mono (fun b _ (e : b = g) => e ▸ A.top);replace Q5 := Q5.op (fun _ h => .inl h) hC;replace f := f.chg C (fun e => bb (e ▸ A.top));replace j := j.chg C (fun e => bc (e ▸ A.top));replace m := m.chg C (fun e => bw (e ▸ A.top));replace o := o.chg C (fun e => bx (e ▸ A.top));replace d := d.chg C (fun e => ao (e ▸ A.top));replace D := D.chg C (fun e => aN (e ▸ A.top));replace an := an.chg C (fun e => nXg48 (e ▸ A.top));replace A := A.op S C;clear S hC C;refine⟨_, rfl, ⟨o, f, j, m⟩, ?_⟩;refine zs 12 an 0 (.agg #[.slice a5 n5 c5]) [.slice a5 n5 c5] [.slice a5 n5 c5] ?_
        intro v51 Y C;replace A := Rg.cell A an C zg48 nXg48 (by decide);replace Q5 := Q5.cell C eQ5g48;replace f := f.chg C dg48_g2.symm;replace j := j.chg C dg48_g4.symm;replace m := m.chg C dg48_g6.symm;replace o := o.chg C dg48_g8.symm;replace d := d.chg C bt.symm;replace D := D.chg C aQ.symm;replace bJ := bJ.cell C eQr49g48;clear C an;have an := Y;clear Y;refine⟨⟨o, f, j, m⟩, ?_⟩;refine zs 13 D 0 (.agg #[.slice ar49 nr49 cr49]) [.slice ar49 nr49 cr49] [.slice ar49 nr49 cr49] ?_
        intro v52 Y C;replace A := Rg.cell A D C zg40 aN (by decide);replace Q5 := Q5.cell C eQ5g40;replace f := f.chg C bF.symm;replace j := j.chg C bG.symm;replace m := m.chg C bH.symm;replace o := o.chg C bI.symm;replace d := d.chg C ag.symm;replace an := an.chg C aQ;replace bJ := bJ.cell C eQr49g40;clear C D;have D := Y;clear Y;refine⟨⟨o, f, j, m⟩, ?_⟩;refine z 14 12 (.int .u64 ((pe - 1) % 18446744073709551616)) ?_
        refine bB ?_
        exact dH (⟨g48, g40, ar49, nr49, cr49, zr49⟩ : F1s) ⟨⟨A, an, D, nXg48, aN, aQ, Q5, bJ, by omega, bt, ag, zg48, zg40⟩, f, j, m, o, d⟩ (by kernel_rfl)
      exact dY
    exact dY
  clear A Q5 f j m o d;rintro⟨bk, bf, aF, nF, cF, zF⟩ v53 ⟨⟨A, M, O, bK, nXbf, az, Q5, QF, mF, dRk, dRf, zbk, zbf⟩, f, j, m, o, d⟩;simp only at A M O bK nXbf az Q5 QF mF dRk dRf zbk zbf;refine ax (aA ?_);have I := f.lt;have L := j.lt;have Q := m.lt;have R := o.lt;have H := d.lt;have lXbk := M.lt;have lXbf := O.lt;refine ta 13 [.slice none 0 0] 32 (pg) ?_
  intro v54 P G ad B;have zg55 := Or.inl (b := (fun b => b = g) P) (Nat.le_trans A.size ad);have nXg55 := A.new ad;have eQ5g55 := ne1 Q5.lt ad;have eQFg55 := ne1 QF.lt ad;have dg55_g2 := ne4 f.lt ad;have dg55_g4 := ne4 j.lt ad;have dg55_g6 := ne4 m.lt ad;have dg55_g8 := ne4 o.lt ad;have aU := ne4 d.lt ad;have aE := ne4 M.lt ad;have dg55_bf := ne4 O.lt ad;replace A := A.keep B;replace Q5 := Q5.keep B;replace QF := QF.keep B;replace f := f.keep B;replace j := j.keep B;replace m := m.keep B;replace o := o.keep B;replace d := d.keep B;replace M := M.keep B;replace O := O.keep B;clear B;refine ay (ah (ax (aA (t 28 (.func (.func 50) #[] #[pg g2, pg g4, pg P, pg bk, pg bf]) ?_))));have I := f.lt;have L := j.lt;have Q := m.lt;have R := o.lt;have H := d.lt;have lXbk := M.lt;have lXbf := O.lt;have lXg55 := G.lt;refine ta 14 [.nilFunc] 106 (pg) ?_
  intro v56 g57 J Z B;have zg57 := Or.inl (b := (fun b => b = g) g57) (Nat.le_trans A.size Z);have nXg57 := A.new Z;have eQ5g57 := ne1 Q5.lt Z;have eQFg57 := ne1 QF.lt Z;have dg57_g2 := ne4 f.lt Z;have dg57_g4 := ne4 j.lt Z;have dg57_g6 := ne4 m.lt Z;have dg57_g8 := ne4 o.lt Z;have dg57_g10 := ne4 d.lt Z;have dg57_bk := ne4 M.lt Z;have dg57_bf := ne4 O.lt Z;have dg57_g55 := ne4 G.lt Z;replace A := A.keep B;replace Q5 := Q5.keep B;replace QF := QF.keep B;replace f := f.keep B;replace j := j.keep B;replace m := m.keep B;replace o := o.keep B;replace d := d.keep B;replace M := M.keep B;replace O := O.keep B;replace G := G.keep B;clear B;refine ts J 0 (.func (.func 50) #[] #[pg g2, pg g4, pg P, pg bk, pg bf]) [.func (.func 50) #[] #[pg g2, pg g4, pg P, pg bk, pg bf]] [.func (.func 50) #[] #[pg g2, pg g4, pg P, pg bk, pg bf]] ?_
  intro v58 Y C;replace A := Rg.cell A J C zg57 nXg57 (by decide);replace Q5 := Q5.cell C eQ5g57;replace QF := QF.cell C eQFg57;replace f := f.chg C dg57_g2.symm;replace j := j.chg C dg57_g4.symm;replace m := m.chg C dg57_g6.symm;replace o := o.chg C dg57_g8.symm;replace d := d.chg C dg57_g10.symm;replace M := M.chg C dg57_bk.symm;replace O := O.chg C dg57_bf.symm;replace G := G.chg C dg57_g55.symm;clear C J;have J := Y;clear Y;refine ay (ah (ax (aA ?_)));have I := f.lt;have L := j.lt;have Q := m.lt;have R := o.lt;have H := d.lt;have lXbk := M.lt;have lXbf := O.lt;have lXg55 := G.lt;have lXg57 := J.lt;refine ta 15 [.int .i64 0] 3 (pg) ?_
  intro v59 aa aH U B;have zg60 := Or.inl (b := (fun b => b = g) aa) (Nat.le_trans A.size U);have bv := A.new U;have eQ5g60 := ne1 Q5.lt U;have eQFg60 := ne1 QF.lt U;have dg60_g2 := ne4 f.lt U;have dg60_g4 := ne4 j.lt U;have dg60_g6 := ne4 m.lt U;have dg60_g8 := ne4 o.lt U;have aV := ne4 d.lt U;have dg60_bk := ne4 M.lt U;have dg60_bf := ne4 O.lt U;have bu := ne4 G.lt U;have dg60_g57 := ne4 J.lt U;replace A := A.keep B;replace Q5 := Q5.keep B;replace QF := QF.keep B;replace f := f.keep B;replace j := j.keep B;replace m := m.keep B;replace o := o.keep B;replace d := d.keep B;replace M := M.keep B;replace O := O.keep B;replace G := G.keep B;replace J := J.keep B;clear B;refine ts aH 0 (.int .i64 0) [.int .i64 0] [.int .i64 0] ?_
  intro v61 Y C;replace A := Rg.cell A aH C zg60 bv (by decide);replace Q5 := Q5.cell C eQ5g60;replace QF := QF.cell C eQFg60;replace f := f.chg C dg60_g2.symm;replace j := j.chg C dg60_g4.symm;replace m := m.chg C dg60_g6.symm;replace o := o.chg C dg60_g8.symm;replace d := d.chg C aV.symm;replace M := M.chg C dg60_bk.symm;replace O := O.chg C dg60_bf.symm;replace G := G.chg C bu.symm;replace J := J.chg C dg60_g57.symm;clear C aH;have aH := Y;clear Y;refine ay (ah (ax (ax (aA (tl 29 (pg g) f 0 ?_)))));refine tl 30 (.int .u64 id) j 0 ?_
  refine t 31 (pq g8 1) ?_
  refine tl 32 (.int .u64 dp) o 1 ?_
  refine t 33 (.int .u64 ((pe - 1) % 18446744073709551616)) ?_
  refine tc 34 53 #[pg g, .int .u64 id, .int .u64 dp, .int .u64 ((pe - 1) % 18446744073709551616)] (Dq) ?_
  rintro _ v62 ⟨rfl, Yc1, Yc2, Yc3, Yc4, B⟩;refine⟨_, rfl, ?_⟩;skip;replace A := A.keep B;replace Q5 := Q5.keep B;replace QF := QF.keep B;replace f := f.keep B;replace j := j.keep B;replace m := m.keep B;replace o := o.keep B;replace d := d.keep B;replace M := M.keep B;replace O := O.keep B;replace G := G.keep B;replace J := J.keep B;replace aH := aH.keep B;clear B;refine ay (ah (fw (aT [(8, pg g10), (9, .int .i64 0), (10, pg bk), (12, .int .u64 ((pe - 1) % 18446744073709551616)), (13, pg P), (14, pg g57), (15, pg aa), (34, .func (.func 81) #[] #[.pointer (some ⟨v61.heap.size + 1, 0, none⟩), .pointer (some ⟨v61.heap.size + 1 + 1, 0, none⟩), .pointer (some ⟨v61.heap.size + 1 + 1 + 1, 0, none⟩), .pointer (some ⟨v61.heap.size, 0, none⟩)])] (by kernel_rfl) ?_)));refine⟨fun a r => ?_⟩;obtain⟨x, ha⟩:= CW r;replace ha := ha.trans (show _ = (⟨#[x 0, x 1, x 2, x 3, x 4, x 5, x 6, x 7, pg g10, .int .i64 0, pg bk, x 11, .int .u64 ((pe - 1) % 18446744073709551616), pg P, pg g57, pg aa, x 16, x 17, x 18, x 19, x 20, x 21, x 22, x 23, x 24, x 25, x 26, x 27, x 28, x 29, x 30, x 31, x 32, x 33, .func (.func 81) #[] #[.pointer (some ⟨v61.heap.size + 1, 0, none⟩), .pointer (some ⟨v61.heap.size + 1 + 1, 0, none⟩), .pointer (some ⟨v61.heap.size + 1 + 1 + 1, 0, none⟩), .pointer (some ⟨v61.heap.size, 0, none⟩)], x 35, x 36, x 37, x 38, x 39, x 40, x 41, x 42, x 43, x 44, x 45, x 46, x 47, x 48, x 49], []⟩ : Act) from rfl);subst ha;clear r
  have nX' : ∀ {b : Nat} {cs : List Value} {T : TypeId}, Blk v62 b cs T → T ≠ 94 → T ≠ 32 → T ≠ 3 → ¬ (b = g ∨ b = P ∨ b = bk ∨ b = bf ∨ b = aa) := fun k h1 h2 h3 h => by
    obtain⟨cs', k'⟩:= A.sx.sa.kv;rcases h with e | e | e | e | e
    · rw[e] at k; exact h1 (k.eq k').2
    · rw[e] at k; exact h2 (k.eq G).2
    · rw[e] at k; exact h2 (k.eq M).2
    · rw[e] at k; exact h2 (k.eq O).2
    · rw[e] at k; exact h3 (k.eq aH).2
  have hXl : ∀ b, (b = g ∨ b = P ∨ b = bk ∨ b = bf ∨ b = aa) → b < v62.heap.size := fun b h => by
    rcases h with e | e | e | e | e <;> rw[e]
    · exact A.sx.sa.lt A.sx.sa.top
    · exact G.lt
    · exact M.lt
    · exact O.lt
    · exact aH.lt
  have hX1 : ∀ b, (b = g ∨ b = P ∨ b = bk ∨ b = bf ∨ b = aa) → b = g ∨ ¬ K b := fun b h => by
    rcases h with e | e | e | e | e
    · exact .inl e
    · exact .inr (e ▸ nXg55)
    · exact .inr (e ▸ bK)
    · exact .inr (e ▸ nXbf)
    · exact .inr (e ▸ bv)
  have hXk : Hid (bk ≠ g) := aB (fun e => by obtain⟨cs', k'⟩:= A.sx.sa.kv; rw[← e] at k'; exact absurd (M.eq k').2 (by decide));have sN := nX' f (by decide) (by decide) (by decide);have iN := nX' j (by decide) (by decide) (by decide);have IT := zg (X := fun b => b = g ∨ b = P ∨ b = bk ∨ b = bf ∨ b = aa) (xs := fun i => n + 1 + 1 + 2 * i) A.sx.sa Yc1 Yc2 Yc3 Yc4 (nX' Yc1 (by decide) (by decide) (by decide)) (nX' Yc2 (by decide) (by decide) (by decide)) (nX' Yc3 (by decide) (by decide) (by decide)) (nX' Yc4 (by decide) (by decide) (by decide)) hX1 hXl hid (by omega) (by omega) (fun i hi => by show n + 1 + 1 + 2 * i ≤ _; omega) hRk
  have I0 : ClI B v62 P bk bf aa K g E W N (n + 1) 0 n5 (kA E id dp ((pe - 1) % 18446744073709551616) x5 0) v62 := ⟨Chg.refl _ _, A.sx, aH, ⟨none, 0, 0, 0, G, cM _ _, Nat.zero_le _⟩, ⟨a5, n5, c5, z5, M, Q5, by omega⟩, aF, nF, cF, zF, O, QF, mF⟩;refine(wpIn_wide (n := 0)).1 ?_
  refine ue IT (by rfl) (enters_of Tryz.func81 (by kernel_rfl) rfl) (fun i args n V V' h hc => h) (fun i args n V h => by obtain⟨c, _, rfl⟩:= h; rfl)
    (fun V => ClI B v62 P bk bf aa K g E W N (n + 1) 0 n5 (kA E id dp ((pe - 1) % 18446744073709551616) x5 0) V)
    (fun i V => ClI B v62 P bk bf aa K g E W N (n + 1 + 1 + 2 * i) i n5 (kA E id dp ((pe - 1) % 18446744073709551616) x5 i) V)
    (fun i V => ClI B v62 P bk bf aa K g E W N (n + 1 + 1 + 2 * i + 1) i n5 (kA E id dp ((pe - 1) % 18446744073709551616) x5 i) V)
    (fun c i V => False)
    (fun A B hx hr => hx.rcd hr) (fun i A B hx hr => hx.rcd hr) (fun i A B hx hr => hx.rcd hr) (fun c i A B hx hr => hx) (hXl g (.inl rfl))
    (fun V hv => by have q := hv.sx.sa.cnt; exact⟨q.1, q.2, hv.rd, hv.tick⟩)
    (fun i V hv => by have q := hv.sx.sa.cnt; exact⟨q.1, q.2, hv.rd, fun _ => hv.tick⟩)
    I0 ?_ ?_ ?_
  · rintro l2 i args V Wv hl hlV hrec hiN hT hb ⟨c, hc, rfl⟩
    simp;gi_wp2;refine⟨ae _ _, ?_⟩;intro V2 W2 hT2 hb2 hAr2 hoth hsz3 hV2 rl hrec2;have I2 := hT2.rcd (Rec.of hb2);have zb := hb.size;have zV := hT.chg.size
    have cB : Blk W2 Wv.heap.size [.int .u64 c.2.1, .int .u64 c.2.2] 111 := ⟨by rw[hoth _ (by omega)]; exact(aC Wv [.int .u64 c.2.1, .int .u64 c.2.2] 111).blk⟩;obtain⟨aR, nR, cR, zR, p1, p2, p3⟩:= I2.rew;obtain⟨aS, nS, cS, zS, q1, q2, q3⟩:= I2.stk;obtain⟨aG, nG, cG, zG, r1, r2, r3⟩:= I2.frm
    have hi : i < 1000 := Nat.lt_of_lt_of_le hiN hcl;have fb := J.chg I2.chg (nX' J (by decide) (by decide) (by decide));have sb := f.chg I2.chg sN;have ib := j.chg I2.chg iN;have tE := rK (p := c.1) I2.sx hid p2 (by omega) q2 (by omega) r2 (by omega) sb ib p1 q1 r1 bb bc nXg55 bK nXbf aE dg55_bf az (fun e => sN (.inr (.inl e))) (fun e => sN (.inr (.inr (.inr (.inl e))))) (fun e => iN (.inr (.inl e))) (fun e => iN (.inr (.inr (.inr (.inl e))))) (dL p2 p1 (fun y h => by cases h)) (dL p2 r1 (fun y h => by cases h)) (dL q2 p1 (fun y h => by cases h)) (dL q2 r1 (fun y h => by cases h)) (dL r2 p1 (fun y h => by cases h)) (dL r2 r1 (fun y h => by cases h)) (by omega) (by omega);have rg := vJ A.sx.sa hc;have hst := wJ (x := x5) hc;have fc := fb.cell (i := 0) rfl;have zS1 := (dL q2 p1 (fun y h => by cases h));have zS2 := (dL q2 r1 (fun y h => by cases h))
    have zS3 : nS = 0 ∨ zS ≠ g := q2.out.imp_right (fun k e => k (e ▸ A.sx.sa.top))
    have cW : ∀ b, (b = g ∨ b = P ∨ b = bf) → b ≠ Wv.heap.size := fun b h e => by
      have := hXl b (h.elim .inl (fun h => h.elim (fun h => .inr (.inl h)) (fun h => .inr (.inr (.inr (.inl h))))));omega
    have HI2 := aB I2;have HcB := aB cB;have Hq1 := aB q1;have Hq2 := aB q2;clear hT hb hT2 hb2 hAr2 hoth I2 cB p1 p2 q1 q2 r1 r2 r3 sb ib fb hrec IT I0 hX1 hc;obtain⟨cp, cb, ca⟩:= c;simp only at tE rg hst HcB ⊢;gi_wp2_with first
      | (refine⟨trivial, rfl, ?_⟩; gi_at_call 50; refine(CallsIn.inRound l2 (callsIn_wide.2 tE)).mono ?_; rintro e' w3 ⟨b1, k1, d1, y1, b2, k2, d2, y2, rfl, S3, C3, R3, N1, m1, f1, F3, N2, m2, f2⟩; clear tE fc; have bk3 := Hq1.out.chg C3 (fun h => h.elim (fun e => (hXk.out e)) (fun h => h.elim (fun e => aE e.symm) az)); have cb3 := HcB.out.chg C3 (fun h => cW _ h rfl); have tB := sH (w := w3) (Hq2.out.to w3 (fun hn => C3.same zS (Hq2.out.lt.resolve_left hn) (fun h => h.elim (zS3.resolve_left hn) (fun h => h.elim (zS1.resolve_left hn) (zS2.resolve_left hn))))).a (by omega) rg.1 rg.2; have kc := bk3.cell (i := 0) rfl; have c0 := cb3.cell (i := 0) rfl; have c1' := cb3.cell (i := 1) rfl)
      | (refine⟨trivial, rfl, ?_⟩; gi_at_call 54; refine(CallsIn.inRound l2 (callsIn_wide.2 tB)).mono ?_; rintro e' w4 ⟨a4', k4, d4, z4', rfl, M4, h4, m4, B4⟩; clear tB kc c0 c1'; obtain⟨⟨x1', x2', x3', x4'⟩, hI, hK⟩:= ClI.go HI2.out hXl aE az bK bv S3 C3 R3 N1 (by omega) F3 N2 m2 M4 h4 (by omega) B4; have kc := (bk3.keep B4).cell (i := 0) rfl; have HI3 := aB hI; have HK3 := aB hK; clear hI hK bk3 cb3 S3 C3 R3 N1 F3 N2 M4 B4)
    refine⟨HK3.out, ?_⟩
    show ClI B v62 P bk bf aa K g E W N (n + 1 + 1 + 2 * (i + 1)) (i + 1) n5 (kA E id dp ((pe - 1) % 18446744073709551616) x5 (i + 1)) _
    rw[hst, show n + 1 + 1 + 2 * (i + 1) = n + 1 + 1 + 2 * i + 1 + 1 by omega];exact HI3.out
  · rintro D' W' hD hK hT
    obtain⟨aR, nR, cR, zR, p1, p2, p3⟩:= hT.rew;obtain⟨aS, nS, cS, zS, q1, q2, q3⟩:= hT.stk;obtain⟨aG, nG, cG, zG, r1, r2, r3⟩:= hT.frm;have fb := J.chg hT.chg (nX' J (by decide) (by decide) (by decide));have sb := f.chg hT.chg sN;have ib := j.chg hT.chg iN
    have hrg : g10 ≠ g := fun e => ao (e ▸ A.sx.sa.top)
    have hrc : g10 ≠ aa := aV.symm;have rb := d.chg hT.chg (fun h => h.elim hrg (fun h => h.elim aU.symm (fun h => h.elim dRk.symm (fun h => h.elim dRf.symm hrc))))
    have hcr : aa ≠ P := bu
    have hcf : aa ≠ bf := dg60_bf
    have hcg : aa ≠ g := fun e => bv (e ▸ A.sx.sa.top)
    have tE := rK (p := ((pe - 1) % 18446744073709551616)) hT.sx hid p2 (by omega) q2 (by omega) r2 (by omega) sb ib p1 q1 r1 bb bc nXg55 bK nXbf aE dg55_bf az (fun e => sN (.inr (.inl e))) (fun e => sN (.inr (.inr (.inr (.inl e))))) (fun e => iN (.inr (.inl e))) (fun e => iN (.inr (.inr (.inr (.inl e))))) (dL p2 p1 (fun y h => by cases h)) (dL p2 r1 (fun y h => by cases h)) (dL q2 p1 (fun y h => by cases h)) (dL q2 r1 (fun y h => by cases h)) (dL r2 p1 (fun y h => by cases h)) (dL r2 r1 (fun y h => by cases h)) (by omega) (by omega);have CC := A.cg.trans hT.chg (fun b hb h => by
      rcases h with e | e | e | e | e
      · exact e
      · rcases zg55 with z1 | z1 <;> first | omega | exact e.trans z1
      · rcases zbk with z1 | z1 <;> first | omega | exact e.trans z1
      · rcases zbf with z1 | z1 <;> first | omega | exact e.trans z1
      · rcases zg60 with z1 | z1 <;> first | omega | exact e.trans z1)
    have cT := hT.cnt
    have hDl : D' < W'.heap.size := lt_of_block hK;refine GE.out (n := 50) (ds := [{ target := .collected D', args := #[] }]) (l := [(8, pg g10), (9, .int .i64 0), (12, .int .u64 ((pe - 1) % 18446744073709551616)), (13, pg P), (14, pg g57), (15, pg aa)]) ?_ _ ⟨rfl, rfl, fun q u hq => ?_⟩
    · refine uN ?_
      refine ah (ax (aA (tl 45 (.func (.func 50) #[] #[pg g2, pg g4, pg P, pg bk, pg bf]) fb 0 ?_)));refine t 46 (.int .u64 ((pe - 1) % 18446744073709551616)) ?_
      refine tc 47 50 #[.int .u64 ((pe - 1) % 18446744073709551616), pg g2, pg g4, pg P, pg bk, pg bf] (tE) ?_
      rintro _ v63 ⟨b1, k1, d1, y1, b2, k2, d2, y2, rfl, S3, C3, R3, N1, m1, f1, F3, N2, m2, f2⟩;refine⟨_, rfl, ?_⟩;have Xc3 := cT.chg C3 (fun h => h.elim hcg (fun h => h.elim hcr hcf));have Xr3 := rb.chg C3 (fun h => h.elim hrg (fun h => h.elim aU.symm dRf.symm));have hK3 := (C3.same D' hDl (fun h => by have := hXl D' (h.elim .inl (fun h => h.elim (fun h => .inr (.inl h)) (fun h => .inr (.inr (.inr (.inl h)))))); omega)).trans hK;have CC3 := CC.trans C3 (fun b hb h => by
        rcases h with e | e | e
        · exact e
        · rcases zg55 with z1 | z1 <;> first | omega | exact e.trans z1
        · rcases zbf with z1 | z1 <;> first | omega | exact e.trans z1)
      have eN1g10 := dL N1 Xr3 (fun y h => by cases h)
      have PF : PfE B w K g E W D' g10 y1 b1 k1 d1 (n + 1 + 1 + 2 * (dj E id dp ((pe - 1) % 18446744073709551616)).length + 1) (_) () N _ := ⟨S3, CC3, hK3, N1⟩
      have f1w : k1 = 0 ∨ w.heap.size ≤ y1 := ne3 f1 CC.size;clear tE cT rb fb CC;refine ay (ah (ax ?_));replace R3 := R3.drew;replace Xc3 := Xc3.drew;replace Xr3 := Xr3.drew;replace PF := PF.drew;refine cj (fun w' => Blk w' P [.slice b1 k1 d1] 32 ∧ Blk w' aa [.int .i64 (((dj E id dp ((pe - 1) % 18446744073709551616)).length : Nat) : Int)] 3) (fun _ => false) ⟨R3, Xc3⟩ ?_
      refine zlr 0 48 [.slice b1 k1 d1] (fun _ h => h.1) 0 ?_
      refine zl 1 49 (.int .i64 (((dj E id dp ((pe - 1) % 18446744073709551616)).length : Nat) : Int)) (fun _ h => h.2) 0 ?_
      refine zs 2 Xr3 0 (.agg #[.slice b1 k1 d1]) [.slice b1 k1 d1] [.slice b1 k1 d1] ?_
      intro v64 Y C;replace R3 := R3.chg C aU;replace Xc3 := Xc3.chg C aV;replace PF := PF.cell Xr3 C ao zg10;clear C Xr3;have Xr3 := Y;clear Y;refine⟨⟨R3, Xc3⟩, ?_⟩;refine z 3 9 (.int .i64 (((dj E id dp ((pe - 1) % 18446744073709551616)).length : Nat) : Int)) ?_
      refine bB (ah (aP ?_));obtain⟨u1, u2, u3⟩:= PF.fin (Nat.le_trans A.cg.size hD);have Xr4 := eF Xr3 (Rec.put (B := w.heap.size) PF.df rfl (Nat.le_trans A.cg.size hD) (.deferred none));rw[show n + 1 + 1 + 2 * (dj E id dp ((pe - 1) % 18446744073709551616)).length + 1 = n + 3 + 2 * (dj E id dp ((pe - 1) % 18446744073709551616)).length by omega] at u1;exact Bp PF.df (rsctM 8 9 (T := 32) (by kernel_rfl) (by kernel_rfl) (by kernel_rfl) (lr Xr4 0)) ⟨_, _, _, _, rfl, u1, u2, u3, by omega, f1w⟩
    · have hm := r7 hq
      simp at hm;rcases hm with⟨rfl, rfl⟩ | ⟨rfl, rfl⟩ | ⟨rfl, rfl⟩ | ⟨rfl, rfl⟩ | ⟨rfl, rfl⟩ | ⟨rfl, rfl⟩ <;> rfl
  · rintro D' c i W' hD hK hi h
    exact h.elim
end
end Fo
end
end Go.Proofs.YthfepflplbahkaaGreatDoor
