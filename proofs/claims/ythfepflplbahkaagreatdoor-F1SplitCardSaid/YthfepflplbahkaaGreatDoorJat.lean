/- Several texts, joined: FoI, FoH. -/
import Derived.Test.YthfepflplbahkaaGreatDoorJas
import Derived.Test.YthfepflplbahkaaGreatDoorJar
set_option maxRecDepth 100000
set_option maxHeartbeats 8000000
namespace Go.Proofs.YthfepflplbahkaaGreatDoor
section
namespace Kv
open Go.RowKit Go.Lib Pg
section
variable {X:Nat → Prop}{W1 w:World}{g:Operand}{x0:Nat}{xs:Nat → Nat}{E:List En}{lb:Array Value}{Ar:Nat → Array Value → Nat → World → Prop}{Rd:World → Prop}{ps:Array Tmp}
attribute [local go_sem] Oper.semAt_some
def ItrX(Tp:TypeId->Prop)(g x0:Nat)(xs:Nat->Nat)(gf:Nat)(lb:Array Value)(N:Nat)(Ar:Nat->Array Value->Nat->World->Prop)(Rd:World->Prop):Prop :=
 ∀ (l:Nat) (J0:World->Prop) (J Jt Jx:Nat->World->Prop) (W:World),St W.heap.size J0->(∀ i,St W.heap.size (J i))->(∀ i,St W.heap.size (Jt i))->(∀ i,St W.heap.size (Jx i))->g < W.heap.size ->
  (∀ V,J0 V->V.cell? ⟨g,2,none⟩=some (.int .i64 x0)/\V.frozen? ⟨g,2,none⟩=false/\Rd V/\J 0 (tick g V x0)) ->
  (∀ i V,J i V->V.cell? ⟨g,2,none⟩=some (.int .i64 ((xs i:Nat):Int))/\V.frozen? ⟨g,2,none⟩=false/\Rd V/\(i < N->Jt i (tick g V (xs i)))) ->
  (∀ i args V V',i < N->Jt i V->W.heap.size<=V.heap.size->Below V.heap.size V V'->Ar i args V.heap.size V'->YieldAt Fence.wide 0 Tryz.prog l args V' fun e V''=>bj Tp W.heap.size V' V''/\((e=.returned (.bool true)/\J (i + 1) V'')\/(e=.returned (.bool false)/\Jx (i + 1) V''))) ->
  J0 W ->
  Calls Tryz.prog gf (#[.func (.yield l) #[] #[]] ++ lb) W fun e W'=>(∃ v,e=.returned v)/\W.heap.size<=W'.heap.size/\(J N W'\/∃ i,i < N/\Jx (i + 1) W')
theorem nh{Tp : TypeId → Prop}{g bs1 bs2 bw:Nat}(IT : Itr Tp 123 #[.pointer (some ⟨bw, 0, none⟩)] E.length (ArC E) (fun V => Chg X W1 V))(hT : ¬ Tp 166)(hx : x0 ≤ 3000000000000000000)(hxs : ∀ i, i < E.length → xs i ≤ 3000000000000000000) :
    ItrX Tp g x0 xs 169 #[.pointer (some ⟨bs1, 0, none⟩), .pointer (some ⟨bs2, 0, none⟩)] E.length (ArC E) (RdC X W1 g bs1 bs2 bw) := by
  intro l J0 J Jt Jx W aa z hSt C hgW D hJ hY F;have B1 := ae W (.cells #[.func (.yield l) #[] #[]] 166);have Y1 := aC W [.func (.yield l) #[] #[]] 166;have J1 := aa _ _ F (Rec.of B1);obtain⟨q1, q2, ⟨r1, r2, r3, r4⟩, q3⟩:= D _ J1
  have s1 : (W.alloc (.cells #[.func (.yield l) #[] #[]] 166)).heap.size = W.heap.size + 1 := by simp
  have cs := r2.cell (i := 0) rfl;have uc := j6 (g := g) q1 q2 (by omega) (by omega);have Yt := Y1.chg (dR g x0 _) (by omega);have G := (hJ 0 _ q3).2.2.1;have cw := G.2.2.1.cell (i := 0) rfl;have HY := aB hY;have HJ := aB hJ;clear D hJ hY F J1 B1 Y1 r1 r2 r3 r4 q1 q2;obtain⟨H, I⟩ : ∃ H, Hid (W.alloc (.cells #[.func (.yield l) #[] #[]] 166) = H) := ⟨_, rfl⟩;rw[I.out] at q3 s1 uc Yt G cw;refine(callsIn_wide (n := 0)).1 ?_
  refine callsIn_of_wp_marks Tryz.func169 rfl trivial ?_ rfl;simp only[Tryz.ntmps169, List.size_toArray, List.length_cons, List.length_nil, Nat.reduceAdd, Nat.reduceSub, Array.replicate_succ, Array.replicate_zero, List.push_toArray, List.append_toArray, List.nil_append, List.cons_append];have tsz := fj g x0 H;gi_wp2_with (refine⟨trivial, rfl, ?_⟩; gi_at_call 95; rw[I.out]; refine(callsIn_wide.2 uc).mono ?_; rintro e' w0 ⟨rfl, hw0⟩; obtain rfl : w0 = tick g H x0 := hw0; clear uc cs);generalize tick g H x0 = Wt at *
  have sT : Wt.heap.size = W.heap.size + 1 := by omega
  refine gG IT (by rfl) (enters_of Tryz.func123 (by kernel_rfl) rfl) (fun i args n V V' h hc => h.cel hc) (fun i args n V h => by obtain⟨e, kv, vv, s, _, rfl, _⟩:= h; rfl)
    (fun i V => J i V ∧ W.heap.size + 1 ≤ V.heap.size ∧ Blk V W.heap.size [.func (.yield l) #[] #[]] 166)
    (fun c i V => c = .ret ∧ Jx i V ∧ W.heap.size + 1 ≤ V.heap.size)
    (fun i A B hx y => ⟨z i A B hx.1 (y.mono (by omega)), Nat.le_trans hx.2.1 y.size, eF hx.2.2 y⟩)
    (fun c i A B hx y => ⟨hx.1, C i A B hx.2.1 (y.mono (by omega)), Nat.le_trans hx.2.2 y.size⟩)
    (fun i V hv => (HJ.out i V hv.1).2.2.1.1) ⟨q3, by omega, Yt⟩ ?_ ?_ ?_
  · rintro l2 i args V Wv hl hlV hrec d ⟨hJi, K, hY2⟩ hb ⟨e0, kv, vv, s0, he0, rfl, L, M, _⟩
    obtain⟨ak, nk, hk1⟩:= L.shape;obtain⟨av, nv, hv1⟩:= M.shape;subst hk1 hv1;simp;gi_wp2;refine⟨Below.refl _ _, ?_⟩;intro V2 b N O q a f P j Q r hrec2;obtain⟨p1, p2, ⟨k1, k2, k3, k4⟩, p3⟩:= HJ.out i V2 N
    have glt : g < V2.heap.size := by obtain⟨cs, k⟩:= k4; exact k.lt
    have c2 : b.cell? ⟨g, 2, none⟩ = some (.int .i64 ((xs i : Nat) : Int)) := by rw[a.cell (p := ⟨g, 2, none⟩) glt]; exact p1
    have t : ∃ cs, Blk b g cs 94 := by obtain⟨cs, k⟩:= k4; exact⟨cs, k.keep a⟩
    have f2 : b.frozen? ⟨g, 2, none⟩ = false := by obtain⟨cs, k⟩:= t; exact k.free 2
    have cs2 := (k2.keep a).cell (i := 0) rfl;have hxi := hxs i d;have R := j6 (g := g) c2 f2 (by omega) (by omega);have u := (q.keep a).chg (dR g (xs i) b) (by omega);have yb := u.cell (i := 0) rfl;have v := Aq (x := xs i) f t;rw[← fj g (xs i) V2] at v;have hYY := HY.out i _ _ _ d (p3 d) (by rw[fj]; omega) (um (x := xs i) a) v;obtain⟨fn, tmps, assign, body, hy, hR⟩:= hYY
    have S : RoundIn (Fence.wide.inRound l2) 0 Tryz.prog l fn tmps assign body (tick g b (xs i)) _ := ⟨hR.1, fun c cs _ => hR.2 c cs (fun _ h => by cases h)⟩
    have T : bj Tp Wt.heap.size b (tick g b (xs i)) := ⟨by rw[fj]; exact Nat.le_refl _, fun k o hk F _ => ((dR g (xs i) b).same k (lt_of_block F) (by omega)).trans F⟩;have HK := aB T;have HYW := aB u;have HR := aB S;replace j := aB j;replace Q := aB Q
    have hWs : W.heap.size + 1 ≤ b.heap.size := Nat.le_trans O a.size;have tsz2 := aB (fj g (xs i) b);clear hJi L M hb P f v hR S T u p1 p2 p3 k1 k2 k3 k4 t c2 f2 q a N tsz;gi_wp2_with (refine⟨trivial, rfl, ?_⟩; gi_at_call 95; refine(CallsIn.inRound l2 (callsIn_wide.2 R)).mono ?_; rintro e' w3 ⟨rfl, hw3⟩; obtain rfl : w3 = tick g b (xs i) := hw3; clear R cs2);refine⟨rfl, HR.out.mono ?_⟩;rintro e' w5 ⟨U, h5⟩;have hY5 := U.blk HYW.out (Nat.le_refl _) hT
    have w : bj Tp Wt.heap.size b w5 := HK.out.trans (U.mono (by omega))
    have m : W.heap.size + 1 ≤ w5.heap.size := Nat.le_trans hWs w.size;rcases h5 with⟨rfl, hJ5⟩ | ⟨rfl, hJ5⟩
    · gi_wp2
      exact⟨w, hJ5, m, hY5⟩
    · gi_wp2
      exact⟨w, rfl, hJ5, m⟩
  · rintro D' W' hD Y ⟨hJn, K, q⟩
    gi_wp2;refine⟨by simp, .inl ⟨_, _, rfl, run_takeDeferred Y, ?_⟩⟩;exact⟨_, results_none rfl _ _ _, ⟨_, rfl⟩, by simp; omega, .inl (z _ _ _ hJn (Rec.put Y rfl (by omega) _))⟩
  · rintro D' c i W' hD Y d ⟨rfl, Z, K⟩
    gi_wp2;refine⟨by simp, .inl ⟨_, _, rfl, run_takeDeferred Y, ?_⟩⟩;exact⟨_, results_none rfl _ _ _, ⟨_, rfl⟩, by simp; omega, .inr ⟨i, d, C (i + 1) _ _ Z (Rec.put Y rfl (by omega) _)⟩⟩
theorem kF{Tp : TypeId → Prop}{gf N n g0:Nat}(IT : ItrX Tp g0 x0 xs gf lb N Ar Rd){assign body:Code}{Q : Exit → Act → World → Prop}{a:Act}(hg : a.eval g = .func (.func gf) #[] lb)(eg : ∀ args w, (callFunc gf args).run Tryz.prog w = .ok (.enter gf args) w)(hArS : ∀ i args n V W, Ar i args n V → Cel V W → Ar i args n W)(hAn : ∀ i args n V, Ar i args n V → args.size = ps.size)(I0 : World → Prop)(I It : Nat → World → Prop)(Ix : Code → Nat → World → Prop)(hI0 : St w.heap.size I0)(hI : ∀ i, St w.heap.size (I i))(hIt : ∀ i, St w.heap.size (It i))(aa : ∀ c i, St w.heap.size (Ix c i))(hgw : g0 < w.heap.size)(hx0 : ∀ V, I0 V → V.cell? ⟨g0, 2, none⟩ = some (.int .i64 x0) ∧ V.frozen? ⟨g0, 2, none⟩ = false ∧ Rd V ∧ I 0 (tick g0 V x0))(hx : ∀ i V, I i V → V.cell? ⟨g0, 2, none⟩ = some (.int .i64 ((xs i : Nat) : Int)) ∧ V.frozen? ⟨g0, 2, none⟩ = false ∧ Rd V ∧ (i < N → It i (tick g0 V (xs i))))(h0 : I0 w)(U : zZ Tp w N n ps assign body a.tmps Ar It I Ix)(Z : ∀ D W, w.heap.size ≤ D → W.heap[D]? = some (.deferred (some [])) → I N W → Q .normal { a with defers := { target := .collected D, args := #[] } :: a.defers } W)(ab : ∀ D c i W, w.heap.size ≤ D → W.heap[D]? = some (.deferred (some [])) → i < N → Ix c (i + 1) W → c.wpIn Fence.wide n Tryz.prog Q { a with defers := { target := .collected D, args := #[] } :: a.defers } W) :
    (Code.rangeFunc g ps assign body).wpIn Fence.wide n Tryz.prog Q a w := by
  refine wpIn_rangeFunc ?_
  intro fn _;obtain⟨d, f⟩ : ∃ d, (w.alloc (.deferred (some []))).alloc (.loop (db fn a.tmps ps assign body w.heap.size .ready none)) = d := ⟨_, rfl⟩
  have z : Below w.heap.size w d := by rw[← f]; exact aj (ae w _) (ae _ _)
  have K : d.heap.size = w.heap.size + 1 + 1 := by rw[← f]; simp
  have A : d.heap[w.heap.size + 1]? = some (.loop (db fn a.tmps ps assign body w.heap.size .ready none)) := by
    rw[← f]; have := World.alloc_heap_new (w.alloc (.deferred (some []))) (.loop (db fn a.tmps ps assign body w.heap.size .ready none)); rwa [World.size_alloc] at this
  have C : d.heap[w.heap.size]? = some (.deferred (some [])) := by
    rw[← f]; exact(Below.heap_alloc _ _ _ (by simp)).trans (World.alloc_heap_new w _)
  have t1 : ∀ V x, (tick g0 V x).heap[w.heap.size + 1]? = V.heap[w.heap.size + 1]? := fun V x => fG (by omega)
  have t2 : ∀ V x, (tick g0 V x).heap[w.heap.size]? = V.heap[w.heap.size]? := fun V x => fG (by omega)
  refine⟨w.heap.size + 1, [{ target := .collected w.heap.size, args := #[] }], d, { target := .fn (.func gf) lb, args := #[.func (.yield (w.heap.size + 1)) #[] #[]] }, d, gf,
    #[.func (.yield (w.heap.size + 1)) #[] #[]] ++ lb, d, ?_, ?_, ?_, ?_, fun h => (by cases h), ?_⟩
  · rw[← f]; exact run_enterLoop_outer _ _ _ _ _
  · simp only[resolve, hg]
    simp[go_sem]
  · intro T _; trivial
  · simp[invoke, go_sem, eg]
  · refine callsIn_wide.2 ?_
    refine(IT (w.heap.size + 1)
      (fun W => I0 W ∧ W.heap[w.heap.size + 1]? = some (.loop (db fn a.tmps ps assign body w.heap.size .ready none)) ∧ W.heap[w.heap.size]? = some (.deferred (some [])))
      (fun i W => I i W ∧ W.heap[w.heap.size + 1]? = some (.loop (db fn a.tmps ps assign body w.heap.size .ready none)) ∧ W.heap[w.heap.size]? = some (.deferred (some [])))
      (fun i W => It i W ∧ W.heap[w.heap.size + 1]? = some (.loop (db fn a.tmps ps assign body w.heap.size .ready none)) ∧ W.heap[w.heap.size]? = some (.deferred (some [])))
      (fun i W => ∃ c, Ix c i W ∧ W.heap[w.heap.size + 1]? = some (.loop (db fn a.tmps ps assign body w.heap.size .done (some c))) ∧ W.heap[w.heap.size]? = some (.deferred (some [])))
      d (fun X Y hx b => ⟨hI0 X Y hx.1 (b.mono (by omega)), b.same _ _ hx.2.1 (.inl (by omega)), b.same _ _ hx.2.2 (.inl (by omega))⟩)
      (fun i X Y hx b => ⟨hI i X Y hx.1 (b.mono (by omega)), b.same _ _ hx.2.1 (.inl (by omega)), b.same _ _ hx.2.2 (.inl (by omega))⟩)
      (fun i X Y hx b => ⟨hIt i X Y hx.1 (b.mono (by omega)), b.same _ _ hx.2.1 (.inl (by omega)), b.same _ _ hx.2.2 (.inl (by omega))⟩)
      (fun i X Y hx b => by obtain⟨c, E, y, F⟩:= hx; exact⟨c, aa c i X Y E (b.mono (by omega)), b.same _ _ y (.inl (by omega)), b.same _ _ F (.inl (by omega))⟩)
      (by omega)
      (fun V m => by obtain⟨q1, r, p, s⟩:= hx0 V m.1; exact⟨q1, r, p, s, (t1 V x0).trans m.2.1, (t2 V x0).trans m.2.2⟩)
      (fun i V m => by obtain⟨q1, r, p, s⟩:= hx i V m.1; exact⟨q1, r, p, fun hi => ⟨s hi, (t1 V _).trans m.2.1, (t2 V _).trans m.2.2⟩⟩)
      ?_ ⟨hI0 _ _ h0 (Rec.of z), A, C⟩).mono ?_
    · rintro i args V L o ⟨hi, l, q⟩ G hb H
      have b := U _ i args V L (by omega) (lt_of_block l) ⟨_, l⟩ o hi hb H;refine(jc (Tp := Tp) (B := w.heap.size) (i := 2 * i + 1) (I := o8 I It) (Ix := fun c k => Ix c (k / 2)) (Ar := fun k => Ar (k / 2)) (fun j => hArS (j / 2)) (fun j => by unfold o8; split; exact hI _; exact hIt _) (fun c j => aa c _) (by omega) l (by rw[jr]; exact hi) hb (by rw[show (2 * i + 1) / 2 = i by omega]; exact H) (hAn _ _ _ _ H) (wpIn_mono b ?_)).mono ?_
      · intro e a1 d h
        cases e <;> first
          | (refine⟨h.1, fun M J q1 r p s q5 O R => ?_⟩
             rw[jr] at q1;rw[show (2 * i + 1) / 2 = i by omega] at p;exact wpIn_mono (h.2 M J q1 r p s q5 O R) (fun e a W h => oq h))
          | exact h.elim
      · rintro e S ⟨t, h⟩
        have u := t.same _ _ (Nat.le_refl _) (by omega) ((hb.block _ (lt_of_block q)).trans q) mu;refine⟨t.from (by omega) (by omega), h.imp (fun h => ⟨h.1, by have := h.2.1; rw[kt] at this; exact this, h.2.2, u⟩) (fun h => ?_)⟩;obtain⟨E, c, y, F⟩:= h;rw[show (2 * i + 1 + 1) / 2 = i + 1 by omega] at y;exact⟨E, c, y, F, u⟩
    · rintro e J ⟨⟨v, rfl⟩, G, ⟨hi, l, q⟩ | ⟨i, o, c, hi, l, q⟩⟩
      · exact⟨none, _, run_endLoop (P := Tryz.prog) l (by simp[db]), Z _ _ (Nat.le_refl _) ((World.putObj_heap_other (by omega)).trans q) (hI _ _ _ hi (Rec.put l rfl (by omega) _))⟩
      · exact⟨some c, _, run_endLoop (P := Tryz.prog) l (by simp[db]), ab _ c i _ (Nat.le_refl _) ((World.putObj_heap_other (by omega)).trans q) o (aa c _ _ _ hi (Rec.put l rfl (by omega) _))⟩
end
end Kv
end
section
namespace Kv
open Go.RowKit Go.Lib Pg
attribute [local go_sem] Oper.semAt_some
theorem sgetG {w:World} {K D:Nat->Prop} {g n N:Nat} {E:aD} {W:List aD} {kv:Value} {k:List Int} (h:SA w K D g E W n N) (J:BK w K kv k) (hn:n<=4000000000000000000) (M:N<=100000000) :
  Calls Tryz.prog 127 #[.pointer (some ⟨g,0,none⟩),kv] w fun e w'=>∃ v,e=.returned (.tuple #[v,.bool (look E k).isSome])/\OB w' (w.heap.size <= ·) v ((look E k).getD [])/\SA w' K D g E W (n + 1) N/\Chg (· = g) w w':=by
 obtain⟨F,V,m,Q,t,T,x,a,rfl,o⟩:=h.open;obtain⟨y,c,rfl⟩:=J.shape;have u:=fQ a hn;have z:=aB a;have A:=aB o;have p:=aB J;clear a o J h;obtain⟨d,f⟩:∃ d,Hid (k.length=d):=⟨_,rfl⟩
 rw[f.out] at p ⊢;have q:=fun w' (X:SX w' K D F V g m Q t T x (n + 1) N) (J:By w' (.slice y d c) k)=>jG X J M
 obtain⟨r,s⟩:∃ r,(look Q.flatten k).isSome=r:=⟨_,rfl⟩
 obtain⟨L,hL⟩:∃ L,(look Q.flatten k).getD []=L:=⟨_,rfl⟩
 rw[s,hL] at q ⊢;clear s hL;go_enter Tryz.func127,Tryz.ntmps127;go_wp2_with first
  | (go_at_call 95; go_must (refine u.mono ?_); rintro e C ⟨rfl,j,l⟩; have c0:=j.blk.cell (i:=0) rfl)
  | (go_at_call 170; go_must (refine(q _ j (p.out _ (z.out.kg l))).mono ?_); rintro e G ⟨v,rfl,O,B⟩; obtain⟨a1,c1,rfl⟩:∃ a1 c1,v=.slice a1 L.length c1:=(by obtain⟨a1,c1,e,_⟩:=O.by.ex; exact⟨a1,c1,e⟩); generalize L.length=H at *)
 go_ret2;exact⟨_,rfl,O.mono (fun b _ h=>by have:=l.size; have I:C.heap.size<=b:=h; show w.heap.size<=b; omega),(j.keep B).shut rfl A.out,ff l (Chg.of B)⟩
end Kv
namespace Fo
open Go.RowKit Go.Lib Pg Lim Gl Kv Bk Pw
attribute [local go_sem] Oper.semAt_some
set_option linter.unusedVariables false
set_option linter.unusedSimpArgs false
structure Rg (X:Nat->Prop) (B:Nat) (w0 w:World) (K:Nat->Prop) (g:Nat) (E:aD) (W:List aD) (n N:Nat):Prop where
 sx:Sx B w K g E W n N
 cg:Chg X w0 w
 xg:X g
section
variable {X:Nat->Prop} {B g n N n' N' x:Nat} {w0 w w':World} {K:Nat->Prop} {E:aD} {W:List aD}
section
variable {cs:List Value}
theorem Rg.keep(h:Rg X B w0 w K g E W n N)(b:Below w.heap.size w w'):Rg X B w0 w' K g E W n N:=⟨h.sx.keep b,h.cg.trans (Chg.of (F:=fun _=>False) b) (fun _ _ h=>h.elim),h.xg⟩
theorem Rg.drew(h:Rg X B w0 w K g E W n N):Rg X B w0 w.drew K g E W n N:=h.keep (Below.refl _ _).drew
theorem Rg.size(h:Rg X B w0 w K g E W n N):w0.heap.size<=w.heap.size:=h.cg.size
theorem Rg.lt(h:Rg X B w0 w K g E W n N){b:Nat}(hb:K b):b < w.heap.size:=h.sx.sa.lt hb
theorem Rg.new(h:Rg X B w0 w K g E W n N)(hx:w.heap.size<=x):¬ K x:=fun hk=>by have:=h.lt hk; omega
theorem Rg.cell{t:TypeId}(h:Rg X B w0 w K g E W n N)(c:Blk w x cs t)(C:Chg (· = x) w w')(hx:w0.heap.size<=x\/X x)(d:¬ K x)(i:t≠5):Rg X B w0 w' K g E W n N:=by
 refine⟨⟨h.sx.sa.chg C (fun b e hb=>d ((show b=x from e)▸hb)) (fun b e f k => ?_),Nat.le_trans h.sx.lo C.size,h.sx.kb⟩,h.cg.trans C (fun b hb e=>by have a:b=x:=e; subst a; exact hx.elim (fun h=>by omega) id),h.xg⟩
 have a:b=x:=e;subst a;exact i (c.eq k).2
theorem Rg.op(h:Rg X B w0 w K g E W n N)(S:Sx B w' K g E W n' N')(C:Chg (· = g) w w'):Rg X B w0 w' K g E W n' N':=⟨S,h.cg.trans C (fun b _ e=>(show b=g from e)▸h.xg),h.xg⟩
theorem Rg.top(h:Rg X B w0 w K g E W n N):K g:=h.sx.sa.top
theorem rg_of(h:Sx B w K g E W n N)(hX:X g):Rg X B w w K g E W n N:=⟨h,Chg.refl _ _,hX⟩
end
end
section
variable {g B n N:Nat}{w:World}{K:Nat->Prop}{E:aD}{W:List aD}{kv:Value}{k:List Int}{id p:Int}{aR aS aF:Option Addr}
theorem ne4{b s:Nat}(h:b < s)(hg:s<=g):g≠b:=by omega
theorem xgetG(h:Sx B w K g E W n N)(a:ByU w kv k)(hn:n<=4000000000000000000)(b:N<=100000000) :
  Calls Tryz.prog 127 #[pg g,kv] w fun e w'=>∃ v,e=.returned (.tuple #[v,.bool (Kv.look E k).isSome])/\ByU w' v ((Kv.look E k).getD [])/\Sx B w' K g E W (n + 1) N/\Chg (· = g) w w':=by
 refine(Kv.sgetG h.sa (h.bk a) hn b).mono ?_
 rintro e w' ⟨v,rfl,O,S,C⟩;exact⟨v,rfl,ByU.of O,⟨S,Nat.le_trans h.lo C.size,h.kb⟩,C⟩
structure FndG(B:Nat)(w:World)(K:Nat->Prop)(g:Nat)(E:aD)(W:List aD)(n N:Nat)(V:Int)(mk:Value->Value)(e:Ending)(w':World):Prop where
 ex:∃ a0 n0 c0,e=.returned (mk (.slice a0 n0 c0))/\∃ z0,Sx B w' K g E W n N/\Chg (· = g) w w'/\Nq w' K z0 a0 n0 c0 V/\n0<=510/\(n0=0\/w.heap.size<=z0)
theorem findG(h:Sx B w K g E W n N)(hid:0<=id/\id < 18446744073709551616)(hn:n + 10<=4000000000000000000)(Q:N + 10<=100000000):Calls Tryz.prog 79 #[pg g,.int .u64 id,.int .u64 p] w (FndG B w K g E W (n + 1) N (hX (got E (Ky.mk 7 id p)) 0) (hmk (hX (got E (Ky.mk 7 id p)) 1) (Kv.look E (Ky.mk 7 id p)).isSome)):=by
 have A:=rg_of (X:=(· = g)) h rfl;refine aM (n:=27) Tryz.func79 rfl (by kernel_rfl) (by kernel_rfl) ?_
 refine ax (aA (ta 6 [.slice none 0 0,.int .u64 0] 116 (pg) ?_));intro v1 g2 a x B;have F:=Or.inl (b:=(fun b=>b=g) g2) (Nat.le_trans A.size x);have s:=A.new x;replace A:=A.keep B;clear B;refine t 7 (.bool false) ?_
 refine ay (ah (ax (aA (t 13 (pg g) ?_))));refine t 14 (.int .u64 id) ?_
 refine t 15 (.int .u64 p) ?_
 refine tc 16 65 #[.int .i64 7,.int .u64 id,.int .u64 p] (vV hid (by decide)) ?_
 rintro _ v5 ⟨G,rfl,o,B⟩;refine⟨_,rfl,?_⟩;replace A:=A.keep B;replace a:=a.keep B;clear B;refine tc 17 127 #[pg g,G] (xgetG A.sx o (by omega) (by omega)) ?_
 rintro _ P ⟨m,rfl,D,S,C⟩;refine⟨_,rfl,?_⟩;have hC:=C.mono (fun b _ (e:b=g)=>e▸A.top);replace a:=a.chg C (fun e=>s (e▸A.top));replace o:=o.chg hC A.sx.sa.kind;replace A:=A.op S C;clear S hC C;refine t 12 (.tuple #[m,.bool (Kv.look E (Ky.mk 7 id p)).isSome]) ?_
 refine t 18 (m) ?_
 refine t 19 (.bool (Kv.look E (Ky.mk 7 id p)).isSome) ?_
 refine t 8 (m) ?_
 refine t 9 (.bool (Kv.look E (Ky.mk 7 id p)).isSome) ?_
 refine ay (ah (aT [(6,pg g2),(7,.bool false),(8,m),(9,.bool (Kv.look E (Ky.mk 7 id p)).isSome)] (by kernel_rfl) ?_));refine ax (aA (t 21 (m) ?_));refine tc 22 128 #[m] (u5 D (yX A.sx _)) ?_
 rintro _ v10 ⟨d,f,i,rfl,⟨I,H⟩,B⟩;refine⟨_,rfl,?_⟩;obtain⟨L,u,j⟩:=uJ I (fun b hb=>A.lt hb);clear I;have r:=ne2 u a.lt;have y:=ne3 u A.size;clear u;replace A:=A.keep B;replace a:=a.keep B;replace o:=eL o B;replace D:=eL D B;clear B;clear D;refine t 20 (.tuple #[.agg #[.slice d f i,.int .u64 (hX (got E (Ky.mk 7 id p)) 1)],.int .i64 (Rc.iE (Rc.cQ (got E (Ky.mk 7 id p))))]) ?_
 refine t 23 (.agg #[.slice d f i,.int .u64 (hX (got E (Ky.mk 7 id p)) 1)]) ?_
 refine t 24 (.int .i64 (Rc.iE (Rc.cQ (got E (Ky.mk 7 id p))))) ?_
 have J:=a.lt;refine ta 10 [.slice none 0 0,.int .u64 0] 116 (pg) ?_
 intro v11 g12 c l B;have z:=Or.inl (b:=(fun b=>b=g) g12) (Nat.le_trans A.size l);have v:=A.new l;have q:=ne1 j.lt l;have k:=ne4 a.lt l;replace A:=A.keep B;replace a:=a.keep B;replace o:=eL o B;replace j:=j.keep B;clear B;refine ts c 0 (.agg #[.slice d f i,.int .u64 (hX (got E (Ky.mk 7 id p)) 1)]) [.slice d f i,.int .u64 (hX (got E (Ky.mk 7 id p)) 1)] [.slice d f i,.int .u64 (hX (got E (Ky.mk 7 id p)) 1)] ?_
 intro M Y C;replace A:=Rg.cell A c C z v (by decide);replace a:=a.chg C k.symm;replace o:=jJ o c C (by decide);replace j:=j.cell C q;clear C c;have c:=Y;clear Y;refine t 11 (.int .i64 (Rc.iE (Rc.cQ (got E (Ky.mk 7 id p))))) ?_
 refine ay (ah (ax (aA (tlr 25 [.slice d f i,.int .u64 (hX (got E (Ky.mk 7 id p)) 1)] c 0 ?_))));refine t 26 (.bool (Kv.look E (Ky.mk 7 id p)).isSome) ?_
 refine ts a 0 (.agg #[.slice d f i,.int .u64 (hX (got E (Ky.mk 7 id p)) 1)]) [.slice d f i,.int .u64 (hX (got E (Ky.mk 7 id p)) 1)] [.slice d f i,.int .u64 (hX (got E (Ky.mk 7 id p)) 1)] ?_
 intro O Y C;replace A:=Rg.cell A a C F s (by decide);replace o:=jJ o a C (by decide);replace j:=j.cell C r;replace c:=c.chg C k;clear C a;have a:=Y;clear Y;refine t 7 (.bool (Kv.look E (Ky.mk 7 id p)).isSome) ?_
 refine ay (ah (aP (aQ (.tuple #[.agg #[.slice d f i,.int .u64 (hX (got E (Ky.mk 7 id p)) 1)],.bool (Kv.look E (Ky.mk 7 id p)).isSome]) (rU 6 7 (T:=116) (by kernel_rfl) (by kernel_rfl) (by kernel_rfl) (lr a 0)) ?_)));exact⟨_,_,_,rfl,_,A.sx,A.cg,j,H,y⟩
theorem jS(h:Sx B w K g E W n N)(hid:0<=id/\id < 18446744073709551616)(hn:n + 10<=4000000000000000000)(I:N + 10<=100000000):Calls Tryz.prog 49 #[pg g,.int .u64 id,.int .u64 p] w (FndG B w K g E W (n + 1) N (hX (got E (Ky.mk 7 id p)) 0) rmk):=by
 have A:=rg_of (X:=(· = g)) h rfl;refine aM (n:=18) Tryz.func49 rfl (by kernel_rfl) (by kernel_rfl) ?_
 refine ax (aA (ta 6 [.slice none 0 0] 32 (pg) ?_));intro v1 g2 a s B;have x:=Or.inl (b:=(fun b=>b=g) g2) (Nat.le_trans A.size s);have q:=A.new s;replace A:=A.keep B;clear B;refine ay (ah (ax (aA (t 10 (pg g) ?_))));refine t 11 (.int .u64 id) ?_
 refine t 12 (.int .u64 p) ?_
 refine tc 13 79 #[pg g,.int .u64 id,.int .u64 p] (findG A.sx hid (by omega) (by omega)) ?_
 rintro _ v4 ⟨c,d,f,rfl,F,S,C,i,y,r⟩;refine⟨_,rfl,?_⟩;have l:=ne2 r a.lt;have u:=ne3 r A.size;clear r;have hC:=C.mono (fun b _ (e:b=g)=>e▸A.top);replace a:=a.chg C (fun e=>q (e▸A.top));replace A:=A.op S C;clear S hC C;refine t 9 (.tuple #[.agg #[.slice c d f,.int .u64 (hX (got E (Ky.mk 7 id p)) 1)],.bool (Kv.look E (Ky.mk 7 id p)).isSome]) ?_
 refine t 14 (.agg #[.slice c d f,.int .u64 (hX (got E (Ky.mk 7 id p)) 1)]) ?_
 refine t 15 (.bool (Kv.look E (Ky.mk 7 id p)).isSome) ?_
 have D:=a.lt;refine ta 7 [.slice none 0 0,.int .u64 0] 116 (pg) ?_
 intro v5 g6 j m B;have z:=Or.inl (b:=(fun b=>b=g) g6) (Nat.le_trans A.size m);have v:=A.new m;have o:=ne1 i.lt m;have k:=ne4 a.lt m;replace A:=A.keep B;replace a:=a.keep B;replace i:=i.keep B;clear B;refine ts j 0 (.agg #[.slice c d f,.int .u64 (hX (got E (Ky.mk 7 id p)) 1)]) [.slice c d f,.int .u64 (hX (got E (Ky.mk 7 id p)) 1)] [.slice c d f,.int .u64 (hX (got E (Ky.mk 7 id p)) 1)] ?_
 intro G Y C;replace A:=Rg.cell A j C z v (by decide);replace a:=a.chg C k.symm;replace i:=i.cell C o;clear C j;have j:=Y;clear Y;refine t 8 (.bool (Kv.look E (Ky.mk 7 id p)).isSome) ?_
 refine ay (ah (aT [(6,pg g2),(7,pg g6)] (by kernel_rfl) ?_));refine ax (aA (t 16 (pg g6) ?_));refine tlr 17 [.slice c d f] j 0 ?_
 refine ts a 0 (.agg #[.slice c d f]) [.slice c d f] [.slice c d f] ?_
 intro H Y C;replace A:=Rg.cell A a C x q (by decide);replace i:=i.cell C l;replace j:=j.chg C k;clear C a;have a:=Y;clear Y;refine ay (ah (aP (aQ (.agg #[.slice c d f]) (rsc 6 (T:=32) (by kernel_rfl) (by kernel_rfl) (lr a 0)) ?_)));exact⟨_,_,_,rfl,_,A.sx,A.cg,i,y,u⟩
structure EaE(B:Nat)(w:World)(K:Nat->Prop)(g br bf:Nat)(E:aD)(W:List aD)(n N:Nat)(V F:Int)(m:Nat)(e:Ending)(w':World):Prop where
 ex:∃ a1 n1 c1 z1 a2 n2 c2 z2,e=.returned (.tuple #[])/\Sx B w' K g E W n N/\Chg (fun b=>b=g\/b=br\/b=bf) w w'/\Blk w' br [.slice a1 n1 c1] 32/\Nq w' K z1 a1 n1 c1 V/\n1<=m/\(n1=0\/w.heap.size<=z1)/\Blk w' bf [.slice a2 n2 c2] 32/\Nq w' K z2 a2 n2 c2 F/\n2<=510/\(n2=0\/w.heap.size<=z2)
theorem rK{bs bi br bk bf:Nat}{nR cR zR:Nat}{xR:Int}{nS cS zS:Nat}{xS:Int}{nF cF zF:Nat}{xF:Int}(h:Sx B w K g E W n N)(hid:0<=id/\id < 18446744073709551616)(QR:Nq w K zR aR nR cR xR)(mR:nR<=10000000000)(QS:Nq w K zS aS nS cS xS)(mS:nS<=10000000000)(QF:Nq w K zF aF nF cF xF)(mF:nF<=10000000000)(Xs:Blk w bs [pg g] 37)(Xi:Blk w bi [.int .u64 id] 22)(Xr:Blk w br [.slice aR nR cR] 32)(Xk:Blk w bk [.slice aS nS cS] 32)(Xf:Blk w bf [.slice aF nF cF] 32)(nXs:¬ K bs)(nXi:¬ K bi)(nXr:¬ K br)(nXk:¬ K bk)(nXf:¬ K bf)(dbr_bk:br≠bk)(dbr_bf:br≠bf)(dbk_bf:bk≠bf)(dbs_br:bs≠br)(dbs_bf:bs≠bf)(dbi_br:bi≠br)(dbi_bf:bi≠bf)(eQRbr:nR=0\/zR≠br)(eQRbf:nR=0\/zR≠bf)(eQSbr:nS=0\/zS≠br)(eQSbf:nS=0\/zS≠bf)(eQFbr:nF=0\/zF≠br)(eQFbf:nF=0\/zF≠bf)(hn:n + 10<=4000000000000000000)(hN:N + 10<=100000000):Calls Tryz.prog 50 #[.int .u64 p,pg bs,pg bi,pg br,pg bk,pg bf] w (EaE B w K g br bf E W (n + 1) N (xR + xS * gU (hX (got E (Ky.mk 7 id p)) 0) xF / U36) (hX (got E (Ky.mk 7 id p)) 0) (nR + nS + 600)):=by
 have zbr:=Or.inr (a:=w.heap.size<=br) (show br=g\/br=br\/br=bf from .inr (.inl rfl));have zbf:=Or.inr (a:=w.heap.size<=bf) (show bf=g\/bf=br\/bf=bf from .inr (.inr rfl));have A:=rg_of (X:=fun b=>b=g\/b=br\/b=bf) h (.inl rfl);refine aM (n:=20) Tryz.func50 rfl (by kernel_rfl) (by kernel_rfl) ?_
 refine ax (aA (tl 8 (pg g) Xs 0 ?_));refine tl 9 (.int .u64 id) Xi 0 ?_
 refine t 10 (.int .u64 p) ?_
 refine tc 11 49 #[pg g,.int .u64 id,.int .u64 p] (jS A.sx hid (by omega) (by omega)) ?_
 rintro _ v2 ⟨k,l,m,rfl,zr1,S,C,d,mr1,u⟩;refine⟨_,rfl,?_⟩;have am:=ne2 u Xs.lt;have an:=ne2 u Xi.lt;have I:=ne2 u Xr.lt;have ao:=ne2 u Xk.lt;have J:=ne2 u Xf.lt;have ad:=ne3 u A.size;clear u;have hC:=C.mono (fun b _ (e:b=g)=>e▸A.top);replace QR:=QR.op (fun _ h=>.inl h) hC;replace QS:=QS.op (fun _ h=>.inl h) hC;replace QF:=QF.op (fun _ h=>.inl h) hC;replace Xs:=Xs.chg C (fun e=>nXs (e▸A.top));replace Xi:=Xi.chg C (fun e=>nXi (e▸A.top));replace Xr:=Xr.chg C (fun e=>nXr (e▸A.top));replace Xk:=Xk.chg C (fun e=>nXk (e▸A.top));replace Xf:=Xf.chg C (fun e=>nXf (e▸A.top));replace A:=A.op S C;clear S hC C;have lXs:=Xs.lt;have lXi:=Xi.lt;have lXr:=Xr.lt;have lXk:=Xk.lt;have lXf:=Xf.lt;refine ta 7 [.slice none 0 0] 32 (pg) ?_
 intro v3 g4 c j B;have zg4:=Or.inl (b:=(fun b=>b=g\/b=br\/b=bf) g4) (Nat.le_trans A.size j);have ae:=A.new j;have Z:=ne1 QR.lt j;have aa:=ne1 QS.lt j;have ab:=ne1 QF.lt j;have L:=ne1 d.lt j;have M:=ne4 Xs.lt j;have O:=ne4 Xi.lt j;have x:=ne4 Xr.lt j;have P:=ne4 Xk.lt j;have y:=ne4 Xf.lt j;replace A:=A.keep B;replace QR:=QR.keep B;replace QS:=QS.keep B;replace QF:=QF.keep B;replace Xs:=Xs.keep B;replace Xi:=Xi.keep B;replace Xr:=Xr.keep B;replace Xk:=Xk.keep B;replace Xf:=Xf.keep B;replace d:=d.keep B;clear B;refine ts c 0 (.agg #[.slice k l m]) [.slice k l m] [.slice k l m] ?_
 intro v5 Y C;replace A:=Rg.cell A c C zg4 ae (by decide);replace QR:=QR.cell C Z;replace QS:=QS.cell C aa;replace QF:=QF.cell C ab;replace Xs:=Xs.chg C M.symm;replace Xi:=Xi.chg C O.symm;replace Xr:=Xr.chg C x.symm;replace Xk:=Xk.chg C P.symm;replace Xf:=Xf.chg C y.symm;replace d:=d.cell C L;clear C c;have c:=Y;clear Y;refine ay (ah (ax ?_));replace A:=A.drew;replace QR:=QR.drew;replace QS:=QS.drew;replace QF:=QF.drew;replace Xs:=Xs.drew;replace Xi:=Xi.drew;replace Xr:=Xr.drew;replace Xk:=Xk.drew;replace Xf:=Xf.drew;replace d:=d.drew;replace c:=c.drew;refine cj (fun w'=>Blk w' br [.slice aR nR cR] 32/\Blk w' bk [.slice aS nS cS] 32/\Blk w' g4 [.slice k l m] 32/\Blk w' bf [.slice aF nF cF] 32) (fun i=>decide (7<=i)) ⟨Xr,Xk,c,Xf⟩ ?_
 refine zlr 0 12 [.slice aR nR cR] (fun _ h=>h.1) 0 ?_
 refine zlr 1 13 [.slice aS nS cS] (fun _ h=>h.2.1) 0 ?_
 refine zlr 2 14 [.slice k l m] (fun _ h=>h.2.2.1) 0 ?_
 refine zlr 3 15 [.slice aF nF cF] (fun _ h=>h.2.2.2) 0 ?_
 refine zc 4 16 52 #[.agg #[.slice k l m],.agg #[.slice aF nF cF]] (rI d.nat (by omega) QF.nat (by omega)) ?_
 rintro _ v7 ⟨aq6,nq6,cq6,zq6,rfl,af,o,mq6,B⟩;have eQq6bs:=ne2 o Xs.lt;have eQq6bi:=ne2 o Xi.lt;have Q:=ne2 o Xr.lt;have eQq6bk:=ne2 o Xk.lt;have R:=ne2 o Xf.lt;have eQq6g4:=ne2 o c.lt;have fQq6:=ne3 o A.size;have q:=dK A.sx af o;clear af o;replace A:=A.keep B;replace QR:=QR.keep B;replace QS:=QS.keep B;replace QF:=QF.keep B;replace Xs:=Xs.keep B;replace Xi:=Xi.keep B;replace Xr:=Xr.keep B;replace Xk:=Xk.keep B;replace Xf:=Xf.keep B;replace d:=d.keep B;replace c:=c.keep B;clear B;refine⟨_,rfl,⟨Xr,Xk,c,Xf⟩,?_⟩;refine zc 5 17 51 #[.agg #[.slice aS nS cS],.agg #[.slice aq6 nq6 cq6]] (eMul QS.nat (by omega) q.nat (by omega)) ?_
 rintro _ v9 ⟨aq8,nq8,cq8,zq8,rfl,ag,r,mq8,B⟩;have eQq8bs:=ne2 r Xs.lt;have eQq8bi:=ne2 r Xi.lt;have T:=ne2 r Xr.lt;have eQq8bk:=ne2 r Xk.lt;have U:=ne2 r Xf.lt;have eQq8g4:=ne2 r c.lt;have fQq8:=ne3 r A.size;have v:=dK A.sx ag r;clear ag r;replace A:=A.keep B;replace QR:=QR.keep B;replace QS:=QS.keep B;replace QF:=QF.keep B;replace Xs:=Xs.keep B;replace Xi:=Xi.keep B;replace Xr:=Xr.keep B;replace Xk:=Xk.keep B;replace Xf:=Xf.keep B;replace d:=d.keep B;replace c:=c.keep B;replace q:=q.keep B;clear B;refine⟨_,rfl,⟨Xr,Xk,c,Xf⟩,?_⟩;refine zc 6 18 27 #[.agg #[.slice aR nR cR],.agg #[.slice aq8 nq8 cq8]] (xK QR.nat (by omega) v.nat (by omega)) ?_
 rintro _ v11 ⟨z,D,F,zq10,rfl,V,f,mq10,B⟩;have ai:=ne2 f Xs.lt;have aj:=ne2 f Xi.lt;have G:=ne2 f Xr.lt;have ak:=ne2 f Xk.lt;have H:=ne2 f Xf.lt;have al:=ne2 f c.lt;have ac:=ne3 f A.size;have s:=dK A.sx V f;clear V f;replace A:=A.keep B;replace QR:=QR.keep B;replace QS:=QS.keep B;replace QF:=QF.keep B;replace Xs:=Xs.keep B;replace Xi:=Xi.keep B;replace Xr:=Xr.keep B;replace Xk:=Xk.keep B;replace Xf:=Xf.keep B;replace d:=d.keep B;replace c:=c.keep B;replace q:=q.keep B;replace v:=v.keep B;clear B;refine⟨_,rfl,⟨Xr,Xk,c,Xf⟩,?_⟩;refine qh ?_
 refine ys 7 Xr 0 (.agg #[.slice z D F]) [.slice z D F] [.slice z D F] ?_
 intro v12 Y C;replace A:=Rg.cell A Xr C zbr nXr (by decide);replace QR:=QR.cell C eQRbr;replace QS:=QS.cell C eQSbr;replace QF:=QF.cell C eQFbr;replace Xs:=Xs.chg C dbs_br;replace Xi:=Xi.chg C dbi_br;replace Xk:=Xk.chg C dbr_bk.symm;replace Xf:=Xf.chg C dbr_bf.symm;replace d:=d.cell C I;replace c:=c.chg C x;replace q:=q.cell C Q;replace v:=v.cell C T;replace s:=s.cell C G;clear C Xr;have Xr:=Y;clear Y;refine oR ?_
 refine ah (aT [(5,pg bf),(7,pg g4)] (by kernel_rfl) ?_);refine aA (tlr 19 [.slice k l m] c 0 ?_);refine ts Xf 0 (.agg #[.slice k l m]) [.slice k l m] [.slice k l m] ?_
 intro v13 Y C;replace A:=Rg.cell A Xf C zbf nXf (by decide);replace QR:=QR.cell C eQRbf;replace QS:=QS.cell C eQSbf;replace QF:=QF.cell C eQFbf;replace Xs:=Xs.chg C dbs_bf;replace Xi:=Xi.chg C dbi_bf;replace Xr:=Xr.chg C dbr_bf;replace Xk:=Xk.chg C dbk_bf;replace d:=d.cell C J;replace c:=c.chg C y;replace q:=q.cell C R;replace v:=v.cell C U;replace s:=s.cell C H;clear C Xf;have Xf:=Y;clear Y;refine ay (iX (.tuple #[]) (rs0 (by kernel_rfl)) ?_);exact⟨_,_,_,_,_,_,_,_,rfl,A.sx,A.cg,Xr,s,by omega,ac,Xf,d,by omega,ad⟩
end
end Fo
end
end Go.Proofs.YthfepflplbahkaaGreatDoor
