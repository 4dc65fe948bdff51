import Derived.Test.YthfepflplbahkaaGreatDoorJah
import Derived.Test.YthfepflplbahkaaGreatDoorJag
import Derived.Shelf.Abstract
import Derived.Shelf.RegionOpen
import Derived.OwnWalkIn
import Derived.TacticsInMore
import Derived.LoopNIn
import Derived.LoopIn
set_option maxRecDepth 100000
set_option maxHeartbeats 8000000
namespace Go.Proofs.YthfepflplbahkaaGreatDoor
section
namespace Kv
open Go.RowKit Go.Lib Pg
section
variable {E:aE}{k:List Int}{w:World}{K D F V:Nat->Prop}{g n N m:Nat}{W:List aE}{kv jv:Value}{Q:List (List KV)}{T T0:List Jr}{oj:Option Nat}
attribute [local go_sem] Oper.semAt_some
theorem zn(h:eH E)(hn:(look E k).isSome=false):rem E k=E:=by
 obtain⟨X,Y,c,⟨rfl,e⟩ | ⟨x,rfl,e⟩⟩:=h.cut k
 ·exact c.zN
 ·rw[e] at hn; cases hn
theorem sget(h:SA w K D g E W n N)(d:BK w K kv k)(hn:n<=4000000000000000000)(C:N<=100000000) :
  Calls Tryz.prog 127 #[.pointer (some ⟨g,0,none⟩),kv] w fun e w'=>∃ v,e=.returned (.tuple #[v,.bool (look E k).isSome])/\OB w' (w.heap.size <= ·) v ((look E k).getD [])/\SA w' K D g E W (n + 1) N/\Chg K w w':=by
 obtain⟨F,V,m,Q,y,T,G,hX,rfl,o⟩:=h.open;obtain⟨z,c,rfl⟩:=d.shape;have u:=fO hX hn;have s:=aB hX;have x:=aB o;have p:=aB d;clear hX o d h;obtain⟨kn,f⟩:∃ kn,Hid (k.length=kn):=⟨_,rfl⟩
 rw[f.out] at p ⊢;have t:=fun w' (X:SX w' K D F V g m Q y T G (n + 1) N) (d:By w' (.slice z kn c) k)=>jL X d C
 obtain⟨r,q⟩:∃ r,(look Q.flatten k).isSome=r:=⟨_,rfl⟩
 obtain⟨L,hL⟩:∃ L,(look Q.flatten k).getD []=L:=⟨_,rfl⟩
 rw[q,hL] at t ⊢;clear q hL;go_enter Tryz.func127,Tryz.ntmps127;go_wp2_with first
  | (go_at_call 95; go_must (refine u.mono ?_); rintro e A ⟨rfl,j,l⟩; have c0:=j.blk.cell (i:=0) rfl)
  | (go_at_call 170; go_must (refine(t _ j (p.out _ (s.out.kg l))).mono ?_); rintro e I ⟨v,rfl,O,B⟩; obtain⟨a1,c1,rfl⟩:∃ a1 c1,v=.slice a1 L.length c1:=(by obtain⟨a1,c1,e,_⟩:=O.by.ex; exact⟨a1,c1,e⟩); generalize L.length=J at *)
 go_ret2;exact⟨_,rfl,O.mono (fun b _ h=>by have:=l.size; have H:A.heap.size<=b:=h; show w.heap.size<=b; omega),(j.keep B).shut rfl x.out,fg (s.out.kg l) (Chg.of B)⟩
theorem Bh(hX:SX w K D F V g m Q jv T oj n N)(q:ku (T.reverse.map Jr.U) W Q.flatten)(j:BK w K kv k)(hn:n<=4000000000000000000)(s:N + 2<=100000000)(p:(look Q.flatten k).isSome=false) :
  Calls Tryz.prog 75 #[.pointer (some ⟨g,0,none⟩),kv] w (Ends w K D g (rem Q.flatten k) W (n + 1) (N + 2) (.bool false)):=by
 obtain⟨B,c,rfl⟩:=j.shape;have u:=fO hX hn;have i:=aB hX;have v:=aB q;have t:=aB j
 have y:N<=99999998:=by omega
 replace s:N<=100000000:=by omega
 clear hX q j;obtain⟨kn,f⟩:∃ kn,Hid (k.length=kn):=⟨_,rfl⟩
 rw[f.out] at t ⊢;go_enter Tryz.func75,Tryz.ntmps75;go_wp2_with first
  | (go_at_call 95; go_must (refine u.mono ?_); rintro e z ⟨rfl,d,o⟩; have l:=tQ d (t.out _ (i.out.kg o)) s; rw[p] at l)
  | (go_at_call 121; go_must (refine l.mono ?_); rintro e A ⟨rfl,r⟩; clear l; replace d:=d.keep r; have x:=fg (i.out.kg o) (Chg.of r))
 go_ret;have e:=zn i.out.map.ord.flat p;exact⟨rfl,K,((d.shut e.symm (by rw[e]; exact v.out)).more (by omega)).mono (fun _ _ h=>.inl h),fun b h=>.inl h,x⟩
theorem zI(hX:SX w K D F V g m Q jv [] oj n N)(q:ku ([].reverse.map Jr.U) W Q.flatten)(o:BK w K kv k)(hn:n<=4000000000000000000)(z:N + 2<=100000000)(t:(look Q.flatten k).isSome=true) :
  Calls Tryz.prog 75 #[.pointer (some ⟨g,0,none⟩),kv] w (Ends w K D g (rem Q.flatten k) W (n + 1) (N + 2) (.bool true)):=by
 obtain⟨H,c,rfl⟩:=o.shape;have u:=fO hX hn;have x:=aB hX;have A:=aB q;have l:=aB o
 have G:N<=99999998:=by omega
 replace z:N<=100000000:=by omega
 clear hX q o;obtain⟨kn,j⟩:∃ kn,Hid (k.length=kn):=⟨_,rfl⟩
 rw[j.out] at l ⊢;go_enter Tryz.func75,Tryz.ntmps75;go_wp2_with first
  | (go_at_call 95; go_must (refine u.mono ?_); rintro e J ⟨rfl,d,s⟩; have p:=tQ d (l.out _ (x.out.kg s)) z; rw[t] at p)
  | (go_at_call 121; go_must (refine p.mono ?_); rintro e L ⟨rfl,v⟩; clear p; replace d:=d.keep v; have f:=fg (x.out.kg s) (Chg.of v))
  | (go_at_call 96; go_must (refine(mJ d).mono ?_); rintro e y ⟨rfl,hy⟩; replace hy:=hy.symm; subst hy; have c0:=d.blk.cell (i:=0) rfl; have us:=mdel d.map (l.out _ f) (by omega); rw[jt d.map.ord,t] at us)
  | (go_at_call 122; go_must (refine us.mono ?_); rintro e M ⟨rfl,I,C,hF,hC⟩)
 go_ret;have B:=d.mapped (N':=N) (by have:=d.tot; have:=vy (E:=Q.flatten) k; rw[ik d.map.ord]; omega) C hF (fun _ h=>h) hC;refine⟨rfl,_,((B.shut (E:=rem Q.flatten k) (W:=W) (ik d.map.ord k) (ra A.out)).more (by omega)).mono (fun b _ hb => ?_),fun b hb => ?_,?_⟩
 ·exact .inl hb
 ·rcases hb with⟨hb,_⟩ | hb
  ·exact .inl hb
  ·rcases hF b hb with r | r
   ·exact .inl (d.own.map b r)
   ·exact .inr (by have:=f.size; omega)
 ·exact fg f (hC.mono (fun b _ h=>d.own.map b h))
theorem yd{j:Jr}(hX:SX w K D F V g m Q jv (T0 ++ [j]) oj n N)(A:ku ((T0 ++ [j]).reverse.map Jr.U) W Q.flatten)(y:BK w K kv k)(hn:n<=4000000000000000000)(x:N + 2<=100000000)(l:k.length<=1000000000)(G:(look Q.flatten k).isSome=true) :
  Calls Tryz.prog 75 #[.pointer (some ⟨g,0,none⟩),kv] w (Ends w K D g (rem Q.flatten k) W (n + 1) (N + 2) (.bool true)):=by
 obtain⟨P,c,rfl⟩:=y.shape;have u:=fO hX hn;have v:=aB hX;have I:=aB A;have q:=aB y;replace l:=aB l
 have O:N<=99999998:=by omega
 replace x:N<=100000000:=by omega
 clear hX A y;obtain⟨kn,r⟩:∃ kn,Hid (k.length=kn):=⟨_,rfl⟩
 rw[r.out] at q ⊢;go_enter Tryz.func75,Tryz.ntmps75;go_wp2_with first
  | (go_at_call 95; go_must (refine u.mono ?_); rintro e X ⟨rfl,p,C⟩; have z:=tQ p (q.out _ (v.out.kg C)) x; rw[G] at z)
  | (go_at_call 121; go_must (refine z.mono ?_); rintro e Z ⟨rfl,H⟩; clear z; replace p:=p.keep H; have o:=fg (v.out.kg C) (Chg.of H))
  | (go_at_call 96; go_must (refine(nZ p (q.out _ o) (by have:=l.out; omega) x).mono ?_); rintro e R ⟨rfl,S,Y,j',s,d,f,M⟩; have t:=fg o M; have c0:=d.blk.cell (i:=0) rfl; have us:=mdel d.map (q.out _ t) (by omega); rw[jt d.map.ord,G] at us)
  | (go_at_call 122; go_must (refine us.mono ?_); rintro e w4 ⟨rfl,T,L,hF,hC⟩)
 go_ret;have J:=d.mapped (N':=N + 1) (by have:=d.tot; have:=vy (E:=Q.flatten) k; rw[ik d.map.ord]; omega) L hF (fun _ h=>h) hC;refine⟨rfl,_,((J.shut (E:=rem Q.flatten k) (W:=W) (ik d.map.ord k) (oH I.out s (xP v.out.map.ord.flat k))).more (by omega)).mono (fun b _ hb => ?_),fun b hb => ?_,?_⟩
 ·rcases hb with hb | hb
  ·exact .inl hb
  ·exact .inr (by have:=o.size; omega)
 ·rcases hb with⟨hb,_⟩ | hb
  ·exact(f b hb).imp id (fun h=>by have:=o.size; omega)
  ·rcases hF b hb with B | B
   ·exact(f b (d.own.map b B)).imp id (fun h=>by have:=o.size; omega)
   ·exact .inr (by have:=t.size; omega)
 ·exact t.trans hC (fun b hb h=>(f b (d.own.map b h)).elim id (fun h=>by have:=o.size; omega))
theorem sdel(h:SA w K D g E W n N)(d:BK w K kv k)(b:k.length<=1000000000)(hn:n<=4000000000000000000)(c:N + 2<=100000000) :
  Calls Tryz.prog 75 #[.pointer (some ⟨g,0,none⟩),kv] w (Ends w K D g (rem E k) W (n + 1) (N + 2) (.bool (look E k).isSome)):=by
 obtain⟨F,V,m,Q,f,T,i,hX,rfl,a⟩:=h.open
 cases hr:(look Q.flatten k).isSome with
 | false=>exact Bh hX a d hn c hr
 | true =>
  rcases List.eq_nil_or_concat T with rfl | ⟨e,j,rfl⟩
  ·exact zI hX a d hn c hr
  ·rw[List.concat_eq_append] at hX a;exact yd hX a d hn c b hr
end
end Kv
end
section
namespace Kv
open Go.RowKit Go.Lib Pg
attribute [local go_sem] Oper.semAt_some
end Kv
end
section
namespace Kv
open Go.RowKit Go.Lib Pg
attribute [local go_sem] Oper.semAt_some
theorem oe {fn:Func} {p:Tmp} {ty:TypeId} (h:fn.results=#[.cell p ty]) {tmps:Array Value} {w:World} {g:Nat} {v:Value} (b:tmps.getD p undef=.pointer (some ⟨g,0,none⟩)) (c:(loadVar ty ⟨g,0,none⟩).run Tryz.prog w=.ok v w):(results fn tmps).run Tryz.prog w=.ok v w:=by
 have a:tmps[p]?.getD undef=.pointer (some ⟨g,0,none⟩):=by simpa using b
 simp[results,h,a,asAddr,c]
end Kv
end
section
namespace Kv
open Go.RowKit Go.Lib Pg
attribute [local go_sem] Oper.semAt_some
end Kv
end
section
namespace Kv
open Go.RowKit Go.Lib Pg
section
variable {w w':World}{B:Nat}{xs:List Value}{K:Nat->Prop}
attribute [local go_sem] Oper.semAt_some
theorem Rw.rcd{E:TypeId}{k b n c:Nat}(h:Rw w E k b n c xs)(hr:Rec B w w'):Rw w' E k b n c xs:=by
 obtain⟨cs,hk⟩:=h.kind;exact h.same (by rw[(hr.blk hk).blk,hk.blk])
theorem jh{w1:World}(h:Chg K w w1)(c:Rec B w1 w')(f:w.heap.size<=B):Chg K w w' :=
 ⟨c.os.trans h.os,c.tape.trans h.tape,c.output.trans h.output,Nat.le_trans h.size c.size,fun b hb d=>by
  have e:=h.same b hb d;rw[<- e]
  have a:b < w1.heap.size:=Nat.lt_of_lt_of_le hb h.size;rw[Array.getElem?_eq_getElem a]
  exact c.same b _ (Array.getElem?_eq_getElem a) (.inl (by omega))⟩
end
end Kv
end
section
namespace Kv
open Go.RowKit Go.Lib Pg
attribute [local go_sem] Oper.semAt_some
end Kv
end
section
namespace Kv
open Go.RowKit Go.Lib Pg
section
variable {n g N:Nat}{ops:Array Oper}{rest:List Oper}{a:Act}{w w':World}{v jv:Value}{pos:String}{K D:Nat → Prop}{Q:List (List KV)}{T:List Jr}{oj:Option Nat}{X:Nat->Prop}{W:List aE}
attribute [local go_sem] Oper.semAt_some
theorem jD{F:Fence}{Q:Exit->Act->World->Prop}{o:Oper}(d:o.guard=none)(hF:∀ f,F.fn f)(hs:o.semAt F.round a.eval=execOp a.eval o)(b:(execOp a.eval o).run Tryz.prog w=.ok (.value v) w')(h:wpListIn F n Tryz.prog ops Q rest (a.put o.dst v) w'):wpListIn F n Tryz.prog ops Q (o :: rest) a w :=
 wpListIn_plain d fun K c=>by
  unfold Oper.wpIn;rw[hs,b,Oper.uponIn_value];exact⟨fun f _=>hF f,c _ _ h⟩
theorem Cd{F:Fence}{x y d:Nat}{Q:Exit->Act->World->Prop}{after:Array Edge}{u r:Value}(hF:∀ f,F.fn f)(hu:a.eval (.tmp x)=u)(hv:a.eval (.tmp y)=v)(b:(Builtin.append_ #[46,46] 46 #[u,v]).run Tryz.prog w=.ok r w')(h:wpListIn F n Tryz.prog ops Q rest (a.put (some d) r) w') :
  wpListIn F n Tryz.prog ops Q ({ dst:=some d,op:=.call { callee:=.builtin .append,args:=#[.tmp x,.tmp y],argTypes:=#[46,46] },type:=46,pos:=pos,after:=after,guard:=none } :: rest) a w :=
 jD rfl hF (Oper.semAt_eq _ _ _ (fun c h=>by cases h)) (run_ap (x:=x) (y:=y) rfl rfl hu hv b) h
theorem SX.wm{K D F V:Nat->Prop}{m:Nat}(h:SX w K D F V g m Q jv T oj n N)(c:N<=100000000)(a:∀ b,X b->¬ F b)(d:∀ b,X b->∀ cs,¬ Blk w b cs 5)(e:∀ b,X b->b < w.heap.size) :
  ∃ L,Wm w X F D m L/\∀ f t,(wlk (ens L) f t).map En.kl2=Q.flatten.filter (mV f t):=by
 obtain⟨L,rfl,A,O,S,k,r⟩:=h.map.ex;exact⟨L,⟨A,O,fun es he=>(S.one es he).2,S.few k c,r,a,d,e⟩,fun f t=>xo O f t⟩
theorem xN(x:KV):mV [] [] x=true:=by
 simp[mV,Lt]
 cases x.1<;>simp[db]
def TpD(t:TypeId):Prop:=t=98
theorem sdump{E:aE}(h : SA w K D g E W n N)(hN : N ≤ 100000000) :
    Calls Tryz.prog 15 #[.pointer (some ⟨g, 0, none⟩)] w fun e w' => ∃ v es, e = .returned v ∧ PrA w' w.heap.size v es ∧ es.map En.kl2 = E ∧ Below w.heap.size w w' := by
  have hsm := h.small;have hsz := h.size;obtain⟨F, V, m, Q, jv, T, oj, hX, rfl, hB⟩:= h.open;have b1 := ae w (.cells #[.slice none 0 0] 46);have c1 := aC w [.slice none 0 0] 46;have X1 := hX.keep b1
  obtain⟨L, K2, hwl⟩:= X1.wm hN (X := (· = w.heap.size)) (fun b e hF => by have e' : b = w.heap.size := e; have := hX.map.lt hF; omega) (fun b e cs k => by
    have e' : b = w.heap.size := e;subst e'
    exact absurd (c1.eq k).2 (by decide)) (fun b e => by have e' : b = w.heap.size := e; simp; omega)
  have t : (wlk (ens L) [] []).map En.kl2 = Q.flatten := by rw[hwl, List.filter_eq_self.2 (fun x _ => xN x)]
  have tW := mN (Tp := TpD) K2 (By.nil _) (By.nil _) (by decide) (by decide) (by unfold TpD; decide) (by unfold TpD; decide);have g0 := X1.blk.cell (i := 0) rfl;obtain⟨I, hE⟩ : ∃ E, Hid (wlk (ens L) [] [] = E) := ⟨_, rfl⟩;rw[hE.out] at tW t;have hEQ := aB t
  have hlen : I.length ≤ N := by have := congrArg List.length t; simp only[List.length_map] at this; omega
  have sz1 : (w.alloc (.cells #[.slice none 0 0] 46)).heap.size = w.heap.size + 1 := by simp
  have HB1 := aB b1;have HC1 := aB c1;clear h hX X1 K2 hwl t hB;obtain⟨Wa, M⟩ : ∃ Wa, Hid (w.alloc (.cells #[.slice none 0 0] 46) = Wa) := ⟨_, rfl⟩;rw[M.out] at tW g0 sz1 HB1 HC1;have c1 := HC1.out;refine(callsIn_wide (n := 0)).1 ?_
  refine callsIn_of_wp_marks Tryz.func15 rfl trivial ?_ rfl;simp only[Tryz.ntmps15, List.size_toArray, List.length_cons, List.length_nil, Nat.reduceAdd, Nat.reduceSub, Array.replicate_succ, Array.replicate_zero, List.push_toArray, List.append_toArray, List.nil_append, List.cons_append];rw[← M.out] at g0;gi_wp2_with (refine⟨trivial, rfl, ?_⟩; gi_at_call 42; rw[M.out]; refine(callsIn_wide.2 tW).mono ?_; rintro e' w1 ⟨bw, rfl, H, IT⟩);have cb := c1.keep H;clear tW;have q1 := H.size;refine gN IT (by rfl) (enters_of Tryz.func123 (by kernel_rfl) rfl) (fun i args n V V' h hc => h.cel hc) (fun i args n V h => by obtain⟨e, kv, vv, s, _, rfl, _⟩:= h; rfl)
    (fun i V => Cw w1 V w.heap.size I i) (fun _ _ _ => False)
    (fun i A B hx hr => hx.rcd hr) (fun _ _ _ _ hx _ => hx)
    (fun i V hv => hv.chg) ⟨Chg.refl _ _, _, [], cb, ⟨.inl ⟨rfl, rfl⟩, fun e he => by cases he⟩, rfl⟩ ?_ ?_ ?_
  · rintro l2 i args V Wv hl hlV hrec hiN hG hb ⟨e0, kv, vv, s0, he0, rfl, hk0, Z, _⟩
    obtain⟨S, nk, hk1⟩:= hk0.shape;obtain⟨U, Y, hv1⟩:= Z.shape;subst hk1 hv1;simp;gi_wp2;refine⟨Below.refl _ _, ?_⟩;intro V2 W2 q p hAr2 hoth C hV2 r hrec2;obtain⟨e1, kv1, vv1, t1, he1, y, hk2, hv2, ht1⟩:= hAr2;obtain rfl : e1 = e0 := by rw[he0] at he1; cases he1; rfl
    simp at y;obtain⟨rfl, rfl⟩:= y;obtain⟨ov, es, g1, g2, g3⟩:= q.out
    have l : es.length = i := by have := congrArg List.length g3; simp at this; omega
    obtain⟨ao0, cc0, rfl⟩:= g2.shape;have S0 := g1.keep p;have P0 := g2.keep p;have z1 := q.chg.size;have z2 := p.size;have f := ae W2 (.cells #[.slice S e1.kl.length nk, .slice U e1.vl.length Y] 98);have N4 := aC W2 [.slice S e1.kl.length nk, .slice U e1.vl.length Y] 98;have z5 := f.size
    have hE4 : EnA (W2.alloc (.cells #[.slice S e1.kl.length nk, .slice U e1.vl.length Y] 98)) (fun b => w1.heap.size ≤ b) ⟨.slice S e1.kl.length nk, e1.kl, .slice U e1.vl.length Y, e1.vl⟩:= ⟨(hk2.keep f).mono (fun b _ hb => by omega), (hv2.keep f).mono (fun b _ hb => by omega)⟩;obtain⟨ov5, w5, O, P5, J⟩:= zo (e := ⟨.slice S e1.kl.length nk, e1.kl, .slice U e1.vl.length Y, e1.vl⟩) (a := ⟨W2.heap.size, 0, none⟩) 46 (P0.keep f) (by omega) hE4 (by omega) (N4.cell (i := 0) rfl) (N4.cell (i := 1) rfl);have S4 := S0.keep f;have S5 := J.blk S4 (by decide);have s0c := S0.cell (i := 0) rfl;obtain⟨d, u⟩ : ∃ d, Hid (es ++ [(⟨.slice S e1.kl.length nk, e1.kl, .slice U e1.vl.length Y, e1.vl⟩ : En)] = d) := ⟨_, rfl⟩
    have hes4 : Hid (d.map En.kl2 = (I.take (i + 1)).map En.kl2) := by
      show _ = _
      rw[← u.out, List.map_append, g3, List.take_add_one, he0, List.map_append];rfl
    simp only[u.out] at P5;obtain⟨R, P, rfl⟩:= P5.shape;have s5c := S5.cell (i := 0) rfl;have s5f := S5.free 0;have G := aB P5;have HS5 := aB S5;have HSp := aB J;have HBa := aB f;have HG2 := aB q;have HB2 := aB p;have hsl := S4.cell (i := 0) rfl;replace l := aB l;replace C := aB C;replace hV2 := aB hV2;clear hG hk0 Z hb hoth P5 S5 J f N4 hE4 P0 S0 g1 g2 g3 hk2 hv2 p q S4;gi_wp2_with (have gate := O; clear gate; refine Cd (fun _ => trivial) rfl rfl O ?_; clear O)
    have j : Chg (· = w.heap.size) w5 (w5.setCell ⟨w.heap.size, 0, none⟩ (.slice R d.length P)) := (Chg.refl (fun x => x = w.heap.size) w5).cell (.inl (by rfl)) _
    have z : ∀ b, b = w.heap.size → ∀ cs, ¬ Blk w5 b cs 5 := fun b hb cs k => by
      subst hb;have := (k.eq HS5.out).2;revert this;decide
    have P6 : PrA (w5.setCell ⟨w.heap.size, 0, none⟩ (.slice R d.length P)) w1.heap.size (.slice R d.length P) d := ⟨G.out.ex.imp id (fun⟨b, c, e, hl, hR⟩ => ⟨b, c, e, hl, hR.chg j (by omega)⟩), fun e he => ⟨(G.out.dJ e he).k.chg j z, (G.out.dJ e he).v.chg j z⟩⟩;refine⟨((bj.of (Tp := TpD) (B := w1.heap.size) HBa.out).trans (HSp.out.keeps (Tp := TpD) rfl)).trans ⟨j.size, fun k o hk h0 _ => (j.same k (lt_of_block h0) (by omega)).trans h0⟩, ⟨?_, _, d, HS5.out.setCell (i := 0) _, P6, hes4.out⟩⟩;exact(((HG2.out.chg.trans (Chg.of (F := fun _ => False) (aj HB2.out HBa.out)) (fun _ _ h => h.elim)).trans HSp.out.chg (fun b h1 h2 => by omega))).trans j (fun b _ h => h)
  · rintro D' W' hD hK hG
    obtain⟨ov, es, g1, g2, g3⟩:= hG.out;obtain⟨ao, cc, rfl⟩:= g2.shape;have g1c := g1.cell (i := 0) rfl;gi_wp2;refine⟨by simp, .inl ⟨_, _, rfl, run_takeDeferred hK, ?_⟩⟩;refine⟨_, results_tmp rfl _ _ _, _, es, rfl, (g2.cel (Rec.put hK rfl hD _).cel).low (by omega), ?_, ?_⟩
    · rw[g3, List.take_length]; exact hEQ.out
    · exact si HB1.out H ((hG.rcd (Rec.put hK rfl hD _)).chg) (Nat.le_refl _)
  · rintro D' c i W' hD hK hi hF
    exact hF.elim
end
end Kv
end
section
namespace Kv
open Go.RowKit Go.Lib Pg
section
variable {g x:Nat}{V:World}{E:List En}{args:Array Value}
attribute [local go_sem] Oper.semAt_some
def tick(g:Nat)(V:World)(x:Nat):World:=V.setCell ⟨g,2,none⟩ (.int .i64 ((x:Int) + 1))
theorem sA{V':World}(hb:Below V.heap.size V V'):Below (tick g V x).heap.size (tick g V x) (tick g V' x):=by
 unfold tick;refine⟨hb.os,hb.tape,hb.output,by simpa[World.setCell] using hb.size,fun k c => ?_⟩
 have a:k < V.heap.size:=by simpa[World.setCell] using c
 by_cases e:k=g
 ·subst e;have b:=hb.block k a;simp only[World.setCell,Array.getElem?_modify,b]
 ·rw[Below.heap_setCell _ _ _ _ (by exact e),Below.heap_setCell _ _ _ _ (by exact e)];exact hb.block k a
theorem fm(g x:Nat)(V:World):(tick g V x).heap.size=V.heap.size:=by simp[tick,World.setCell]
theorem dQ(g x:Nat)(V:World):Chg (· = g) V (tick g V x):=(Chg.refl (· = g) V).cell (.inl rfl) _
theorem xc{i n:Nat}(h:ArC E i args n V)(o:∃ cs,Blk V g cs 94):ArC E i args n (tick g V x):=by
 obtain⟨e,kv,vv,s,c,m,p,f,j⟩:=h
 have a:∀ b,b=g->∀ cs,¬ Blk V b cs 5:=fun b hb cs k=>by
  subst hb;obtain⟨d,l⟩:=o;exact absurd (k.eq l).2 (by decide)
 exact⟨e,kv,vv,s,c,m,p.chg (dQ g x V) a,f.chg (dQ g x V) a,j⟩
def RdC(X:Nat->Prop)(W1:World)(g bs1 bs2 bw:Nat)(V:World):Prop:=Chg X W1 V/\Blk V bs1 [.pointer (some ⟨g,0,none⟩)] 37/\Blk V bs2 [.func (.func 123) #[] #[.pointer (some ⟨bw,0,none⟩)]] 85/\∃ cs,Blk V g cs 94
end
end Kv
end
section
namespace Kv
open Go.RowKit Go.Lib Pg
section
variable {I It:Nat->World->Prop}{Ix:Code->Nat->World->Prop}{W W' V:World}
attribute [local go_sem] Oper.semAt_some
def oX(I It:Nat->World->Prop)(k:Nat):World->Prop:=if k % 2=0 then I (k / 2) else It (k / 2)
theorem jR(I It:Nat->World->Prop)(i:Nat):oX I It (2 * i + 1)=It i:=by
 unfold oX;rw[if_neg (by omega),show (2 * i + 1) / 2=i by omega]
theorem jU(I It:Nat->World->Prop)(i:Nat):oX I It (2 * i + 1 + 1)=I (i + 1):=by
 unfold oX;rw[if_pos (by omega),show (2 * i + 1 + 1) / 2=i + 1 by omega]
theorem oh{Tp:TypeId->Prop}{B:Nat}{i:Nat}{e:Exit}{a:Act}(h:nN Tp B I Ix (i + 1) W e a W'):nN Tp B (oX I It) (fun c k=>Ix c (k / 2)) (2 * i + 1 + 1) W e a W':=by
 have e2:(2 * i + 1 + 1) / 2=i + 1:=by omega
 cases e<;>simp only[nN] at h ⊢
 ·exact⟨h.1,by rw[jU]; exact h.2⟩
 ·exact⟨h.1,by rw[e2]; exact h.2⟩
 ·exact⟨h.1,by rw[e2]; exact h.2⟩
 ·exact⟨h.1,by rw[e2]; exact h.2⟩
def yA(Tp:TypeId->Prop)(w:World)(N n:Nat)(ps:Array Tmp)(assign body:Code)(tmps:Array Value)(Ar:Nat->Array Value->Nat->World->Prop)(It I:Nat->World->Prop)(Ix:Code->Nat->World->Prop):Prop :=
 ∀ (l i:Nat) (args:Array Value) (V W:World),w.heap.size<=l->l < V.heap.size->(∃ r,V.heap[l]? = some (.loop r))->i < N->It i V->Below V.heap.size V W->Ar i args V.heap.size W ->
  assign.wpIn (Fence.wide.inRound l) n Tryz.prog (Exit.then (fun a1 W1=>Below W.heap.size W W1/\∀ V2 W2,It i V2->Below V2.heap.size V2 W2->Ar i args V2.heap.size W2->(∀ b,b≠l->W2.heap[b]? = W1.heap[b]?)->W2.heap.size=W1.heap.size->V2.heap.size=V.heap.size->(∃ r,W2.heap[l]? = some (.loop r))->body.wpIn (Fence.wide.inRound l) n Tryz.prog (nN Tp w.heap.size I Ix (i + 1) W2) a1 W2) (fun _ _ _=>False)) { tmps:=(ps.zip args).foldl (fun t (p,v)=>t.setIfInBounds p v) tmps,defers:=[] } W
theorem fy{g x k:Nat}(h:k≠g):(tick g V x).heap[k]? = V.heap[k]? := Below.heap_setCell _ _ _ _ h
end
end Kv
end
section
namespace Kv
open Go.RowKit Go.Lib Pg
section
variable {w w' A A':World}{B n c g:Nat}{v u r:Value}{l a Q b:List Int}{x y:Int}{D:Nat->Prop}{ao:Option Addr}{Rd:World->Prop}{cs:List Value}{ops:Array Oper}{rest:List Oper}{pos:String}
attribute [local go_sem] Oper.semAt_some
theorem sE{p:Nat}(h:OB w (B <= ·) v l)(d:B<=w.heap.size)(s:l.length<=1000000000)(hx:0<=x/\x < 256)(q:w.cell? ⟨p,0,none⟩=some (.int .u8 x)) :
  ∃ v' w',(Builtin.append_ #[96,96] 96 #[v,.slice (some ⟨p,0,none⟩) 1 1]).run Tryz.prog w=.ok v' w'/\OB w' (B <= ·) v' (l ++ [x])/\Below B w w':=by
 have o:Oct (l ++ [x]):=fun y hy=>by
  rcases List.mem_append.1 hy with hy | hy
  ·exact h.oct y hy
  ·simp at hy; subst hy; exact hx
 have a:∀ j u,[Value.int .u8 x][j]? = some u->w.cell? ((⟨p,0,none⟩:Addr).add j)=some u:=fun j u g=>by
  match j with
  | 0=>simp at g; subst g; exact q
  | j + 1=>simp at g
 rcases h.ex with⟨rfl,rfl⟩ | ⟨b,c,rfl,hl2,k⟩
 ·obtain⟨i,w',f,k,hw⟩:=ff (w:=w) KB 96 ⟨p,0,none⟩ 1 1 [.int .u8 x] rfl a (by decide) (by decide) (by decide);exact⟨_,w',f,⟨o,.inr ⟨_,i,rfl,d,k⟩⟩,hw.mono d⟩
 ·obtain⟨r,i,w',f,m,n,hw⟩:=dC (w:=w) KB 96 k ⟨p,0,none⟩ 1 1 [.int .u8 x] rfl a (by simp[Value.oneCell']) (by omega) (by omega);refine⟨_,w',f,⟨o,.inr ⟨r,i,by simp,?_,by rw[List.map_append,List.length_append]; exact n⟩⟩,hw.below (fun x e=>by have t:x=b:=e; omega) d⟩;rcases m with rfl | rfl
  ·exact hl2
  ·exact d
theorem eN(h:OB w (B <= ·) v l)(d:B<=w.heap.size)(s:l.length<=1000000000)(hx:0<=x/\x < 256) :
  ∃ v' w',(Builtin.append_ #[96,96] 96 #[v,.slice (some ⟨w.heap.size,0,none⟩) 1 1]).run Tryz.prog (w.alloc (.cells #[.int .u8 x] 5))=.ok v' w'/\OB w' (B <= ·) v' (l ++ [x])/\Below B w w':=by
 have hb:=ae w (.cells #[.int .u8 x] 5);have r:=aC w [.int .u8 x] 5
 have p:Oct (l ++ [x]):=fun y hy=>by
  rcases List.mem_append.1 hy with hy | hy
  ·exact h.oct y hy
  ·simp at hy; subst hy; exact hx
 have a:∀ j u,[Value.int .u8 x][j]? = some u->(w.alloc (.cells #[.int .u8 x] 5)).cell? ((⟨w.heap.size,0,none⟩:Addr).add j)=some u:=fun j u o=>by
  match j with
  | 0=>exact r.cell (i:=0) o
  | j + 1=>simp at o
 rcases h.ex with⟨rfl,rfl⟩ | ⟨b,c,rfl,hl2,k⟩
 ·obtain⟨g,w',f,k,hw⟩:=ff (w:=w.alloc (.cells #[.int .u8 x] 5)) KB 96 ⟨w.heap.size,0,none⟩ 1 1 [.int .u8 x] rfl a (by decide) (by decide) (by decide);exact⟨_,w',f,⟨p,.inr ⟨_,g,rfl,Nat.le_trans d hb.size,k⟩⟩,(hb.mono d).trans (hw.mono (Nat.le_trans d hb.size))⟩
 ·obtain⟨q,g,w',f,m,n,hw⟩:=dC (w:=w.alloc (.cells #[.int .u8 x] 5)) KB 96 (k.keep hb) ⟨w.heap.size,0,none⟩ 1 1 [.int .u8 x] rfl a (by simp[Value.oneCell']) (by omega) (by omega);refine⟨_,w',f,⟨p,.inr ⟨q,g,by simp,?_,by rw[List.map_append,List.length_append]; exact n⟩⟩,(hb.mono d).trans (hw.below (fun x e=>by have t:x=b:=e; omega) (Nat.le_trans d hb.size))⟩;rcases m with rfl | rfl
  ·exact hl2
  ·exact Nat.le_trans d hb.size
theorem OB.sh(h:OB w D v l):∃ ao c,v=.slice ao l.length c:=by
 rcases h.ex with⟨rfl,rfl⟩ | ⟨b,c,rfl,_⟩
 ·exact⟨none,0,rfl⟩
 ·exact⟨_,c,rfl⟩
theorem By.lens(h:By w (.slice ao n c) l):l.length=n/\n<=c/\c<=9223372036854775807:=by
 obtain⟨ao',c',e,h2,h3,_⟩:=h.ex
 cases e;exact⟨rfl,h2,h3⟩
theorem ic{a:Act}{o:Oper}{x y:Nat}{T ty:TypeId}(b:o.type=ty)(d:o.op=.call { callee:=.builtin .append,args:=#[.tmp x,.tmp y],argTypes:=#[T,T] })(hx:a.eval (.tmp x)=u)(hy:a.eval (.tmp y)=v)(c:(Builtin.append_ #[T,T] ty #[u,v]).run Tryz.prog w=.ok r w') :
  (execOp a.eval o).run Tryz.prog w=.ok (.value r) w':=by
 subst b;unfold execOp;simp only[d,resolve,invoke,builtin,Sem.run_bind,Sem.run_pure,Result.andThen_ok,List.map_toArray,List.map_cons,List.map_nil,hx,hy,c]
theorem pN(w:World)(D:Nat->Prop):OB w D (.slice none 0 0) []:=⟨fun _ h=>by simp at h,.inl ⟨rfl,rfl⟩⟩
def ArBB(Q:List Int)(i:Nat)(args:Array Value)(_:Nat)(_:World):Prop:=∃ p j,j + 1 + i=Q.length/\Q[j]? = some p/\args=#[.int .i64 (j:Int),.int .u8 p]
theorem j0{Tp:TypeId->Prop}{bs:Nat}(hn:Q.length=n)(B:n<=1000000000)(hb:∀ V,Rd V->V.cell? ⟨bs,0,none⟩=some (.slice ao n c)/\∀ j p,Q[j]? = some p->∃ b o,ao=some ⟨b,o,none⟩/\V.cell? ⟨b,o + j,none⟩=some (.int .u8 p)) :
  Itr Tp 176 #[.pointer (some ⟨bs,0,none⟩)] n (ArBB Q) Rd:=by
 intro l J N W K H t E C;have A:=(hb W (t 0 W C)).1
 have hb:Hid _:=hb
 have hn:Hid _:=hn
 have L:IntKind.i64.wrap ((n:Int) - 1)=(n:Int) - 1:=by rw[IntKind.wrap_i64]; omega
 refine(callsIn_wide (n:=0)).1 ?_
 refine callsIn_of_wp Tryz.func176 rfl trivial ?_ rfl;simp only[Tryz.ntmps176,List.size_toArray,List.length_cons,List.length_nil,Nat.reduceAdd,Nat.reduceSub,Array.replicate_succ,Array.replicate_zero,List.push_toArray,List.append_toArray,List.nil_append,List.cons_append];gi_wp2;gi_loopw [3] (fun v wr=>∃ i:Nat,i<=n/\v=.int .i64 ((n:Int) - 1 - (i:Int))/\W.heap.size<=wr.heap.size/\J i wr) (fun v _=>(intOf v + 1).toNat)
 case atStart=>exact⟨0,Nat.zero_le _,by simp,Nat.le_refl _,C⟩
 case round =>
  clear A;obtain⟨i,hi,rfl,f,d⟩:=hrel;obtain⟨A,m⟩:=hb.out wr (t _ _ d);by_cases s:i < n
  ·obtain⟨j,y⟩:∃ j,j + 1 + i=n:=⟨n - 1 - i,by omega⟩
   obtain⟨p,z⟩:∃ p,Q[j]? = some p:=⟨Q[j]'(by have:=hn.out; omega),List.getElem?_eq_getElem _⟩
   obtain⟨b,o,rfl,I⟩:=m j p z
   have q:(n:Int) - 1 - (i:Int)=(j:Int):=by omega
   have G:Hid (j + 1 + i=n):=y;have x:=E i _ wr wr s d f (Below.refl _ _) ⟨p,j,by rw[hn.out]; exact y,z,rfl⟩;obtain⟨fn,tmps,assign,body,hy,D⟩:=x;rw[q]
   have O:IntKind.i64.wrap ((j:Int) - 1)=(j:Int) - 1:=by rw[IntKind.wrap_i64]; omega
   have z1:(j:Int) < n:=by omega
   clear m q y;gi_wp2;refine⟨rfl,D.mono ?_⟩;rintro P M ⟨u,⟨rfl,g⟩ | ⟨rfl,g⟩⟩
   ·gi_wp2;go_roundw
    case rel=>exact⟨i + 1,by omega,by have:=G.out; congr 1; omega,Nat.le_trans f u.size,g⟩
    case measure=>simp[intOf]
   ·gi_wp2;refine bodyPost_ret (results_none rfl _ _ _) rfl ?_
    exact⟨⟨_,rfl⟩,Nat.le_trans f u.size,.inr ⟨i,s,g⟩⟩
  ·have r:i=n:=by omega
   have q:(n:Int) - 1 - (i:Int) = -1:=by omega
   rw[q]
   have F:Hid (J n wr):=by show J n wr; rw[<- r]; exact d
   clear m q r d;gi_wp2;go_end0;exact⟨⟨_,rfl⟩,f,.inl F.out⟩
theorem mn:Calls Tryz.prog 131 #[.slice ao n c] w fun e w'=>e=.returned (.func (.func 176) #[] #[.pointer (some ⟨w.heap.size,0,none⟩)])/\Blk w' w.heap.size [.slice ao n c] 96/\Below w.heap.size w w':=by
 go_enter Tryz.func131,Tryz.ntmps131;go_wp2;go_ret;exact⟨rfl,aC w _ _,ae w _⟩
def nxt(l:List Int):List Int:=match l.reverse.dropWhile (· == 255) with
 | []=>[]
 | x :: t=>t.reverse ++ [x + 1]
theorem mC:∀ {l:List Int},(∀ x∈l,x=255)->l.dropWhile (· == 255)=[]
 | [],_=>rfl
 | x :: l,h=>by
  have hx:=h x List.mem_cons_self;subst hx;rw[List.dropWhile_cons_of_pos (by decide)];exact mC (fun y hy=>h y (List.mem_cons_of_mem _ hy))
theorem mW(A B:List Int)(hx:x≠255)(h:∀ b∈B,b=255):(A ++ x :: B).reverse.dropWhile (· == 255)=x :: A.reverse:=by
 rw[List.reverse_append,List.reverse_cons,List.append_assoc,List.dropWhile_append_of_pos (fun a c=>by simp[h a (List.mem_reverse.1 c)]),List.singleton_append,List.dropWhile_cons_of_neg (by simp[hx])]
theorem fh(h:∀ x∈l,x=255):nxt l=[]:=by
 have:l.reverse.dropWhile (· == 255)=[]:=by
  exact mC (fun x hx=>h x (List.mem_reverse.1 hx))
 unfold nxt;rw[this]
theorem tX{j:Nat}(d:l[j]? = some x)(hx:x≠255)(h:∀ i y,l[i]? = some y->j < i->y=255):nxt l=l.take j ++ [x + 1]:=by
 have b:j < l.length:=(List.getElem?_eq_some_iff.1 d).1
 have e:l=l.take j ++ x :: l.drop (j + 1):=by
  have f:=(List.take_append_drop j l).symm
  have m:l.drop j=x :: l.drop (j + 1):=by
   rw[List.drop_eq_getElem_cons b];congr 1
   exact(List.getElem?_eq_some_iff.1 d).2
  rw[m] at f;exact f
 have g:l.reverse.dropWhile (· == 255)=x :: (l.take j).reverse:=by
  have c:=mW (l.take j) (l.drop (j + 1)) hx (fun a k=>by
   obtain⟨i,hi⟩:=List.getElem?_of_mem k;rw[List.getElem?_drop] at hi
   exact h (j + 1 + i) a hi (by omega))
  rw[<- e] at c;exact c
 unfold nxt;rw[g];simp
theorem dK{b c:Nat}{B:World}(h:Below b w A)(a:Rec c A B)(f:b<=c)(hw:b<=A.heap.size):Below b w B :=
 ⟨a.os.trans h.os,a.tape.trans h.tape,a.output.trans h.output,Nat.le_trans h.size a.size,fun k e=>by
  obtain⟨o,d⟩:∃ o,A.heap[k]? = some o:=⟨A.heap[k]'(by omega),Array.getElem?_eq_getElem _⟩
  rw[a.same k o d (.inl (by omega)),<- d]
  exact h.block k e⟩
theorem l3{ty:TypeId}(h:Blk A g cs ty)(hr:Rec B A A'):Blk A' g cs ty:=hr.blk h
theorem OB.rcd(h:OB A D v l)(hr:Rec B A A'):OB A' D v l:=by
 refine⟨h.oct,h.ex.imp id ?_⟩;rintro⟨b,c,e,hd,hR⟩;obtain⟨cs,k⟩:=hR.kind;exact⟨b,c,e,hd,hR.same ((hr.blk k).blk.trans k.blk.symm)⟩
theorem By.take(h:By w (.slice ao n c) l)(j:Nat)(r:j<=n):By w (.slice ao j c) (l.take j):=by
 obtain⟨q,hc,hm⟩:=By.lens h;obtain⟨m,s,e,t,o,g,f,d⟩:=h.ex
 cases e
 have hlen:(l.take j).length=j:=by rw[List.length_take]; omega
 refine⟨ao,c,by rw[hlen],by rw[hlen]; omega,o,g,fun x hx=>f x (List.mem_of_mem_take hx),?_⟩;rcases d with rfl | ⟨p,k,e,b,a⟩
 ·exact .inl (by simp)
 ·exact .inr ⟨p,k,e,b,fun i x hi=>a i x (by
   rw[List.getElem?_take] at hi;split at hi
   ·exact hi
   ·cases hi)⟩
theorem n6{o:Nat}(c:w.cell? ⟨g,o,none⟩=some v):(loadVar 96 ⟨g,o,none⟩).run Tryz.prog w=.ok v w:=by go_simp
theorem oK{F:Fence}{Q:Exit->Act->World->Prop}{after:Array Edge}{a:Act}(hF:∀ f,F.fn f)(hu:a.eval (.tmp 14)=u)(hv:a.eval (.tmp 17)=v)(b:(Builtin.append_ #[96,96] 96 #[u,v]).run Tryz.prog w=.ok r w')(h:wpListIn F n Tryz.prog ops Q rest (a.put (some 18) r) w') :
  wpListIn F n Tryz.prog ops Q ({ dst:=some 18,op:=.call { callee:=.builtin .append,args:=#[.tmp 14,.tmp 17],argTypes:=#[96,96] },type:=96,pos:=pos,after:=after,guard:=none } :: rest) a w :=
 jD rfl hF (Oper.semAt_eq _ _ _ (fun c h=>by cases h)) (ic (x:=14) (y:=17) rfl rfl hu hv b) h
theorem lI(h : By w (.slice ao n c) l)(M : n ≤ 1000000000) :
    Calls Tryz.prog 119 #[.slice ao n c] w fun e w' => ∃ v, e = .returned v ∧ OB w' (w.heap.size ≤ ·) v (nxt l) ∧ Below w.heap.size w w' := by
  obtain⟨hl, hnc, hcm⟩:= By.lens h;have c1 := aC w [.slice ao n c] 96;have b1 := ae w (.cells #[.slice ao n c] 96)
  have s1 : (w.alloc (.cells #[.slice ao n c] 96)).heap.size = w.heap.size + 1 := by simp
  have c2 := aC (w.alloc (.cells #[.slice ao n c] 96)) [.slice none 0 0] 96;have b2 := ae (w.alloc (.cells #[.slice ao n c] 96)) (.cells #[.slice none 0 0] 96)
  have s2 : ((w.alloc (.cells #[.slice ao n c] 96)).alloc (.cells #[.slice none 0 0] 96)).heap.size = w.heap.size + 2 := by simp
  rw[s1] at c2
  have H := c1.keep b2;have I := aj b1 b2;obtain⟨Wa, N⟩ : ∃ Wa, Hid ((w.alloc (.cells #[.slice ao n c] 96)).alloc (.cells #[.slice none 0 0] 96) = Wa) := ⟨_, rfl⟩;rw[N.out] at H c2 s2 I;have HB := aB h;clear h c1 b1 b2 s1;refine(callsIn_wide (n := 0)).1 ?_
  refine callsIn_of_wp_marks Tryz.func119 rfl trivial ?_ rfl;simp only[Tryz.ntmps119, List.size_toArray, List.length_cons, List.length_nil, Nat.reduceAdd, Nat.reduceSub, Array.replicate_succ, Array.replicate_zero, List.push_toArray, List.append_toArray, List.nil_append, List.cons_append];gi_wp2_with (refine⟨trivial, rfl, ?_⟩; gi_at_call 131; rw[N.out]; refine(callsIn_wide.2 mn).mono ?_; rintro e' z ⟨rfl, O, t⟩);rw[s2] at O;have k1 := H.keep t;have k2 := c2.keep t;have m := aj I t;have hs2 := t.size;have IT := j0 (Tp := fun _ => False) (bs := w.heap.size + 2) (c := c) (ao := ao) (Q := l) (n := n) (Rd := fun V => Below z.heap.size z V) hl M (fun V hv => ⟨(O.keep hv).cell (i := 0) rfl, fun j p G => By.at ((HB.out.keep m).keep hv) G⟩);refine gN IT (by rfl) (enters_of Tryz.func176 (by kernel_rfl) rfl) (fun i args n V V' h _ => h) (fun i args n V h => by obtain⟨p, j, _, _, rfl⟩:= h; rfl)
    (fun i V => Below z.heap.size z V ∧ ∀ j x, l[j]? = some x → n ≤ j + i → x = 255)
    (fun c i V => c = .ret ∧ ∃ v, Blk V (w.heap.size + 1) [v] 96 ∧ OB V (w.heap.size ≤ ·) v (nxt l) ∧ Below w.heap.size w V)
    (fun i A B hx U => ⟨dK hx.1 U (Nat.le_refl _) hx.1.size, hx.2⟩)
    (fun c i A B hx U => ⟨hx.1, by obtain⟨v, h1, h2, L⟩:= hx.2; exact⟨v, U.blk h1, OB.rcd h2 U, dK L U m.size L.size⟩⟩)
    (fun i V hv => hv.1) ⟨Below.refl _ _, fun j x G hn => by have := (List.getElem?_eq_some_iff.1 G).1; omega⟩ ?_ ?_ ?_
  · rintro l2 i args V Wv hl2 hlV hrec hiN ⟨hBV, q⟩ hb ⟨p, j, G, hp, rfl⟩
    simp;gi_wp2;refine⟨Below.refl _ _, ?_⟩;intro V2 W2 u f hb2 T P hsz3 hV2 r hrec2;have d := u.trans (hb2.mono u.size);have kb := (k1.keep d).cell (i := 0) rfl;have F := k2.keep d
    have hpo : 0 ≤ p ∧ p < 256 := HB.out.oct p (List.mem_of_getElem? hp);clear q hb hBV P T;by_cases W : p = 255
    · subst W
      gi_wp2;refine⟨bj.of (Below.refl _ _), d, fun j2 x hx hn => ?_⟩;by_cases e : j2 = j
      · subst e; rw[hp] at hx; cases hx; rfl
      · exact f j2 x hx (by omega)
    · have hp6 : p < 255 := by omega
      have BY := By.take ((HB.out.keep m).keep d) j (by omega)
      have R : (l.take j).length = j := by rw[List.length_take]; omega
      have hjn : (j : Int) ≤ c := by omega
      have w9 : IntKind.u8.wrap (p + 1) = p + 1 := by rw[IntKind.wrap_u8]; omega
      have J := aB F;have HW := aB d
      have HNX : Hid (nxt l = l.take j ++ [p + 1]) := tX hp W (fun i2 y hy hi => f i2 y hy (by omega));clear F d f
      gi_wp2_with (first
        | (have gate := s; clear gate; refine oK (fun _ => trivial) rfl rfl s ?_; clear s)
        | (refine⟨trivial, rfl, ?_⟩; gi_at_call 78; refine(CallsIn.inRound l2 (callsIn_wide.2 (cE BY (by omega)))).mono ?_; rintro e' w5 ⟨v5, rfl, O5, b5⟩; obtain⟨v6, D, s, O6, b6⟩:= eN (B := W2.heap.size) (x := p + 1) O5 b5.size (by omega) (by omega); have C := (J.out.keep b5).kM b6 (J.out.lt); have kc := C.cell (i := 0) rfl; have kfr := C.free 0; obtain⟨a5, c5, rfl⟩:= OB.sh O5; obtain⟨a6, c6, rfl⟩:= OB.sh O6; rw[R] at s ⊢))
      have hlt : w.heap.size + 1 < z.heap.size := k2.lt;have hsW := HW.out.size;have S := b5.trans b6
      have O7 : OB D (W2.heap.size ≤ ·) (.slice a6 (j + 1) c6) (l.take j ++ [p + 1]) := by
        have K := O6;rw[show (l.take j ++ [p + 1]).length = j + 1 by rw[List.length_append, R]; rfl] at K;exact K
      have O8 : OB (D.setCell ⟨w.heap.size + 1, 0, none⟩ (.slice a6 (j + 1) c6)) (W2.heap.size ≤ ·) (.slice a6 (j + 1) c6) (l.take j ++ [p + 1]) := O7.same (fun b _ hb => Below.heap_setCell D _ _ b (by show b ≠ w.heap.size + 1; omega))
      have B6 : Below w.heap.size w D := (m.trans (HW.out.mono m.size)).trans (S.mono (Nat.le_trans m.size hsW));refine⟨(bj.of S).trans ⟨?_, fun k o hk h0 _ => (Below.heap_setCell D _ _ k (by show k ≠ w.heap.size + 1; omega)).trans h0⟩, rfl, _, C.setCell (i := 0) _, ?_, B6.setCell (show w.heap.size ≤ w.heap.size + 1 by omega) _⟩
      · exact((Chg.refl (fun x => x = w.heap.size + 1) D).cell (g := w.heap.size + 1) (i := 0) (.inl rfl) _).size
      · rw[HNX.out]
        exact O8.mono (fun b _ hb => by have := m.size; omega)
  · rintro D' Z hD Y ⟨d, q⟩
    have F := k2.keep d;have kc := F.cell (i := 0) rfl;have kf := F.free 0
    have hlt : w.heap.size + 1 < z.heap.size := k2.lt
    have X : (Z.setCell ⟨w.heap.size + 1, 0, none⟩ (.slice none 0 0)).heap[D']? = some (.deferred (some [])) := (Below.heap_setCell Z _ _ D' (by show D' ≠ w.heap.size + 1; omega)).trans Y;gi_wp2;refine⟨by simp, .inl ⟨_, _, rfl, run_takeDeferred X, ?_⟩⟩;have E := Rec.put (B := z.heap.size) X rfl hD (.deferred none);have k3 := l3 (F.setCell (i := 0) (.slice none 0 0)) E;refine⟨_, oe rfl rfl (n6 (k3.cell (i := 0) rfl)), _, rfl, ?_, ?_⟩
    · rw[fh (fun x hx => by
        obtain⟨j, G⟩:= List.getElem?_of_mem hx
        exact q j x G (by omega))]
      exact pN _ _
    · have K : Below w.heap.size w (Z.setCell ⟨w.heap.size + 1, 0, none⟩ (.slice none 0 0)) := (m.trans (d.mono m.size)).setCell (show w.heap.size ≤ w.heap.size + 1 by omega) _
      exact dK K E m.size K.size
  · rintro D' c i Z hD Y hiN ⟨rfl, v, h1, h2, L⟩
    gi_wp2;refine⟨by simp, .inl ⟨_, _, rfl, run_takeDeferred Y, ?_⟩⟩;have E := Rec.put (B := z.heap.size) Y rfl hD (.deferred none);have k3 := l3 h1 E;exact⟨_, oe rfl rfl (n6 (k3.cell (i := 0) rfl)), _, rfl, OB.rcd h2 E, dK L E m.size L.size⟩
theorem bH:Lt (x :: a) (y :: b)<->x < y\/(x=y/\Lt a b):=by
 unfold Lt;rw[db];by_cases c:x < y
 ·simp[c]
 ·by_cases d:y < x
  ·rw[if_neg c,if_pos d];constructor
   ·intro h; exact absurd h (by decide)
   ·rintro(h | ⟨h,_⟩)<;>omega
  ·rw[if_neg c,if_neg d];have:x=y:=by omega
   simp[this]
theorem dH:Lt [] (y :: b):=by simp[Lt,db]
theorem not_lt_nil:¬ Lt a []:=by cases a<;>simp[Lt,db]
theorem fE(s:List Int):Lt (s ++ a) (s ++ b)<->Lt a b:=by
 induction s with
 | nil=>exact Iff.rfl
 | cons x s ih=>rw[List.cons_append,List.cons_append,bH,ih]; simp
theorem ep:∀ l:List Int,(∀ x∈l,x=255)\/∃ A x B,l=A ++ x :: B/\x≠255/\∀ b∈B,b=255
 | []=>.inl (fun _ h=>by simp at h)
 | y :: t=>by
  rcases ep t with h | ⟨A,x,B,rfl,hx,hB⟩
  ·by_cases hy:y=255
   ·exact .inl (fun x hx=>by
     rcases List.mem_cons.1 hx with rfl | hx
     ·exact hy
     ·exact h x hx)
   ·exact .inr ⟨[],y,t,rfl,hy,h⟩
  ·exact .inr ⟨y :: A,x,B,rfl,hx,hB⟩
theorem gA{A B:List Int}(hx:x≠255)(hB:∀ b∈B,b=255):nxt (A ++ x :: B)=A ++ [x + 1]:=by
 unfold nxt;rw[mW A B hx hB];simp
theorem pB(h:nxt l=[]):∀ x∈l,x=255:=by
 rcases ep l with h1 | ⟨A,x,B,rfl,hx,hB⟩
 ·exact h1
 ·rw[gA hx hB] at h;simp at h
theorem iX{c:List Int}(h:nxt l≠[])(hc:l <+: c):Lt c (nxt l):=by
 rcases ep l with a | ⟨A,x,B,rfl,hx,b⟩
 ·exact absurd (fh a) h
 ·obtain⟨t,rfl⟩:=hc;rw[gA hx b,List.append_assoc,fE,List.cons_append,bH];exact .inl (by omega)
theorem kB:∀ {B t:List Int},(∀ b∈B,b=255)->Oct t->Lt t B\/B <+: t
 | [],_,_,_=>.inr (List.nil_prefix)
 | b :: B,[],_,_=>.inl dH
 | b :: B,z :: t,hB,ht=>by
  have hb:=hB b List.mem_cons_self;have c:=ht z List.mem_cons_self;subst hb;by_cases h:z=255
  ·subst h;rcases kB (fun b hb=>hB b (List.mem_cons_of_mem _ hb)) (fun y hy=>ht y (List.mem_cons_of_mem _ hy)) with a | a
   ·exact .inl (bH.2 (.inr ⟨rfl,a⟩))
   ·exact .inr (List.cons_prefix_cons.2 ⟨rfl,a⟩)
  ·exact .inl (bH.2 (.inl (by omega)))
theorem gh:∀ {A B c:List Int} {x:Int},(∀ b∈B,b=255)->Oct c->Lt c (A ++ [x + 1])->Lt c (A ++ x :: B)\/(A ++ x :: B) <+: c
 | [],B,[],x,_,_,_=>.inl dH
 | [],B,y :: t,x,hB,hc,h=>by
  rw[List.nil_append,bH] at h;rw[List.nil_append];rcases h with h | ⟨_,h⟩
  ·by_cases e:y=x
   ·subst e;rcases kB hB (fun z hz=>hc z (List.mem_cons_of_mem _ hz)) with h1 | h1
    ·exact .inl (bH.2 (.inr ⟨rfl,h1⟩))
    ·exact .inr (List.cons_prefix_cons.2 ⟨rfl,h1⟩)
   ·exact .inl (bH.2 (.inl (by omega)))
  ·exact absurd h not_lt_nil
 | a :: A,B,[],x,_,_,_=>.inl dH
 | a :: A,B,y :: t,x,hB,hc,h=>by
  rw[List.cons_append,bH] at h;rw[List.cons_append];rcases h with h | ⟨h1,h2⟩
  ·exact .inl (bH.2 (.inl h))
  ·subst h1;rcases gh hB (fun z hz=>hc z (List.mem_cons_of_mem _ hz)) h2 with h3 | h3
   ·exact .inl (bH.2 (.inr ⟨rfl,h3⟩))
   ·exact .inr (List.cons_prefix_cons.2 ⟨rfl,h3⟩)
theorem iS{c:List Int}(hc:Oct c)(d:¬ l <+: c)(e:¬ Lt c l):¬ Lt c (nxt l):=by
 rcases ep l with f | ⟨A,x,B,rfl,hx,b⟩
 ·rw[fh f]; exact not_lt_nil
 ·rw[gA hx b];intro h;rcases gh b hc h with a | a
  ·exact e a
  ·exact d a
end
end Kv
end
section
namespace Kv
open Go.RowKit Go.Lib Pg
attribute [local go_sem] Oper.semAt_some
end Kv
end
section
namespace Kv
open Go.RowKit Go.Lib Pg
section
variable {w:World}{pg:Option Addr}{lb:Array Value}{K D:Nat->Prop}{W:List aE}{p:List Int}
attribute [local go_sem] Oper.semAt_some
theorem lZ{k:Nat}:Calls Tryz.prog 118 #[.pointer pg,.func (.func k) #[] lb] w fun e w'=>e=.returned (.func (.func 169) #[] #[.pointer (some ⟨w.heap.size,0,none⟩),.pointer (some ⟨w.heap.size + 1,0,none⟩)])/\Blk w' w.heap.size [.pointer pg] 37/\Blk w' (w.heap.size + 1) [.func (.func k) #[] lb] 85/\Below w.heap.size w w':=by
 have b:=ae w (.cells #[.pointer pg] 37);have c1:=aC w [.pointer pg] 37;have b2:=ae (w.alloc (.cells #[.pointer pg] 37)) (.cells #[.func (.func k) #[] lb] 85);have c2:=aC (w.alloc (.cells #[.pointer pg] 37)) [.func (.func k) #[] lb] 85
 have s1:(w.alloc (.cells #[.pointer pg] 37)).heap.size=w.heap.size + 1:=by simp
 rw[s1] at c2;go_enter Tryz.func118,Tryz.ntmps118;go_wp2;go_ret;exact⟨rfl,c1.keep b2,c2,aj b b2⟩
theorem SA.oct{g n N:Nat}{E:aE}(h:SA w K D g E W n N):∀ x∈E,Oct x.1:=by
 obtain⟨F,V,m,Q,d,T,i,hX,rfl,f⟩:=h.open;obtain⟨L,rfl,A,O,S,k,r⟩:=hX.map.ex;intro x hx;rw[dr] at hx;obtain⟨e,he,rfl⟩:=List.mem_map.1 hx;obtain⟨es,b,c⟩:=List.mem_flatten.1 he;obtain⟨p,a,rfl⟩:=List.mem_map.1 b;exact((A.b8 p a).1.dJ e c).k.oct
theorem su{k:List Int}(h:p <+: k):¬ Lt k p:=by
 obtain⟨t,rfl⟩:=h;intro h;have:Lt (p ++ t) (p ++ []):=by simpa using h
 rw[fE] at this;exact not_lt_nil this
theorem yE{x:KV}(hx:Oct x.1):mV p (nxt p) x=decide (p <+: x.1):=by
 unfold mV;by_cases h:p <+: x.1
 ·have a:=su h;by_cases hn:nxt p=[]
  ·simp[h,a,hn]
  ·simp[h,a,iX hn h]
 ·by_cases a:Lt x.1 p
  ·simp[h,a]
  ·have hn:nxt p≠[]:=fun e=>by
    rcases kB (pB e) hx with b | b
    ·exact a b
    ·exact h b
   simp[h,a,hn,iS hx h a]
end
end Kv
end
section
namespace Kv
open Go.RowKit Go.Lib Pg
section
variable {w:World}{K D:Nat->Prop}{v:Value}{l:List Int}{W:List aE}
structure ByU(w:World)(v:Value)(l:List Int):Prop where
 byt:By w v l
 u8:∀ b o n c,v=.slice (some ⟨b,o,none⟩) n c->∃ cs m,w.heap[b]? = some (.cells cs 5 m)
theorem ByU.chg{w':World}(h:ByU w v l)(hc:Chg K w w')(y:∀ b,K b->∃ cs t,Blk w b cs t/\t≠5):ByU w' v l:=by
 have hs:∀ b o n c,v=.slice (some ⟨b,o,none⟩) n c->w'.heap[b]? = w.heap[b]? := fun b o n c e=>by
  obtain⟨cs,m,hb⟩:=h.u8 b o n c e;refine hc.same b (lt_of_block hb) fun r => ?_
  obtain⟨A,t,q,p⟩:=y b r;have:=q.blk.symm.trans hb;simp at this;exact p this.2.1
 refine⟨?_,fun b o n c e=>by rw[hs b o n c e]; exact h.u8 b o n c e⟩;obtain⟨s,c,f,z,u,g,j,k⟩:=h.byt.ex;refine⟨s,c,f,z,u,g,j,k.imp id ?_⟩;rintro⟨b,o,rfl,d,a⟩;exact⟨b,o,rfl,Nat.lt_of_lt_of_le d hc.size,fun i x hi=>by rw[World.cell?_of_block (w:=w) (hs b o _ _ f)]; exact a i x hi⟩
theorem ByU.of(h:OB w D v l):ByU w v l:=by
 refine⟨h.by,fun b o n c e => ?_⟩;rcases h.ex with⟨rfl,_⟩ | ⟨b',c',rfl,_,hR⟩
 ·cases e
 ·cases e;obtain⟨cs,k⟩:=hR.kind;exact⟨_,_,k.blk⟩
theorem SA.kind{g n N:Nat}{E:aE}(h:SA w K D g E W n N):∀ b,K b->∃ cs t,Blk w b cs t/\t≠5:=by
 obtain⟨F,V,m,Q,jv,T,oj,_,_,_,_,_,_,_,O⟩:=h.ex;exact O.kind
end
end Kv
end
end Go.Proofs.YthfepflplbahkaaGreatDoor
