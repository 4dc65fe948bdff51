import Derived.Test.YthfepflplbahkaaGreatDoorJah
import Derived.Test.YthfepflplbahkaaGreatDoorJag
import Derived.Shelf.Abstract
import Derived.Shelf.RegionOpen
import Derived.OwnWalkIn
import Derived.TacticsInMore
import Derived.LoopNIn
import Derived.LoopIn
set_option maxRecDepth 100000
set_option maxHeartbeats 8000000
namespace Go.Proofs.YthfepflplbahkaaGreatDoor
section
namespace Kv
open Go.RowKit Go.Lib Pg
attribute [local go_sem] Oper.semAt_some
section
variable {E:aE}{k:List Int}{w:World}{K D F V:Nat->Prop}{g n N m:Nat}{W:List aE}{kv jv:Value}{Q:List (List KV)}{T T0:List Jr}{oj:Option Nat}
theorem ye(h:eP E)(hn:(look E k).isSome=false):rem E k=E:=by
 obtain⟨X,Y,c,⟨rfl,e⟩ | ⟨x,rfl,e⟩⟩:=h.cut k
 ·exact c.Ai
 ·rw[e] at hn; cases hn
theorem sget(h:SA w K D g E W n N)(d:BK w K kv k)(hn:n<=4000000000000000000)(y:N<=100000000) :
  Calls Tryz.prog 127 #[.pointer (some ⟨g,0,none⟩),kv] w fun e w'=>∃ v,e=.returned (.tuple #[v,.bool (look E k).isSome])/\OB w' (w.heap.size <= ·) v ((look E k).getD [])/\SA w' K D g E W (n + 1) N/\Chg K w w':=by
 obtain⟨F,V,m,Q,G,T,A,hX,rfl,p⟩:=h.open;obtain⟨x,c,rfl⟩:=d.shape;have u:=fS hX hn;have q:=aB hX;have z:=aB p;have t:=aB d;clear hX p d h;obtain⟨kn,l⟩:∃ kn,Hid (k.length=kn):=⟨_,rfl⟩
 rw[l.out] at t ⊢;have o:=fun w' (X:SX w' K D F V g m Q G T A (n + 1) N) (d:By w' (.slice x kn c) k)=>jR X d y
 obtain⟨r,s⟩:∃ r,(look Q.flatten k).isSome=r:=⟨_,rfl⟩
 obtain⟨L,hL⟩:∃ L,(look Q.flatten k).getD []=L:=⟨_,rfl⟩
 rw[s,hL] at o ⊢;clear s hL;go_enter Tryz.func127,Tryz.ntmps127;go_wp2_with first
  | (go_at_call 95; go_must (refine u.mono ?_); rintro e C ⟨rfl,f,j⟩; have c0:=f.blk.cell (i:=0) rfl)
  | (go_at_call 170; go_must (refine(o _ f (t.out _ (q.out.kg j))).mono ?_); rintro e H ⟨v,rfl,O,B⟩; obtain⟨a1,c1,rfl⟩:∃ a1 c1,v=.slice a1 L.length c1:=(by obtain⟨a1,c1,e,_⟩:=O.by.ex; exact⟨a1,c1,e⟩); generalize L.length=J at *)
 go_ret2;exact⟨_,rfl,O.mono (fun b _ h=>by have:=j.size; have I:C.heap.size<=b:=h; show w.heap.size<=b; omega),(f.keep B).shut rfl z.out,ff (q.out.kg j) (Chg.of B)⟩
theorem Dl(hX:SX w K D F V g m Q jv T oj n N)(q:ku (T.reverse.map Jr.U) W Q.flatten)(i:BK w K kv k)(hn:n<=4000000000000000000)(t:N + 2<=100000000)(s:(look Q.flatten k).isSome=false) :
  Calls Tryz.prog 75 #[.pointer (some ⟨g,0,none⟩),kv] w (Ends w K D g (rem Q.flatten k) W (n + 1) (N + 2) (.bool false)):=by
 obtain⟨z,c,rfl⟩:=i.shape;have u:=fS hX hn;have l:=aB hX;have x:=aB q;have r:=aB i
 have y:N<=99999998:=by omega
 replace t:N<=100000000:=by omega
 clear hX q i;obtain⟨kn,j⟩:∃ kn,Hid (k.length=kn):=⟨_,rfl⟩
 rw[j.out] at r ⊢;go_enter Tryz.func75,Tryz.ntmps75;go_wp2_with first
  | (go_at_call 95; go_must (refine u.mono ?_); rintro e A ⟨rfl,d,p⟩; have f:=tQ d (r.out _ (l.out.kg p)) t; rw[s] at f)
  | (go_at_call 121; go_must (refine f.mono ?_); rintro e B ⟨rfl,o⟩; clear f; replace d:=d.keep o; have v:=ff (l.out.kg p) (Chg.of o))
 go_ret;have e:=ye l.out.map.ord.flat s;exact⟨rfl,K,((d.shut e.symm (by rw[e]; exact x.out)).more (by omega)).mono (fun _ _ h=>.inl h),fun b h=>.inl h,v⟩
theorem xK(hX:SX w K D F V g m Q jv [] oj n N)(v:ku ([].reverse.map Jr.U) W Q.flatten)(l:BK w K kv k)(hn:n<=4000000000000000000)(t:N + 2<=100000000)(z:(look Q.flatten k).isSome=true) :
  Calls Tryz.prog 75 #[.pointer (some ⟨g,0,none⟩),kv] w (Ends w K D g (rem Q.flatten k) W (n + 1) (N + 2) (.bool true)):=by
 obtain⟨H,c,rfl⟩:=l.shape;have u:=fS hX hn;have x:=aB hX;have G:=aB v;have p:=aB l
 have A:N<=99999998:=by omega
 replace t:N<=100000000:=by omega
 clear hX v l;obtain⟨kn,o⟩:∃ kn,Hid (k.length=kn):=⟨_,rfl⟩
 rw[o.out] at p ⊢;go_enter Tryz.func75,Tryz.ntmps75;go_wp2_with first
  | (go_at_call 95; go_must (refine u.mono ?_); rintro e M ⟨rfl,d,r⟩; have f:=tQ d (p.out _ (x.out.kg r)) t; rw[z] at f)
  | (go_at_call 121; go_must (refine f.mono ?_); rintro e J ⟨rfl,q⟩; clear f; replace d:=d.keep q; have j:=ff (x.out.kg r) (Chg.of q))
  | (go_at_call 96; go_must (refine(mV d).mono ?_); rintro e y ⟨rfl,hy⟩; replace hy:=hy.symm; subst hy; have c0:=d.blk.cell (i:=0) rfl; have us:=mdel d.map (p.out _ j) (by omega); rw[jF d.map.ord,z] at us)
  | (go_at_call 122; go_must (refine us.mono ?_); rintro e I ⟨rfl,L,B,hF,hC⟩)
 go_ret;have C:=d.mapped (N':=N) (by have:=d.tot; have:=uR (E:=Q.flatten) k; rw[ir d.map.ord]; omega) B hF (fun _ h=>h) hC;refine⟨rfl,_,((C.shut (E:=rem Q.flatten k) (W:=W) (ir d.map.ord k) (rj G.out)).more (by omega)).mono (fun b _ hb => ?_),fun b hb => ?_,?_⟩
 ·exact .inl hb
 ·rcases hb with⟨hb,_⟩ | hb
  ·exact .inl hb
  ·rcases hF b hb with s | s
   ·exact .inl (d.own.map b s)
   ·exact .inr (by have:=j.size; omega)
 ·exact ff j (hC.mono (fun b _ h=>d.own.map b h))
theorem AN{j:Jr}(hX:SX w K D F V g m Q jv (T0 ++ [j]) oj n N)(G:ku ((T0 ++ [j]).reverse.map Jr.U) W Q.flatten)(x:BK w K kv k)(hn:n<=4000000000000000000)(s:N + 2<=100000000)(f:k.length<=1000000000)(H:(look Q.flatten k).isSome=true) :
  Calls Tryz.prog 75 #[.pointer (some ⟨g,0,none⟩),kv] w (Ends w K D g (rem Q.flatten k) W (n + 1) (N + 2) (.bool true)):=by
 obtain⟨S,c,rfl⟩:=x.shape;have u:=fS hX hn;have z:=aB hX;have O:=aB G;have q:=aB x;replace f:=aB f
 have I:N<=99999998:=by omega
 replace s:N<=100000000:=by omega
 clear hX G x;obtain⟨kn,y⟩:∃ kn,Hid (k.length=kn):=⟨_,rfl⟩
 rw[y.out] at q ⊢;go_enter Tryz.func75,Tryz.ntmps75;go_wp2_with first
  | (go_at_call 95; go_must (refine u.mono ?_); rintro e w1 ⟨rfl,p,B⟩; have r:=tQ p (q.out _ (z.out.kg B)) s; rw[H] at r)
  | (go_at_call 121; go_must (refine r.mono ?_); rintro e X ⟨rfl,A⟩; clear r; replace p:=p.keep A; have o:=ff (z.out.kg B) (Chg.of A))
  | (go_at_call 96; go_must (refine(oJ p (q.out _ o) (by have:=f.out; omega) s).mono ?_); rintro e Y ⟨rfl,P,V2,R,t,d,l,J⟩; have v:=ff o J; have c0:=d.blk.cell (i:=0) rfl; have us:=mdel d.map (q.out _ v) (by omega); rw[jF d.map.ord,H] at us)
  | (go_at_call 122; go_must (refine us.mono ?_); rintro e T ⟨rfl,Z,L,hF,hC⟩)
 go_ret;have M:=d.mapped (N':=N + 1) (by have:=d.tot; have:=uR (E:=Q.flatten) k; rw[ir d.map.ord]; omega) L hF (fun _ h=>h) hC;refine⟨rfl,_,((M.shut (E:=rem Q.flatten k) (W:=W) (ir d.map.ord k) (og O.out t (xL z.out.map.ord.flat k))).more (by omega)).mono (fun b _ hb => ?_),fun b hb => ?_,?_⟩
 ·rcases hb with hb | hb
  ·exact .inl hb
  ·exact .inr (by have:=o.size; omega)
 ·rcases hb with⟨hb,_⟩ | hb
  ·exact(l b hb).imp id (fun h=>by have:=o.size; omega)
  ·rcases hF b hb with C | C
   ·exact(l b (d.own.map b C)).imp id (fun h=>by have:=o.size; omega)
   ·exact .inr (by have:=v.size; omega)
 ·exact v.trans hC (fun b hb h=>(l b (d.own.map b h)).elim id (fun h=>by have:=o.size; omega))
theorem sdel(h:SA w K D g E W n N)(b:BK w K kv k)(c:k.length<=1000000000)(hn:n<=4000000000000000000)(d:N + 2<=100000000) :
  Calls Tryz.prog 75 #[.pointer (some ⟨g,0,none⟩),kv] w (Ends w K D g (rem E k) W (n + 1) (N + 2) (.bool (look E k).isSome)):=by
 obtain⟨F,V,m,Q,i,T,e,hX,rfl,a⟩:=h.open
 cases hr:(look Q.flatten k).isSome with
 | false=>exact Dl hX a b hn d hr
 | true =>
  rcases List.eq_nil_or_concat T with rfl | ⟨f,j,rfl⟩
  ·exact xK hX a b hn d hr
  ·rw[List.concat_eq_append] at hX a;exact AN hX a b hn d c hr
end
end Kv
end
section
namespace Kv
open Go.RowKit Go.Lib Pg
attribute [local go_sem] Oper.semAt_some
end Kv
end
section
namespace Kv
open Go.RowKit Go.Lib Pg
attribute [local go_sem] Oper.semAt_some
theorem nZ {fn:Func} {p:Tmp} {ty:TypeId} (h:fn.results=#[.cell p ty]) {tmps:Array Value} {w:World} {g:Nat} {v:Value} (c:tmps.getD p undef=.pointer (some ⟨g,0,none⟩)) (b:(loadVar ty ⟨g,0,none⟩).run Tryz.prog w=.ok v w):(results fn tmps).run Tryz.prog w=.ok v w:=by
 have a:tmps[p]?.getD undef=.pointer (some ⟨g,0,none⟩):=by simpa using c
 simp[results,h,a,asAddr,b]
end Kv
end
section
namespace Kv
open Go.RowKit Go.Lib Pg
attribute [local go_sem] Oper.semAt_some
end Kv
end
section
namespace Kv
open Go.RowKit Go.Lib Pg
attribute [local go_sem] Oper.semAt_some
section
variable {w w':World}{B:Nat}{xs:List Value}{K:Nat->Prop}
theorem Rw.rcd{E:TypeId}{k b n c:Nat}(h:Rw w E k b n c xs)(hr:Rec B w w'):Rw w' E k b n c xs:=by
 obtain⟨cs,hk⟩:=h.kind;exact h.same (by rw[(hr.blk hk).blk,hk.blk])
theorem jg{w1:World}(h:Chg K w w1)(c:Rec B w1 w')(f:w.heap.size<=B):Chg K w w' :=
 ⟨c.os.trans h.os,c.tape.trans h.tape,c.output.trans h.output,Nat.le_trans h.size c.size,fun b hb d=>by
  have e:=h.same b hb d;rw[<- e]
  have a:b < w1.heap.size:=Nat.lt_of_lt_of_le hb h.size;rw[Array.getElem?_eq_getElem a]
  exact c.same b _ (Array.getElem?_eq_getElem a) (.inl (by omega))⟩
end
end Kv
end
section
namespace Kv
open Go.RowKit Go.Lib Pg
attribute [local go_sem] Oper.semAt_some
end Kv
end
section
namespace Kv
open Go.RowKit Go.Lib Pg
attribute [local go_sem] Oper.semAt_some
section
variable {n g N:Nat}{ops:Array Oper}{rest:List Oper}{a:Act}{w w':World}{v jv:Value}{pos:String}{K D:Nat → Prop}{Q:List (List KV)}{T:List Jr}{oj:Option Nat}{X:Nat->Prop}{W:List aE}
theorem jN{F:Fence}{Q:Exit->Act->World->Prop}{o:Oper}(c:o.guard=none)(hF:∀ f,F.fn f)(hs:o.semAt F.round a.eval=execOp a.eval o)(b:(execOp a.eval o).run Tryz.prog w=.ok (.value v) w')(h:wpListIn F n Tryz.prog ops Q rest (a.put o.dst v) w'):wpListIn F n Tryz.prog ops Q (o :: rest) a w :=
 wpListIn_plain c fun K d=>by
  unfold Oper.wpIn;rw[hs,b,Oper.uponIn_value];exact⟨fun f _=>hF f,d _ _ h⟩
theorem Cm{F:Fence}{x y d:Nat}{Q:Exit->Act->World->Prop}{after:Array Edge}{u r:Value}(hF:∀ f,F.fn f)(hu:a.eval (.tmp x)=u)(hv:a.eval (.tmp y)=v)(b:(Builtin.append_ #[46,46] 46 #[u,v]).run Tryz.prog w=.ok r w')(h:wpListIn F n Tryz.prog ops Q rest (a.put (some d) r) w') :
  wpListIn F n Tryz.prog ops Q ({ dst:=some d,op:=.call { callee:=.builtin .append,args:=#[.tmp x,.tmp y],argTypes:=#[46,46] },type:=46,pos:=pos,after:=after,guard:=none } :: rest) a w :=
 jN rfl hF (Oper.semAt_eq _ _ _ (fun c h=>by cases h)) (run_ap (x:=x) (y:=y) rfl rfl hu hv b) h
theorem SX.wm{K D F V:Nat->Prop}{m:Nat}(h:SX w K D F V g m Q jv T oj n N)(e:N<=100000000)(d:∀ b,X b->¬ F b)(a:∀ b,X b->∀ cs,¬ Blk w b cs 5)(c:∀ b,X b->b < w.heap.size) :
  ∃ L,Wm w X F D m L/\∀ f t,(wlk (ens L) f t).map En.kl2=Q.flatten.filter (mE f t):=by
 obtain⟨L,rfl,A,O,S,k,r⟩:=h.map.ex;exact⟨L,⟨A,O,fun es he=>(S.one es he).2,S.few k e,r,d,a,c⟩,fun f t=>Ae O f t⟩
theorem xX(x:KV):mE [] [] x=true:=by
 simp[mE,Lt]
 cases x.1<;>simp[cZ]
def TpD(t:TypeId):Prop:=t=98
theorem sdump{E:aE}(h : SA w K D g E W n N)(hN : N ≤ 100000000) :
    Calls Tryz.prog 15 #[.pointer (some ⟨g, 0, none⟩)] w fun e w' => ∃ v es, e = .returned v ∧ PrA w' w.heap.size v es ∧ es.map En.kl2 = E ∧ Below w.heap.size w w' := by
  have hsm := h.small;have hsz := h.size;obtain⟨F, V, m, Q, jv, T, oj, hX, rfl, hB⟩:= h.open;have b1 := ae w (.cells #[.slice none 0 0] 46);have c1 := aC w [.slice none 0 0] 46;have X1 := hX.keep b1
  obtain⟨L, K2, ai⟩:= X1.wm hN (X := (· = w.heap.size)) (fun b e hF => by have e' : b = w.heap.size := e; have := hX.map.lt hF; omega) (fun b e cs k => by
    have e' : b = w.heap.size := e;subst e'
    exact absurd (c1.eq k).2 (by decide)) (fun b e => by have e' : b = w.heap.size := e; simp; omega)
  have t : (wlk (ens L) [] []).map En.kl2 = Q.flatten := by rw[ai, List.filter_eq_self.2 (fun x _ => xX x)]
  have tW := mz (Tp := TpD) K2 (By.nil _) (By.nil _) (by decide) (by decide) (by unfold TpD; decide) (by unfold TpD; decide);have g0 := X1.blk.cell (i := 0) rfl;obtain⟨P, hE⟩ : ∃ E, Hid (wlk (ens L) [] [] = E) := ⟨_, rfl⟩;rw[hE.out] at tW t;have hEQ := aB t
  have hlen : P.length ≤ N := by have := congrArg List.length t; simp only[List.length_map] at this; omega
  have sz1 : (w.alloc (.cells #[.slice none 0 0] 46)).heap.size = w.heap.size + 1 := by simp
  have ah := aB b1;have ad := aB c1;clear h hX X1 K2 ai t hB;obtain⟨Wa, H⟩ : ∃ Wa, Hid (w.alloc (.cells #[.slice none 0 0] 46) = Wa) := ⟨_, rfl⟩;rw[H.out] at tW g0 sz1 ah ad;have c1 := ad.out;refine(callsIn_wide (n := 0)).1 ?_
  refine callsIn_of_wp_marks Tryz.func15 rfl trivial ?_ rfl;simp only[Tryz.ntmps15, List.size_toArray, List.length_cons, List.length_nil, Nat.reduceAdd, Nat.reduceSub, Array.replicate_succ, Array.replicate_zero, List.push_toArray, List.append_toArray, List.nil_append, List.cons_append];rw[← H.out] at g0;gi_wp2_with (refine⟨trivial, rfl, ?_⟩; gi_at_call 42; rw[H.out]; refine(callsIn_wide.2 tW).mono ?_; rintro e' w1 ⟨bw, rfl, O, IT⟩);have cb := c1.keep O;clear tW;have q1 := O.size;refine gS IT (by rfl) (enters_of Tryz.func123 (by kernel_rfl) rfl) (fun i args n V V' h hc => h.cel hc) (fun i args n V h => by obtain⟨e, kv, vv, s, _, rfl, _⟩:= h; rfl)
    (fun i V => CE w1 V w.heap.size P i) (fun _ _ _ => False)
    (fun i A B hx hr => hx.rcd hr) (fun _ _ _ _ hx _ => hx)
    (fun i V hv => hv.chg) ⟨Chg.refl _ _, _, [], cb, ⟨.inl ⟨rfl, rfl⟩, fun e he => by cases he⟩, rfl⟩ ?_ ?_ ?_
  · rintro l2 i args V Wv hl hlV hrec hiN hG hb ⟨e0, kv, vv, s0, he0, rfl, Z, am, _⟩
    obtain⟨U, nk, hk1⟩:= Z.shape;obtain⟨Y, S, hv1⟩:= am.shape;subst hk1 hv1;simp;gi_wp2;refine⟨Below.refl _ _, ?_⟩;intro V2 W2 q p af hoth z ab r hrec2;obtain⟨e1, kv1, vv1, t1, aq, u, ap, ac, ht1⟩:= af;obtain rfl : e1 = e0 := by rw[he0] at aq; cases aq; rfl
    simp at u;obtain⟨rfl, rfl⟩:= u;obtain⟨ov, es, g1, g2, g3⟩:= q.out
    have l : es.length = i := by have := congrArg List.length g3; simp at this; omega
    obtain⟨ao0, cc0, rfl⟩:= g2.shape;have S0 := g1.keep p;have P0 := g2.keep p;have z1 := q.chg.size;have z2 := p.size;have f := ae W2 (.cells #[.slice U e1.kl.length nk, .slice Y e1.vl.length S] 98);have N4 := aC W2 [.slice U e1.kl.length nk, .slice Y e1.vl.length S] 98;have z5 := f.size
    have an : EnA (W2.alloc (.cells #[.slice U e1.kl.length nk, .slice Y e1.vl.length S] 98)) (fun b => w1.heap.size ≤ b) ⟨.slice U e1.kl.length nk, e1.kl, .slice Y e1.vl.length S, e1.vl⟩:= ⟨(ap.keep f).mono (fun b _ hb => by omega), (ac.keep f).mono (fun b _ hb => by omega)⟩;obtain⟨ov5, w5, I, P5, M⟩:= Ak (e := ⟨.slice U e1.kl.length nk, e1.kl, .slice Y e1.vl.length S, e1.vl⟩) (a := ⟨W2.heap.size, 0, none⟩) 46 (P0.keep f) (by omega) an (by omega) (N4.cell (i := 0) rfl) (N4.cell (i := 1) rfl);have S4 := S0.keep f;have S5 := M.blk S4 (by decide);have s0c := S0.cell (i := 0) rfl;obtain⟨d, y⟩ : ∃ d, Hid (es ++ [(⟨.slice U e1.kl.length nk, e1.kl, .slice Y e1.vl.length S, e1.vl⟩ : En)] = d) := ⟨_, rfl⟩
    have hes4 : Hid (d.map En.kl2 = (P.take (i + 1)).map En.kl2) := by
      show _ = _
      rw[← y.out, List.map_append, g3, List.take_add_one, he0, List.map_append];rfl
    simp only[y.out] at P5;obtain⟨J, R, rfl⟩:= P5.shape;have s5c := S5.cell (i := 0) rfl;have s5f := S5.free 0;have G := aB P5;have aa := aB S5;have al := aB M;have ag := aB f;have HG2 := aB q;have HB2 := aB p;have hsl := S4.cell (i := 0) rfl;replace l := aB l;replace z := aB z;replace ab := aB ab;clear hG Z am hb hoth P5 S5 M f N4 an P0 S0 g1 g2 g3 ap ac p q S4;gi_wp2_with (have gate := I; clear gate; refine Cm (fun _ => trivial) rfl rfl I ?_; clear I)
    have j : Chg (· = w.heap.size) w5 (w5.setCell ⟨w.heap.size, 0, none⟩ (.slice J d.length R)) := (Chg.refl (fun x => x = w.heap.size) w5).cell (.inl (by rfl)) _
    have C : ∀ b, b = w.heap.size → ∀ cs, ¬ Blk w5 b cs 5 := fun b hb cs k => by
      subst hb;have := (k.eq aa.out).2;revert this;decide
    have P6 : PrA (w5.setCell ⟨w.heap.size, 0, none⟩ (.slice J d.length R)) w1.heap.size (.slice J d.length R) d := ⟨G.out.ex.imp id (fun⟨b, c, e, hl, hR⟩ => ⟨b, c, e, hl, hR.chg j (by omega)⟩), fun e he => ⟨(G.out.dJ e he).k.chg j C, (G.out.dJ e he).v.chg j C⟩⟩;refine⟨((bp.of (Tp := TpD) (B := w1.heap.size) ag.out).trans (al.out.keeps (Tp := TpD) rfl)).trans ⟨j.size, fun k o hk h0 _ => (j.same k (lt_of_block h0) (by omega)).trans h0⟩, ⟨?_, _, d, aa.out.setCell (i := 0) _, P6, hes4.out⟩⟩;exact(((HG2.out.chg.trans (Chg.of (F := fun _ => False) (aj HB2.out ag.out)) (fun _ _ h => h.elim)).trans al.out.chg (fun b h1 h2 => by omega))).trans j (fun b _ h => h)
  · rintro D' W' hD hK hG
    obtain⟨ov, es, g1, g2, g3⟩:= hG.out;obtain⟨ao, cc, rfl⟩:= g2.shape;have g1c := g1.cell (i := 0) rfl;gi_wp2;refine⟨by simp, .inl ⟨_, _, rfl, run_takeDeferred hK, ?_⟩⟩;refine⟨_, results_tmp rfl _ _ _, _, es, rfl, (g2.cel (Rec.put hK rfl hD _).cel).low (by omega), ?_, ?_⟩
    · rw[g3, List.take_length]; exact hEQ.out
    · exact sr ah.out O ((hG.rcd (Rec.put hK rfl hD _)).chg) (Nat.le_refl _)
  · rintro D' c i W' hD hK hi hF
    exact hF.elim
end
end Kv
end
section
namespace Kv
open Go.RowKit Go.Lib Pg
attribute [local go_sem] Oper.semAt_some
section
variable {g x:Nat}{V:World}{E:List En}{args:Array Value}
def tick(g:Nat)(V:World)(x:Nat):World:=V.setCell ⟨g,2,none⟩ (.int .i64 ((x:Int) + 1))
theorem tU{V':World}(hb:Below V.heap.size V V'):Below (tick g V x).heap.size (tick g V x) (tick g V' x):=by
 unfold tick;refine⟨hb.os,hb.tape,hb.output,by simpa[World.setCell] using hb.size,fun k b => ?_⟩
 have a:k < V.heap.size:=by simpa[World.setCell] using b
 by_cases e:k=g
 ·subst e;have c:=hb.block k a;simp only[World.setCell,Array.getElem?_modify,c]
 ·rw[Below.heap_setCell _ _ _ _ (by exact e),Below.heap_setCell _ _ _ _ (by exact e)];exact hb.block k a
theorem fm(g x:Nat)(V:World):(tick g V x).heap.size=V.heap.size:=by simp[tick,World.setCell]
theorem dS(g x:Nat)(V:World):Chg (· = g) V (tick g V x):=(Chg.refl (· = g) V).cell (.inl rfl) _
theorem xd{i n:Nat}(h:ArC E i args n V)(c:∃ cs,Blk V g cs 94):ArC E i args n (tick g V x):=by
 obtain⟨e,kv,vv,s,p,d,j,l,f⟩:=h
 have a:∀ b,b=g->∀ cs,¬ Blk V b cs 5:=fun b hb cs k=>by
  subst hb;obtain⟨m,o⟩:=c;exact absurd (k.eq o).2 (by decide)
 exact⟨e,kv,vv,s,p,d,j.chg (dS g x V) a,l.chg (dS g x V) a,f⟩
def RdC(X:Nat->Prop)(W1:World)(g bs1 bs2 bw:Nat)(V:World):Prop:=Chg X W1 V/\Blk V bs1 [.pointer (some ⟨g,0,none⟩)] 37/\Blk V bs2 [.func (.func 123) #[] #[.pointer (some ⟨bw,0,none⟩)]] 85/\∃ cs,Blk V g cs 94
end
end Kv
end
section
namespace Kv
open Go.RowKit Go.Lib Pg
attribute [local go_sem] Oper.semAt_some
section
variable {I It:Nat->World->Prop}{Ix:Code->Nat->World->Prop}{W W' V:World}
def p6(I It:Nat->World->Prop)(k:Nat):World->Prop:=if k % 2=0 then I (k / 2) else It (k / 2)
theorem ju(I It:Nat->World->Prop)(i:Nat):p6 I It (2 * i + 1)=It i:=by
 unfold p6;rw[if_neg (by omega),show (2 * i + 1) / 2=i by omega]
theorem j8(I It:Nat->World->Prop)(i:Nat):p6 I It (2 * i + 1 + 1)=I (i + 1):=by
 unfold p6;rw[if_pos (by omega),show (2 * i + 1 + 1) / 2=i + 1 by omega]
theorem nU{Tp:TypeId->Prop}{B:Nat}{i:Nat}{e:Exit}{a:Act}(h:ow Tp B I Ix (i + 1) W e a W'):ow Tp B (p6 I It) (fun c k=>Ix c (k / 2)) (2 * i + 1 + 1) W e a W':=by
 have e2:(2 * i + 1 + 1) / 2=i + 1:=by omega
 cases e<;>simp only[ow] at h ⊢
 ·exact⟨h.1,by rw[j8]; exact h.2⟩
 ·exact⟨h.1,by rw[e2]; exact h.2⟩
 ·exact⟨h.1,by rw[e2]; exact h.2⟩
 ·exact⟨h.1,by rw[e2]; exact h.2⟩
def zM(Tp:TypeId->Prop)(w:World)(N n:Nat)(ps:Array Tmp)(assign body:Code)(tmps:Array Value)(Ar:Nat->Array Value->Nat->World->Prop)(It I:Nat->World->Prop)(Ix:Code->Nat->World->Prop):Prop :=
 ∀ (l i:Nat) (args:Array Value) (V W:World),w.heap.size<=l->l < V.heap.size->(∃ r,V.heap[l]? = some (.loop r))->i < N->It i V->Below V.heap.size V W->Ar i args V.heap.size W ->
  assign.wpIn (Fence.wide.inRound l) n Tryz.prog (Exit.then (fun a1 W1=>Below W.heap.size W W1/\∀ V2 W2,It i V2->Below V2.heap.size V2 W2->Ar i args V2.heap.size W2->(∀ b,b≠l->W2.heap[b]? = W1.heap[b]?)->W2.heap.size=W1.heap.size->V2.heap.size=V.heap.size->(∃ r,W2.heap[l]? = some (.loop r))->body.wpIn (Fence.wide.inRound l) n Tryz.prog (ow Tp w.heap.size I Ix (i + 1) W2) a1 W2) (fun _ _ _=>False)) { tmps:=(ps.zip args).foldl (fun t (p,v)=>t.setIfInBounds p v) tmps,defers:=[] } W
theorem fB{g x k:Nat}(h:k≠g):(tick g V x).heap[k]? = V.heap[k]? := Below.heap_setCell _ _ _ _ h
end
end Kv
end
section
namespace Kv
open Go.RowKit Go.Lib Pg
attribute [local go_sem] Oper.semAt_some
section
variable {w w' A A':World}{B n c g:Nat}{v u r:Value}{l a Q b:List Int}{x y:Int}{D:Nat->Prop}{ao:Option Addr}{Rd:World->Prop}{cs:List Value}{ops:Array Oper}{rest:List Oper}{pos:String}
theorem sY{p:Nat}(h:OB w (B <= ·) v l)(d:B<=w.heap.size)(s:l.length<=1000000000)(hx:0<=x/\x < 256)(r:w.cell? ⟨p,0,none⟩=some (.int .u8 x)) :
  ∃ v' w',(Builtin.append_ #[96,96] 96 #[v,.slice (some ⟨p,0,none⟩) 1 1]).run Tryz.prog w=.ok v' w'/\OB w' (B <= ·) v' (l ++ [x])/\Below B w w':=by
 have o:Oct (l ++ [x]):=fun y hy=>by
  rcases List.mem_append.1 hy with hy | hy
  ·exact h.oct y hy
  ·simp at hy; subst hy; exact hx
 have a:∀ j u,[Value.int .u8 x][j]? = some u->w.cell? ((⟨p,0,none⟩:Addr).add j)=some u:=fun j u i=>by
  match j with
  | 0=>simp at i; subst i; exact r
  | j + 1=>simp at i
 rcases h.ex with⟨rfl,rfl⟩ | ⟨b,c,rfl,hl2,g⟩
 ·obtain⟨k,w',n,g,hw⟩:=fe (w:=w) KB 96 ⟨p,0,none⟩ 1 1 [.int .u8 x] rfl a (by decide) (by decide) (by decide);exact⟨_,w',n,⟨o,.inr ⟨_,k,rfl,d,g⟩⟩,hw.mono d⟩
 ·obtain⟨q,k,w',n,f,m,hw⟩:=dB (w:=w) KB 96 g ⟨p,0,none⟩ 1 1 [.int .u8 x] rfl a (by simp[Value.oneCell']) (by omega) (by omega);refine⟨_,w',n,⟨o,.inr ⟨q,k,by simp,?_,by rw[List.map_append,List.length_append]; exact m⟩⟩,hw.below (fun x e=>by have t:x=b:=e; omega) d⟩;rcases f with rfl | rfl
  ·exact hl2
  ·exact d
theorem eJ(h:OB w (B <= ·) v l)(d:B<=w.heap.size)(s:l.length<=1000000000)(hx:0<=x/\x < 256) :
  ∃ v' w',(Builtin.append_ #[96,96] 96 #[v,.slice (some ⟨w.heap.size,0,none⟩) 1 1]).run Tryz.prog (w.alloc (.cells #[.int .u8 x] 5))=.ok v' w'/\OB w' (B <= ·) v' (l ++ [x])/\Below B w w':=by
 have hb:=ae w (.cells #[.int .u8 x] 5);have r:=aC w [.int .u8 x] 5
 have p:Oct (l ++ [x]):=fun y hy=>by
  rcases List.mem_append.1 hy with hy | hy
  ·exact h.oct y hy
  ·simp at hy; subst hy; exact hx
 have a:∀ j u,[Value.int .u8 x][j]? = some u->(w.alloc (.cells #[.int .u8 x] 5)).cell? ((⟨w.heap.size,0,none⟩:Addr).add j)=some u:=fun j u o=>by
  match j with
  | 0=>exact r.cell (i:=0) o
  | j + 1=>simp at o
 rcases h.ex with⟨rfl,rfl⟩ | ⟨b,c,rfl,hl2,g⟩
 ·obtain⟨k,w',n,g,hw⟩:=fe (w:=w.alloc (.cells #[.int .u8 x] 5)) KB 96 ⟨w.heap.size,0,none⟩ 1 1 [.int .u8 x] rfl a (by decide) (by decide) (by decide);exact⟨_,w',n,⟨p,.inr ⟨_,k,rfl,Nat.le_trans d hb.size,g⟩⟩,(hb.mono d).trans (hw.mono (Nat.le_trans d hb.size))⟩
 ·obtain⟨q,k,w',n,f,m,hw⟩:=dB (w:=w.alloc (.cells #[.int .u8 x] 5)) KB 96 (g.keep hb) ⟨w.heap.size,0,none⟩ 1 1 [.int .u8 x] rfl a (by simp[Value.oneCell']) (by omega) (by omega);refine⟨_,w',n,⟨p,.inr ⟨q,k,by simp,?_,by rw[List.map_append,List.length_append]; exact m⟩⟩,(hb.mono d).trans (hw.below (fun x e=>by have t:x=b:=e; omega) (Nat.le_trans d hb.size))⟩;rcases f with rfl | rfl
  ·exact hl2
  ·exact Nat.le_trans d hb.size
theorem OB.sh(h:OB w D v l):∃ ao c,v=.slice ao l.length c:=by
 rcases h.ex with⟨rfl,rfl⟩ | ⟨b,c,rfl,_⟩
 ·exact⟨none,0,rfl⟩
 ·exact⟨_,c,rfl⟩
theorem By.lens(h:By w (.slice ao n c) l):l.length=n/\n<=c/\c<=9223372036854775807:=by
 obtain⟨ao',c',e,h2,h3,_⟩:=h.ex
 cases e;exact⟨rfl,h2,h3⟩
theorem iq{a:Act}{o:Oper}{x y:Nat}{T ty:TypeId}(b:o.type=ty)(d:o.op=.call { callee:=.builtin .append,args:=#[.tmp x,.tmp y],argTypes:=#[T,T] })(hx:a.eval (.tmp x)=u)(hy:a.eval (.tmp y)=v)(c:(Builtin.append_ #[T,T] ty #[u,v]).run Tryz.prog w=.ok r w') :
  (execOp a.eval o).run Tryz.prog w=.ok (.value r) w':=by
 subst b;unfold execOp;simp only[d,resolve,invoke,builtin,Sem.run_bind,Sem.run_pure,Result.andThen_ok,List.map_toArray,List.map_cons,List.map_nil,hx,hy,c]
theorem oX(w:World)(D:Nat->Prop):OB w D (.slice none 0 0) []:=⟨fun _ h=>by simp at h,.inl ⟨rfl,rfl⟩⟩
def ArBB(Q:List Int)(i:Nat)(args:Array Value)(_:Nat)(_:World):Prop:=∃ p j,j + 1 + i=Q.length/\Q[j]? = some p/\args=#[.int .i64 (j:Int),.int .u8 p]
theorem ky{Tp:TypeId->Prop}{bs:Nat}(hn:Q.length=n)(A:n<=1000000000)(hb:∀ V,Rd V->V.cell? ⟨bs,0,none⟩=some (.slice ao n c)/\∀ j p,Q[j]? = some p->∃ b o,ao=some ⟨b,o,none⟩/\V.cell? ⟨b,o + j,none⟩=some (.int .u8 p)) :
  Itr Tp 176 #[.pointer (some ⟨bs,0,none⟩)] n (ArBB Q) Rd:=by
 intro l J N W L E u F B;have z:=(hb W (u 0 W B)).1
 have hb:Hid _:=hb
 have hn:Hid _:=hn
 have P:IntKind.i64.wrap ((n:Int) - 1)=(n:Int) - 1:=by rw[IntKind.wrap_i64]; omega
 refine(callsIn_wide (n:=0)).1 ?_
 refine callsIn_of_wp Tryz.func176 rfl trivial ?_ rfl;simp only[Tryz.ntmps176,List.size_toArray,List.length_cons,List.length_nil,Nat.reduceAdd,Nat.reduceSub,Array.replicate_succ,Array.replicate_zero,List.push_toArray,List.append_toArray,List.nil_append,List.cons_append];gi_wp2;gi_loopw [3] (fun x wr=>∃ i:Nat,i<=n/\x=.int .i64 ((n:Int) - 1 - (i:Int))/\W.heap.size<=wr.heap.size/\J i wr) (fun x _=>(intOf x + 1).toNat)
 case atStart=>exact⟨0,Nat.zero_le _,by simp,Nat.le_refl _,B⟩
 case round =>
  clear z;obtain⟨i,hi,rfl,f,d⟩:=hrel;obtain⟨z,m⟩:=hb.out wr (u _ _ d);by_cases s:i < n
  ·obtain⟨j,v⟩:∃ j,j + 1 + i=n:=⟨n - 1 - i,by omega⟩
   obtain⟨p,C⟩:∃ p,Q[j]? = some p:=⟨Q[j]'(by have:=hn.out; omega),List.getElem?_eq_getElem _⟩
   obtain⟨b,o,rfl,M⟩:=m j p C
   have r:(n:Int) - 1 - (i:Int)=(j:Int):=by omega
   have H:Hid (j + 1 + i=n):=v;have y:=F i _ wr wr s d f (Below.refl _ _) ⟨p,j,by rw[hn.out]; exact v,C,rfl⟩;obtain⟨fn,tmps,assign,body,hy,D⟩:=y;rw[r]
   have O:IntKind.i64.wrap ((j:Int) - 1)=(j:Int) - 1:=by rw[IntKind.wrap_i64]; omega
   have z1:(j:Int) < n:=by omega
   clear m r v;gi_wp2;refine⟨rfl,D.mono ?_⟩;rintro I K ⟨t,⟨rfl,g⟩ | ⟨rfl,g⟩⟩
   ·gi_wp2;go_roundw
    case rel=>exact⟨i + 1,by omega,by have:=H.out; congr 1; omega,Nat.le_trans f t.size,g⟩
    case measure=>simp[intOf]
   ·gi_wp2;refine bodyPost_ret (results_none rfl _ _ _) rfl ?_
    exact⟨⟨_,rfl⟩,Nat.le_trans f t.size,.inr ⟨i,s,g⟩⟩
  ·have q:i=n:=by omega
   have r:(n:Int) - 1 - (i:Int) = -1:=by omega
   rw[r]
   have G:Hid (J n wr):=by show J n wr; rw[<- q]; exact d
   clear m r q d;gi_wp2;go_end0;exact⟨⟨_,rfl⟩,f,.inl G.out⟩
theorem mm:Calls Tryz.prog 131 #[.slice ao n c] w fun e w'=>e=.returned (.func (.func 176) #[] #[.pointer (some ⟨w.heap.size,0,none⟩)])/\Blk w' w.heap.size [.slice ao n c] 96/\Below w.heap.size w w':=by
 go_enter Tryz.func131,Tryz.ntmps131;go_wp2;go_ret;exact⟨rfl,aC w _ _,ae w _⟩
def nxt(l:List Int):List Int:=match l.reverse.dropWhile (· == 255) with
 | []=>[]
 | x :: t=>t.reverse ++ [x + 1]
theorem lI:∀ {l:List Int},(∀ x∈l,x=255)->l.dropWhile (· == 255)=[]
 | [],_=>rfl
 | x :: l,h=>by
  have hx:=h x List.mem_cons_self;subst hx;rw[List.dropWhile_cons_of_pos (by decide)];exact lI (fun y hy=>h y (List.mem_cons_of_mem _ hy))
theorem lJ(A B:List Int)(hx:x≠255)(h:∀ b∈B,b=255):(A ++ x :: B).reverse.dropWhile (· == 255)=x :: A.reverse:=by
 rw[List.reverse_append,List.reverse_cons,List.append_assoc,List.dropWhile_append_of_pos (fun a c=>by simp[h a (List.mem_reverse.1 c)]),List.singleton_append,List.dropWhile_cons_of_neg (by simp[hx])]
theorem fj(h:∀ x∈l,x=255):nxt l=[]:=by
 have:l.reverse.dropWhile (· == 255)=[]:=by
  exact lI (fun x hx=>h x (List.mem_reverse.1 hx))
 unfold nxt;rw[this]
theorem uf{j:Nat}(c:l[j]? = some x)(hx:x≠255)(h:∀ i y,l[i]? = some y->j < i->y=255):nxt l=l.take j ++ [x + 1]:=by
 have b:j < l.length:=(List.getElem?_eq_some_iff.1 c).1
 have e:l=l.take j ++ x :: l.drop (j + 1):=by
  have d:=(List.take_append_drop j l).symm
  have g:l.drop j=x :: l.drop (j + 1):=by
   rw[List.drop_eq_getElem_cons b];congr 1
   exact(List.getElem?_eq_some_iff.1 c).2
  rw[g] at d;exact d
 have m:l.reverse.dropWhile (· == 255)=x :: (l.take j).reverse:=by
  have f:=lJ (l.take j) (l.drop (j + 1)) hx (fun a k=>by
   obtain⟨i,hi⟩:=List.getElem?_of_mem k;rw[List.getElem?_drop] at hi
   exact h (j + 1 + i) a hi (by omega))
  rw[<- e] at f;exact f
 unfold nxt;rw[m];simp
theorem dK{b c:Nat}{B:World}(h:Below b w A)(a:Rec c A B)(f:b<=c)(hw:b<=A.heap.size):Below b w B :=
 ⟨a.os.trans h.os,a.tape.trans h.tape,a.output.trans h.output,Nat.le_trans h.size a.size,fun k e=>by
  obtain⟨o,d⟩:∃ o,A.heap[k]? = some o:=⟨A.heap[k]'(by omega),Array.getElem?_eq_getElem _⟩
  rw[a.same k o d (.inl (by omega)),<- d]
  exact h.block k e⟩
theorem mO{ty:TypeId}(h:Blk A g cs ty)(hr:Rec B A A'):Blk A' g cs ty:=hr.blk h
theorem OB.rcd(h:OB A D v l)(hr:Rec B A A'):OB A' D v l:=by
 refine⟨h.oct,h.ex.imp id ?_⟩;rintro⟨b,c,e,hd,hR⟩;obtain⟨cs,k⟩:=hR.kind;exact⟨b,c,e,hd,hR.same ((hr.blk k).blk.trans k.blk.symm)⟩
theorem By.take(h:By w (.slice ao n c) l)(j:Nat)(s:j<=n):By w (.slice ao j c) (l.take j):=by
 obtain⟨q,hc,hm⟩:=By.lens h;obtain⟨k,t,e,r,p,m,d,o⟩:=h.ex
 cases e
 have hlen:(l.take j).length=j:=by rw[List.length_take]; omega
 refine⟨ao,c,by rw[hlen],by rw[hlen]; omega,p,m,fun x hx=>d x (List.mem_of_mem_take hx),?_⟩;rcases o with rfl | ⟨f,g,e,b,a⟩
 ·exact .inl (by simp)
 ·exact .inr ⟨f,g,e,b,fun i x hi=>a i x (by
   rw[List.getElem?_take] at hi;split at hi
   ·exact hi
   ·cases hi)⟩
theorem ox{o:Nat}(c:w.cell? ⟨g,o,none⟩=some v):(loadVar 96 ⟨g,o,none⟩).run Tryz.prog w=.ok v w:=by go_simp
theorem oV{F:Fence}{Q:Exit->Act->World->Prop}{after:Array Edge}{a:Act}(hF:∀ f,F.fn f)(hu:a.eval (.tmp 14)=u)(hv:a.eval (.tmp 17)=v)(b:(Builtin.append_ #[96,96] 96 #[u,v]).run Tryz.prog w=.ok r w')(h:wpListIn F n Tryz.prog ops Q rest (a.put (some 18) r) w') :
  wpListIn F n Tryz.prog ops Q ({ dst:=some 18,op:=.call { callee:=.builtin .append,args:=#[.tmp 14,.tmp 17],argTypes:=#[96,96] },type:=96,pos:=pos,after:=after,guard:=none } :: rest) a w :=
 jN rfl hF (Oper.semAt_eq _ _ _ (fun c h=>by cases h)) (iq (x:=14) (y:=17) rfl rfl hu hv b) h
theorem mD(h : By w (.slice ao n c) l)(S : n ≤ 1000000000) :
    Calls Tryz.prog 119 #[.slice ao n c] w fun e w' => ∃ v, e = .returned v ∧ OB w' (w.heap.size ≤ ·) v (nxt l) ∧ Below w.heap.size w w' := by
  obtain⟨hl, hnc, hcm⟩:= By.lens h;have c1 := aC w [.slice ao n c] 96;have b1 := ae w (.cells #[.slice ao n c] 96)
  have s1 : (w.alloc (.cells #[.slice ao n c] 96)).heap.size = w.heap.size + 1 := by simp
  have c2 := aC (w.alloc (.cells #[.slice ao n c] 96)) [.slice none 0 0] 96;have b2 := ae (w.alloc (.cells #[.slice ao n c] 96)) (.cells #[.slice none 0 0] 96)
  have s2 : ((w.alloc (.cells #[.slice ao n c] 96)).alloc (.cells #[.slice none 0 0] 96)).heap.size = w.heap.size + 2 := by simp
  rw[s1] at c2
  have L := c1.keep b2;have R := aj b1 b2;obtain⟨Wa, I⟩ : ∃ Wa, Hid ((w.alloc (.cells #[.slice ao n c] 96)).alloc (.cells #[.slice none 0 0] 96) = Wa) := ⟨_, rfl⟩;rw[I.out] at L c2 s2 R;have HB := aB h;clear h c1 b1 b2 s1;refine(callsIn_wide (n := 0)).1 ?_
  refine callsIn_of_wp_marks Tryz.func119 rfl trivial ?_ rfl;simp only[Tryz.ntmps119, List.size_toArray, List.length_cons, List.length_nil, Nat.reduceAdd, Nat.reduceSub, Array.replicate_succ, Array.replicate_zero, List.push_toArray, List.append_toArray, List.nil_append, List.cons_append];gi_wp2_with (refine⟨trivial, rfl, ?_⟩; gi_at_call 131; rw[I.out]; refine(callsIn_wide.2 mm).mono ?_; rintro e' z ⟨rfl, T, s⟩);rw[s2] at T;have k1 := L.keep s;have k2 := c2.keep s;have m := aj R s;have hs2 := s.size;have IT := ky (Tp := fun _ => False) (bs := w.heap.size + 2) (c := c) (ao := ao) (Q := l) (n := n) (Rd := fun V => Below z.heap.size z V) hl S (fun V hv => ⟨(T.keep hv).cell (i := 0) rfl, fun j p F => By.at ((HB.out.keep m).keep hv) F⟩);refine gS IT (by rfl) (enters_of Tryz.func176 (by kernel_rfl) rfl) (fun i args n V V' h _ => h) (fun i args n V h => by obtain⟨p, j, _, _, rfl⟩:= h; rfl)
    (fun i V => Below z.heap.size z V ∧ ∀ j x, l[j]? = some x → n ≤ j + i → x = 255)
    (fun c i V => c = .ret ∧ ∃ v, Blk V (w.heap.size + 1) [v] 96 ∧ OB V (w.heap.size ≤ ·) v (nxt l) ∧ Below w.heap.size w V)
    (fun i A B hx O => ⟨dK hx.1 O (Nat.le_refl _) hx.1.size, hx.2⟩)
    (fun c i A B hx O => ⟨hx.1, by obtain⟨v, h1, h2, P⟩:= hx.2; exact⟨v, O.blk h1, OB.rcd h2 O, dK P O m.size P.size⟩⟩)
    (fun i V hv => hv.1) ⟨Below.refl _ _, fun j x F hn => by have := (List.getElem?_eq_some_iff.1 F).1; omega⟩ ?_ ?_ ?_
  · rintro l2 i args V Wv hl2 hlV hrec hiN ⟨hBV, q⟩ hb ⟨p, j, F, hp, rfl⟩
    simp;gi_wp2;refine⟨Below.refl _ _, ?_⟩;intro V2 W2 u f hb2 N W hsz3 hV2 r hrec2;have d := u.trans (hb2.mono u.size);have kb := (k1.keep d).cell (i := 0) rfl;have G := k2.keep d
    have hpo : 0 ≤ p ∧ p < 256 := HB.out.oct p (List.mem_of_getElem? hp);clear q hb hBV W N;by_cases X : p = 255
    · subst X
      gi_wp2;refine⟨bp.of (Below.refl _ _), d, fun j2 x hx hn => ?_⟩;by_cases e : j2 = j
      · subst e; rw[hp] at hx; cases hx; rfl
      · exact f j2 x hx (by omega)
    · have hp6 : p < 255 := by omega
      have BY := By.take ((HB.out.keep m).keep d) j (by omega)
      have J : (l.take j).length = j := by rw[List.length_take]; omega
      have hjn : (j : Int) ≤ c := by omega
      have w9 : IntKind.u8.wrap (p + 1) = p + 1 := by rw[IntKind.wrap_u8]; omega
      have K := aB G;have HW := aB d
      have HNX : Hid (nxt l = l.take j ++ [p + 1]) := uf hp X (fun i2 y hy hi => f i2 y hy (by omega));clear G d f
      gi_wp2_with (first
        | (have gate := t; clear gate; refine oV (fun _ => trivial) rfl rfl t ?_; clear t)
        | (refine⟨trivial, rfl, ?_⟩; gi_at_call 78; refine(CallsIn.inRound l2 (callsIn_wide.2 (cE BY (by omega)))).mono ?_; rintro e' w5 ⟨v5, rfl, O5, b5⟩; obtain⟨v6, E, t, O6, b6⟩:= eJ (B := W2.heap.size) (x := p + 1) O5 b5.size (by omega) (by omega); have C := (K.out.keep b5).kJ b6 (K.out.lt); have kc := C.cell (i := 0) rfl; have kfr := C.free 0; obtain⟨a5, c5, rfl⟩:= OB.sh O5; obtain⟨a6, c6, rfl⟩:= OB.sh O6; rw[J] at t ⊢))
      have hlt : w.heap.size + 1 < z.heap.size := k2.lt;have hsW := HW.out.size;have M := b5.trans b6
      have O7 : OB E (W2.heap.size ≤ ·) (.slice a6 (j + 1) c6) (l.take j ++ [p + 1]) := by
        have H := O6;rw[show (l.take j ++ [p + 1]).length = j + 1 by rw[List.length_append, J]; rfl] at H;exact H
      have O8 : OB (E.setCell ⟨w.heap.size + 1, 0, none⟩ (.slice a6 (j + 1) c6)) (W2.heap.size ≤ ·) (.slice a6 (j + 1) c6) (l.take j ++ [p + 1]) := O7.same (fun b _ hb => Below.heap_setCell E _ _ b (by show b ≠ w.heap.size + 1; omega))
      have B6 : Below w.heap.size w E := (m.trans (HW.out.mono m.size)).trans (M.mono (Nat.le_trans m.size hsW));refine⟨(bp.of M).trans ⟨?_, fun k o hk h0 _ => (Below.heap_setCell E _ _ k (by show k ≠ w.heap.size + 1; omega)).trans h0⟩, rfl, _, C.setCell (i := 0) _, ?_, B6.setCell (show w.heap.size ≤ w.heap.size + 1 by omega) _⟩
      · exact((Chg.refl (fun x => x = w.heap.size + 1) E).cell (g := w.heap.size + 1) (i := 0) (.inl rfl) _).size
      · rw[HNX.out]
        exact O8.mono (fun b _ hb => by have := m.size; omega)
  · rintro Y Z hD hK ⟨d, q⟩
    have G := k2.keep d;have kc := G.cell (i := 0) rfl;have kf := G.free 0
    have hlt : w.heap.size + 1 < z.heap.size := k2.lt
    have U : (Z.setCell ⟨w.heap.size + 1, 0, none⟩ (.slice none 0 0)).heap[Y]? = some (.deferred (some [])) := (Below.heap_setCell Z _ _ Y (by show Y ≠ w.heap.size + 1; omega)).trans hK;gi_wp2;refine⟨by simp, .inl ⟨_, _, rfl, run_takeDeferred U, ?_⟩⟩;have D := Rec.put (B := z.heap.size) U rfl hD (.deferred none);have k3 := mO (G.setCell (i := 0) (.slice none 0 0)) D;refine⟨_, nZ rfl rfl (ox (k3.cell (i := 0) rfl)), _, rfl, ?_, ?_⟩
    · rw[fj (fun x hx => by
        obtain⟨j, F⟩:= List.getElem?_of_mem hx
        exact q j x F (by omega))]
      exact oX _ _
    · have H : Below w.heap.size w (Z.setCell ⟨w.heap.size + 1, 0, none⟩ (.slice none 0 0)) := (m.trans (d.mono m.size)).setCell (show w.heap.size ≤ w.heap.size + 1 by omega) _
      exact dK H D m.size H.size
  · rintro Y c i Z hD hK hiN ⟨rfl, v, h1, h2, P⟩
    gi_wp2;refine⟨by simp, .inl ⟨_, _, rfl, run_takeDeferred hK, ?_⟩⟩;have D := Rec.put (B := z.heap.size) hK rfl hD (.deferred none);have k3 := mO h1 D;exact⟨_, nZ rfl rfl (ox (k3.cell (i := 0) rfl)), _, rfl, OB.rcd h2 D, dK P D m.size P.size⟩
theorem bG:Lt (x :: a) (y :: b)<->x < y\/(x=y/\Lt a b):=by
 unfold Lt;rw[cZ];by_cases c:x < y
 ·simp[c]
 ·by_cases d:y < x
  ·rw[if_neg c,if_pos d];constructor
   ·intro h; exact absurd h (by decide)
   ·rintro(h | ⟨h,_⟩)<;>omega
  ·rw[if_neg c,if_neg d];have:x=y:=by omega
   simp[this]
theorem dI:Lt [] (y :: b):=by simp[Lt,cZ]
theorem not_lt_nil:¬ Lt a []:=by cases a<;>simp[Lt,cZ]
theorem fL(s:List Int):Lt (s ++ a) (s ++ b)<->Lt a b:=by
 induction s with
 | nil=>exact Iff.rfl
 | cons x s ih=>rw[List.cons_append,List.cons_append,bG,ih]; simp
theorem et:∀ l:List Int,(∀ x∈l,x=255)\/∃ A x B,l=A ++ x :: B/\x≠255/\∀ b∈B,b=255
 | []=>.inl (fun _ h=>by simp at h)
 | y :: t=>by
  rcases et t with h | ⟨A,x,B,rfl,hx,hB⟩
  ·by_cases hy:y=255
   ·exact .inl (fun x hx=>by
     rcases List.mem_cons.1 hx with rfl | hx
     ·exact hy
     ·exact h x hx)
   ·exact .inr ⟨[],y,t,rfl,hy,h⟩
  ·exact .inr ⟨y :: A,x,B,rfl,hx,hB⟩
theorem gj{A B:List Int}(hx:x≠255)(hB:∀ b∈B,b=255):nxt (A ++ x :: B)=A ++ [x + 1]:=by
 unfold nxt;rw[lJ A B hx hB];simp
theorem pP(h:nxt l=[]):∀ x∈l,x=255:=by
 rcases et l with h1 | ⟨A,x,B,rfl,hx,hB⟩
 ·exact h1
 ·rw[gj hx hB] at h;simp at h
theorem iP{c:List Int}(h:nxt l≠[])(hc:l <+: c):Lt c (nxt l):=by
 rcases et l with b | ⟨A,x,B,rfl,hx,a⟩
 ·exact absurd (fj b) h
 ·obtain⟨t,rfl⟩:=hc;rw[gj hx a,List.append_assoc,fL,List.cons_append,bG];exact .inl (by omega)
theorem j9:∀ {B t:List Int},(∀ b∈B,b=255)->Oct t->Lt t B\/B <+: t
 | [],_,_,_=>.inr (List.nil_prefix)
 | b :: B,[],_,_=>.inl dI
 | b :: B,z :: t,hB,ht=>by
  have hb:=hB b List.mem_cons_self;have c:=ht z List.mem_cons_self;subst hb;by_cases h:z=255
  ·subst h;rcases j9 (fun b hb=>hB b (List.mem_cons_of_mem _ hb)) (fun y hy=>ht y (List.mem_cons_of_mem _ hy)) with a | a
   ·exact .inl (bG.2 (.inr ⟨rfl,a⟩))
   ·exact .inr (List.cons_prefix_cons.2 ⟨rfl,a⟩)
  ·exact .inl (bG.2 (.inl (by omega)))
theorem fY:∀ {A B c:List Int} {x:Int},(∀ b∈B,b=255)->Oct c->Lt c (A ++ [x + 1])->Lt c (A ++ x :: B)\/(A ++ x :: B) <+: c
 | [],B,[],x,_,_,_=>.inl dI
 | [],B,y :: t,x,hB,hc,h=>by
  rw[List.nil_append,bG] at h;rw[List.nil_append];rcases h with h | ⟨_,h⟩
  ·by_cases e:y=x
   ·subst e;rcases j9 hB (fun z hz=>hc z (List.mem_cons_of_mem _ hz)) with h1 | h1
    ·exact .inl (bG.2 (.inr ⟨rfl,h1⟩))
    ·exact .inr (List.cons_prefix_cons.2 ⟨rfl,h1⟩)
   ·exact .inl (bG.2 (.inl (by omega)))
  ·exact absurd h not_lt_nil
 | a :: A,B,[],x,_,_,_=>.inl dI
 | a :: A,B,y :: t,x,hB,hc,h=>by
  rw[List.cons_append,bG] at h;rw[List.cons_append];rcases h with h | ⟨h1,h2⟩
  ·exact .inl (bG.2 (.inl h))
  ·subst h1;rcases fY hB (fun z hz=>hc z (List.mem_cons_of_mem _ hz)) h2 with h3 | h3
   ·exact .inl (bG.2 (.inr ⟨rfl,h3⟩))
   ·exact .inr (List.cons_prefix_cons.2 ⟨rfl,h3⟩)
theorem jd{c:List Int}(hc:Oct c)(e:¬ l <+: c)(d:¬ Lt c l):¬ Lt c (nxt l):=by
 rcases et l with f | ⟨A,x,B,rfl,hx,b⟩
 ·rw[fj f]; exact not_lt_nil
 ·rw[gj hx b];intro h;rcases fY b hc h with a | a
  ·exact d a
  ·exact e a
end
end Kv
end
section
namespace Kv
open Go.RowKit Go.Lib Pg
attribute [local go_sem] Oper.semAt_some
end Kv
end
section
namespace Kv
open Go.RowKit Go.Lib Pg
attribute [local go_sem] Oper.semAt_some
section
variable {w:World}{pg:Option Addr}{lb:Array Value}{K D:Nat->Prop}{W:List aE}{p:List Int}
theorem mr{k:Nat}:Calls Tryz.prog 118 #[.pointer pg,.func (.func k) #[] lb] w fun e w'=>e=.returned (.func (.func 169) #[] #[.pointer (some ⟨w.heap.size,0,none⟩),.pointer (some ⟨w.heap.size + 1,0,none⟩)])/\Blk w' w.heap.size [.pointer pg] 37/\Blk w' (w.heap.size + 1) [.func (.func k) #[] lb] 85/\Below w.heap.size w w':=by
 have b:=ae w (.cells #[.pointer pg] 37);have c1:=aC w [.pointer pg] 37;have b2:=ae (w.alloc (.cells #[.pointer pg] 37)) (.cells #[.func (.func k) #[] lb] 85);have c2:=aC (w.alloc (.cells #[.pointer pg] 37)) [.func (.func k) #[] lb] 85
 have s1:(w.alloc (.cells #[.pointer pg] 37)).heap.size=w.heap.size + 1:=by simp
 rw[s1] at c2;go_enter Tryz.func118,Tryz.ntmps118;go_wp2;go_ret;exact⟨rfl,c1.keep b2,c2,aj b b2⟩
theorem SA.oct{g n N:Nat}{E:aE}(h:SA w K D g E W n N):∀ x∈E,Oct x.1:=by
 obtain⟨F,V,m,Q,f,T,d,hX,rfl,i⟩:=h.open;obtain⟨L,rfl,A,O,S,k,r⟩:=hX.map.ex;intro x hx;rw[dt] at hx;obtain⟨e,he,rfl⟩:=List.mem_map.1 hx;obtain⟨es,b,a⟩:=List.mem_flatten.1 he;obtain⟨p,c,rfl⟩:=List.mem_map.1 b;exact((A.b8 p c).1.dJ e a).k.oct
theorem sy{k:List Int}(h:p <+: k):¬ Lt k p:=by
 obtain⟨t,rfl⟩:=h;intro h;have:Lt (p ++ t) (p ++ []):=by simpa using h
 rw[fL] at this;exact not_lt_nil this
theorem zy{x:KV}(hx:Oct x.1):mE p (nxt p) x=decide (p <+: x.1):=by
 unfold mE;by_cases h:p <+: x.1
 ·have a:=sy h;by_cases hn:nxt p=[]
  ·simp[h,a,hn]
  ·simp [h,a];exact .inr (iP hn h)
 ·by_cases a:Lt x.1 p
  ·simp[h,a]
  ·have hn:nxt p≠[]:=fun e=>by
    rcases j9 (pP e) hx with b | b
    ·exact a b
    ·exact h b
   simp[h,a,hn,jd hx h a]
end
end Kv
end
section
namespace Kv
open Go.RowKit Go.Lib Pg
section
variable {w:World}{K D:Nat->Prop}{v:Value}{l:List Int}{W:List aE}
structure ByU(w:World)(v:Value)(l:List Int):Prop where
 byt:By w v l
 u8:∀ b o n c,v=.slice (some ⟨b,o,none⟩) n c->∃ cs m,w.heap[b]? = some (.cells cs 5 m)
theorem ByU.chg{w':World}(h:ByU w v l)(hc:Chg K w w')(r:∀ b,K b->∃ cs t,Blk w b cs t/\t≠5):ByU w' v l:=by
 have hs:∀ b o n c,v=.slice (some ⟨b,o,none⟩) n c->w'.heap[b]? = w.heap[b]? := fun b o n c e=>by
  obtain⟨cs,m,hb⟩:=h.u8 b o n c e;refine hc.same b (lt_of_block hb) fun p => ?_
  obtain⟨A,t,s,q⟩:=r b p;have:=s.blk.symm.trans hb;simp at this;exact q this.2.1
 refine⟨?_,fun b o n c e=>by rw[hs b o n c e]; exact h.u8 b o n c e⟩;obtain⟨k,c,f,g,z,u,j,y⟩:=h.byt.ex;refine⟨k,c,f,g,z,u,j,y.imp id ?_⟩;rintro⟨b,o,rfl,d,a⟩;exact⟨b,o,rfl,Nat.lt_of_lt_of_le d hc.size,fun i x hi=>by rw[World.cell?_of_block (w:=w) (hs b o _ _ f)]; exact a i x hi⟩
theorem ByU.of(h:OB w D v l):ByU w v l:=by
 refine⟨h.by,fun b o n c e => ?_⟩;rcases h.ex with⟨rfl,_⟩ | ⟨b',c',rfl,_,hR⟩
 ·cases e
 ·cases e;obtain⟨cs,k⟩:=hR.kind;exact⟨_,_,k.blk⟩
theorem SA.kind{g n N:Nat}{E:aE}(h:SA w K D g E W n N):∀ b,K b->∃ cs t,Blk w b cs t/\t≠5:=by
 obtain⟨F,V,m,Q,jv,T,oj,_,_,_,_,_,_,_,O⟩:=h.ex;exact O.kind
end
end Kv
end
end Go.Proofs.YthfepflplbahkaaGreatDoor
