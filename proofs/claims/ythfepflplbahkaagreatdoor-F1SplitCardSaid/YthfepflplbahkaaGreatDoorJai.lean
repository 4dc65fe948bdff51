import Derived.Test.YthfepflplbahkaaGreatDoorJah
import Derived.Test.YthfepflplbahkaaGreatDoorJag
import Derived.Shelf.Abstract
import Derived.Shelf.RegionOpen
import Derived.OwnWalkIn
import Derived.TacticsInMore
import Derived.LoopNIn
import Derived.LoopIn
set_option maxRecDepth 100000
set_option maxHeartbeats 8000000
namespace Go.Proofs.YthfepflplbahkaaGreatDoor
section
namespace Kv
open Go.RowKit Go.Lib Pg
attribute [local go_sem] Oper.semAt_some
section
variable {E:aD}{k:List Int}{w:World}{K D F V:Nat->Prop}{g n N m:Nat}{W:List aD}{kv jv:Value}{Q:List (List KV)}{T T0:List Jr}{oj:Option Nat}
theorem Ay(h:eM E)(hn:(look E k).isSome=false):rem E k=E:=by
 obtain⟨X,Y,c,⟨rfl,e⟩ | ⟨x,rfl,e⟩⟩:=h.cut k
 ·exact c.yx
 ·rw[e] at hn; cases hn
theorem sget(h:SA w K D g E W n N)(d:BK w K kv k)(hn:n<=4000000000000000000)(y:N<=100000000) :
  Calls Tryz.prog 127 #[.pointer (some ⟨g,0,none⟩),kv] w fun e w'=>∃ v,e=.returned (.tuple #[v,.bool (look E k).isSome])/\OB w' (w.heap.size <= ·) v ((look E k).getD [])/\SA w' K D g E W (n + 1) N/\Chg K w w':=by
 obtain⟨F,V,m,Q,x,T,C,hX,rfl,q⟩:=h.open;obtain⟨G,c,rfl⟩:=d.shape;have u:=fP hX hn;have s:=aB hX;have A:=aB q;have p:=aB d;clear hX q d h;obtain⟨kn,l⟩:∃ kn,Hid (k.length=kn):=⟨_,rfl⟩
 rw[l.out] at p ⊢;have o:=fun w' (X:SX w' K D F V g m Q x T C (n + 1) N) (d:By w' (.slice G kn c) k)=>jA X d y
 obtain⟨r,t⟩:∃ r,(look Q.flatten k).isSome=r:=⟨_,rfl⟩
 obtain⟨L,hL⟩:∃ L,(look Q.flatten k).getD []=L:=⟨_,rfl⟩
 rw[t,hL] at o ⊢;clear t hL;go_enter Tryz.func127,Tryz.ntmps127;go_wp2_with first
  | (go_at_call 95; go_must (refine u.mono ?_); rintro e z ⟨rfl,j,f⟩; have c0:=j.blk.cell (i:=0) rfl)
  | (go_at_call 170; go_must (refine(o _ j (p.out _ (s.out.kg f))).mono ?_); rintro e H ⟨v,rfl,O,B⟩; obtain⟨a1,c1,rfl⟩:∃ a1 c1,v=.slice a1 L.length c1:=(by obtain⟨a1,c1,e,_⟩:=O.by.ex; exact⟨a1,c1,e⟩); generalize L.length=I at *)
 go_ret2;exact⟨_,rfl,O.mono (fun b _ h=>by have:=f.size; have J:z.heap.size<=b:=h; show w.heap.size<=b; omega),(j.keep B).shut rfl A.out,fh (s.out.kg f) (Chg.of B)⟩
theorem Ca(hX:SX w K D F V g m Q jv T oj n N)(r:ke (T.reverse.map Jr.U) W Q.flatten)(l:BK w K kv k)(hn:n<=4000000000000000000)(t:N + 2<=100000000)(s:(look Q.flatten k).isSome=false) :
  Calls Tryz.prog 75 #[.pointer (some ⟨g,0,none⟩),kv] w (Ends w K D g (rem Q.flatten k) W (n + 1) (N + 2) (.bool false)):=by
 obtain⟨B,c,rfl⟩:=l.shape;have u:=fP hX hn;have f:=aB hX;have x:=aB r;have p:=aB l
 have v:N<=99999998:=by omega
 replace t:N<=100000000:=by omega
 clear hX r l;obtain⟨kn,j⟩:∃ kn,Hid (k.length=kn):=⟨_,rfl⟩
 rw[j.out] at p ⊢;go_enter Tryz.func75,Tryz.ntmps75;go_wp2_with first
  | (go_at_call 95; go_must (refine u.mono ?_); rintro e A ⟨rfl,d,q⟩; have i:=uk d (p.out _ (f.out.kg q)) t; rw[s] at i)
  | (go_at_call 121; go_must (refine i.mono ?_); rintro e z ⟨rfl,o⟩; clear i; replace d:=d.keep o; have y:=fh (f.out.kg q) (Chg.of o))
 go_ret;have e:=Ay f.out.map.ord.flat s;exact⟨rfl,K,((d.shut e.symm (by rw[e]; exact x.out)).more (by omega)).mono (fun _ _ h=>.inl h),fun b h=>.inl h,y⟩
theorem xz(hX:SX w K D F V g m Q jv [] oj n N)(t:ke ([].reverse.map Jr.U) W Q.flatten)(l:BK w K kv k)(hn:n<=4000000000000000000)(v:N + 2<=100000000)(z:(look Q.flatten k).isSome=true) :
  Calls Tryz.prog 75 #[.pointer (some ⟨g,0,none⟩),kv] w (Ends w K D g (rem Q.flatten k) W (n + 1) (N + 2) (.bool true)):=by
 obtain⟨M,c,rfl⟩:=l.shape;have u:=fP hX hn;have x:=aB hX;have C:=aB t;have j:=aB l
 have A:N<=99999998:=by omega
 replace v:N<=100000000:=by omega
 clear hX t l;obtain⟨kn,p⟩:∃ kn,Hid (k.length=kn):=⟨_,rfl⟩
 rw[p.out] at j ⊢;go_enter Tryz.func75,Tryz.ntmps75;go_wp2_with first
  | (go_at_call 95; go_must (refine u.mono ?_); rintro e L ⟨rfl,d,s⟩; have f:=uk d (j.out _ (x.out.kg s)) v; rw[z] at f)
  | (go_at_call 121; go_must (refine f.mono ?_); rintro e H ⟨rfl,q⟩; clear f; replace d:=d.keep q; have o:=fh (x.out.kg s) (Chg.of q))
  | (go_at_call 96; go_must (refine(mi d).mono ?_); rintro e y ⟨rfl,hy⟩; replace hy:=hy.symm; subst hy; have c0:=d.blk.cell (i:=0) rfl; have us:=mdel d.map (j.out _ o) (by omega); rw[jG d.map.ord,z] at us)
  | (go_at_call 122; go_must (refine us.mono ?_); rintro e J ⟨rfl,I,B,hF,hC⟩)
 go_ret;have G:=d.mapped (N':=N) (by have:=d.tot; have:=vG (E:=Q.flatten) k; rw[iz d.map.ord]; omega) B hF (fun _ h=>h) hC;refine⟨rfl,_,((G.shut (E:=rem Q.flatten k) (W:=W) (iz d.map.ord k) (rm C.out)).more (by omega)).mono (fun b _ hb => ?_),fun b hb => ?_,?_⟩
 ·exact .inl hb
 ·rcases hb with⟨hb,_⟩ | hb
  ·exact .inl hb
  ·rcases hF b hb with r | r
   ·exact .inl (d.own.map b r)
   ·exact .inr (by have:=o.size; omega)
 ·exact fh o (hC.mono (fun b _ h=>d.own.map b h))
theorem xJ{j:Jr}(hX:SX w K D F V g m Q jv (T0 ++ [j]) oj n N)(G:ke ((T0 ++ [j]).reverse.map Jr.U) W Q.flatten)(v:BK w K kv k)(hn:n<=4000000000000000000)(x:N + 2<=100000000)(f:k.length<=1000000000)(H:(look Q.flatten k).isSome=true) :
  Calls Tryz.prog 75 #[.pointer (some ⟨g,0,none⟩),kv] w (Ends w K D g (rem Q.flatten k) W (n + 1) (N + 2) (.bool true)):=by
 obtain⟨ao,c,rfl⟩:=v.shape;have u:=fP hX hn;have y:=aB hX;have M:=aB G;have p:=aB v;replace f:=aB f
 have I:N<=99999998:=by omega
 replace x:N<=100000000:=by omega
 clear hX G v;obtain⟨kn,z⟩:∃ kn,Hid (k.length=kn):=⟨_,rfl⟩
 rw[z.out] at p ⊢;go_enter Tryz.func75,Tryz.ntmps75;go_wp2_with first
  | (go_at_call 95; go_must (refine u.mono ?_); rintro e w1 ⟨rfl,q,C⟩; have s:=uk q (p.out _ (y.out.kg C)) x; rw[H] at s)
  | (go_at_call 121; go_must (refine s.mono ?_); rintro e P ⟨rfl,A⟩; clear s; replace q:=q.keep A; have o:=fh (y.out.kg C) (Chg.of A))
  | (go_at_call 96; go_must (refine(nN q (p.out _ o) (by have:=f.out; omega) x).mono ?_); rintro e S ⟨rfl,Y,R,T,r,d,l,J⟩; have t:=fh o J; have c0:=d.blk.cell (i:=0) rfl; have us:=mdel d.map (p.out _ t) (by omega); rw[jG d.map.ord,H] at us)
  | (go_at_call 122; go_must (refine us.mono ?_); rintro e Z ⟨rfl,X,L,hF,hC⟩)
 go_ret;have O:=d.mapped (N':=N + 1) (by have:=d.tot; have:=vG (E:=Q.flatten) k; rw[iz d.map.ord]; omega) L hF (fun _ h=>h) hC;refine⟨rfl,_,((O.shut (E:=rem Q.flatten k) (W:=W) (iz d.map.ord k) (n9 M.out r (yg y.out.map.ord.flat k))).more (by omega)).mono (fun b _ hb => ?_),fun b hb => ?_,?_⟩
 ·rcases hb with hb | hb
  ·exact .inl hb
  ·exact .inr (by have:=o.size; omega)
 ·rcases hb with⟨hb,_⟩ | hb
  ·exact(l b hb).imp id (fun h=>by have:=o.size; omega)
  ·rcases hF b hb with B | B
   ·exact(l b (d.own.map b B)).imp id (fun h=>by have:=o.size; omega)
   ·exact .inr (by have:=t.size; omega)
 ·exact t.trans hC (fun b hb h=>(l b (d.own.map b h)).elim id (fun h=>by have:=o.size; omega))
theorem sdel(h:SA w K D g E W n N)(c:BK w K kv k)(b:k.length<=1000000000)(hn:n<=4000000000000000000)(d:N + 2<=100000000) :
  Calls Tryz.prog 75 #[.pointer (some ⟨g,0,none⟩),kv] w (Ends w K D g (rem E k) W (n + 1) (N + 2) (.bool (look E k).isSome)):=by
 obtain⟨F,V,m,Q,i,T,f,hX,rfl,a⟩:=h.open
 cases hr:(look Q.flatten k).isSome with
 | false=>exact Ca hX a c hn d hr
 | true =>
  rcases List.eq_nil_or_concat T with rfl | ⟨e,j,rfl⟩
  ·exact xz hX a c hn d hr
  ·rw[List.concat_eq_append] at hX a;exact xJ hX a c hn d b hr
end
end Kv
end
section
namespace Kv
open Go.RowKit Go.Lib Pg
attribute [local go_sem] Oper.semAt_some
end Kv
end
section
namespace Kv
open Go.RowKit Go.Lib Pg
attribute [local go_sem] Oper.semAt_some
theorem nO {fn:Func} {p:Tmp} {ty:TypeId} (h:fn.results=#[.cell p ty]) {tmps:Array Value} {w:World} {g:Nat} {v:Value} (b:tmps.getD p undef=.pointer (some ⟨g,0,none⟩)) (c:(loadVar ty ⟨g,0,none⟩).run Tryz.prog w=.ok v w):(results fn tmps).run Tryz.prog w=.ok v w:=by
 have a:tmps[p]?.getD undef=.pointer (some ⟨g,0,none⟩):=by simpa using b
 simp[results,h,a,asAddr,c]
end Kv
end
section
namespace Kv
open Go.RowKit Go.Lib Pg
attribute [local go_sem] Oper.semAt_some
end Kv
end
section
namespace Kv
open Go.RowKit Go.Lib Pg
attribute [local go_sem] Oper.semAt_some
section
variable {w w':World}{B:Nat}{xs:List Value}{K:Nat->Prop}
theorem Rw.rcd{E:TypeId}{k b n c:Nat}(h:Rw w E k b n c xs)(hr:Rec B w w'):Rw w' E k b n c xs:=by
 obtain⟨cs,hk⟩:=h.kind;exact h.same (by rw[(hr.blk hk).blk,hk.blk])
theorem ji{w1:World}(h:Chg K w w1)(a:Rec B w1 w')(f:w.heap.size<=B):Chg K w w' :=
 ⟨a.os.trans h.os,a.tape.trans h.tape,a.output.trans h.output,Nat.le_trans h.size a.size,fun b hb d=>by
  have e:=h.same b hb d;rw[<- e]
  have c:b < w1.heap.size:=Nat.lt_of_lt_of_le hb h.size;rw[Array.getElem?_eq_getElem c]
  exact a.same b _ (Array.getElem?_eq_getElem c) (.inl (by omega))⟩
end
end Kv
end
section
namespace Kv
open Go.RowKit Go.Lib Pg
attribute [local go_sem] Oper.semAt_some
end Kv
end
section
namespace Kv
open Go.RowKit Go.Lib Pg
attribute [local go_sem] Oper.semAt_some
section
variable {n g N:Nat}{ops:Array Oper}{rest:List Oper}{a:Act}{w w':World}{v jv:Value}{pos:String}{K D:Nat → Prop}{Q:List (List KV)}{T:List Jr}{oj:Option Nat}{X:Nat->Prop}{W:List aD}
theorem jD{F:Fence}{Q:Exit->Act->World->Prop}{o:Oper}(c:o.guard=none)(hF:∀ f,F.fn f)(hs:o.semAt F.round a.eval=execOp a.eval o)(b:(execOp a.eval o).run Tryz.prog w=.ok (.value v) w')(h:wpListIn F n Tryz.prog ops Q rest (a.put o.dst v) w'):wpListIn F n Tryz.prog ops Q (o :: rest) a w :=
 wpListIn_plain c fun K d=>by
  unfold Oper.wpIn;rw[hs,b,Oper.uponIn_value];exact⟨fun f _=>hF f,d _ _ h⟩
theorem A8{F:Fence}{x y d:Nat}{Q:Exit->Act->World->Prop}{after:Array Edge}{u r:Value}(hF:∀ f,F.fn f)(hu:a.eval (.tmp x)=u)(hv:a.eval (.tmp y)=v)(b:(Builtin.append_ #[46,46] 46 #[u,v]).run Tryz.prog w=.ok r w')(h:wpListIn F n Tryz.prog ops Q rest (a.put (some d) r) w') :
  wpListIn F n Tryz.prog ops Q ({ dst:=some d,op:=.call { callee:=.builtin .append,args:=#[.tmp x,.tmp y],argTypes:=#[46,46] },type:=46,pos:=pos,after:=after,guard:=none } :: rest) a w :=
 jD rfl hF (Oper.semAt_eq _ _ _ (fun c h=>by cases h)) (run_ap (x:=x) (y:=y) rfl rfl hu hv b) h
theorem SX.wm{K D F V:Nat->Prop}{m:Nat}(h:SX w K D F V g m Q jv T oj n N)(e:N<=100000000)(a:∀ b,X b->¬ F b)(d:∀ b,X b->∀ cs,¬ Blk w b cs 5)(c:∀ b,X b->b < w.heap.size) :
  ∃ L,Wm w X F D m L/\∀ f t,(wlk (ens L) f t).map En.kl2=Q.flatten.filter (l3 f t):=by
 obtain⟨L,rfl,A,O,S,k,r⟩:=h.map.ex;exact⟨L,⟨A,O,fun es he=>(S.one es he).2,S.few k e,r,a,d,c⟩,fun f t=>y9 O f t⟩
theorem yR(x:KV):l3 [] [] x=true:=by
 simp[l3,Lt]
 cases x.1<;>simp[cY]
def TpD(t:TypeId):Prop:=t=98
theorem sdump{E:aD}(h : SA w K D g E W n N)(hN : N ≤ 100000000) :
    Calls Tryz.prog 15 #[.pointer (some ⟨g, 0, none⟩)] w fun e w' => ∃ v es, e = .returned v ∧ PrA w' w.heap.size v es ∧ es.map En.kl2 = E ∧ Below w.heap.size w w' := by
  have hsm := h.small;have hsz := h.size;obtain⟨F, V, m, Q, jv, T, oj, hX, rfl, hB⟩:= h.open;have b1 := ae w (.cells #[.slice none 0 0] 46);have c1 := aC w [.slice none 0 0] 46;have X1 := hX.keep b1
  obtain⟨L, K2, hwl⟩:= X1.wm hN (X := (· = w.heap.size)) (fun b e hF => by have e' : b = w.heap.size := e; have := hX.map.lt hF; omega) (fun b e cs k => by
    have e' : b = w.heap.size := e;subst e'
    exact absurd (c1.eq k).2 (by decide)) (fun b e => by have e' : b = w.heap.size := e; simp; omega)
  have t : (wlk (ens L) [] []).map En.kl2 = Q.flatten := by rw[hwl, List.filter_eq_self.2 (fun x _ => yR x)]
  have tW := mw (Tp := TpD) K2 (By.nil _) (By.nil _) (by decide) (by decide) (by unfold TpD; decide) (by unfold TpD; decide);have g0 := X1.blk.cell (i := 0) rfl;obtain⟨H, hE⟩ : ∃ E, Hid (wlk (ens L) [] [] = E) := ⟨_, rfl⟩;rw[hE.out] at tW t;have hEQ := aB t
  have hlen : H.length ≤ N := by have := congrArg List.length t; simp only[List.length_map] at this; omega
  have sz1 : (w.alloc (.cells #[.slice none 0 0] 46)).heap.size = w.heap.size + 1 := by simp
  have HB1 := aB b1;have HC1 := aB c1;clear h hX X1 K2 hwl t hB;obtain⟨Wa, O⟩ : ∃ Wa, Hid (w.alloc (.cells #[.slice none 0 0] 46) = Wa) := ⟨_, rfl⟩;rw[O.out] at tW g0 sz1 HB1 HC1;have c1 := HC1.out;refine(callsIn_wide (n := 0)).1 ?_
  refine callsIn_of_wp_marks Tryz.func15 rfl trivial ?_ rfl;simp only[Tryz.ntmps15, List.size_toArray, List.length_cons, List.length_nil, Nat.reduceAdd, Nat.reduceSub, Array.replicate_succ, Array.replicate_zero, List.push_toArray, List.append_toArray, List.nil_append, List.cons_append];rw[← O.out] at g0;gi_wp2_with (refine⟨trivial, rfl, ?_⟩; gi_at_call 42; rw[O.out]; refine(callsIn_wide.2 tW).mono ?_; rintro e' w1 ⟨bw, rfl, J, IT⟩);have cb := c1.keep J;clear tW;have q1 := J.size;refine hH IT (by rfl) (enters_of Tryz.func123 (by kernel_rfl) rfl) (fun i args n V V' h hc => h.cel hc) (fun i args n V h => by obtain⟨e, kv, vv, s, _, rfl, _⟩:= h; rfl)
    (fun i V => BC w1 V w.heap.size H i) (fun _ _ _ => False)
    (fun i A B hx hr => hx.rcd hr) (fun _ _ _ _ hx _ => hx)
    (fun i V hv => hv.chg) ⟨Chg.refl _ _, _, [], cb, ⟨.inl ⟨rfl, rfl⟩, fun e he => by cases he⟩, rfl⟩ ?_ ?_ ?_
  · rintro l2 i args V Wv hl hlV hrec hiN hG hb ⟨e0, kv, vv, s0, ab, rfl, hk0, hv0, _⟩
    obtain⟨S, nk, hk1⟩:= hk0.shape;obtain⟨Y, U, hv1⟩:= hv0.shape;subst hk1 hv1;simp;gi_wp2;refine⟨Below.refl _ _, ?_⟩;intro V2 W2 q l Z hoth C hV2 r hrec2;obtain⟨e1, kv1, vv1, t1, he1, z, hk2, ad, ht1⟩:= Z;obtain rfl : e1 = e0 := by rw[ab] at he1; cases he1; rfl
    simp at z;obtain⟨rfl, rfl⟩:= z;obtain⟨ov, es, g1, g2, g3⟩:= q.out
    have p : es.length = i := by have := congrArg List.length g3; simp at this; omega
    obtain⟨ao0, cc0, rfl⟩:= g2.shape;have S0 := g1.keep l;have P0 := g2.keep l;have z1 := q.chg.size;have z2 := l.size;have f := ae W2 (.cells #[.slice S e1.kl.length nk, .slice Y e1.vl.length U] 98);have N4 := aC W2 [.slice S e1.kl.length nk, .slice Y e1.vl.length U] 98;have z5 := f.size
    have hE4 : EnA (W2.alloc (.cells #[.slice S e1.kl.length nk, .slice Y e1.vl.length U] 98)) (fun b => w1.heap.size ≤ b) ⟨.slice S e1.kl.length nk, e1.kl, .slice Y e1.vl.length U, e1.vl⟩:= ⟨(hk2.keep f).mono (fun b _ hb => by omega), (ad.keep f).mono (fun b _ hb => by omega)⟩;obtain⟨ov5, w5, P, P5, I⟩:= zL (e := ⟨.slice S e1.kl.length nk, e1.kl, .slice Y e1.vl.length U, e1.vl⟩) (a := ⟨W2.heap.size, 0, none⟩) 46 (P0.keep f) (by omega) hE4 (by omega) (N4.cell (i := 0) rfl) (N4.cell (i := 1) rfl);have S4 := S0.keep f;have S5 := I.blk S4 (by decide);have s0c := S0.cell (i := 0) rfl;obtain⟨d, u⟩ : ∃ d, Hid (es ++ [(⟨.slice S e1.kl.length nk, e1.kl, .slice Y e1.vl.length U, e1.vl⟩ : En)] = d) := ⟨_, rfl⟩
    have aa : Hid (d.map En.kl2 = (H.take (i + 1)).map En.kl2) := by
      show _ = _
      rw[← u.out, List.map_append, g3, List.take_add_one, ab, List.map_append];rfl
    simp only[u.out] at P5;obtain⟨G, M, rfl⟩:= P5.shape;have s5c := S5.cell (i := 0) rfl;have s5f := S5.free 0;have R := aB P5;have HS5 := aB S5;have ac := aB I;have af := aB f;have HG2 := aB q;have HB2 := aB l;have hsl := S4.cell (i := 0) rfl;replace p := aB p;replace C := aB C;replace hV2 := aB hV2;clear hG hk0 hv0 hb hoth P5 S5 I f N4 hE4 P0 S0 g1 g2 g3 hk2 ad l q S4;gi_wp2_with (have gate := P; clear gate; refine A8 (fun _ => trivial) rfl rfl P ?_; clear P)
    have j : Chg (· = w.heap.size) w5 (w5.setCell ⟨w.heap.size, 0, none⟩ (.slice G d.length M)) := (Chg.refl (fun x => x = w.heap.size) w5).cell (.inl (by rfl)) _
    have y : ∀ b, b = w.heap.size → ∀ cs, ¬ Blk w5 b cs 5 := fun b hb cs k => by
      subst hb;have := (k.eq HS5.out).2;revert this;decide
    have P6 : PrA (w5.setCell ⟨w.heap.size, 0, none⟩ (.slice G d.length M)) w1.heap.size (.slice G d.length M) d := ⟨R.out.ex.imp id (fun⟨b, c, e, hl, hR⟩ => ⟨b, c, e, hl, hR.chg j (by omega)⟩), fun e he => ⟨(R.out.dH e he).k.chg j y, (R.out.dH e he).v.chg j y⟩⟩;refine⟨((bh.of (Tp := TpD) (B := w1.heap.size) af.out).trans (ac.out.keeps (Tp := TpD) rfl)).trans ⟨j.size, fun k o hk h0 _ => (j.same k (lt_of_block h0) (by omega)).trans h0⟩, ⟨?_, _, d, HS5.out.setCell (i := 0) _, P6, aa.out⟩⟩;exact(((HG2.out.chg.trans (Chg.of (F := fun _ => False) (aj HB2.out af.out)) (fun _ _ h => h.elim)).trans ac.out.chg (fun b h1 h2 => by omega))).trans j (fun b _ h => h)
  · rintro D' W' hD hK hG
    obtain⟨ov, es, g1, g2, g3⟩:= hG.out;obtain⟨ao, cc, rfl⟩:= g2.shape;have g1c := g1.cell (i := 0) rfl;gi_wp2;refine⟨by simp, .inl ⟨_, _, rfl, run_takeDeferred hK, ?_⟩⟩;refine⟨_, results_tmp rfl _ _ _, _, es, rfl, (g2.cel (Rec.put hK rfl hD _).cel).low (by omega), ?_, ?_⟩
    · rw[g3, List.take_length]; exact hEQ.out
    · exact sH HB1.out J ((hG.rcd (Rec.put hK rfl hD _)).chg) (Nat.le_refl _)
  · rintro D' c i W' hD hK hi hF
    exact hF.elim
end
end Kv
end
section
namespace Kv
open Go.RowKit Go.Lib Pg
attribute [local go_sem] Oper.semAt_some
section
variable {g x:Nat}{V:World}{E:List En}{args:Array Value}
def tick(g:Nat)(V:World)(x:Nat):World:=V.setCell ⟨g,2,none⟩ (.int .i64 ((x:Int) + 1))
theorem sL{V':World}(hb:Below V.heap.size V V'):Below (tick g V x).heap.size (tick g V x) (tick g V' x):=by
 unfold tick;refine⟨hb.os,hb.tape,hb.output,by simpa[World.setCell] using hb.size,fun k c => ?_⟩
 have a:k < V.heap.size:=by simpa[World.setCell] using c
 by_cases e:k=g
 ·subst e;have b:=hb.block k a;simp only[World.setCell,Array.getElem?_modify,b]
 ·rw[Below.heap_setCell _ _ _ _ (by exact e),Below.heap_setCell _ _ _ _ (by exact e)];exact hb.block k a
theorem fo(g x:Nat)(V:World):(tick g V x).heap.size=V.heap.size:=by simp[tick,World.setCell]
theorem dU(g x:Nat)(V:World):Chg (· = g) V (tick g V x):=(Chg.refl (· = g) V).cell (.inl rfl) _
theorem xE{i n:Nat}(h:ArC E i args n V)(m:∃ cs,Blk V g cs 94):ArC E i args n (tick g V x):=by
 obtain⟨e,kv,vv,s,f,p,j,o,l⟩:=h
 have a:∀ b,b=g->∀ cs,¬ Blk V b cs 5:=fun b hb cs k=>by
  subst hb;obtain⟨c,d⟩:=m;exact absurd (k.eq d).2 (by decide)
 exact⟨e,kv,vv,s,f,p,j.chg (dU g x V) a,o.chg (dU g x V) a,l⟩
def RdC(X:Nat->Prop)(W1:World)(g bs1 bs2 bw:Nat)(V:World):Prop:=Chg X W1 V/\Blk V bs1 [.pointer (some ⟨g,0,none⟩)] 37/\Blk V bs2 [.func (.func 123) #[] #[.pointer (some ⟨bw,0,none⟩)]] 85/\∃ cs,Blk V g cs 94
end
end Kv
end
section
namespace Kv
open Go.RowKit Go.Lib Pg
attribute [local go_sem] Oper.semAt_some
section
variable {I It:Nat->World->Prop}{Ix:Code->Nat->World->Prop}{W W' V:World}
def pF(I It:Nat->World->Prop)(k:Nat):World->Prop:=if k % 2=0 then I (k / 2) else It (k / 2)
theorem jJ(I It:Nat->World->Prop)(i:Nat):pF I It (2 * i + 1)=It i:=by
 unfold pF;rw[if_neg (by omega),show (2 * i + 1) / 2=i by omega]
theorem jR(I It:Nat->World->Prop)(i:Nat):pF I It (2 * i + 1 + 1)=I (i + 1):=by
 unfold pF;rw[if_pos (by omega),show (2 * i + 1 + 1) / 2=i + 1 by omega]
theorem ox{Tp:TypeId->Prop}{B:Nat}{i:Nat}{e:Exit}{a:Act}(h:oh Tp B I Ix (i + 1) W e a W'):oh Tp B (pF I It) (fun c k=>Ix c (k / 2)) (2 * i + 1 + 1) W e a W':=by
 have e2:(2 * i + 1 + 1) / 2=i + 1:=by omega
 cases e<;>simp only[oh] at h ⊢
 ·exact⟨h.1,by rw[jR]; exact h.2⟩
 ·exact⟨h.1,by rw[e2]; exact h.2⟩
 ·exact⟨h.1,by rw[e2]; exact h.2⟩
 ·exact⟨h.1,by rw[e2]; exact h.2⟩
def zY(Tp:TypeId->Prop)(w:World)(N n:Nat)(ps:Array Tmp)(assign body:Code)(tmps:Array Value)(Ar:Nat->Array Value->Nat->World->Prop)(It I:Nat->World->Prop)(Ix:Code->Nat->World->Prop):Prop :=
 ∀ (l i:Nat) (args:Array Value) (V W:World),w.heap.size<=l->l < V.heap.size->(∃ r,V.heap[l]? = some (.loop r))->i < N->It i V->Below V.heap.size V W->Ar i args V.heap.size W ->
  assign.wpIn (Fence.wide.inRound l) n Tryz.prog (Exit.then (fun a1 W1=>Below W.heap.size W W1/\∀ V2 W2,It i V2->Below V2.heap.size V2 W2->Ar i args V2.heap.size W2->(∀ b,b≠l->W2.heap[b]? = W1.heap[b]?)->W2.heap.size=W1.heap.size->V2.heap.size=V.heap.size->(∃ r,W2.heap[l]? = some (.loop r))->body.wpIn (Fence.wide.inRound l) n Tryz.prog (oh Tp w.heap.size I Ix (i + 1) W2) a1 W2) (fun _ _ _=>False)) { tmps:=(ps.zip args).foldl (fun t (p,v)=>t.setIfInBounds p v) tmps,defers:=[] } W
theorem fx{g x k:Nat}(h:k≠g):(tick g V x).heap[k]? = V.heap[k]? := Below.heap_setCell _ _ _ _ h
end
end Kv
end
section
namespace Kv
open Go.RowKit Go.Lib Pg
attribute [local go_sem] Oper.semAt_some
section
variable {w w' A A':World}{B n c g:Nat}{v u r:Value}{l a Q b:List Int}{x y:Int}{D:Nat->Prop}{ao:Option Addr}{Rd:World->Prop}{cs:List Value}{ops:Array Oper}{rest:List Oper}{pos:String}
theorem sP{p:Nat}(h:OB w (B <= ·) v l)(d:B<=w.heap.size)(t:l.length<=1000000000)(hx:0<=x/\x < 256)(q:w.cell? ⟨p,0,none⟩=some (.int .u8 x)) :
  ∃ v' w',(Builtin.append_ #[96,96] 96 #[v,.slice (some ⟨p,0,none⟩) 1 1]).run Tryz.prog w=.ok v' w'/\OB w' (B <= ·) v' (l ++ [x])/\Below B w w':=by
 have o:Oct (l ++ [x]):=fun y hy=>by
  rcases List.mem_append.1 hy with hy | hy
  ·exact h.oct y hy
  ·simp at hy; subst hy; exact hx
 have a:∀ j u,[Value.int .u8 x][j]? = some u->w.cell? ((⟨p,0,none⟩:Addr).add j)=some u:=fun j u n=>by
  match j with
  | 0=>simp at n; subst n; exact q
  | j + 1=>simp at n
 rcases h.ex with⟨rfl,rfl⟩ | ⟨b,c,rfl,hl2,f⟩
 ·obtain⟨m,w',g,f,hw⟩:=fi (w:=w) KB 96 ⟨p,0,none⟩ 1 1 [.int .u8 x] rfl a (by decide) (by decide) (by decide);exact⟨_,w',g,⟨o,.inr ⟨_,m,rfl,d,f⟩⟩,hw.mono d⟩
 ·obtain⟨r,m,w',g,i,k,hw⟩:=dA (w:=w) KB 96 f ⟨p,0,none⟩ 1 1 [.int .u8 x] rfl a (by simp[Value.oneCell']) (by omega) (by omega);refine⟨_,w',g,⟨o,.inr ⟨r,m,by simp,?_,by rw[List.map_append,List.length_append]; exact k⟩⟩,hw.below (fun x e=>by have s:x=b:=e; omega) d⟩;rcases i with rfl | rfl
  ·exact hl2
  ·exact d
theorem eI(h:OB w (B <= ·) v l)(d:B<=w.heap.size)(t:l.length<=1000000000)(hx:0<=x/\x < 256) :
  ∃ v' w',(Builtin.append_ #[96,96] 96 #[v,.slice (some ⟨w.heap.size,0,none⟩) 1 1]).run Tryz.prog (w.alloc (.cells #[.int .u8 x] 5))=.ok v' w'/\OB w' (B <= ·) v' (l ++ [x])/\Below B w w':=by
 have hb:=ae w (.cells #[.int .u8 x] 5);have r:=aC w [.int .u8 x] 5
 have o:Oct (l ++ [x]):=fun y hy=>by
  rcases List.mem_append.1 hy with hy | hy
  ·exact h.oct y hy
  ·simp at hy; subst hy; exact hx
 have a:∀ j u,[Value.int .u8 x][j]? = some u->(w.alloc (.cells #[.int .u8 x] 5)).cell? ((⟨w.heap.size,0,none⟩:Addr).add j)=some u:=fun j u p=>by
  match j with
  | 0=>exact r.cell (i:=0) p
  | j + 1=>simp at p
 rcases h.ex with⟨rfl,rfl⟩ | ⟨b,c,rfl,hl2,f⟩
 ·obtain⟨n,w',g,f,hw⟩:=fi (w:=w.alloc (.cells #[.int .u8 x] 5)) KB 96 ⟨w.heap.size,0,none⟩ 1 1 [.int .u8 x] rfl a (by decide) (by decide) (by decide);exact⟨_,w',g,⟨o,.inr ⟨_,n,rfl,Nat.le_trans d hb.size,f⟩⟩,(hb.mono d).trans (hw.mono (Nat.le_trans d hb.size))⟩
 ·obtain⟨q,n,w',g,k,m,hw⟩:=dA (w:=w.alloc (.cells #[.int .u8 x] 5)) KB 96 (f.keep hb) ⟨w.heap.size,0,none⟩ 1 1 [.int .u8 x] rfl a (by simp[Value.oneCell']) (by omega) (by omega);refine⟨_,w',g,⟨o,.inr ⟨q,n,by simp,?_,by rw[List.map_append,List.length_append]; exact m⟩⟩,(hb.mono d).trans (hw.below (fun x e=>by have s:x=b:=e; omega) (Nat.le_trans d hb.size))⟩;rcases k with rfl | rfl
  ·exact hl2
  ·exact Nat.le_trans d hb.size
theorem OB.sh(h:OB w D v l):∃ ao c,v=.slice ao l.length c:=by
 rcases h.ex with⟨rfl,rfl⟩ | ⟨b,c,rfl,_⟩
 ·exact⟨none,0,rfl⟩
 ·exact⟨_,c,rfl⟩
theorem By.lens(h:By w (.slice ao n c) l):l.length=n/\n<=c/\c<=9223372036854775807:=by
 obtain⟨ao',c',e,h2,h3,_⟩:=h.ex
 cases e;exact⟨rfl,h2,h3⟩
theorem iC{a:Act}{o:Oper}{x y:Nat}{T ty:TypeId}(b:o.type=ty)(d:o.op=.call { callee:=.builtin .append,args:=#[.tmp x,.tmp y],argTypes:=#[T,T] })(hx:a.eval (.tmp x)=u)(hy:a.eval (.tmp y)=v)(c:(Builtin.append_ #[T,T] ty #[u,v]).run Tryz.prog w=.ok r w') :
  (execOp a.eval o).run Tryz.prog w=.ok (.value r) w':=by
 subst b;unfold execOp;simp only[d,resolve,invoke,builtin,Sem.run_bind,Sem.run_pure,Result.andThen_ok,List.map_toArray,List.map_cons,List.map_nil,hx,hy,c]
theorem qt(w:World)(D:Nat->Prop):OB w D (.slice none 0 0) []:=⟨fun _ h=>by simp at h,.inl ⟨rfl,rfl⟩⟩
def ArBB(Q:List Int)(i:Nat)(args:Array Value)(_:Nat)(_:World):Prop:=∃ p j,j + 1 + i=Q.length/\Q[j]? = some p/\args=#[.int .i64 (j:Int),.int .u8 p]
theorem j0{Tp:TypeId->Prop}{bs:Nat}(hn:Q.length=n)(B:n<=1000000000)(hb:∀ V,Rd V->V.cell? ⟨bs,0,none⟩=some (.slice ao n c)/\∀ j p,Q[j]? = some p->∃ b o,ao=some ⟨b,o,none⟩/\V.cell? ⟨b,o + j,none⟩=some (.int .u8 p)) :
  Itr Tp 176 #[.pointer (some ⟨bs,0,none⟩)] n (ArBB Q) Rd:=by
 intro l J L W M E q F C;have z:=(hb W (q 0 W C)).1
 have hb:Hid _:=hb
 have hn:Hid _:=hn
 have I:IntKind.i64.wrap ((n:Int) - 1)=(n:Int) - 1:=by rw[IntKind.wrap_i64]; omega
 refine(callsIn_wide (n:=0)).1 ?_
 refine callsIn_of_wp Tryz.func176 rfl trivial ?_ rfl;simp only[Tryz.ntmps176,List.size_toArray,List.length_cons,List.length_nil,Nat.reduceAdd,Nat.reduceSub,Array.replicate_succ,Array.replicate_zero,List.push_toArray,List.append_toArray,List.nil_append,List.cons_append];gi_wp2;gi_loopw [3] (fun v wr=>∃ i:Nat,i<=n/\v=.int .i64 ((n:Int) - 1 - (i:Int))/\W.heap.size<=wr.heap.size/\J i wr) (fun v _=>(intOf v + 1).toNat)
 case atStart=>exact⟨0,Nat.zero_le _,by simp,Nat.le_refl _,C⟩
 case round =>
  clear z;obtain⟨i,hi,rfl,f,d⟩:=hrel;obtain⟨z,g⟩:=hb.out wr (q _ _ d);by_cases s:i < n
  ·obtain⟨j,y⟩:∃ j,j + 1 + i=n:=⟨n - 1 - i,by omega⟩
   obtain⟨p,A⟩:∃ p,Q[j]? = some p:=⟨Q[j]'(by have:=hn.out; omega),List.getElem?_eq_getElem _⟩
   obtain⟨b,o,rfl,O⟩:=g j p A
   have t:(n:Int) - 1 - (i:Int)=(j:Int):=by omega
   have D:Hid (j + 1 + i=n):=y;have x:=F i _ wr wr s d f (Below.refl _ _) ⟨p,j,by rw[hn.out]; exact y,A,rfl⟩;obtain⟨fn,tmps,assign,body,hy,H⟩:=x;rw[t]
   have P:IntKind.i64.wrap ((j:Int) - 1)=(j:Int) - 1:=by rw[IntKind.wrap_i64]; omega
   have z1:(j:Int) < n:=by omega
   clear g t y;gi_wp2;refine⟨rfl,H.mono ?_⟩;rintro K N ⟨u,⟨rfl,m⟩ | ⟨rfl,m⟩⟩
   ·gi_wp2;go_roundw
    case rel=>exact⟨i + 1,by omega,by have:=D.out; congr 1; omega,Nat.le_trans f u.size,m⟩
    case measure=>simp[intOf]
   ·gi_wp2;refine bodyPost_ret (results_none rfl _ _ _) rfl ?_
    exact⟨⟨_,rfl⟩,Nat.le_trans f u.size,.inr ⟨i,s,m⟩⟩
  ·have r:i=n:=by omega
   have t:(n:Int) - 1 - (i:Int) = -1:=by omega
   rw[t]
   have G:Hid (J n wr):=by show J n wr; rw[<- r]; exact d
   clear g t r d;gi_wp2;go_end0;exact⟨⟨_,rfl⟩,f,.inl G.out⟩
theorem lX:Calls Tryz.prog 131 #[.slice ao n c] w fun e w'=>e=.returned (.func (.func 176) #[] #[.pointer (some ⟨w.heap.size,0,none⟩)])/\Blk w' w.heap.size [.slice ao n c] 96/\Below w.heap.size w w':=by
 go_enter Tryz.func131,Tryz.ntmps131;go_wp2;go_ret;exact⟨rfl,aC w _ _,ae w _⟩
def nxt(l:List Int):List Int:=match l.reverse.dropWhile (· == 255) with
 | []=>[]
 | x :: t=>t.reverse ++ [x + 1]
theorem nm:∀ {l:List Int},(∀ x∈l,x=255)->l.dropWhile (· == 255)=[]
 | [],_=>rfl
 | x :: l,h=>by
  have hx:=h x List.mem_cons_self;subst hx;rw[List.dropWhile_cons_of_pos (by decide)];exact nm (fun y hy=>h y (List.mem_cons_of_mem _ hy))
theorem l8(A B:List Int)(hx:x≠255)(h:∀ b∈B,b=255):(A ++ x :: B).reverse.dropWhile (· == 255)=x :: A.reverse:=by
 rw[List.reverse_append,List.reverse_cons,List.append_assoc,List.dropWhile_append_of_pos (fun a c=>by simp[h a (List.mem_reverse.1 c)]),List.singleton_append,List.dropWhile_cons_of_neg (by simp[hx])]
theorem fe(h:∀ x∈l,x=255):nxt l=[]:=by
 have:l.reverse.dropWhile (· == 255)=[]:=by
  exact nm (fun x hx=>h x (List.mem_reverse.1 hx))
 unfold nxt;rw[this]
theorem sl{j:Nat}(f:l[j]? = some x)(hx:x≠255)(h:∀ i y,l[i]? = some y->j < i->y=255):nxt l=l.take j ++ [x + 1]:=by
 have b:j < l.length:=(List.getElem?_eq_some_iff.1 f).1
 have e:l=l.take j ++ x :: l.drop (j + 1):=by
  have c:=(List.take_append_drop j l).symm
  have k:l.drop j=x :: l.drop (j + 1):=by
   rw[List.drop_eq_getElem_cons b];congr 1
   exact(List.getElem?_eq_some_iff.1 f).2
  rw[k] at c;exact c
 have g:l.reverse.dropWhile (· == 255)=x :: (l.take j).reverse:=by
  have d:=l8 (l.take j) (l.drop (j + 1)) hx (fun a m=>by
   obtain⟨i,hi⟩:=List.getElem?_of_mem m;rw[List.getElem?_drop] at hi
   exact h (j + 1 + i) a hi (by omega))
  rw[<- e] at d;exact d
 unfold nxt;rw[g];simp
theorem dI{b c:Nat}{B:World}(h:Below b w A)(a:Rec c A B)(f:b<=c)(hw:b<=A.heap.size):Below b w B :=
 ⟨a.os.trans h.os,a.tape.trans h.tape,a.output.trans h.output,Nat.le_trans h.size a.size,fun k e=>by
  obtain⟨o,d⟩:∃ o,A.heap[k]? = some o:=⟨A.heap[k]'(by omega),Array.getElem?_eq_getElem _⟩
  rw[a.same k o d (.inl (by omega)),<- d]
  exact h.block k e⟩
theorem lW{ty:TypeId}(h:Blk A g cs ty)(hr:Rec B A A'):Blk A' g cs ty:=hr.blk h
theorem OB.rcd(h:OB A D v l)(hr:Rec B A A'):OB A' D v l:=by
 refine⟨h.oct,h.ex.imp id ?_⟩;rintro⟨b,c,e,hd,hR⟩;obtain⟨cs,k⟩:=hR.kind;exact⟨b,c,e,hd,hR.same ((hr.blk k).blk.trans k.blk.symm)⟩
theorem By.take(h:By w (.slice ao n c) l)(j:Nat)(t:j<=n):By w (.slice ao j c) (l.take j):=by
 obtain⟨r,hc,hm⟩:=By.lens h;obtain⟨g,s,e,q,f,k,p,d⟩:=h.ex
 cases e
 have hlen:(l.take j).length=j:=by rw[List.length_take]; omega
 refine⟨ao,c,by rw[hlen],by rw[hlen]; omega,f,k,fun x hx=>p x (List.mem_of_mem_take hx),?_⟩;rcases d with rfl | ⟨m,o,e,b,a⟩
 ·exact .inl (by simp)
 ·exact .inr ⟨m,o,e,b,fun i x hi=>a i x (by
   rw[List.getElem?_take] at hi;split at hi
   ·exact hi
   ·cases hi)⟩
theorem nX{o:Nat}(c:w.cell? ⟨g,o,none⟩=some v):(loadVar 96 ⟨g,o,none⟩).run Tryz.prog w=.ok v w:=by go_simp
theorem oT{F:Fence}{Q:Exit->Act->World->Prop}{after:Array Edge}{a:Act}(hF:∀ f,F.fn f)(hu:a.eval (.tmp 14)=u)(hv:a.eval (.tmp 17)=v)(b:(Builtin.append_ #[96,96] 96 #[u,v]).run Tryz.prog w=.ok r w')(h:wpListIn F n Tryz.prog ops Q rest (a.put (some 18) r) w') :
  wpListIn F n Tryz.prog ops Q ({ dst:=some 18,op:=.call { callee:=.builtin .append,args:=#[.tmp 14,.tmp 17],argTypes:=#[96,96] },type:=96,pos:=pos,after:=after,guard:=none } :: rest) a w :=
 jD rfl hF (Oper.semAt_eq _ _ _ (fun c h=>by cases h)) (iC (x:=14) (y:=17) rfl rfl hu hv b) h
theorem mn(h : By w (.slice ao n c) l)(J : n ≤ 1000000000) :
    Calls Tryz.prog 119 #[.slice ao n c] w fun e w' => ∃ v, e = .returned v ∧ OB w' (w.heap.size ≤ ·) v (nxt l) ∧ Below w.heap.size w w' := by
  obtain⟨hl, hnc, hcm⟩:= By.lens h;have c1 := aC w [.slice ao n c] 96;have b1 := ae w (.cells #[.slice ao n c] 96)
  have s1 : (w.alloc (.cells #[.slice ao n c] 96)).heap.size = w.heap.size + 1 := by simp
  have c2 := aC (w.alloc (.cells #[.slice ao n c] 96)) [.slice none 0 0] 96;have b2 := ae (w.alloc (.cells #[.slice ao n c] 96)) (.cells #[.slice none 0 0] 96)
  have s2 : ((w.alloc (.cells #[.slice ao n c] 96)).alloc (.cells #[.slice none 0 0] 96)).heap.size = w.heap.size + 2 := by simp
  rw[s1] at c2
  have P := c1.keep b2;have L := aj b1 b2;obtain⟨Wa, R⟩ : ∃ Wa, Hid ((w.alloc (.cells #[.slice ao n c] 96)).alloc (.cells #[.slice none 0 0] 96) = Wa) := ⟨_, rfl⟩;rw[R.out] at P c2 s2 L;have HB := aB h;clear h c1 b1 b2 s1;refine(callsIn_wide (n := 0)).1 ?_
  refine callsIn_of_wp_marks Tryz.func119 rfl trivial ?_ rfl;simp only[Tryz.ntmps119, List.size_toArray, List.length_cons, List.length_nil, Nat.reduceAdd, Nat.reduceSub, Array.replicate_succ, Array.replicate_zero, List.push_toArray, List.append_toArray, List.nil_append, List.cons_append];gi_wp2_with (refine⟨trivial, rfl, ?_⟩; gi_at_call 131; rw[R.out]; refine(callsIn_wide.2 lX).mono ?_; rintro e' u ⟨rfl, I, s⟩);rw[s2] at I;have k1 := P.keep s;have k2 := c2.keep s;have q := aj L s;have hs2 := s.size;have IT := j0 (Tp := fun _ => False) (bs := w.heap.size + 2) (c := c) (ao := ao) (Q := l) (n := n) (Rd := fun V => Below u.heap.size u V) hl J (fun V hv => ⟨(I.keep hv).cell (i := 0) rfl, fun j p D => By.at ((HB.out.keep q).keep hv) D⟩);refine hH IT (by rfl) (enters_of Tryz.func176 (by kernel_rfl) rfl) (fun i args n V V' h _ => h) (fun i args n V h => by obtain⟨p, j, _, _, rfl⟩:= h; rfl)
    (fun i V => Below u.heap.size u V ∧ ∀ j x, l[j]? = some x → n ≤ j + i → x = 255)
    (fun c i V => c = .ret ∧ ∃ v, Blk V (w.heap.size + 1) [v] 96 ∧ OB V (w.heap.size ≤ ·) v (nxt l) ∧ Below w.heap.size w V)
    (fun i A B hx U => ⟨dI hx.1 U (Nat.le_refl _) hx.1.size, hx.2⟩)
    (fun c i A B hx U => ⟨hx.1, by obtain⟨v, h1, h2, M⟩:= hx.2; exact⟨v, U.blk h1, OB.rcd h2 U, dI M U q.size M.size⟩⟩)
    (fun i V hv => hv.1) ⟨Below.refl _ _, fun j x D hn => by have := (List.getElem?_eq_some_iff.1 D).1; omega⟩ ?_ ?_ ?_
  · rintro l2 i args V Wv hl2 hlV hrec hiN ⟨hBV, m⟩ hb ⟨p, j, D, hp, rfl⟩
    simp;gi_wp2;refine⟨Below.refl _ _, ?_⟩;intro V2 W2 z f hb2 H N hsz3 hV2 r hrec2;have d := z.trans (hb2.mono z.size);have kb := (k1.keep d).cell (i := 0) rfl;have F := k2.keep d
    have hpo : 0 ≤ p ∧ p < 256 := HB.out.oct p (List.mem_of_getElem? hp);clear m hb hBV N H;by_cases W : p = 255
    · subst W
      gi_wp2;refine⟨bh.of (Below.refl _ _), d, fun j2 x hx hn => ?_⟩;by_cases e : j2 = j
      · subst e; rw[hp] at hx; cases hx; rfl
      · exact f j2 x hx (by omega)
    · have hp6 : p < 255 := by omega
      have BY := By.take ((HB.out.keep q).keep d) j (by omega)
      have X : (l.take j).length = j := by rw[List.length_take]; omega
      have hjn : (j : Int) ≤ c := by omega
      have w9 : IntKind.u8.wrap (p + 1) = p + 1 := by rw[IntKind.wrap_u8]; omega
      have K := aB F;have HW := aB d
      have HNX : Hid (nxt l = l.take j ++ [p + 1]) := sl hp W (fun i2 y hy hi => f i2 y hy (by omega));clear F d f
      gi_wp2_with (first
        | (have gate := t; clear gate; refine oT (fun _ => trivial) rfl rfl t ?_; clear t)
        | (refine⟨trivial, rfl, ?_⟩; gi_at_call 78; refine(CallsIn.inRound l2 (callsIn_wide.2 (cC BY (by omega)))).mono ?_; rintro e' w5 ⟨v5, rfl, O5, b5⟩; obtain⟨v6, E, t, O6, b6⟩:= eI (B := W2.heap.size) (x := p + 1) O5 b5.size (by omega) (by omega); have C := (K.out.keep b5).kJ b6 (K.out.lt); have kc := C.cell (i := 0) rfl; have kfr := C.free 0; obtain⟨a5, c5, rfl⟩:= OB.sh O5; obtain⟨a6, c6, rfl⟩:= OB.sh O6; rw[X] at t ⊢))
      have hlt : w.heap.size + 1 < u.heap.size := k2.lt;have hsW := HW.out.size;have T := b5.trans b6
      have O7 : OB E (W2.heap.size ≤ ·) (.slice a6 (j + 1) c6) (l.take j ++ [p + 1]) := by
        have S := O6;rw[show (l.take j ++ [p + 1]).length = j + 1 by rw[List.length_append, X]; rfl] at S;exact S
      have O8 : OB (E.setCell ⟨w.heap.size + 1, 0, none⟩ (.slice a6 (j + 1) c6)) (W2.heap.size ≤ ·) (.slice a6 (j + 1) c6) (l.take j ++ [p + 1]) := O7.same (fun b _ hb => Below.heap_setCell E _ _ b (by show b ≠ w.heap.size + 1; omega))
      have B6 : Below w.heap.size w E := (q.trans (HW.out.mono q.size)).trans (T.mono (Nat.le_trans q.size hsW));refine⟨(bh.of T).trans ⟨?_, fun k o hk h0 _ => (Below.heap_setCell E _ _ k (by show k ≠ w.heap.size + 1; omega)).trans h0⟩, rfl, _, C.setCell (i := 0) _, ?_, B6.setCell (show w.heap.size ≤ w.heap.size + 1 by omega) _⟩
      · exact((Chg.refl (fun x => x = w.heap.size + 1) E).cell (g := w.heap.size + 1) (i := 0) (.inl rfl) _).size
      · rw[HNX.out]
        exact O8.mono (fun b _ hb => by have := q.size; omega)
  · rintro D' Z hD Y ⟨d, m⟩
    have F := k2.keep d;have kc := F.cell (i := 0) rfl;have kf := F.free 0
    have hlt : w.heap.size + 1 < u.heap.size := k2.lt
    have O : (Z.setCell ⟨w.heap.size + 1, 0, none⟩ (.slice none 0 0)).heap[D']? = some (.deferred (some [])) := (Below.heap_setCell Z _ _ D' (by show D' ≠ w.heap.size + 1; omega)).trans Y;gi_wp2;refine⟨by simp, .inl ⟨_, _, rfl, run_takeDeferred O, ?_⟩⟩;have G := Rec.put (B := u.heap.size) O rfl hD (.deferred none);have k3 := lW (F.setCell (i := 0) (.slice none 0 0)) G;refine⟨_, nO rfl rfl (nX (k3.cell (i := 0) rfl)), _, rfl, ?_, ?_⟩
    · rw[fe (fun x hx => by
        obtain⟨j, D⟩:= List.getElem?_of_mem hx
        exact m j x D (by omega))]
      exact qt _ _
    · have S : Below w.heap.size w (Z.setCell ⟨w.heap.size + 1, 0, none⟩ (.slice none 0 0)) := (q.trans (d.mono q.size)).setCell (show w.heap.size ≤ w.heap.size + 1 by omega) _
      exact dI S G q.size S.size
  · rintro D' c i Z hD Y hiN ⟨rfl, v, h1, h2, M⟩
    gi_wp2;refine⟨by simp, .inl ⟨_, _, rfl, run_takeDeferred Y, ?_⟩⟩;have G := Rec.put (B := u.heap.size) Y rfl hD (.deferred none);have k3 := lW h1 G;exact⟨_, nO rfl rfl (nX (k3.cell (i := 0) rfl)), _, rfl, OB.rcd h2 G, dI M G q.size M.size⟩
theorem bF:Lt (x :: a) (y :: b)<->x < y\/(x=y/\Lt a b):=by
 unfold Lt;rw[cY];by_cases c:x < y
 ·simp[c]
 ·by_cases d:y < x
  ·rw[if_neg c,if_pos d];constructor
   ·intro h; exact absurd h (by decide)
   ·rintro(h | ⟨h,_⟩)<;>omega
  ·rw[if_neg c,if_neg d];have:x=y:=by omega
   simp[this]
theorem dG:Lt [] (y :: b):=by simp[Lt,cY]
theorem not_lt_nil:¬ Lt a []:=by cases a<;>simp[Lt,cY]
theorem fq(s:List Int):Lt (s ++ a) (s ++ b)<->Lt a b:=by
 induction s with
 | nil=>exact Iff.rfl
 | cons x s ih=>rw[List.cons_append,List.cons_append,bF,ih]; simp
theorem ee:∀ l:List Int,(∀ x∈l,x=255)\/∃ A x B,l=A ++ x :: B/\x≠255/\∀ b∈B,b=255
 | []=>.inl (fun _ h=>by simp at h)
 | y :: t=>by
  rcases ee t with h | ⟨A,x,B,rfl,hx,hB⟩
  ·by_cases hy:y=255
   ·exact .inl (fun x hx=>by
     rcases List.mem_cons.1 hx with rfl | hx
     ·exact hy
     ·exact h x hx)
   ·exact .inr ⟨[],y,t,rfl,hy,h⟩
  ·exact .inr ⟨y :: A,x,B,rfl,hx,hB⟩
theorem gz{A B:List Int}(hx:x≠255)(hB:∀ b∈B,b=255):nxt (A ++ x :: B)=A ++ [x + 1]:=by
 unfold nxt;rw[l8 A B hx hB];simp
theorem qj(h:nxt l=[]):∀ x∈l,x=255:=by
 rcases ee l with h1 | ⟨A,x,B,rfl,hx,hB⟩
 ·exact h1
 ·rw[gz hx hB] at h;simp at h
theorem ja{c:List Int}(h:nxt l≠[])(hc:l <+: c):Lt c (nxt l):=by
 rcases ee l with a | ⟨A,x,B,rfl,hx,b⟩
 ·exact absurd (fe a) h
 ·obtain⟨t,rfl⟩:=hc;rw[gz hx b,List.append_assoc,fq,List.cons_append,bF];exact .inl (by omega)
theorem kB:∀ {B t:List Int},(∀ b∈B,b=255)->Oct t->Lt t B\/B <+: t
 | [],_,_,_=>.inr (List.nil_prefix)
 | b :: B,[],_,_=>.inl dG
 | b :: B,z :: t,hB,ht=>by
  have hb:=hB b List.mem_cons_self;have c:=ht z List.mem_cons_self;subst hb;by_cases h:z=255
  ·subst h;rcases kB (fun b hb=>hB b (List.mem_cons_of_mem _ hb)) (fun y hy=>ht y (List.mem_cons_of_mem _ hy)) with a | a
   ·exact .inl (bF.2 (.inr ⟨rfl,a⟩))
   ·exact .inr (List.cons_prefix_cons.2 ⟨rfl,a⟩)
  ·exact .inl (bF.2 (.inl (by omega)))
theorem gg:∀ {A B c:List Int} {x:Int},(∀ b∈B,b=255)->Oct c->Lt c (A ++ [x + 1])->Lt c (A ++ x :: B)\/(A ++ x :: B) <+: c
 | [],B,[],x,_,_,_=>.inl dG
 | [],B,y :: t,x,hB,hc,h=>by
  rw[List.nil_append,bF] at h;rw[List.nil_append];rcases h with h | ⟨_,h⟩
  ·by_cases e:y=x
   ·subst e;rcases kB hB (fun z hz=>hc z (List.mem_cons_of_mem _ hz)) with h1 | h1
    ·exact .inl (bF.2 (.inr ⟨rfl,h1⟩))
    ·exact .inr (List.cons_prefix_cons.2 ⟨rfl,h1⟩)
   ·exact .inl (bF.2 (.inl (by omega)))
  ·exact absurd h not_lt_nil
 | a :: A,B,[],x,_,_,_=>.inl dG
 | a :: A,B,y :: t,x,hB,hc,h=>by
  rw[List.cons_append,bF] at h;rw[List.cons_append];rcases h with h | ⟨h1,h2⟩
  ·exact .inl (bF.2 (.inl h))
  ·subst h1;rcases gg hB (fun z hz=>hc z (List.mem_cons_of_mem _ hz)) h2 with h3 | h3
   ·exact .inl (bF.2 (.inr ⟨rfl,h3⟩))
   ·exact .inr (List.cons_prefix_cons.2 ⟨rfl,h3⟩)
theorem jd{c:List Int}(hc:Oct c)(d:¬ l <+: c)(f:¬ Lt c l):¬ Lt c (nxt l):=by
 rcases ee l with e | ⟨A,x,B,rfl,hx,b⟩
 ·rw[fe e]; exact not_lt_nil
 ·rw[gz hx b];intro h;rcases gg b hc h with a | a
  ·exact f a
  ·exact d a
end
end Kv
end
section
namespace Kv
open Go.RowKit Go.Lib Pg
attribute [local go_sem] Oper.semAt_some
end Kv
end
section
namespace Kv
open Go.RowKit Go.Lib Pg
attribute [local go_sem] Oper.semAt_some
section
variable {w:World}{pg:Option Addr}{lb:Array Value}{K D:Nat->Prop}{W:List aD}{p:List Int}
theorem mz{k:Nat}:Calls Tryz.prog 118 #[.pointer pg,.func (.func k) #[] lb] w fun e w'=>e=.returned (.func (.func 169) #[] #[.pointer (some ⟨w.heap.size,0,none⟩),.pointer (some ⟨w.heap.size + 1,0,none⟩)])/\Blk w' w.heap.size [.pointer pg] 37/\Blk w' (w.heap.size + 1) [.func (.func k) #[] lb] 85/\Below w.heap.size w w':=by
 have b1:=ae w (.cells #[.pointer pg] 37);have c1:=aC w [.pointer pg] 37;have b2:=ae (w.alloc (.cells #[.pointer pg] 37)) (.cells #[.func (.func k) #[] lb] 85);have c2:=aC (w.alloc (.cells #[.pointer pg] 37)) [.func (.func k) #[] lb] 85
 have s1:(w.alloc (.cells #[.pointer pg] 37)).heap.size=w.heap.size + 1:=by simp
 rw[s1] at c2;go_enter Tryz.func118,Tryz.ntmps118;go_wp2;go_ret;exact⟨rfl,c1.keep b2,c2,aj b1 b2⟩
theorem SA.oct{g n N:Nat}{E:aD}(h:SA w K D g E W n N):∀ x∈E,Oct x.1:=by
 obtain⟨F,V,m,Q,i,T,f,hX,rfl,d⟩:=h.open;obtain⟨L,rfl,A,O,S,k,r⟩:=hX.map.ex;intro x hx;rw[dq] at hx;obtain⟨e,he,rfl⟩:=List.mem_map.1 hx;obtain⟨es,a,c⟩:=List.mem_flatten.1 he;obtain⟨p,b,rfl⟩:=List.mem_map.1 a;exact((A.bZ p b).1.dH e c).k.oct
theorem r8{k:List Int}(h:p <+: k):¬ Lt k p:=by
 obtain⟨t,rfl⟩:=h;intro h;have:Lt (p ++ t) (p ++ []):=by simpa using h
 rw[fq] at this;exact not_lt_nil this
theorem yw{x:KV}(hx:Oct x.1):l3 p (nxt p) x=decide (p <+: x.1):=by
 unfold l3;by_cases h:p <+: x.1
 ·have a:=r8 h;by_cases hn:nxt p=[]
  ·simp[h,a,hn]
  ·simp [h,a];exact .inr (ja hn h)
 ·by_cases a:Lt x.1 p
  ·simp[h,a]
  ·have hn:nxt p≠[]:=fun e=>by
    rcases kB (qj e) hx with b | b
    ·exact a b
    ·exact h b
   simp[h,a,hn,jd hx h a]
end
end Kv
end
section
namespace Kv
open Go.RowKit Go.Lib Pg
section
variable {w:World}{K D:Nat->Prop}{v:Value}{l:List Int}{W:List aD}
structure ByU(w:World)(v:Value)(l:List Int):Prop where
 byt:By w v l
 u8:∀ b o n c,v=.slice (some ⟨b,o,none⟩) n c->∃ cs m,w.heap[b]? = some (.cells cs 5 m)
theorem ByU.chg{w':World}(h:ByU w v l)(hc:Chg K w w')(s:∀ b,K b->∃ cs t,Blk w b cs t/\t≠5):ByU w' v l:=by
 have hs:∀ b o n c,v=.slice (some ⟨b,o,none⟩) n c->w'.heap[b]? = w.heap[b]? := fun b o n c e=>by
  obtain⟨cs,m,hb⟩:=h.u8 b o n c e;refine hc.same b (lt_of_block hb) fun q => ?_
  obtain⟨A,t,y,g⟩:=s b q;have:=y.blk.symm.trans hb;simp at this;exact g this.2.1
 refine⟨?_,fun b o n c e=>by rw[hs b o n c e]; exact h.u8 b o n c e⟩;obtain⟨u,c,f,r,k,p,z,j⟩:=h.byt.ex;refine⟨u,c,f,r,k,p,z,j.imp id ?_⟩;rintro⟨b,o,rfl,d,a⟩;exact⟨b,o,rfl,Nat.lt_of_lt_of_le d hc.size,fun i x hi=>by rw[World.cell?_of_block (w:=w) (hs b o _ _ f)]; exact a i x hi⟩
theorem ByU.of(h:OB w D v l):ByU w v l:=by
 refine⟨h.by,fun b o n c e => ?_⟩;rcases h.ex with⟨rfl,_⟩ | ⟨b',c',rfl,_,hR⟩
 ·cases e
 ·cases e;obtain⟨cs,k⟩:=hR.kind;exact⟨_,_,k.blk⟩
theorem SA.kind{g n N:Nat}{E:aD}(h:SA w K D g E W n N):∀ b,K b->∃ cs t,Blk w b cs t/\t≠5:=by
 obtain⟨F,V,m,Q,jv,T,oj,_,_,_,_,_,_,_,O⟩:=h.ex;exact O.kind
end
end Kv
end
end Go.Proofs.YthfepflplbahkaaGreatDoor
