/- Several texts, joined: KvW, KvX, KvY, KvZ, KvAa, KvAb, KvBa, KvBb, KvBc, KvBh, KvBd, KvBe, KvCa. -/
import Derived.Test.YthfepflplbahkaaGreatDoorJah
import Derived.Test.YthfepflplbahkaaGreatDoorJag
import Derived.Shelf.Abstract
import Derived.Shelf.RegionOpen
import Derived.OwnWalkIn
import Derived.TacticsInMore
import Derived.LoopNIn
import Derived.LoopIn
set_option maxRecDepth 100000
set_option maxHeartbeats 8000000
namespace Go.Proofs.YthfepflplbahkaaGreatDoor
section
namespace Kv
open Go.RowKit Go.Lib Pg
section
variable {E:aD}{k:List Int}{w:World}{K D F V:Nat->Prop}{g n N m:Nat}{W:List aD}{kv jv:Value}{Q:List (List KV)}{T T0:List Jr}{oj:Option Nat}
attribute [local go_sem] Oper.semAt_some
theorem AH(h:eG E)(hn:(look E k).isSome=false):rem E k=E:=by
 obtain⟨X,Y,c,⟨rfl,e⟩ | ⟨x,rfl,e⟩⟩:=h.cut k
 ·exact c.yS
 ·rw[e] at hn; cases hn
theorem sget(h:SA w K D g E W n N)(J:BK w K kv k)(hn:n<=4000000000000000000)(M:N<=100000000) :
  Calls Tryz.prog 127 #[.pointer (some ⟨g,0,none⟩),kv] w fun e w'=>∃ v,e=.returned (.tuple #[v,.bool (look E k).isSome])/\OB w' (w.heap.size <= ·) v ((look E k).getD [])/\SA w' K D g E W (n + 1) N/\Chg K w w':=by
 obtain⟨F,V,m,Q,x,T,y,a,rfl,o⟩:=h.open;obtain⟨z,c,rfl⟩:=J.shape;have u:=fQ a hn;have p:=aB a;have A:=aB o;have q:=aB J;clear a o J h;obtain⟨d,f⟩:∃ d,Hid (k.length=d):=⟨_,rfl⟩
 rw[f.out] at q ⊢;have s:=fun w' (X:SX w' K D F V g m Q x T y (n + 1) N) (J:By w' (.slice z d c) k)=>jG X J M
 obtain⟨r,t⟩:∃ r,(look Q.flatten k).isSome=r:=⟨_,rfl⟩
 obtain⟨L,hL⟩:∃ L,(look Q.flatten k).getD []=L:=⟨_,rfl⟩
 rw[t,hL] at s ⊢;clear t hL;go_enter Tryz.func127,Tryz.ntmps127;go_wp2_with first
  | (go_at_call 95; go_must (refine u.mono ?_); rintro e C ⟨rfl,j,l⟩; have c0:=j.blk.cell (i:=0) rfl)
  | (go_at_call 170; go_must (refine(s _ j (q.out _ (p.out.kg l))).mono ?_); rintro e G ⟨v,rfl,O,B⟩; obtain⟨a1,c1,rfl⟩:∃ a1 c1,v=.slice a1 L.length c1:=(by obtain⟨a1,c1,e,_⟩:=O.by.ex; exact⟨a1,c1,e⟩); generalize L.length=H at *)
 go_ret2;exact⟨_,rfl,O.mono (fun b _ h=>by have:=l.size; have I:C.heap.size<=b:=h; show w.heap.size<=b; omega),(j.keep B).shut rfl A.out,ff (p.out.kg l) (Chg.of B)⟩
theorem Cn(y:SX w K D F V g m Q jv T oj n N)(C:j4 (T.reverse.map Jr.U) W Q.flatten)(z:BK w K kv k)(hn:n<=4000000000000000000)(B:N + 2<=100000000)(A:(look Q.flatten k).isSome=false) :
  Calls Tryz.prog 75 #[.pointer (some ⟨g,0,none⟩),kv] w (Ends w K D g (rem Q.flatten k) W (n + 1) (N + 2) (.bool false)):=by
 obtain⟨t,c,rfl⟩:=z.shape;have u:=fQ y hn;have d:=aB y;have q:=aB C;have j:=aB z
 have r:N<=99999998:=by omega
 replace B:N<=100000000:=by omega
 clear y C z;obtain⟨l,f⟩:∃ l,Hid (k.length=l):=⟨_,rfl⟩
 rw[f.out] at j ⊢;go_enter Tryz.func75,Tryz.ntmps75;go_wp2_with first
  | (go_at_call 95; go_must (refine u.mono ?_); rintro e v ⟨rfl,a,o⟩; have i:=tU a (j.out _ (d.out.kg o)) B; rw[A] at i)
  | (go_at_call 121; go_must (refine i.mono ?_); rintro e x ⟨rfl,p⟩; clear i; replace a:=a.keep p; have s:=ff (d.out.kg o) (Chg.of p))
 go_ret;have e:=AH d.out.map.ord.flat A;exact⟨rfl,K,((a.shut e.symm (by rw[e]; exact q.out)).more (by omega)).mono (fun _ _ h=>.inl h),fun b h=>.inl h,s⟩
theorem yE(I:SX w K D F V g m Q jv [] oj n N)(M:j4 ([].reverse.map Jr.U) W Q.flatten)(J:BK w K kv k)(hn:n<=4000000000000000000)(L:N + 2<=100000000)(O:(look Q.flatten k).isSome=true) :
  Calls Tryz.prog 75 #[.pointer (some ⟨g,0,none⟩),kv] w (Ends w K D g (rem Q.flatten k) W (n + 1) (N + 2) (.bool true)):=by
 obtain⟨A,c,rfl⟩:=J.shape;have u:=fQ I hn;have o:=aB I;have t:=aB M;have d:=aB J
 have v:N<=99999998:=by omega
 replace L:N<=100000000:=by omega
 clear I M J;obtain⟨p,f⟩:∃ p,Hid (k.length=p):=⟨_,rfl⟩
 rw[f.out] at d ⊢;go_enter Tryz.func75,Tryz.ntmps75;go_wp2_with first
  | (go_at_call 95; go_must (refine u.mono ?_); rintro e B ⟨rfl,a,q⟩; have j:=tU a (d.out _ (o.out.kg q)) L; rw[O] at j)
  | (go_at_call 121; go_must (refine j.mono ?_); rintro e C ⟨rfl,r⟩; clear j; replace a:=a.keep r; have l:=ff (o.out.kg q) (Chg.of r))
  | (go_at_call 96; go_must (refine(mE a).mono ?_); rintro e y ⟨rfl,hy⟩; replace hy:=hy.symm; subst hy; have c0:=a.blk.cell (i:=0) rfl; have us:=mdel a.map (d.out _ l) (by omega); rw[jK a.map.ord,O] at us)
  | (go_at_call 122; go_must (refine us.mono ?_); rintro e G ⟨rfl,H,x,hF,hC⟩)
 go_ret;have z:=a.mapped (N':=N) (by have:=a.tot; have:=ux (E:=Q.flatten) k; rw[ic a.map.ord]; omega) x hF (fun _ h=>h) hC;refine⟨rfl,_,((z.shut (E:=rem Q.flatten k) (W:=W) (ic a.map.ord k) (qR t.out)).more (by omega)).mono (fun b _ hb => ?_),fun b hb => ?_,?_⟩
 ·exact .inl hb
 ·rcases hb with⟨hb,_⟩ | hb
  ·exact .inl hb
  ·rcases hF b hb with s | s
   ·exact .inl (a.own.map b s)
   ·exact .inr (by have:=l.size; omega)
 ·exact ff l (hC.mono (fun b _ h=>a.own.map b h))
theorem x8{j:Jr}(Y:SX w K D F V g m Q jv (T0 ++ [j]) oj n N)(hB:j4 ((T0 ++ [j]).reverse.map Jr.U) W Q.flatten)(Z:BK w K kv k)(hn:n<=4000000000000000000)(hN:N + 2<=100000000)(X:k.length<=1000000000)(hr:(look Q.flatten k).isSome=true) :
  Calls Tryz.prog 75 #[.pointer (some ⟨g,0,none⟩),kv] w (Ends w K D g (rem Q.flatten k) W (n + 1) (N + 2) (.bool true)):=by
 obtain⟨I,c,rfl⟩:=Z.shape;have u:=fQ Y hn;have p:=aB Y;have A:=aB hB;have l:=aB Z;replace X:=aB X
 have B:N<=99999998:=by omega
 replace hN:N<=100000000:=by omega
 clear Y hB Z;obtain⟨v,q⟩:∃ v,Hid (k.length=v):=⟨_,rfl⟩
 rw[q.out] at l ⊢;go_enter Tryz.func75,Tryz.ntmps75;go_wp2_with first
  | (go_at_call 95; go_must (refine u.mono ?_); rintro e J ⟨rfl,o,x⟩; have r:=tU o (l.out _ (p.out.kg x)) hN; rw[hr] at r)
  | (go_at_call 121; go_must (refine r.mono ?_); rintro e L ⟨rfl,y⟩; clear r; replace o:=o.keep y; have f:=ff (p.out.kg x) (Chg.of y))
  | (go_at_call 96; go_must (refine(nV o (l.out _ f) (by have:=X.out; omega) hN).mono ?_); rintro e M ⟨rfl,O,P,R,s,a,d,C⟩; have t:=ff f C; have c0:=a.blk.cell (i:=0) rfl; have us:=mdel a.map (l.out _ t) (by omega); rw[jK a.map.ord,hr] at us)
  | (go_at_call 122; go_must (refine us.mono ?_); rintro e S ⟨rfl,T,G,hF,hC⟩)
 go_ret;have H:=a.mapped (N':=N + 1) (by have:=a.tot; have:=ux (E:=Q.flatten) k; rw[ic a.map.ord]; omega) G hF (fun _ h=>h) hC;refine⟨rfl,_,((H.shut (E:=rem Q.flatten k) (W:=W) (ic a.map.ord k) (nX A.out s (zj p.out.map.ord.flat k))).more (by omega)).mono (fun b _ hb => ?_),fun b hb => ?_,?_⟩
 ·rcases hb with hb | hb
  ·exact .inl hb
  ·exact .inr (by have:=f.size; omega)
 ·rcases hb with⟨hb,_⟩ | hb
  ·exact(d b hb).imp id (fun h=>by have:=f.size; omega)
  ·rcases hF b hb with z | z
   ·exact(d b (a.own.map b z)).imp id (fun h=>by have:=f.size; omega)
   ·exact .inr (by have:=t.size; omega)
 ·exact t.trans hC (fun b hb h=>(d b (a.own.map b h)).elim id (fun h=>by have:=f.size; omega))
theorem sdel(h:SA w K D g E W n N)(c:BK w K kv k)(e:k.length<=1000000000)(hn:n<=4000000000000000000)(d:N + 2<=100000000) :
  Calls Tryz.prog 75 #[.pointer (some ⟨g,0,none⟩),kv] w (Ends w K D g (rem E k) W (n + 1) (N + 2) (.bool (look E k).isSome)):=by
 obtain⟨F,V,m,Q,f,T,l,a,rfl,b⟩:=h.open
 cases hr:(look Q.flatten k).isSome with
 | false=>exact Cn a b c hn d hr
 | true =>
  rcases List.eq_nil_or_concat T with rfl | ⟨i,j,rfl⟩
  ·exact yE a b c hn d hr
  ·rw[List.concat_eq_append] at a b;exact x8 a b c hn d e hr
end
end Kv
end
section
namespace Kv
open Go.RowKit Go.Lib Pg
attribute [local go_sem] Oper.semAt_some
end Kv
end
section
namespace Kv
open Go.RowKit Go.Lib Pg
attribute [local go_sem] Oper.semAt_some
theorem nP {fn:Func} {p:Tmp} {ty:TypeId} (h:fn.results=#[.cell p ty]) {tmps:Array Value} {w:World} {g:Nat} {v:Value} (b:tmps.getD p undef=.pointer (some ⟨g,0,none⟩)) (c:(loadVar ty ⟨g,0,none⟩).run Tryz.prog w=.ok v w):(results fn tmps).run Tryz.prog w=.ok v w:=by
 have a:tmps[p]?.getD undef=.pointer (some ⟨g,0,none⟩):=by simpa using b
 simp[results,h,a,asAddr,c]
end Kv
end
section
namespace Kv
open Go.RowKit Go.Lib Pg
attribute [local go_sem] Oper.semAt_some
end Kv
end
section
namespace Kv
open Go.RowKit Go.Lib Pg
section
variable {w w':World}{B:Nat}{xs:List Value}{K:Nat->Prop}
attribute [local go_sem] Oper.semAt_some
theorem Rw.rcd{E:TypeId}{k b n c:Nat}(h:Rw w E k b n c xs)(hr:Rec B w w'):Rw w' E k b n c xs:=by
 obtain⟨cs,hk⟩:=h.kind;exact h.same (by rw[(hr.blk hk).blk,hk.blk])
theorem jx{w1:World}(h:Chg K w w1)(a:Rec B w1 w')(f:w.heap.size<=B):Chg K w w' :=
 ⟨a.os.trans h.os,a.tape.trans h.tape,a.output.trans h.output,Nat.le_trans h.size a.size,fun b hb d=>by
  have e:=h.same b hb d;rw[<- e]
  have c:b < w1.heap.size:=Nat.lt_of_lt_of_le hb h.size;rw[Array.getElem?_eq_getElem c];exact a.same b _ (Array.getElem?_eq_getElem c) (.inl (by omega))⟩
end
end Kv
end
section
namespace Kv
open Go.RowKit Go.Lib Pg
attribute [local go_sem] Oper.semAt_some
end Kv
end
section
namespace Kv
open Go.RowKit Go.Lib Pg
section
variable {n g N:Nat}{ops:Array Oper}{rest:List Oper}{a:Act}{w w':World}{v jv:Value}{pos:String}{K D:Nat → Prop}{Q:List (List KV)}{T:List Jr}{oj:Option Nat}{X:Nat->Prop}{W:List aD}
attribute [local go_sem] Oper.semAt_some
theorem jP{F:Fence}{Q:Exit->Act->World->Prop}{o:Oper}(d:o.guard=none)(hF:∀ f,F.fn f)(hs:o.semAt F.round a.eval=execOp a.eval o)(b:(execOp a.eval o).run Tryz.prog w=.ok (.value v) w')(h:wpListIn F n Tryz.prog ops Q rest (a.put o.dst v) w'):wpListIn F n Tryz.prog ops Q (o :: rest) a w :=
 wpListIn_plain d fun K c=>by
  unfold Oper.wpIn;rw[hs,b,Oper.uponIn_value];exact⟨fun f _=>hF f,c _ _ h⟩
theorem Cg{F:Fence}{x y d:Nat}{Q:Exit->Act->World->Prop}{after:Array Edge}{u r:Value}(hF:∀ f,F.fn f)(hu:a.eval (.tmp x)=u)(e:a.eval (.tmp y)=v)(b:(Builtin.append_ #[46,46] 46 #[u,v]).run Tryz.prog w=.ok r w')(h:wpListIn F n Tryz.prog ops Q rest (a.put (some d) r) w') :
  wpListIn F n Tryz.prog ops Q ({ dst:=some d,op:=.call { callee:=.builtin .append,args:=#[.tmp x,.tmp y],argTypes:=#[46,46] },type:=46,pos:=pos,after:=after,guard:=none } :: rest) a w :=
 jP rfl hF (Oper.semAt_eq _ _ _ (fun c h=>by cases h)) (run_ap (x:=x) (y:=y) rfl rfl hu e b) h
theorem SX.wm{K D F V:Nat->Prop}{m:Nat}(h:SX w K D F V g m Q jv T oj n N)(d:N<=100000000)(c:∀ b,X b->¬ F b)(e:∀ b,X b->∀ cs,¬ Blk w b cs 5)(a:∀ b,X b->b < w.heap.size) :
  ∃ L,Wm w X F D m L/\∀ f t,(wlk (ens L) f t).map En.kl2=Q.flatten.filter (l8 f t):=by
 obtain⟨L,rfl,A,O,S,k,r⟩:=h.map.ex;exact⟨L,⟨A,O,fun es he=>(S.one es he).2,S.few k d,r,c,e,a⟩,fun f t=>yK O f t⟩
theorem xz(x:KV):l8 [] [] x=true:=by
 simp[l8,Lt]
 cases x.1<;>simp[cZ]
def TpD(t:TypeId):Prop:=t=98
theorem sdump{E:aD}(h : SA w K D g E W n N)(hN : N ≤ 100000000) :
    Calls Tryz.prog 15 #[.pointer (some ⟨g, 0, none⟩)] w fun e w' => ∃ v es, e = .returned v ∧ PrA w' w.heap.size v es ∧ es.map En.kl2 = E ∧ Below w.heap.size w w' := by
  have hsm := h.small;have hsz := h.size;obtain⟨F, V, m, Q, jv, T, oj, hX, rfl, hB⟩:= h.open;have b1 := ae w (.cells #[.slice none 0 0] 46);have c1 := aC w [.slice none 0 0] 46;have X1 := hX.keep b1;obtain⟨L, K2, Z⟩:= X1.wm hN (X := (· = w.heap.size)) (fun b e hF => by have e' : b = w.heap.size := e; have := hX.map.lt hF; omega) (fun b e cs k => by
    have e' : b = w.heap.size := e;subst e';exact absurd (c1.eq k).2 (by decide)) (fun b e => by have e' : b = w.heap.size := e; simp; omega)
  have q : (wlk (ens L) [] []).map En.kl2 = Q.flatten := by rw[Z, List.filter_eq_self.2 (fun x _ => xz x)]
  have tW := lV (Tp := TpD) K2 (By.nil _) (By.nil _) (by decide) (by decide) (by unfold TpD; decide) (by unfold TpD; decide);have g0 := X1.blk.cell (i := 0) rfl;obtain⟨G, hE⟩ : ∃ E, Hid (wlk (ens L) [] [] = E) := ⟨_, rfl⟩;rw[hE.out] at tW q;have hEQ := aB q
  have hlen : G.length ≤ N := by have := congrArg List.length q; simp only[List.length_map] at this; omega
  have sz1 : (w.alloc (.cells #[.slice none 0 0] 46)).heap.size = w.heap.size + 1 := by simp
  have aa := aB b1;have ab := aB c1;clear h hX X1 K2 Z q hB;obtain⟨Wa, H⟩ : ∃ Wa, Hid (w.alloc (.cells #[.slice none 0 0] 46) = Wa) := ⟨_, rfl⟩;rw[H.out] at tW g0 sz1 aa ab;have c1 := ab.out;refine(callsIn_wide (n := 0)).1 ?_
  refine callsIn_of_wp_marks Tryz.func15 rfl trivial ?_ rfl;simp only[Tryz.ntmps15, List.size_toArray, List.length_cons, List.length_nil, Nat.reduceAdd, Nat.reduceSub, Array.replicate_succ, Array.replicate_zero, List.push_toArray, List.append_toArray, List.nil_append, List.cons_append];rw[← H.out] at g0;gi_wp2_with (refine⟨trivial, rfl, ?_⟩; gi_at_call 42; rw[H.out]; refine(callsIn_wide.2 tW).mono ?_; rintro e' w1 ⟨bw, rfl, I, IT⟩);have cb := c1.keep I;clear tW;have q1 := I.size;refine gG IT (by rfl) (enters_of Tryz.func123 (by kernel_rfl) rfl) (fun i args n V V' h hc => h.cel hc) (fun i args n V h => by obtain⟨e, kv, vv, s, _, rfl, _⟩:= h; rfl)
    (fun i V => Br w1 V w.heap.size G i) (fun _ _ _ => False)
    (fun i A B hx hr => hx.rcd hr) (fun _ _ _ _ hx _ => hx)
    (fun i V hv => hv.chg) ⟨Chg.refl _ _, _, [], cb, ⟨.inl ⟨rfl, rfl⟩, fun e he => by cases he⟩, rfl⟩ ?_ ?_ ?_
  · rintro l2 i args V Wv hl hlV hrec hiN hG hb ⟨e0, kv, vv, s0, ac, rfl, ad, af, _⟩
    obtain⟨S, nk, hk1⟩:= ad.shape;obtain⟨U, Y, hv1⟩:= af.shape;subst hk1 hv1;simp;gi_wp2;refine⟨Below.refl _ _, ?_⟩;intro V2 W2 t l ag ah u ai r hrec2;obtain⟨e1, kv1, vv1, t1, al, y, am, an, ht1⟩:= ag;obtain rfl : e1 = e0 := by rw[ac] at al; cases al; rfl
    simp at y;obtain⟨rfl, rfl⟩:= y;obtain⟨ov, es, g1, g2, g3⟩:= t.out
    have p : es.length = i := by have := congrArg List.length g3; simp at this; omega
    obtain⟨ao0, cc0, rfl⟩:= g2.shape;have S0 := g1.keep l;have P0 := g2.keep l;have z1 := t.chg.size;have z2 := l.size;have f := ae W2 (.cells #[.slice S e1.kl.length nk, .slice U e1.vl.length Y] 98);have N4 := aC W2 [.slice S e1.kl.length nk, .slice U e1.vl.length Y] 98;have z5 := f.size
    have ap : EnA (W2.alloc (.cells #[.slice S e1.kl.length nk, .slice U e1.vl.length Y] 98)) (fun b => w1.heap.size ≤ b) ⟨.slice S e1.kl.length nk, e1.kl, .slice U e1.vl.length Y, e1.vl⟩:= ⟨(am.keep f).mono (fun b _ hb => by omega), (an.keep f).mono (fun b _ hb => by omega)⟩;obtain⟨ov5, w5, J, P5, M⟩:= yN (e := ⟨.slice S e1.kl.length nk, e1.kl, .slice U e1.vl.length Y, e1.vl⟩) (a := ⟨W2.heap.size, 0, none⟩) 46 (P0.keep f) (by omega) ap (by omega) (N4.cell (i := 0) rfl) (N4.cell (i := 1) rfl);have S4 := S0.keep f;have S5 := M.blk S4 (by decide);have s0c := S0.cell (i := 0) rfl;obtain⟨d, z⟩ : ∃ d, Hid (es ++ [(⟨.slice S e1.kl.length nk, e1.kl, .slice U e1.vl.length Y, e1.vl⟩ : En)] = d) := ⟨_, rfl⟩
    have hes4 : Hid (d.map En.kl2 = (G.take (i + 1)).map En.kl2) := by
      show _ = _
      rw[← z.out, List.map_append, g3, List.take_add_one, ac, List.map_append];rfl
    simp only[z.out] at P5;obtain⟨O, P, rfl⟩:= P5.shape;have s5c := S5.cell (i := 0) rfl;have s5f := S5.free 0;have R := aB P5;have HS5 := aB S5;have HSp := aB M;have HBa := aB f;have HG2 := aB t;have HB2 := aB l;have hsl := S4.cell (i := 0) rfl;replace p := aB p;replace u := aB u;replace ai := aB ai;clear hG ad af hb ah P5 S5 M f N4 ap P0 S0 g1 g2 g3 am an l t S4;gi_wp2_with (have gate := J; clear gate; refine Cg (fun _ => trivial) rfl rfl J ?_; clear J)
    have j : Chg (· = w.heap.size) w5 (w5.setCell ⟨w.heap.size, 0, none⟩ (.slice O d.length P)) := (Chg.refl (fun x => x = w.heap.size) w5).cell (.inl (by rfl)) _
    have C : ∀ b, b = w.heap.size → ∀ cs, ¬ Blk w5 b cs 5 := fun b hb cs k => by
      subst hb;have := (k.eq HS5.out).2;revert this;decide
    have P6 : PrA (w5.setCell ⟨w.heap.size, 0, none⟩ (.slice O d.length P)) w1.heap.size (.slice O d.length P) d := ⟨R.out.ex.imp id (fun⟨b, c, e, hl, hR⟩ => ⟨b, c, e, hl, hR.chg j (by omega)⟩), fun e he => ⟨(R.out.dI e he).k.chg j C, (R.out.dI e he).v.chg j C⟩⟩;refine⟨((bj.of (Tp := TpD) (B := w1.heap.size) HBa.out).trans (HSp.out.keeps (Tp := TpD) rfl)).trans ⟨j.size, fun k o hk h0 _ => (j.same k (lt_of_block h0) (by omega)).trans h0⟩, ⟨?_, _, d, HS5.out.setCell (i := 0) _, P6, hes4.out⟩⟩;exact(((HG2.out.chg.trans (Chg.of (F := fun _ => False) (aj HB2.out HBa.out)) (fun _ _ h => h.elim)).trans HSp.out.chg (fun b h1 h2 => by omega))).trans j (fun b _ h => h)
  · rintro D' W' hD hK hG
    obtain⟨ov, es, g1, g2, g3⟩:= hG.out;obtain⟨ao, cc, rfl⟩:= g2.shape;have g1c := g1.cell (i := 0) rfl;gi_wp2;refine⟨by simp, .inl ⟨_, _, rfl, run_takeDeferred hK, ?_⟩⟩;refine⟨_, results_tmp rfl _ _ _, _, es, rfl, (g2.cel (Rec.put hK rfl hD _).cel).low (by omega), ?_, ?_⟩
    · rw[g3, List.take_length]; exact hEQ.out
    · exact sO aa.out I ((hG.rcd (Rec.put hK rfl hD _)).chg) (Nat.le_refl _)
  · rintro D' c i W' hD hK hi hF
    exact hF.elim
end
end Kv
end
section
namespace Kv
open Go.RowKit Go.Lib Pg
section
variable {g x:Nat}{V:World}{E:List En}{args:Array Value}
attribute [local go_sem] Oper.semAt_some
def tick(g:Nat)(V:World)(x:Nat):World:=V.setCell ⟨g,2,none⟩ (.int .i64 ((x:Int) + 1))
theorem um{V':World}(hb:Below V.heap.size V V'):Below (tick g V x).heap.size (tick g V x) (tick g V' x):=by
 unfold tick;refine⟨hb.os,hb.tape,hb.output,by simpa[World.setCell] using hb.size,fun k b => ?_⟩
 have a:k < V.heap.size:=by simpa[World.setCell] using b
 by_cases e:k=g
 ·subst e;have c:=hb.block k a;simp only[World.setCell,Array.getElem?_modify,c]
 ·rw[Below.heap_setCell _ _ _ _ (by exact e),Below.heap_setCell _ _ _ _ (by exact e)];exact hb.block k a
theorem fj(g x:Nat)(V:World):(tick g V x).heap.size=V.heap.size:=by simp[tick,World.setCell]
theorem dR(g x:Nat)(V:World):Chg (· = g) V (tick g V x):=(Chg.refl (· = g) V).cell (.inl rfl) _
theorem Aq{i n:Nat}(h:ArC E i args n V)(j:∃ cs,Blk V g cs 94):ArC E i args n (tick g V x):=by
 obtain⟨e,kv,vv,s,d,p,c,m,l⟩:=h
 have a:∀ b,b=g->∀ cs,¬ Blk V b cs 5:=fun b hb cs k=>by
  subst hb;obtain⟨f,o⟩:=j;exact absurd (k.eq o).2 (by decide)
 exact⟨e,kv,vv,s,d,p,c.chg (dR g x V) a,m.chg (dR g x V) a,l⟩
def RdC(X:Nat->Prop)(W1:World)(g bs1 bs2 bw:Nat)(V:World):Prop:=Chg X W1 V/\Blk V bs1 [.pointer (some ⟨g,0,none⟩)] 37/\Blk V bs2 [.func (.func 123) #[] #[.pointer (some ⟨bw,0,none⟩)]] 85/\∃ cs,Blk V g cs 94
end
end Kv
end
section
namespace Kv
open Go.RowKit Go.Lib Pg
section
variable {I It:Nat->World->Prop}{Ix:Code->Nat->World->Prop}{W W' V:World}
attribute [local go_sem] Oper.semAt_some
def o8(I It:Nat->World->Prop)(k:Nat):World->Prop:=if k % 2=0 then I (k / 2) else It (k / 2)
theorem jr(I It:Nat->World->Prop)(i:Nat):o8 I It (2 * i + 1)=It i:=by
 unfold o8;rw[if_neg (by omega),show (2 * i + 1) / 2=i by omega]
theorem kt(I It:Nat->World->Prop)(i:Nat):o8 I It (2 * i + 1 + 1)=I (i + 1):=by
 unfold o8;rw[if_pos (by omega),show (2 * i + 1 + 1) / 2=i + 1 by omega]
theorem oq{Tp:TypeId->Prop}{B:Nat}{i:Nat}{e:Exit}{a:Act}(h:oF Tp B I Ix (i + 1) W e a W'):oF Tp B (o8 I It) (fun c k=>Ix c (k / 2)) (2 * i + 1 + 1) W e a W':=by
 have e2:(2 * i + 1 + 1) / 2=i + 1:=by omega
 cases e<;>simp only[oF] at h ⊢
 ·exact⟨h.1,by rw[kt]; exact h.2⟩
 ·exact⟨h.1,by rw[e2]; exact h.2⟩
 ·exact⟨h.1,by rw[e2]; exact h.2⟩
 ·exact⟨h.1,by rw[e2]; exact h.2⟩
def zZ(Tp:TypeId->Prop)(w:World)(N n:Nat)(ps:Array Tmp)(assign body:Code)(tmps:Array Value)(Ar:Nat->Array Value->Nat->World->Prop)(It I:Nat->World->Prop)(Ix:Code->Nat->World->Prop):Prop :=
 ∀ (l i:Nat) (args:Array Value) (V W:World),w.heap.size<=l->l < V.heap.size->(∃ r,V.heap[l]? = some (.loop r))->i < N->It i V->Below V.heap.size V W->Ar i args V.heap.size W ->
  assign.wpIn (Fence.wide.inRound l) n Tryz.prog (Exit.then (fun a1 W1=>Below W.heap.size W W1/\∀ V2 W2,It i V2->Below V2.heap.size V2 W2->Ar i args V2.heap.size W2->(∀ b,b≠l->W2.heap[b]? = W1.heap[b]?)->W2.heap.size=W1.heap.size->V2.heap.size=V.heap.size->(∃ r,W2.heap[l]? = some (.loop r))->body.wpIn (Fence.wide.inRound l) n Tryz.prog (oF Tp w.heap.size I Ix (i + 1) W2) a1 W2) (fun _ _ _=>False)) { tmps:=(ps.zip args).foldl (fun t (p,v)=>t.setIfInBounds p v) tmps,defers:=[] } W
theorem fG{g x k:Nat}(h:k≠g):(tick g V x).heap[k]? = V.heap[k]? := Below.heap_setCell _ _ _ _ h
end
end Kv
end
section
namespace Kv
open Go.RowKit Go.Lib Pg
section
variable {w w' A A':World}{B n c g:Nat}{v u r:Value}{l a Q b:List Int}{x y:Int}{D:Nat->Prop}{ao:Option Addr}{Rd:World->Prop}{cs:List Value}{ops:Array Oper}{rest:List Oper}{pos:String}
attribute [local go_sem] Oper.semAt_some
theorem sy{p:Nat}(h:OB w (B <= ·) v l)(r:B<=w.heap.size)(t:l.length<=1000000000)(hx:0<=x/\x < 256)(s:w.cell? ⟨p,0,none⟩=some (.int .u8 x)) :
  ∃ v' w',(Builtin.append_ #[96,96] 96 #[v,.slice (some ⟨p,0,none⟩) 1 1]).run Tryz.prog w=.ok v' w'/\OB w' (B <= ·) v' (l ++ [x])/\Below B w w':=by
 have n:Oct (l ++ [x]):=fun y hy=>by
  rcases List.mem_append.1 hy with hy | hy
  ·exact h.oct y hy
  ·simp at hy; subst hy; exact hx
 have a:∀ j u,[Value.int .u8 x][j]? = some u->w.cell? ((⟨p,0,none⟩:Addr).add j)=some u:=fun j u d=>by
  match j with
  | 0=>simp at d; subst d; exact s
  | j + 1=>simp at d
 rcases h.ex with⟨rfl,rfl⟩ | ⟨b,c,rfl,hl2,f⟩
 ·obtain⟨g,w',i,f,hw⟩:=fi (w:=w) KB 96 ⟨p,0,none⟩ 1 1 [.int .u8 x] rfl a (by decide) (by decide) (by decide);exact⟨_,w',i,⟨n,.inr ⟨_,g,rfl,r,f⟩⟩,hw.mono r⟩
 ·obtain⟨o,g,w',i,k,m,hw⟩:=dz (w:=w) KB 96 f ⟨p,0,none⟩ 1 1 [.int .u8 x] rfl a (by simp[Value.oneCell']) (by omega) (by omega);refine⟨_,w',i,⟨n,.inr ⟨o,g,by simp,?_,by rw[List.map_append,List.length_append]; exact m⟩⟩,hw.below (fun x e=>by have q:x=b:=e; omega) r⟩;rcases k with rfl | rfl
  ·exact hl2
  ·exact r
theorem eI(h:OB w (B <= ·) v l)(s:B<=w.heap.size)(t:l.length<=1000000000)(hx:0<=x/\x < 256) :
  ∃ v' w',(Builtin.append_ #[96,96] 96 #[v,.slice (some ⟨w.heap.size,0,none⟩) 1 1]).run Tryz.prog (w.alloc (.cells #[.int .u8 x] 5))=.ok v' w'/\OB w' (B <= ·) v' (l ++ [x])/\Below B w w':=by
 have hb:=ae w (.cells #[.int .u8 x] 5);have p:=aC w [.int .u8 x] 5
 have n:Oct (l ++ [x]):=fun y hy=>by
  rcases List.mem_append.1 hy with hy | hy
  ·exact h.oct y hy
  ·simp at hy; subst hy; exact hx
 have a:∀ j u,[Value.int .u8 x][j]? = some u->(w.alloc (.cells #[.int .u8 x] 5)).cell? ((⟨w.heap.size,0,none⟩:Addr).add j)=some u:=fun j u o=>by
  match j with
  | 0=>exact p.cell (i:=0) o
  | j + 1=>simp at o
 rcases h.ex with⟨rfl,rfl⟩ | ⟨b,c,rfl,hl2,d⟩
 ·obtain⟨f,w',g,d,hw⟩:=fi (w:=w.alloc (.cells #[.int .u8 x] 5)) KB 96 ⟨w.heap.size,0,none⟩ 1 1 [.int .u8 x] rfl a (by decide) (by decide) (by decide);exact⟨_,w',g,⟨n,.inr ⟨_,f,rfl,Nat.le_trans s hb.size,d⟩⟩,(hb.mono s).trans (hw.mono (Nat.le_trans s hb.size))⟩
 ·obtain⟨q,f,w',g,k,m,hw⟩:=dz (w:=w.alloc (.cells #[.int .u8 x] 5)) KB 96 (d.keep hb) ⟨w.heap.size,0,none⟩ 1 1 [.int .u8 x] rfl a (by simp[Value.oneCell']) (by omega) (by omega);refine⟨_,w',g,⟨n,.inr ⟨q,f,by simp,?_,by rw[List.map_append,List.length_append]; exact m⟩⟩,(hb.mono s).trans (hw.below (fun x e=>by have r:x=b:=e; omega) (Nat.le_trans s hb.size))⟩;rcases k with rfl | rfl
  ·exact hl2
  ·exact Nat.le_trans s hb.size
theorem OB.sh(h:OB w D v l):∃ ao c,v=.slice ao l.length c:=by
 rcases h.ex with⟨rfl,rfl⟩ | ⟨b,c,rfl,_⟩
 ·exact⟨none,0,rfl⟩
 ·exact⟨_,c,rfl⟩
theorem By.lens(h:By w (.slice ao n c) l):l.length=n/\n<=c/\c<=9223372036854775807:=by
 obtain⟨ao',c',e,h2,h3,_⟩:=h.ex
 cases e;exact⟨rfl,h2,h3⟩
theorem il{a:Act}{o:Oper}{x y:Nat}{T ty:TypeId}(b:o.type=ty)(d:o.op=.call { callee:=.builtin .append,args:=#[.tmp x,.tmp y],argTypes:=#[T,T] })(hx:a.eval (.tmp x)=u)(hy:a.eval (.tmp y)=v)(c:(Builtin.append_ #[T,T] ty #[u,v]).run Tryz.prog w=.ok r w') :
  (execOp a.eval o).run Tryz.prog w=.ok (.value r) w':=by
 subst b;unfold execOp;simp only[d,resolve,invoke,builtin,Sem.run_bind,Sem.run_pure,Result.andThen_ok,List.map_toArray,List.map_cons,List.map_nil,hx,hy,c]
theorem oO(w:World)(D:Nat->Prop):OB w D (.slice none 0 0) []:=⟨fun _ h=>by simp at h,.inl ⟨rfl,rfl⟩⟩
def ArBB(Q:List Int)(i:Nat)(args:Array Value)(_:Nat)(_:World):Prop:=∃ p j,j + 1 + i=Q.length/\Q[j]? = some p/\args=#[.int .i64 (j:Int),.int .u8 p]
theorem kE{Tp:TypeId->Prop}{bs:Nat}(hn:Q.length=n)(K:n<=1000000000)(hb:∀ V,Rd V->V.cell? ⟨bs,0,none⟩=some (.slice ao n c)/\∀ j p,Q[j]? = some p->∃ b o,ao=some ⟨b,o,none⟩/\V.cell? ⟨b,o + j,none⟩=some (.int .u8 p)) :
  Itr Tp 176 #[.pointer (some ⟨bs,0,none⟩)] n (ArBB Q) Rd:=by
 intro l J C W D x g y u;have v:=(hb W (g 0 W u)).1
 have hb:Hid _:=hb
 have hn:Hid _:=hn
 have E:IntKind.i64.wrap ((n:Int) - 1)=(n:Int) - 1:=by rw[IntKind.wrap_i64]; omega
 refine(callsIn_wide (n:=0)).1 ?_
 refine callsIn_of_wp Tryz.func176 rfl trivial ?_ rfl;simp only[Tryz.ntmps176,List.size_toArray,List.length_cons,List.length_nil,Nat.reduceAdd,Nat.reduceSub,Array.replicate_succ,Array.replicate_zero,List.push_toArray,List.append_toArray,List.nil_append,List.cons_append];gi_wp2;gi_loopw [3] (fun r wr=>∃ i:Nat,i<=n/\r=.int .i64 ((n:Int) - 1 - (i:Int))/\W.heap.size<=wr.heap.size/\J i wr) (fun r _=>(intOf r + 1).toNat)
 case atStart=>exact⟨0,Nat.zero_le _,by simp,Nat.le_refl _,u⟩
 case round =>
  clear v;obtain⟨i,hi,rfl,a,d⟩:=hrel;obtain⟨v,e⟩:=hb.out wr (g _ _ d);by_cases h:i < n
  ·obtain⟨j,s⟩:∃ j,j + 1 + i=n:=⟨n - 1 - i,by omega⟩
   obtain⟨p,w⟩:∃ p,Q[j]? = some p:=⟨Q[j]'(by have:=hn.out; omega),List.getElem?_eq_getElem _⟩
   obtain⟨b,o,rfl,F⟩:=e j p w
   have k:(n:Int) - 1 - (i:Int)=(j:Int):=by omega
   have z:Hid (j + 1 + i=n):=s;have t:=y i _ wr wr h d a (Below.refl _ _) ⟨p,j,by rw[hn.out]; exact s,w,rfl⟩;obtain⟨fn,tmps,assign,body,hy,A⟩:=t;rw[k]
   have G:IntKind.i64.wrap ((j:Int) - 1)=(j:Int) - 1:=by rw[IntKind.wrap_i64]; omega
   have z1:(j:Int) < n:=by omega
   clear e k s;gi_wp2;refine⟨rfl,A.mono ?_⟩;rintro H I ⟨m,⟨rfl,f⟩ | ⟨rfl,f⟩⟩
   ·gi_wp2;go_roundw
    case rel=>exact⟨i + 1,by omega,by have:=z.out; congr 1; omega,Nat.le_trans a m.size,f⟩
    case measure=>simp[intOf]
   ·gi_wp2;refine bodyPost_ret (results_none rfl _ _ _) rfl ?_
    exact⟨⟨_,rfl⟩,Nat.le_trans a m.size,.inr ⟨i,h,f⟩⟩
  ·have q:i=n:=by omega
   have k:(n:Int) - 1 - (i:Int) = -1:=by omega
   rw[k]
   have B:Hid (J n wr):=by show J n wr; rw[<- q]; exact d
   clear e k q d;gi_wp2;go_end0;exact⟨⟨_,rfl⟩,a,.inl B.out⟩
theorem mz:Calls Tryz.prog 131 #[.slice ao n c] w fun e w'=>e=.returned (.func (.func 176) #[] #[.pointer (some ⟨w.heap.size,0,none⟩)])/\Blk w' w.heap.size [.slice ao n c] 96/\Below w.heap.size w w':=by
 go_enter Tryz.func131,Tryz.ntmps131;go_wp2;go_ret;exact⟨rfl,aC w _ _,ae w _⟩
def nxt(l:List Int):List Int:=match l.reverse.dropWhile (· == 255) with
 | []=>[]
 | x :: t=>t.reverse ++ [x + 1]
theorem mh:∀ {l:List Int},(∀ x∈l,x=255)->l.dropWhile (· == 255)=[]
 | [],_=>rfl
 | x :: l,h=>by
  have hx:=h x List.mem_cons_self;subst hx;rw[List.dropWhile_cons_of_pos (by decide)];exact mh (fun y hy=>h y (List.mem_cons_of_mem _ hy))
theorem lL(A B:List Int)(hx:x≠255)(h:∀ b∈B,b=255):(A ++ x :: B).reverse.dropWhile (· == 255)=x :: A.reverse:=by
 rw[List.reverse_append,List.reverse_cons,List.append_assoc,List.dropWhile_append_of_pos (fun a c=>by simp[h a (List.mem_reverse.1 c)]),List.singleton_append,List.dropWhile_cons_of_neg (by simp[hx])]
theorem fg(h:∀ x∈l,x=255):nxt l=[]:=by
 have:l.reverse.dropWhile (· == 255)=[]:=by
  exact mh (fun x hx=>h x (List.mem_reverse.1 hx))
 unfold nxt;rw[this]
theorem so{j:Nat}(m:l[j]? = some x)(hx:x≠255)(h:∀ i y,l[i]? = some y->j < i->y=255):nxt l=l.take j ++ [x + 1]:=by
 have b:j < l.length:=(List.getElem?_eq_some_iff.1 m).1
 have e:l=l.take j ++ x :: l.drop (j + 1):=by
  have c:=(List.take_append_drop j l).symm
  have f:l.drop j=x :: l.drop (j + 1):=by
   rw[List.drop_eq_getElem_cons b];congr 1
   exact(List.getElem?_eq_some_iff.1 m).2
  rw[f] at c;exact c
 have g:l.reverse.dropWhile (· == 255)=x :: (l.take j).reverse:=by
  have d:=lL (l.take j) (l.drop (j + 1)) hx (fun a k=>by
   obtain⟨i,hi⟩:=List.getElem?_of_mem k;rw[List.getElem?_drop] at hi;exact h (j + 1 + i) a hi (by omega))
  rw[<- e] at d;exact d
 unfold nxt;rw[g];simp
theorem dJ{b c:Nat}{B:World}(h:Below b w A)(a:Rec c A B)(f:b<=c)(hw:b<=A.heap.size):Below b w B :=
 ⟨a.os.trans h.os,a.tape.trans h.tape,a.output.trans h.output,Nat.le_trans h.size a.size,fun k e=>by
  obtain⟨o,d⟩:∃ o,A.heap[k]? = some o:=⟨A.heap[k]'(by omega),Array.getElem?_eq_getElem _⟩
  rw[a.same k o d (.inl (by omega)),<- d];exact h.block k e⟩
theorem lK{ty:TypeId}(h:Blk A g cs ty)(hr:Rec B A A'):Blk A' g cs ty:=hr.blk h
theorem OB.rcd(h:OB A D v l)(hr:Rec B A A'):OB A' D v l:=by
 refine⟨h.oct,h.ex.imp id ?_⟩;rintro⟨b,c,e,hd,hR⟩;obtain⟨cs,k⟩:=hR.kind;exact⟨b,c,e,hd,hR.same ((hr.blk k).blk.trans k.blk.symm)⟩
theorem By.take(h:By w (.slice ao n c) l)(j:Nat)(t:j<=n):By w (.slice ao j c) (l.take j):=by
 obtain⟨s,hc,hm⟩:=By.lens h;obtain⟨d,q,e,r,f,o,m,k⟩:=h.ex
 cases e
 have hlen:(l.take j).length=j:=by rw[List.length_take]; omega
 refine⟨ao,c,by rw[hlen],by rw[hlen]; omega,f,o,fun x hx=>m x (List.mem_of_mem_take hx),?_⟩;rcases k with rfl | ⟨p,g,e,b,a⟩
 ·exact .inl (by simp)
 ·exact .inr ⟨p,g,e,b,fun i x hi=>a i x (by
   rw[List.getElem?_take] at hi;split at hi
   ·exact hi
   ·cases hi)⟩
theorem oK{o:Nat}(c:w.cell? ⟨g,o,none⟩=some v):(loadVar 96 ⟨g,o,none⟩).run Tryz.prog w=.ok v w:=by go_simp
theorem pN{F:Fence}{Q:Exit->Act->World->Prop}{after:Array Edge}{a:Act}(hF:∀ f,F.fn f)(hu:a.eval (.tmp 14)=u)(d:a.eval (.tmp 17)=v)(b:(Builtin.append_ #[96,96] 96 #[u,v]).run Tryz.prog w=.ok r w')(h:wpListIn F n Tryz.prog ops Q rest (a.put (some 18) r) w') :
  wpListIn F n Tryz.prog ops Q ({ dst:=some 18,op:=.call { callee:=.builtin .append,args:=#[.tmp 14,.tmp 17],argTypes:=#[96,96] },type:=96,pos:=pos,after:=after,guard:=none } :: rest) a w :=
 jP rfl hF (Oper.semAt_eq _ _ _ (fun c h=>by cases h)) (il (x:=14) (y:=17) rfl rfl hu d b) h
theorem ni(h : By w (.slice ao n c) l)(aa : n ≤ 1000000000) :
    Calls Tryz.prog 119 #[.slice ao n c] w fun e w' => ∃ v, e = .returned v ∧ OB w' (w.heap.size ≤ ·) v (nxt l) ∧ Below w.heap.size w w' := by
  obtain⟨hl, hnc, hcm⟩:= By.lens h;have c1 := aC w [.slice ao n c] 96;have b1 := ae w (.cells #[.slice ao n c] 96)
  have s1 : (w.alloc (.cells #[.slice ao n c] 96)).heap.size = w.heap.size + 1 := by simp
  have c2 := aC (w.alloc (.cells #[.slice ao n c] 96)) [.slice none 0 0] 96;have b2 := ae (w.alloc (.cells #[.slice ao n c] 96)) (.cells #[.slice none 0 0] 96)
  have s2 : ((w.alloc (.cells #[.slice ao n c] 96)).alloc (.cells #[.slice none 0 0] 96)).heap.size = w.heap.size + 2 := by simp
  rw[s1] at c2
  have G := c1.keep b2;have H := aj b1 b2;obtain⟨Wa, I⟩ : ∃ Wa, Hid ((w.alloc (.cells #[.slice ao n c] 96)).alloc (.cells #[.slice none 0 0] 96) = Wa) := ⟨_, rfl⟩;rw[I.out] at G c2 s2 H;have HB := aB h;clear h c1 b1 b2 s1;refine(callsIn_wide (n := 0)).1 ?_
  refine callsIn_of_wp_marks Tryz.func119 rfl trivial ?_ rfl;simp only[Tryz.ntmps119, List.size_toArray, List.length_cons, List.length_nil, Nat.reduceAdd, Nat.reduceSub, Array.replicate_succ, Array.replicate_zero, List.push_toArray, List.append_toArray, List.nil_append, List.cons_append];gi_wp2_with (refine⟨trivial, rfl, ?_⟩; gi_at_call 131; rw[I.out]; refine(callsIn_wide.2 mz).mono ?_; rintro e' t ⟨rfl, J, q⟩);rw[s2] at J;have k1 := G.keep q;have k2 := c2.keep q;have f := aj H q;have hs2 := q.size;have IT := kE (Tp := fun _ => False) (bs := w.heap.size + 2) (c := c) (ao := ao) (Q := l) (n := n) (Rd := fun V => Below t.heap.size t V) hl aa (fun V W => ⟨(J.keep W).cell (i := 0) rfl, fun j p C => By.at ((HB.out.keep f).keep W) C⟩);refine gG IT (by rfl) (enters_of Tryz.func176 (by kernel_rfl) rfl) (fun i args n V V' h _ => h) (fun i args n V h => by obtain⟨p, j, _, _, rfl⟩:= h; rfl)
    (fun i V => Below t.heap.size t V ∧ ∀ j x, l[j]? = some x → n ≤ j + i → x = 255)
    (fun c i V => c = .ret ∧ ∃ v, Blk V (w.heap.size + 1) [v] 96 ∧ OB V (w.heap.size ≤ ·) v (nxt l) ∧ Below w.heap.size w V)
    (fun i A B hx K => ⟨dJ hx.1 K (Nat.le_refl _) hx.1.size, hx.2⟩)
    (fun c i A B hx K => ⟨hx.1, by obtain⟨v, h1, h2, L⟩:= hx.2; exact⟨v, K.blk h1, OB.rcd h2 K, dJ L K f.size L.size⟩⟩)
    (fun i V W => W.1) ⟨Below.refl _ _, fun j x C hn => by have := (List.getElem?_eq_some_iff.1 C).1; omega⟩ ?_ ?_ ?_
  · rintro l2 i args V Wv hl2 hlV hrec hiN ⟨hBV, m⟩ hb ⟨p, j, C, hp, rfl⟩
    simp;gi_wp2;refine⟨Below.refl _ _, ?_⟩;intro V2 W2 u d hb2 M N hsz3 hV2 r hrec2;have a := u.trans (hb2.mono u.size);have kb := (k1.keep a).cell (i := 0) rfl;have D := k2.keep a
    have hpo : 0 ≤ p ∧ p < 256 := HB.out.oct p (List.mem_of_getElem? hp);clear m hb hBV N M;by_cases O : p = 255
    · subst O
      gi_wp2;refine⟨bj.of (Below.refl _ _), a, fun j2 x hx hn => ?_⟩;by_cases e : j2 = j
      · subst e; rw[hp] at hx; cases hx; rfl
      · exact d j2 x hx (by omega)
    · have hp6 : p < 255 := by omega
      have BY := By.take ((HB.out.keep f).keep a) j (by omega)
      have P : (l.take j).length = j := by rw[List.length_take]; omega
      have hjn : (j : Int) ≤ c := by omega
      have w9 : IntKind.u8.wrap (p + 1) = p + 1 := by rw[IntKind.wrap_u8]; omega
      have R := aB D;have HW := aB a
      have HNX : Hid (nxt l = l.take j ++ [p + 1]) := so hp O (fun i2 y hy hi => d i2 y hy (by omega));clear D a d;gi_wp2_with (first
        | (have gate := s; clear gate; refine pN (fun _ => trivial) rfl rfl s ?_; clear s)
        | (refine⟨trivial, rfl, ?_⟩; gi_at_call 78; refine(CallsIn.inRound l2 (callsIn_wide.2 (cC BY (by omega)))).mono ?_; rintro e' w5 ⟨v5, rfl, O5, b5⟩; obtain⟨v6, E, s, O6, b6⟩:= eI (B := W2.heap.size) (x := p + 1) O5 b5.size (by omega) (by omega); have z := (R.out.keep b5).kM b6 (R.out.lt); have kc := z.cell (i := 0) rfl; have kfr := z.free 0; obtain⟨a5, c5, rfl⟩:= OB.sh O5; obtain⟨a6, c6, rfl⟩:= OB.sh O6; rw[P] at s ⊢))
      have hlt : w.heap.size + 1 < t.heap.size := k2.lt;have hsW := HW.out.size;have S := b5.trans b6
      have O7 : OB E (W2.heap.size ≤ ·) (.slice a6 (j + 1) c6) (l.take j ++ [p + 1]) := by
        have T := O6;rw[show (l.take j ++ [p + 1]).length = j + 1 by rw[List.length_append, P]; rfl] at T;exact T
      have O8 : OB (E.setCell ⟨w.heap.size + 1, 0, none⟩ (.slice a6 (j + 1) c6)) (W2.heap.size ≤ ·) (.slice a6 (j + 1) c6) (l.take j ++ [p + 1]) := O7.same (fun b _ hb => Below.heap_setCell E _ _ b (by show b ≠ w.heap.size + 1; omega))
      have B6 : Below w.heap.size w E := (f.trans (HW.out.mono f.size)).trans (S.mono (Nat.le_trans f.size hsW));refine⟨(bj.of S).trans ⟨?_, fun k o hk h0 _ => (Below.heap_setCell E _ _ k (by show k ≠ w.heap.size + 1; omega)).trans h0⟩, rfl, _, z.setCell (i := 0) _, ?_, B6.setCell (show w.heap.size ≤ w.heap.size + 1 by omega) _⟩
      · exact((Chg.refl (fun x => x = w.heap.size + 1) E).cell (g := w.heap.size + 1) (i := 0) (.inl rfl) _).size
      · rw[HNX.out]
        exact O8.mono (fun b _ hb => by have := f.size; omega)
  · rintro X Y hD Z ⟨a, m⟩
    have D := k2.keep a;have kc := D.cell (i := 0) rfl;have kf := D.free 0
    have hlt : w.heap.size + 1 < t.heap.size := k2.lt
    have U : (Y.setCell ⟨w.heap.size + 1, 0, none⟩ (.slice none 0 0)).heap[X]? = some (.deferred (some [])) := (Below.heap_setCell Y _ _ X (by show X ≠ w.heap.size + 1; omega)).trans Z;gi_wp2;refine⟨by simp, .inl ⟨_, _, rfl, run_takeDeferred U, ?_⟩⟩;have F := Rec.put (B := t.heap.size) U rfl hD (.deferred none);have k3 := lK (D.setCell (i := 0) (.slice none 0 0)) F;refine⟨_, nP rfl rfl (oK (k3.cell (i := 0) rfl)), _, rfl, ?_, ?_⟩
    · rw[fg (fun x hx => by
        obtain⟨j, C⟩:= List.getElem?_of_mem hx;exact m j x C (by omega))]
      exact oO _ _
    · have T : Below w.heap.size w (Y.setCell ⟨w.heap.size + 1, 0, none⟩ (.slice none 0 0)) := (f.trans (a.mono f.size)).setCell (show w.heap.size ≤ w.heap.size + 1 by omega) _
      exact dJ T F f.size T.size
  · rintro X c i Y hD Z hiN ⟨rfl, v, h1, h2, L⟩
    gi_wp2;refine⟨by simp, .inl ⟨_, _, rfl, run_takeDeferred Z, ?_⟩⟩;have F := Rec.put (B := t.heap.size) Z rfl hD (.deferred none);have k3 := lK h1 F;exact⟨_, nP rfl rfl (oK (k3.cell (i := 0) rfl)), _, rfl, OB.rcd h2 F, dJ L F f.size L.size⟩
theorem bG:Lt (x :: a) (y :: b)<->x < y\/(x=y/\Lt a b):=by
 unfold Lt;rw[cZ];by_cases c:x < y
 ·simp[c]
 ·by_cases d:y < x
  ·rw[if_neg c,if_pos d];constructor
   ·intro h; exact absurd h (by decide)
   ·rintro(h | ⟨h,_⟩)<;>omega
  ·rw[if_neg c,if_neg d];have:x=y:=by omega
   simp[this]
theorem dE:Lt [] (y :: b):=by simp[Lt,cZ]
theorem not_lt_nil:¬ Lt a []:=by cases a<;>simp[Lt,cZ]
theorem ft(s:List Int):Lt (s ++ a) (s ++ b)<->Lt a b:=by
 induction s with
 | nil=>exact Iff.rfl
 | cons x s ih=>rw[List.cons_append,List.cons_append,bG,ih]; simp
theorem eh:∀ l:List Int,(∀ x∈l,x=255)\/∃ A x B,l=A ++ x :: B/\x≠255/\∀ b∈B,b=255
 | []=>.inl (fun _ h=>by simp at h)
 | y :: t=>by
  rcases eh t with h | ⟨A,x,B,rfl,hx,hB⟩
  ·by_cases hy:y=255
   ·exact .inl (fun x hx=>by
     rcases List.mem_cons.1 hx with rfl | hx
     ·exact hy
     ·exact h x hx)
   ·exact .inr ⟨[],y,t,rfl,hy,h⟩
  ·exact .inr ⟨y :: A,x,B,rfl,hx,hB⟩
theorem gw{A B:List Int}(hx:x≠255)(hB:∀ b∈B,b=255):nxt (A ++ x :: B)=A ++ [x + 1]:=by
 unfold nxt;rw[lL A B hx hB];simp
theorem ph(h:nxt l=[]):∀ x∈l,x=255:=by
 rcases eh l with h1 | ⟨A,x,B,rfl,hx,hB⟩
 ·exact h1
 ·rw[gw hx hB] at h;simp at h
theorem ja{c:List Int}(h:nxt l≠[])(hc:l <+: c):Lt c (nxt l):=by
 rcases eh l with a | ⟨A,x,B,rfl,hx,b⟩
 ·exact absurd (fg a) h
 ·obtain⟨t,rfl⟩:=hc;rw[gw hx b,List.append_assoc,ft,List.cons_append,bG];exact .inl (by omega)
theorem jZ:∀ {B t:List Int},(∀ b∈B,b=255)->Oct t->Lt t B\/B <+: t
 | [],_,_,_=>.inr (List.nil_prefix)
 | b :: B,[],_,_=>.inl dE
 | b :: B,z :: t,hB,ht=>by
  have hb:=hB b List.mem_cons_self;have c:=ht z List.mem_cons_self;subst hb;by_cases h:z=255
  ·subst h;rcases jZ (fun b hb=>hB b (List.mem_cons_of_mem _ hb)) (fun y hy=>ht y (List.mem_cons_of_mem _ hy)) with a | a
   ·exact .inl (bG.2 (.inr ⟨rfl,a⟩))
   ·exact .inr (List.cons_prefix_cons.2 ⟨rfl,a⟩)
  ·exact .inl (bG.2 (.inl (by omega)))
theorem fR:∀ {A B c:List Int} {x:Int},(∀ b∈B,b=255)->Oct c->Lt c (A ++ [x + 1])->Lt c (A ++ x :: B)\/(A ++ x :: B) <+: c
 | [],B,[],x,_,_,_=>.inl dE
 | [],B,y :: t,x,hB,hc,h=>by
  rw[List.nil_append,bG] at h;rw[List.nil_append];rcases h with h | ⟨_,h⟩
  ·by_cases e:y=x
   ·subst e;rcases jZ hB (fun z hz=>hc z (List.mem_cons_of_mem _ hz)) with h1 | h1
    ·exact .inl (bG.2 (.inr ⟨rfl,h1⟩))
    ·exact .inr (List.cons_prefix_cons.2 ⟨rfl,h1⟩)
   ·exact .inl (bG.2 (.inl (by omega)))
  ·exact absurd h not_lt_nil
 | a :: A,B,[],x,_,_,_=>.inl dE
 | a :: A,B,y :: t,x,hB,hc,h=>by
  rw[List.cons_append,bG] at h;rw[List.cons_append];rcases h with h | ⟨h1,h2⟩
  ·exact .inl (bG.2 (.inl h))
  ·subst h1;rcases fR hB (fun z hz=>hc z (List.mem_cons_of_mem _ hz)) h2 with h3 | h3
   ·exact .inl (bG.2 (.inr ⟨rfl,h3⟩))
   ·exact .inr (List.cons_prefix_cons.2 ⟨rfl,h3⟩)
theorem iY{c:List Int}(hc:Oct c)(e:¬ l <+: c)(f:¬ Lt c l):¬ Lt c (nxt l):=by
 rcases eh l with d | ⟨A,x,B,rfl,hx,b⟩
 ·rw[fg d]; exact not_lt_nil
 ·rw[gw hx b];intro h;rcases fR b hc h with a | a
  ·exact f a
  ·exact e a
end
end Kv
end
section
namespace Kv
open Go.RowKit Go.Lib Pg
attribute [local go_sem] Oper.semAt_some
end Kv
end
section
namespace Kv
open Go.RowKit Go.Lib Pg
section
variable {w:World}{pg:Option Addr}{lb:Array Value}{K D:Nat->Prop}{W:List aD}{p:List Int}
attribute [local go_sem] Oper.semAt_some
theorem l9{k:Nat}:Calls Tryz.prog 118 #[.pointer pg,.func (.func k) #[] lb] w fun e w'=>e=.returned (.func (.func 169) #[] #[.pointer (some ⟨w.heap.size,0,none⟩),.pointer (some ⟨w.heap.size + 1,0,none⟩)])/\Blk w' w.heap.size [.pointer pg] 37/\Blk w' (w.heap.size + 1) [.func (.func k) #[] lb] 85/\Below w.heap.size w w':=by
 have b1:=ae w (.cells #[.pointer pg] 37);have c1:=aC w [.pointer pg] 37;have b2:=ae (w.alloc (.cells #[.pointer pg] 37)) (.cells #[.func (.func k) #[] lb] 85);have a:=aC (w.alloc (.cells #[.pointer pg] 37)) [.func (.func k) #[] lb] 85
 have s1:(w.alloc (.cells #[.pointer pg] 37)).heap.size=w.heap.size + 1:=by simp
 rw[s1] at a;go_enter Tryz.func118,Tryz.ntmps118;go_wp2;go_ret;exact⟨rfl,c1.keep b2,a,aj b1 b2⟩
theorem SA.oct{g n N:Nat}{E:aD}(h:SA w K D g E W n N):∀ x∈E,Oct x.1:=by
 obtain⟨F,V,m,Q,f,T,i,a,rfl,j⟩:=h.open;obtain⟨L,rfl,A,O,S,k,r⟩:=a.map.ex;intro x hx;rw[dq] at hx;obtain⟨e,he,rfl⟩:=List.mem_map.1 hx;obtain⟨es,d,b⟩:=List.mem_flatten.1 he;obtain⟨p,c,rfl⟩:=List.mem_map.1 d;exact((A.bX p c).1.dI e b).k.oct
theorem sB{k:List Int}(h:p <+: k):¬ Lt k p:=by
 obtain⟨t,rfl⟩:=h;intro h;have:Lt (p ++ t) (p ++ []):=by simpa using h
 rw[ft] at this;exact not_lt_nil this
theorem Ah{x:KV}(hx:Oct x.1):l8 p (nxt p) x=decide (p <+: x.1):=by
 unfold l8;by_cases h:p <+: x.1
 ·have a:=sB h;by_cases hn:nxt p=[]
  ·simp[h,a,hn]
  ·simp[h,a,ja hn h]
 ·by_cases a:Lt x.1 p
  ·simp[h,a]
  ·have hn:nxt p≠[]:=fun e=>by
    rcases jZ (ph e) hx with b | b
    ·exact a b
    ·exact h b
   simp[h,a,hn,iY hx h a]
end
end Kv
end
section
namespace Kv
open Go.RowKit Go.Lib Pg
section
variable {w:World}{K D:Nat->Prop}{v:Value}{l:List Int}{W:List aD}
structure ByU(w:World)(v:Value)(l:List Int):Prop where
 byt:By w v l
 u8:∀ b o n c,v=.slice (some ⟨b,o,none⟩) n c->∃ cs m,w.heap[b]? = some (.cells cs 5 m)
theorem ByU.chg{w':World}(h:ByU w v l)(hc:Chg K w w')(A:∀ b,K b->∃ cs t,Blk w b cs t/\t≠5):ByU w' v l:=by
 have hs:∀ b o n c,v=.slice (some ⟨b,o,none⟩) n c->w'.heap[b]? = w.heap[b]? := fun b o n c e=>by
  obtain⟨cs,m,hb⟩:=h.u8 b o n c e;refine hc.same b (lt_of_block hb) fun g => ?_
  obtain⟨z,t,j,k⟩:=A b g;have:=j.blk.symm.trans hb;simp at this;exact k this.2.1
 refine⟨?_,fun b o n c e=>by rw[hs b o n c e]; exact h.u8 b o n c e⟩;obtain⟨p,c,f,q,r,s,u,y⟩:=h.byt.ex;refine⟨p,c,f,q,r,s,u,y.imp id ?_⟩;rintro⟨b,o,rfl,d,a⟩;exact⟨b,o,rfl,Nat.lt_of_lt_of_le d hc.size,fun i x hi=>by rw[World.cell?_of_block (w:=w) (hs b o _ _ f)]; exact a i x hi⟩
theorem ByU.of(h:OB w D v l):ByU w v l:=by
 refine⟨h.by,fun b o n c e => ?_⟩;rcases h.ex with⟨rfl,_⟩ | ⟨b',c',rfl,_,hR⟩
 ·cases e
 ·cases e;obtain⟨cs,k⟩:=hR.kind;exact⟨_,_,k.blk⟩
theorem SA.kind{g n N:Nat}{E:aD}(h:SA w K D g E W n N):∀ b,K b->∃ cs t,Blk w b cs t/\t≠5:=by
 obtain⟨F,V,m,Q,jv,T,oj,_,_,_,_,_,_,_,O⟩:=h.ex;exact O.kind
end
end Kv
end
end Go.Proofs.YthfepflplbahkaaGreatDoor
