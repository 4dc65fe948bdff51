/- Several texts, joined: KvW, KvX, KvY, KvZ, KvAa, KvAb, KvBa, KvBb, KvBc, KvBh, KvBd, KvBe, KvCa. -/
import Derived.Test.YtliajmpchofiiaaGreatJac
import Derived.Test.YtliajmpchofiiaaGreatJab
import Derived.Shelf.Abstract
import Derived.Shelf.RegionOpen
import Derived.OwnWalkIn
import Derived.TacticsInMore
import Derived.LoopNIn
import Derived.LoopIn
set_option maxRecDepth 100000
set_option maxHeartbeats 8000000
namespace Go.Proofs.YtliajmpchofiiaaGreat
section
namespace Kv
open Go.RowKit Go.Lib Pg
section
variable {E:ay}{k:List Int}{w:World}{K D F V:Nat->Prop}{g n N m:Nat}{W:List ay}{kv jv:Value}{Q:List (List KV)}{T T0:List Jr}{oj:Option Nat}
attribute [local go_sem] Oper.semAt_some
theorem wR(h:cC E)(hn:(look E k).isSome=false):rem E k=E:=by
 obtain⟨X,Y,c,⟨rfl,e⟩ | ⟨x,rfl,e⟩⟩:=h.cut k
 ·exact c.xh
 ·rw[e] at hn; cases hn
theorem sget(h:SA w K D g E W n N)(hk:BK w K kv k)(hn:n<=4000000000000000000)(hN:N<=100000000) :
  Calls Tryz.prog 87 #[.pointer (some ⟨g,0,none⟩),kv] w fun e w'=>∃ v,e=.returned (.tuple #[v,.bool (look E k).isSome])/\OB w' (w.heap.size <= ·) v ((look E k).getD [])/\SA w' K D g E W (n + 1) N/\Chg K w w':=by
 obtain⟨F,V,m,Q,jv,T,oj,hX,rfl,hB⟩:=h.open;obtain⟨ao,c,rfl⟩:=hk.shape;have u:=fE hX hn;have HX:=aj hX;have HB:=aj hB;have HK:=aj hk;clear hX hB hk h;obtain⟨kn,hkn⟩:∃ kn,Hid (k.length=kn):=⟨_,rfl⟩
 rw[hkn.out] at HK ⊢;have ug:=fun w' (X:SX w' K D F V g m Q jv T oj (n + 1) N) (hk:By w' (.slice ao kn c) k)=>kV X hk hN
 obtain⟨r,hr⟩:∃ r,(look Q.flatten k).isSome=r:=⟨_,rfl⟩
 obtain⟨L,hL⟩:∃ L,(look Q.flatten k).getD []=L:=⟨_,rfl⟩
 rw[hr,hL] at ug ⊢;clear hr hL;go_enter Tryz.func87,Tryz.ntmps87;go_wp2_with first
  | (go_at_call 105; go_must (refine u.mono ?_); rintro e w1 ⟨rfl,X1,C1⟩; have c0:=X1.blk.cell (i:=0) rfl)
  | (go_at_call 144; go_must (refine(ug _ X1 (HK.out _ (HX.out.kg C1))).mono ?_); rintro e w2 ⟨v,rfl,O,B⟩; obtain⟨a1,c1,rfl⟩:∃ a1 c1,v=.slice a1 L.length c1:=(by obtain⟨a1,c1,e,_⟩:=O.by.ex; exact⟨a1,c1,e⟩); generalize L.length=ln at *)
 go_ret2;exact⟨_,rfl,O.mono (fun b _ h=>by have:=C1.size; have h':w1.heap.size<=b:=h; show w.heap.size<=b; omega),(X1.keep B).shut rfl HB.out,eV (HX.out.kg C1) (Chg.of B)⟩
theorem zF(hX:SX w K D F V g m Q jv T oj n N)(hB:jo (T.reverse.map Jr.U) W Q.flatten)(hk:BK w K kv k)(hn:n<=4000000000000000000)(hN:N + 2<=100000000)(hr:(look Q.flatten k).isSome=false) :
  Calls Tryz.prog 130 #[.pointer (some ⟨g,0,none⟩),kv] w (Ends w K D g (rem Q.flatten k) W (n + 1) (N + 2) (.bool false)):=by
 obtain⟨ao,c,rfl⟩:=hk.shape;have u:=fE hX hn;have HX:=aj hX;have HB:=aj hB;have HK:=aj hk
 have hN':N<=99999998:=by omega
 replace hN:N<=100000000:=by omega
 clear hX hB hk;obtain⟨kn,hkn⟩:∃ kn,Hid (k.length=kn):=⟨_,rfl⟩
 rw[hkn.out] at HK ⊢;go_enter Tryz.func130,Tryz.ntmps130;go_wp2_with first
  | (go_at_call 105; go_must (refine u.mono ?_); rintro e w1 ⟨rfl,X1,C1⟩; have uh:=rH X1 (HK.out _ (HX.out.kg C1)) hN; rw[hr] at uh)
  | (go_at_call 181; go_must (refine uh.mono ?_); rintro e w2 ⟨rfl,B2⟩; clear uh; replace X1:=X1.keep B2; have C3:=eV (HX.out.kg C1) (Chg.of B2))
 go_ret;have e:=wR HX.out.map.ord.flat hr;exact⟨rfl,K,((X1.shut e.symm (by rw[e]; exact HB.out)).more (by omega)).mono (fun _ _ h=>.inl h),fun b h=>.inl h,C3⟩
theorem vJ(hX:SX w K D F V g m Q jv [] oj n N)(hB:jo ([].reverse.map Jr.U) W Q.flatten)(hk:BK w K kv k)(hn:n<=4000000000000000000)(hN:N + 2<=100000000)(hr:(look Q.flatten k).isSome=true) :
  Calls Tryz.prog 130 #[.pointer (some ⟨g,0,none⟩),kv] w (Ends w K D g (rem Q.flatten k) W (n + 1) (N + 2) (.bool true)):=by
 obtain⟨ao,c,rfl⟩:=hk.shape;have u:=fE hX hn;have HX:=aj hX;have HB:=aj hB;have HK:=aj hk
 have hN':N<=99999998:=by omega
 replace hN:N<=100000000:=by omega
 clear hX hB hk;obtain⟨kn,hkn⟩:∃ kn,Hid (k.length=kn):=⟨_,rfl⟩
 rw[hkn.out] at HK ⊢;go_enter Tryz.func130,Tryz.ntmps130;go_wp2_with first
  | (go_at_call 105; go_must (refine u.mono ?_); rintro e w1 ⟨rfl,X1,C1⟩; have uh:=rH X1 (HK.out _ (HX.out.kg C1)) hN; rw[hr] at uh)
  | (go_at_call 181; go_must (refine uh.mono ?_); rintro e w2 ⟨rfl,B2⟩; clear uh; replace X1:=X1.keep B2; have C3:=eV (HX.out.kg C1) (Chg.of B2))
  | (go_at_call 106; go_must (refine(k9 X1).mono ?_); rintro e y ⟨rfl,hy⟩; replace hy:=hy.symm; subst hy; have c0:=X1.blk.cell (i:=0) rfl; have us:=mdel X1.map (HK.out _ C3) (by omega); rw[iH X1.map.ord,hr] at us)
  | (go_at_call 182; go_must (refine us.mono ?_); rintro e w4 ⟨rfl,F',M',hF,hC⟩)
 go_ret;have X3:=X1.mapped (N':=N) (by have:=X1.tot; have:=sB (E:=Q.flatten) k; rw[gy X1.map.ord]; omega) M' hF (fun _ h=>h) hC;refine⟨rfl,_,((X3.shut (E:=rem Q.flatten k) (W:=W) (gy X1.map.ord k) (oV HB.out)).more (by omega)).mono (fun b _ hb => ?_),fun b hb => ?_,?_⟩
 ·exact .inl hb
 ·rcases hb with⟨hb,_⟩ | hb
  ·exact .inl hb
  ·rcases hF b hb with h1 | h1
   ·exact .inl (X1.own.map b h1)
   ·exact .inr (by have:=C3.size; omega)
 ·exact eV C3 (hC.mono (fun b _ h=>X1.own.map b h))
theorem xB{j:Jr}(hX:SX w K D F V g m Q jv (T0 ++ [j]) oj n N)(hB:jo ((T0 ++ [j]).reverse.map Jr.U) W Q.flatten)(hk:BK w K kv k)(hn:n<=4000000000000000000)(hN:N + 2<=100000000)(hkl:k.length<=1000000000)(hr:(look Q.flatten k).isSome=true) :
  Calls Tryz.prog 130 #[.pointer (some ⟨g,0,none⟩),kv] w (Ends w K D g (rem Q.flatten k) W (n + 1) (N + 2) (.bool true)):=by
 obtain⟨ao,c,rfl⟩:=hk.shape;have u:=fE hX hn;have HX:=aj hX;have HB:=aj hB;have HK:=aj hk;replace hkl:=aj hkl
 have hN':N<=99999998:=by omega
 replace hN:N<=100000000:=by omega
 clear hX hB hk;obtain⟨kn,hkn⟩:∃ kn,Hid (k.length=kn):=⟨_,rfl⟩
 rw[hkn.out] at HK ⊢;go_enter Tryz.func130,Tryz.ntmps130;go_wp2_with first
  | (go_at_call 105; go_must (refine u.mono ?_); rintro e w1 ⟨rfl,X1,C1⟩; have uh:=rH X1 (HK.out _ (HX.out.kg C1)) hN; rw[hr] at uh)
  | (go_at_call 181; go_must (refine uh.mono ?_); rintro e w2 ⟨rfl,B2⟩; clear uh; replace X1:=X1.keep B2; have C3:=eV (HX.out.kg C1) (Chg.of B2))
  | (go_at_call 106; go_must (refine(mb X1 (HK.out _ C3) (by have:=hkl.out; omega) hN).mono ?_); rintro e w3 ⟨rfl,K2,V2,j',hj',X2,hK2,C2⟩; have C4:=eV C3 C2; have c0:=X2.blk.cell (i:=0) rfl; have us:=mdel X2.map (HK.out _ C4) (by omega); rw[iH X2.map.ord,hr] at us)
  | (go_at_call 182; go_must (refine us.mono ?_); rintro e w4 ⟨rfl,F',M',hF,hC⟩)
 go_ret;have X3:=X2.mapped (N':=N + 1) (by have:=X2.tot; have:=sB (E:=Q.flatten) k; rw[gy X2.map.ord]; omega) M' hF (fun _ h=>h) hC;refine⟨rfl,_,((X3.shut (E:=rem Q.flatten k) (W:=W) (gy X2.map.ord k) (mj HB.out hj' (vQ HX.out.map.ord.flat k))).more (by omega)).mono (fun b _ hb => ?_),fun b hb => ?_,?_⟩
 ·rcases hb with hb | hb
  ·exact .inl hb
  ·exact .inr (by have:=C3.size; omega)
 ·rcases hb with⟨hb,_⟩ | hb
  ·exact(hK2 b hb).imp id (fun h=>by have:=C3.size; omega)
  ·rcases hF b hb with h1 | h1
   ·exact(hK2 b (X2.own.map b h1)).imp id (fun h=>by have:=C3.size; omega)
   ·exact .inr (by have:=C4.size; omega)
 ·exact C4.trans hC (fun b hb h=>(hK2 b (X2.own.map b h)).elim id (fun h=>by have:=C3.size; omega))
theorem sdel(h:SA w K D g E W n N)(hk:BK w K kv k)(hkl:k.length<=1000000000)(hn:n<=4000000000000000000)(hN:N + 2<=100000000) :
  Calls Tryz.prog 130 #[.pointer (some ⟨g,0,none⟩),kv] w (Ends w K D g (rem E k) W (n + 1) (N + 2) (.bool (look E k).isSome)):=by
 obtain⟨F,V,m,Q,jv,T,oj,hX,rfl,hB⟩:=h.open
 cases hr:(look Q.flatten k).isSome with
 | false=>exact zF hX hB hk hn hN hr
 | true =>
  rcases List.eq_nil_or_concat T with rfl | ⟨T0,j,rfl⟩
  ·exact vJ hX hB hk hn hN hr
  ·rw[List.concat_eq_append] at hX hB;exact xB hX hB hk hn hN hkl hr
theorem scopy(h:SA w K D g E W n N)(hN:N<=100000000) :
  Calls Tryz.prog 35 #[.pointer (some ⟨g,0,none⟩)] w fun e w'=>∃ g' K',e=.returned (.pointer (some ⟨g',0,none⟩))/\SA w' K' D g' E [] 0 N/\(∀ b,K' b->w.heap.size<=b)/\Below w.heap.size w w':=by
 obtain⟨F,V,m,Q,jv,T,oj,hX,rfl,hB⟩:=h.open;have u:=mcopy hX.map hN;have c0:=hX.blk.cell (i:=0) rfl;clear hX hB h;go_enter Tryz.func35,Tryz.ntmps35;go_wp2_with (go_at_call 90; refine u.mono ?_; rintro e w1 ⟨g',F',rfl,M,hF,B⟩);go_ret;have al:=aa w1 (.cells #[.pointer (some ⟨g',0,none⟩),.slice none 0 0,.int .i64 0] 99);have bl:=au w1 [.pointer (some ⟨g',0,none⟩),.slice none 0 0,.int .i64 0] 99;have M2:=M.keep al;refine⟨w1.heap.size,fun b=>F' b\/b=w1.heap.size,rfl,⟨_,fun _=>False,_,_,_,[],none,bl,M2,rfl,⟨.inl ⟨rfl,rfl,rfl⟩,fun _ h=>by simp at h,List.nodup_nil⟩,trivial,by have:=M.len; simp only[tot,List.map_nil,List.sum_nil]; omega,by decide,?_⟩,fun b hb=>hb.elim (hF b) (fun e=>by have:=B.size; omega),ai B al⟩;refine⟨.inr rfl,fun b hb=>.inl hb,fun _ h=>h.elim,(fun _ h=>by cases h),(fun _ h=>by simp at h),fun b hb => ?_,(fun h=>by have:=M.lt h; omega),fun _ h=>h.elim,(fun _ h=>by cases h),(fun _ h=>by simp at h),fun _ h=>h.elim⟩;rcases hb with hb | rfl
 ·obtain⟨L,_,A,_⟩:=M2.ex;exact A.kind _ hb
 ·exact⟨_,_,bl,by decide⟩
end
end Kv
end
section
namespace Kv
open Go.RowKit Go.Lib Pg
attribute [local go_sem] Oper.semAt_some
end Kv
end
section
namespace Kv
open Go.RowKit Go.Lib Pg
attribute [local go_sem] Oper.semAt_some
theorem mi {fn:Func} {p:Tmp} {ty:TypeId} (h:fn.results=#[.cell p ty]) {tmps:Array Value} {w:World} {g:Nat} {v:Value} (hp:tmps.getD p undef=.pointer (some ⟨g,0,none⟩)) (hl:(loadVar ty ⟨g,0,none⟩).run Tryz.prog w=.ok v w):(results fn tmps).run Tryz.prog w=.ok v w:=by
 have hp':tmps[p]?.getD undef=.pointer (some ⟨g,0,none⟩):=by simpa using hp
 simp[results,h,hp',asAddr,hl]
end Kv
end
section
namespace Kv
open Go.RowKit Go.Lib Pg
attribute [local go_sem] Oper.semAt_some
end Kv
end
section
namespace Kv
open Go.RowKit Go.Lib Pg
section
variable {w w':World}{B:Nat}{xs:List Value}{K:Nat->Prop}
attribute [local go_sem] Oper.semAt_some
theorem Rw.rcd{E:TypeId}{k b n c:Nat}(h:Rw w E k b n c xs)(hr:Rec B w w'):Rw w' E k b n c xs:=by
 obtain⟨cs,hk⟩:=h.kind;exact h.same (by rw[(hr.blk hk).blk,hk.blk])
theorem rM{w1:World}(h:Chg K w w1)(hr:Rec B w1 w')(hB:w.heap.size<=B):Chg K w w' :=
 ⟨hr.os.trans h.os,hr.tape.trans h.tape,hr.output.trans h.output,Nat.le_trans h.size hr.size,fun b hb hk=>by
  have e:=h.same b hb hk;rw[<- e]
  have hlt:b < w1.heap.size:=Nat.lt_of_lt_of_le hb h.size;rw[Array.getElem?_eq_getElem hlt];exact hr.same b _ (Array.getElem?_eq_getElem hlt) (.inl (by omega))⟩
end
end Kv
end
section
namespace Kv
open Go.RowKit Go.Lib Pg
attribute [local go_sem] Oper.semAt_some
end Kv
end
section
namespace Kv
open Go.RowKit Go.Lib Pg
section
variable {n g N:Nat}{ops:Array Oper}{rest:List Oper}{a:Act}{w w':World}{v jv:Value}{pos:String}{K D:Nat → Prop}{Q:List (List KV)}{T:List Jr}{oj:Option Nat}{X:Nat->Prop}{W:List ay}
attribute [local go_sem] Oper.semAt_some
theorem iE{F:Fence}{Q:Exit->Act->World->Prop}{o:Oper}(hg:o.guard=none)(hF:∀ f,F.fn f)(hs:o.semAt F.round a.eval=execOp a.eval o)(hrun:(execOp a.eval o).run Tryz.prog w=.ok (.value v) w')(h:wpListIn F n Tryz.prog ops Q rest (a.put o.dst v) w'):wpListIn F n Tryz.prog ops Q (o :: rest) a w :=
 wpListIn_plain hg fun K hK=>by
  unfold Oper.wpIn;rw[hs,hrun,Oper.uponIn_value];exact⟨fun f _=>hF f,hK _ _ h⟩
theorem Aw{F:Fence}{x y d:Nat}{Q:Exit->Act->World->Prop}{after:Array Edge}{u r:Value}(hF:∀ f,F.fn f)(hu:a.eval (.tmp x)=u)(hv:a.eval (.tmp y)=v)(hr:(Builtin.append_ #[34,34] 34 #[u,v]).run Tryz.prog w=.ok r w')(h:wpListIn F n Tryz.prog ops Q rest (a.put (some d) r) w') :
  wpListIn F n Tryz.prog ops Q ({ dst:=some d,op:=.call { callee:=.builtin .append,args:=#[.tmp x,.tmp y],argTypes:=#[34,34] },type:=34,pos:=pos,after:=after,guard:=none } :: rest) a w :=
 iE rfl hF (Oper.semAt_eq _ _ _ (fun c h=>by cases h)) (run_ap (x:=x) (y:=y) rfl rfl hu hv hr) h
theorem SX.wm{K D F V:Nat->Prop}{m:Nat}(h:SX w K D F V g m Q jv T oj n N)(hN:N<=100000000)(h1:∀ b,X b->¬ F b)(h2:∀ b,X b->∀ cs,¬ Blk w b cs 5)(h3:∀ b,X b->b < w.heap.size) :
  ∃ L,Wm w X F D m L/\∀ f t,(wlk (ens L) f t).map En.kl2=Q.flatten.filter (gV f t):=by
 obtain⟨L,rfl,A,O,S,k,r⟩:=h.map.ex;exact⟨L,⟨A,O,fun es he=>(S.one es he).2,S.few k hN,r,h1,h2,h3⟩,fun f t=>yy O f t⟩
theorem xc(x:KV):gV [] [] x=true:=by
 simp[gV,Lt]
 cases x.1<;>simp[cA]
def TpD(t:TypeId):Prop:=t=110
theorem sdump{E:ay}(h : SA w K D g E W n N)(hN : N ≤ 100000000) :
    Calls Tryz.prog 30 #[.pointer (some ⟨g, 0, none⟩)] w fun e w' => ∃ v es, e = .returned v ∧ PrA w' w.heap.size v es ∧ es.map En.kl2 = E ∧ Below w.heap.size w w' := by
  have hsm := h.small;have hsz := h.size;obtain⟨F, V, m, Q, jv, T, oj, hX, rfl, hB⟩:= h.open;have b1 := aa w (.cells #[.slice none 0 0] 34);have c1 := au w [.slice none 0 0] 34;have X1 := hX.keep b1;obtain⟨L, K2, hwl⟩:= X1.wm hN (X := (· = w.heap.size)) (fun b e hF => by have e' : b = w.heap.size := e; have := hX.map.lt hF; omega) (fun b e cs k => by
    have e' : b = w.heap.size := e;subst e';exact absurd (c1.eq k).2 (by decide)) (fun b e => by have e' : b = w.heap.size := e; simp; omega)
  have hEq : (wlk (ens L) [] []).map En.kl2 = Q.flatten := by rw[hwl, List.filter_eq_self.2 (fun x _ => xc x)]
  have tW := lL (Tp := TpD) K2 (By.nil _) (By.nil _) (by decide) (by decide) (by unfold TpD; decide) (by unfold TpD; decide);have g0 := X1.blk.cell (i := 0) rfl;obtain⟨En0, hE⟩ : ∃ E, Hid (wlk (ens L) [] [] = E) := ⟨_, rfl⟩;rw[hE.out] at tW hEq;have hEQ := aj hEq
  have hlen : En0.length ≤ N := by have := congrArg List.length hEq; simp only[List.length_map] at this; omega
  have sz1 : (w.alloc (.cells #[.slice none 0 0] 34)).heap.size = w.heap.size + 1 := by simp
  have HB1 := aj b1;have HC1 := aj c1;clear h hX X1 K2 hwl hEq hB;obtain⟨Wa, hWa⟩ : ∃ Wa, Hid (w.alloc (.cells #[.slice none 0 0] 34) = Wa) := ⟨_, rfl⟩;rw[hWa.out] at tW g0 sz1 HB1 HC1;have c1 := HC1.out;refine(callsIn_wide (n := 0)).1 ?_
  refine callsIn_of_wp_marks Tryz.func30 rfl trivial ?_ rfl;simp only[Tryz.ntmps30, List.size_toArray, List.length_cons, List.length_nil, Nat.reduceAdd, Nat.reduceSub, Array.replicate_succ, Array.replicate_zero, List.push_toArray, List.append_toArray, List.nil_append, List.cons_append];rw[← hWa.out] at g0;gi_wp2_with (refine⟨trivial, rfl, ?_⟩; gi_at_call 79; rw[hWa.out]; refine(callsIn_wide.2 tW).mono ?_; rintro e' w1 ⟨bw, rfl, hB1, IT⟩);have cb := c1.keep hB1;clear tW;have q1 := hB1.size;refine gk IT (by rfl) (enters_of Tryz.func185 (by kernel_rfl) rfl) (fun i args n V V' h hc => h.cel hc) (fun i args n V h => by obtain⟨e, kv, vv, s, _, rfl, _⟩:= h; rfl)
    (fun i V => zp w1 V w.heap.size En0 i) (fun _ _ _ => False)
    (fun i A B hx hr => hx.rcd hr) (fun _ _ _ _ hx _ => hx)
    (fun i V hv => hv.chg) ⟨Chg.refl _ _, _, [], cb, ⟨.inl ⟨rfl, rfl⟩, fun e he => by cases he⟩, rfl⟩ ?_ ?_ ?_
  · rintro l2 i args V Wv hl hlV hrec hiN hG hb ⟨e0, kv, vv, s0, he0, rfl, hk0, hv0, _⟩
    obtain⟨ak, nk, hk1⟩:= hk0.shape;obtain⟨av, nv, hv1⟩:= hv0.shape;subst hk1 hv1;simp;gi_wp2;refine⟨Below.refl _ _, ?_⟩;intro V2 W2 hG2 hb2 hAr2 hoth hsz3 hV2 r hrec2;obtain⟨e1, kv1, vv1, t1, he1, harr, hk2, hv2, ht1⟩:= hAr2;obtain rfl : e1 = e0 := by rw[he0] at he1; cases he1; rfl
    simp at harr;obtain⟨rfl, rfl⟩:= harr;obtain⟨ov, es, g1, g2, g3⟩:= hG2.out
    have hlen2 : es.length = i := by have := congrArg List.length g3; simp at this; omega
    obtain⟨ao0, cc0, rfl⟩:= g2.shape;have S0 := g1.keep hb2;have P0 := g2.keep hb2;have z1 := hG2.chg.size;have z2 := hb2.size;have hBa := aa W2 (.cells #[.slice ak e1.kl.length nk, .slice av e1.vl.length nv] 110);have N4 := au W2 [.slice ak e1.kl.length nk, .slice av e1.vl.length nv] 110;have z5 := hBa.size
    have hE4 : EnA (W2.alloc (.cells #[.slice ak e1.kl.length nk, .slice av e1.vl.length nv] 110)) (fun b => w1.heap.size ≤ b) ⟨.slice ak e1.kl.length nk, e1.kl, .slice av e1.vl.length nv, e1.vl⟩:= ⟨(hk2.keep hBa).mono (fun b _ hb => by omega), (hv2.keep hBa).mono (fun b _ hb => by omega)⟩;obtain⟨ov5, w5, hr5, P5, hS5⟩:= yo (e := ⟨.slice ak e1.kl.length nk, e1.kl, .slice av e1.vl.length nv, e1.vl⟩) (a := ⟨W2.heap.size, 0, none⟩) 34 (P0.keep hBa) (by omega) hE4 (by omega) (N4.cell (i := 0) rfl) (N4.cell (i := 1) rfl);have S4 := S0.keep hBa;have S5 := hS5.blk S4 (by decide);have s0c := S0.cell (i := 0) rfl;obtain⟨es2, hes2⟩ : ∃ es2, Hid (es ++ [(⟨.slice ak e1.kl.length nk, e1.kl, .slice av e1.vl.length nv, e1.vl⟩ : En)] = es2) := ⟨_, rfl⟩
    have hes4 : Hid (es2.map En.kl2 = (En0.take (i + 1)).map En.kl2) := by
      show _ = _
      rw[← hes2.out, List.map_append, g3, List.take_add_one, he0, List.map_append];rfl
    simp only[hes2.out] at P5;obtain⟨ao5, cc5, rfl⟩:= P5.shape;have s5c := S5.cell (i := 0) rfl;have s5f := S5.free 0;have HP5 := aj P5;have HS5 := aj S5;have HSp := aj hS5;have HBa := aj hBa;have HG2 := aj hG2;have HB2 := aj hb2;have hsl := S4.cell (i := 0) rfl;replace hlen2 := aj hlen2;replace hsz3 := aj hsz3;replace hV2 := aj hV2;clear hG hk0 hv0 hb hoth P5 S5 hS5 hBa N4 hE4 P0 S0 g1 g2 g3 hk2 hv2 hb2 hG2 S4;gi_wp2_with (have gate := hr5; clear gate; refine Aw (fun _ => trivial) rfl rfl hr5 ?_; clear hr5)
    have hC6 : Chg (· = w.heap.size) w5 (w5.setCell ⟨w.heap.size, 0, none⟩ (.slice ao5 es2.length cc5)) := (Chg.refl (fun x => x = w.heap.size) w5).cell (.inl (by rfl)) _
    have hboU : ∀ b, b = w.heap.size → ∀ cs, ¬ Blk w5 b cs 5 := fun b hb cs k => by
      subst hb;have := (k.eq HS5.out).2;revert this;decide
    have P6 : PrA (w5.setCell ⟨w.heap.size, 0, none⟩ (.slice ao5 es2.length cc5)) w1.heap.size (.slice ao5 es2.length cc5) es2 := ⟨HP5.out.ex.imp id (fun⟨b, c, e, hl, hR⟩ => ⟨b, c, e, hl, hR.chg hC6 (by omega)⟩), fun e he => ⟨(HP5.out.cQ e he).k.chg hC6 hboU, (HP5.out.cQ e he).v.chg hC6 hboU⟩⟩;refine⟨((aX.of (Tp := TpD) (B := w1.heap.size) HBa.out).trans (HSp.out.keeps (Tp := TpD) rfl)).trans ⟨hC6.size, fun k o hk h0 _ => (hC6.same k (lt_of_block h0) (by omega)).trans h0⟩, ⟨?_, _, es2, HS5.out.setCell (i := 0) _, P6, hes4.out⟩⟩;exact(((HG2.out.chg.trans (Chg.of (F := fun _ => False) (ai HB2.out HBa.out)) (fun _ _ h => h.elim)).trans HSp.out.chg (fun b h1 h2 => by omega))).trans hC6 (fun b _ h => h)
  · rintro D' W' hD hK hG
    obtain⟨ov, es, g1, g2, g3⟩:= hG.out;obtain⟨ao, cc, rfl⟩:= g2.shape;have g1c := g1.cell (i := 0) rfl;gi_wp2;refine⟨by simp, .inl ⟨_, _, rfl, run_takeDeferred hK, ?_⟩⟩;refine⟨_, results_tmp rfl _ _ _, _, es, rfl, (g2.cel (Rec.put hK rfl hD _).cel).low (by omega), ?_, ?_⟩
    · rw[g3, List.take_length]; exact hEQ.out
    · exact ra HB1.out hB1 ((hG.rcd (Rec.put hK rfl hD _)).chg) (Nat.le_refl _)
  · rintro D' c i W' hD hK hi hF
    exact hF.elim
end
end Kv
end
section
namespace Kv
open Go.RowKit Go.Lib Pg
section
variable {g x:Nat}{V W1:World}{E:List En}{args:Array Value}{X:Nat → Prop}
attribute [local go_sem] Oper.semAt_some
def tick(g:Nat)(V:World)(x:Nat):World:=V.setCell ⟨g,2,none⟩ (.int .i64 ((x:Int) + 1))
def ItrC(Tp:TypeId->Prop)(g x0:Nat)(gf:Nat)(lb:Array Value)(N:Nat)(Ar:Nat->Array Value->Nat->World->Prop)(Rd:World->Prop):Prop :=
 ∀ (l:Nat) (J0:World->Prop) (J Jt Jx:Nat->World->Prop) (W:World),St W.heap.size J0->(∀ i,St W.heap.size (J i))->(∀ i,St W.heap.size (Jt i))->(∀ i,St W.heap.size (Jx i))->g < W.heap.size ->
  (∀ V,J0 V->V.cell? ⟨g,2,none⟩=some (.int .i64 x0)/\V.frozen? ⟨g,2,none⟩=false/\Rd V/\J 0 (tick g V x0)) ->
  (∀ i V,J i V->V.cell? ⟨g,2,none⟩=some (.int .i64 ((x0 + 1 + i:Nat):Int))/\V.frozen? ⟨g,2,none⟩=false/\Rd V/\(i < N->Jt i (tick g V (x0 + 1 + i)))) ->
  (∀ i args V V',i < N->Jt i V->W.heap.size<=V.heap.size->Below V.heap.size V V'->Ar i args V.heap.size V'->YieldAt Fence.wide 0 Tryz.prog l args V' fun e V''=>aX Tp W.heap.size V' V''/\((e=.returned (.bool true)/\J (i + 1) V'')\/(e=.returned (.bool false)/\Jx (i + 1) V''))) ->
  J0 W ->
  Calls Tryz.prog gf (#[.func (.yield l) #[] #[]] ++ lb) W fun e W'=>(∃ v,e=.returned v)/\W.heap.size<=W'.heap.size/\(J N W'\/∃ i,i < N/\Jx (i + 1) W')
theorem qV{V':World}(hb:Below V.heap.size V V'):Below (tick g V x).heap.size (tick g V x) (tick g V' x):=by
 unfold tick;refine⟨hb.os,hb.tape,hb.output,by simpa[World.setCell] using hb.size,fun k hk => ?_⟩
 have hk':k < V.heap.size:=by simpa[World.setCell] using hk
 by_cases e:k=g
 ·subst e;have h1:=hb.block k hk';simp only[World.setCell,Array.getElem?_modify,h1]
 ·rw[Below.heap_setCell _ _ _ _ (by exact e),Below.heap_setCell _ _ _ _ (by exact e)];exact hb.block k hk'
theorem eA(g x:Nat)(V:World):(tick g V x).heap.size=V.heap.size:=by simp[tick,World.setCell]
theorem dK(g x:Nat)(V:World):Chg (· = g) V (tick g V x):=(Chg.refl (· = g) V).cell (.inl rfl) _
theorem xP{i n:Nat}(h:ArC E i args n V)(hg:∃ cs,Blk V g cs 99):ArC E i args n (tick g V x):=by
 obtain⟨e,kv,vv,s,h1,h2,h3,h4,h5⟩:=h
 have hU:∀ b,b=g->∀ cs,¬ Blk V b cs 5:=fun b hb cs k=>by
  subst hb;obtain⟨cs',k'⟩:=hg;exact absurd (k.eq k').2 (by decide)
 exact⟨e,kv,vv,s,h1,h2,h3.chg (dK g x V) hU,h4.chg (dK g x V) hU,h5⟩
def RdC(X:Nat->Prop)(W1:World)(g bs1 bs2 bw:Nat)(V:World):Prop:=Chg X W1 V/\Blk V bs1 [.pointer (some ⟨g,0,none⟩)] 31/\Blk V bs2 [.func (.func 185) #[] #[.pointer (some ⟨bw,0,none⟩)]] 147/\∃ cs,Blk V g cs 99
theorem pr{Tp : TypeId → Prop}{bs1 bs2 bw x0:Nat}(IT : Itr Tp 185 #[.pointer (some ⟨bw, 0, none⟩)] E.length (ArC E) (fun V => Chg X W1 V))(hT : ¬ Tp 145)(hx : x0 + E.length ≤ 3000000000000000000) :
    ItrC Tp g x0 192 #[.pointer (some ⟨bs1, 0, none⟩), .pointer (some ⟨bs2, 0, none⟩)] E.length (ArC E) (RdC X W1 g bs1 bs2 bw) := by
  intro l J0 J Jt Jx W hS0 hSJ hSt hSx hgW hJ0 hJ hY h0;have B1 := aa W (.cells #[.func (.yield l) #[] #[]] 145);have Y1 := au W [.func (.yield l) #[] #[]] 145;have J1 := hS0 _ _ h0 (Rec.of B1);obtain⟨q1, q2, ⟨r1, r2, r3, r4⟩, q3⟩:= hJ0 _ J1
  have s1 : (W.alloc (.cells #[.func (.yield l) #[] #[]] 145)).heap.size = W.heap.size + 1 := by simp
  have cs := r2.cell (i := 0) rfl;have uc := jx (g := g) q1 q2 (by omega) (by omega);have Yt := Y1.chg (dK g x0 _) (by omega);have hst := (hJ 0 _ q3).2.2.1;have cw := hst.2.2.1.cell (i := 0) rfl;have HY := aj hY;have HJ := aj hJ;clear hJ0 hJ hY h0 J1 B1 Y1 r1 r2 r3 r4 q1 q2;obtain⟨Wa, hWa⟩ : ∃ Wa, Hid (W.alloc (.cells #[.func (.yield l) #[] #[]] 145) = Wa) := ⟨_, rfl⟩;rw[hWa.out] at q3 s1 uc Yt hst cw;refine(callsIn_wide (n := 0)).1 ?_
  refine callsIn_of_wp_marks Tryz.func192 rfl trivial ?_ rfl;simp only[Tryz.ntmps192, List.size_toArray, List.length_cons, List.length_nil, Nat.reduceAdd, Nat.reduceSub, Array.replicate_succ, Array.replicate_zero, List.push_toArray, List.append_toArray, List.nil_append, List.cons_append];have tsz := eA g x0 Wa;gi_wp2_with (refine⟨trivial, rfl, ?_⟩; gi_at_call 105; rw[hWa.out]; refine(callsIn_wide.2 uc).mono ?_; rintro e' w0 ⟨rfl, hw0⟩; obtain rfl : w0 = tick g Wa x0 := hw0; clear uc cs);generalize tick g Wa x0 = Wt at *
  have sT : Wt.heap.size = W.heap.size + 1 := by omega
  refine gk IT (by rfl) (enters_of Tryz.func185 (by kernel_rfl) rfl) (fun i args n V V' h hc => h.cel hc) (fun i args n V h => by obtain⟨e, kv, vv, s, _, rfl, _⟩:= h; rfl)
    (fun i V => J i V ∧ W.heap.size + 1 ≤ V.heap.size ∧ Blk V W.heap.size [.func (.yield l) #[] #[]] 145)
    (fun c i V => c = .ret ∧ Jx i V ∧ W.heap.size + 1 ≤ V.heap.size)
    (fun i A B hx hr => ⟨hSJ i A B hx.1 (hr.mono (by omega)), Nat.le_trans hx.2.1 hr.size, iR hx.2.2 hr⟩)
    (fun c i A B hx hr => ⟨hx.1, hSx i A B hx.2.1 (hr.mono (by omega)), Nat.le_trans hx.2.2 hr.size⟩)
    (fun i V hv => (HJ.out i V hv.1).2.2.1.1) ⟨q3, by omega, Yt⟩ ?_ ?_ ?_
  · rintro l2 i args V Wv hl hlV hrec hiN ⟨hJi, hsz, hY2⟩ hb ⟨e0, kv, vv, s0, he0, rfl, hk0, hv0, _⟩
    obtain⟨ak, nk, hk1⟩:= hk0.shape;obtain⟨av, nv, hv1⟩:= hv0.shape;subst hk1 hv1;simp;gi_wp2;refine⟨Below.refl _ _, ?_⟩;intro V2 W2 hJ2 hsz2 hYb hb2 hAr2 hoth hsz3 hV2 r hrec2;obtain⟨p1, p2, ⟨k1, k2, k3, k4⟩, p3⟩:= HJ.out i V2 hJ2
    have glt : g < V2.heap.size := by obtain⟨cs, k⟩:= k4; exact k.lt
    have c2 : W2.cell? ⟨g, 2, none⟩ = some (.int .i64 ((x0 + 1 + i : Nat) : Int)) := by rw[hb2.cell (p := ⟨g, 2, none⟩) glt]; exact p1
    have k4W : ∃ cs, Blk W2 g cs 99 := by obtain⟨cs, k⟩:= k4; exact⟨cs, k.keep hb2⟩
    have f2 : W2.frozen? ⟨g, 2, none⟩ = false := by obtain⟨cs, k⟩:= k4W; exact k.free 2
    have cs2 := (k2.keep hb2).cell (i := 0) rfl;have uc2 := jx (g := g) c2 f2 (by omega) (by omega);have hYW := (hYb.keep hb2).chg (dK g (x0 + 1 + i) W2) (by omega);have yb := hYW.cell (i := 0) rfl;have hA3 := xP (x := x0 + 1 + i) hAr2 k4W;rw[← eA g (x0 + 1 + i) V2] at hA3;have hYY := HY.out i _ _ _ hiN (p3 hiN) (by rw[eA]; omega) (qV (x := x0 + 1 + i) hb2) hA3;obtain⟨fn, tmps, assign, body, hy, hR⟩:= hYY
    have hR2 : RoundIn (Fence.wide.inRound l2) 0 Tryz.prog l fn tmps assign body (tick g W2 (x0 + 1 + i)) _ := ⟨hR.1, fun c cs _ => hR.2 c cs (fun _ h => by cases h)⟩
    have hkt : aX Tp Wt.heap.size W2 (tick g W2 (x0 + 1 + i)) := ⟨by rw[eA]; exact Nat.le_refl _, fun k o hk h0 _ => ((dK g (x0 + 1 + i) W2).same k (lt_of_block h0) (by omega)).trans h0⟩;have HK := aj hkt;have HYW := aj hYW;have HR := aj hR2;replace hsz3 := aj hsz3;replace hV2 := aj hV2
    have hWs : W.heap.size + 1 ≤ W2.heap.size := Nat.le_trans hsz2 hb2.size;have tsz2 := aj (eA g (x0 + 1 + i) W2);clear hJi hk0 hv0 hb hoth hAr2 hA3 hR hR2 hkt hYW p1 p2 p3 k1 k2 k3 k4 k4W c2 f2 hYb hb2 hJ2 tsz;gi_wp2_with (refine⟨trivial, rfl, ?_⟩; gi_at_call 105; refine(CallsIn.inRound l2 (callsIn_wide.2 uc2)).mono ?_; rintro e' w3 ⟨rfl, hw3⟩; obtain rfl : w3 = tick g W2 (x0 + 1 + i) := hw3; clear uc2 cs2);refine⟨rfl, HR.out.mono ?_⟩;rintro e' w5 ⟨hk5, h5⟩;have hY5 := hk5.blk HYW.out (Nat.le_refl _) hT
    have hkk : aX Tp Wt.heap.size W2 w5 := HK.out.trans (hk5.mono (by omega))
    have hsz5 : W.heap.size + 1 ≤ w5.heap.size := Nat.le_trans hWs hkk.size;rcases h5 with⟨rfl, hJ5⟩ | ⟨rfl, hJ5⟩
    · gi_wp2
      exact⟨hkk, hJ5, hsz5, hY5⟩
    · gi_wp2
      exact⟨hkk, rfl, hJ5, hsz5⟩
  · rintro D' W' hD hK ⟨hJn, hsz, hYb⟩
    gi_wp2;refine⟨by simp, .inl ⟨_, _, rfl, run_takeDeferred hK, ?_⟩⟩;exact⟨_, results_none rfl _ _ _, ⟨_, rfl⟩, by simp; omega, .inl (hSJ _ _ _ hJn (Rec.put hK rfl (by omega) _))⟩
  · rintro D' c i W' hD hK hiN ⟨rfl, hJx', hsz⟩
    gi_wp2;refine⟨by simp, .inl ⟨_, _, rfl, run_takeDeferred hK, ?_⟩⟩;exact⟨_, results_none rfl _ _ _, ⟨_, rfl⟩, by simp; omega, .inr ⟨i, hiN, hSx (i + 1) _ _ hJx' (Rec.put hK rfl (by omega) _)⟩⟩
end
end Kv
end
section
namespace Kv
open Go.RowKit Go.Lib Pg
section
variable {I It:Nat->World->Prop}{Ix:Code->Nat->World->Prop}{W W' V w:World}{a:Act}{g:Operand}{lb:Array Value}{Ar:Nat → Array Value → Nat → World → Prop}{Rd:World → Prop}{ps:Array Tmp}
attribute [local go_sem] Oper.semAt_some
def oH(I It:Nat->World->Prop)(k:Nat):World->Prop:=if k % 2=0 then I (k / 2) else It (k / 2)
theorem iY(I It:Nat->World->Prop)(i:Nat):oH I It (2 * i + 1)=It i:=by
 unfold oH;rw[if_neg (by omega),show (2 * i + 1) / 2=i by omega]
theorem jC(I It:Nat->World->Prop)(i:Nat):oH I It (2 * i + 1 + 1)=I (i + 1):=by
 unfold oH;rw[if_pos (by omega),show (2 * i + 1 + 1) / 2=i + 1 by omega]
theorem mo{Tp:TypeId->Prop}{B:Nat}{i:Nat}{e:Exit}(h:mD Tp B I Ix (i + 1) W e a W'):mD Tp B (oH I It) (fun c k=>Ix c (k / 2)) (2 * i + 1 + 1) W e a W':=by
 have e2:(2 * i + 1 + 1) / 2=i + 1:=by omega
 cases e<;>simp only[mD] at h ⊢
 ·exact⟨h.1,by rw[jC]; exact h.2⟩
 ·exact⟨h.1,by rw[e2]; exact h.2⟩
 ·exact⟨h.1,by rw[e2]; exact h.2⟩
 ·exact⟨h.1,by rw[e2]; exact h.2⟩
def vr(Tp:TypeId->Prop)(w:World)(N n:Nat)(ps:Array Tmp)(assign body:Code)(tmps:Array Value)(Ar:Nat->Array Value->Nat->World->Prop)(It I:Nat->World->Prop)(Ix:Code->Nat->World->Prop):Prop :=
 ∀ (l i:Nat) (args:Array Value) (V W:World),w.heap.size<=l->l < V.heap.size->(∃ r,V.heap[l]? = some (.loop r))->i < N->It i V->Below V.heap.size V W->Ar i args V.heap.size W ->
  assign.wpIn (Fence.wide.inRound l) n Tryz.prog (Exit.then (fun a1 W1=>Below W.heap.size W W1/\∀ V2 W2,It i V2->Below V2.heap.size V2 W2->Ar i args V2.heap.size W2->(∀ b,b≠l->W2.heap[b]? = W1.heap[b]?)->W2.heap.size=W1.heap.size->V2.heap.size=V.heap.size->(∃ r,W2.heap[l]? = some (.loop r))->body.wpIn (Fence.wide.inRound l) n Tryz.prog (mD Tp w.heap.size I Ix (i + 1) W2) a1 W2) (fun _ _ _=>False)) { tmps:=(ps.zip args).foldl (fun t (p,v)=>t.setIfInBounds p v) tmps,defers:=[] } W
theorem eG{g x k:Nat}(h:k≠g):(tick g V x).heap[k]? = V.heap[k]? := Below.heap_setCell _ _ _ _ h
theorem uY{Tp : TypeId → Prop}{gf N n g0 x0:Nat}(IT : ItrC Tp g0 x0 gf lb N Ar Rd){assign body:Code}{Q : Exit → Act → World → Prop}(hg : a.eval g = .func (.func gf) #[] lb)(eg : ∀ args w, (callFunc gf args).run Tryz.prog w = .ok (.enter gf args) w)(hArS : ∀ i args n V W, Ar i args n V → Cel V W → Ar i args n W)(hAn : ∀ i args n V, Ar i args n V → args.size = ps.size)(I0 : World → Prop)(I It : Nat → World → Prop)(Ix : Code → Nat → World → Prop)(hI0 : St w.heap.size I0)(hI : ∀ i, St w.heap.size (I i))(hIt : ∀ i, St w.heap.size (It i))(hIx : ∀ c i, St w.heap.size (Ix c i))(hgw : g0 < w.heap.size)(hx0 : ∀ V, I0 V → V.cell? ⟨g0, 2, none⟩ = some (.int .i64 x0) ∧ V.frozen? ⟨g0, 2, none⟩ = false ∧ Rd V ∧ I 0 (tick g0 V x0))(hx : ∀ i V, I i V → V.cell? ⟨g0, 2, none⟩ = some (.int .i64 ((x0 + 1 + i : Nat) : Int)) ∧ V.frozen? ⟨g0, 2, none⟩ = false ∧ Rd V ∧ (i < N → It i (tick g0 V (x0 + 1 + i))))(h0 : I0 w)(hround : vr Tp w N n ps assign body a.tmps Ar It I Ix)(hdone : ∀ D W, w.heap.size ≤ D → W.heap[D]? = some (.deferred (some [])) → I N W → Q .normal { a with defers := { target := .collected D, args := #[] } :: a.defers } W)(hstop : ∀ D c i W, w.heap.size ≤ D → W.heap[D]? = some (.deferred (some [])) → i < N → Ix c (i + 1) W → c.wpIn Fence.wide n Tryz.prog Q { a with defers := { target := .collected D, args := #[] } :: a.defers } W) :
    (Code.rangeFunc g ps assign body).wpIn Fence.wide n Tryz.prog Q a w := by
  refine wpIn_rangeFunc ?_
  intro fn _;obtain⟨W1, hW1⟩ : ∃ W1, (w.alloc (.deferred (some []))).alloc (.loop (cD fn a.tmps ps assign body w.heap.size .ready none)) = W1 := ⟨_, rfl⟩
  have hB1 : Below w.heap.size w W1 := by rw[← hW1]; exact ai (aa w _) (aa _ _)
  have hs1 : W1.heap.size = w.heap.size + 1 + 1 := by rw[← hW1]; simp
  have hL1 : W1.heap[w.heap.size + 1]? = some (.loop (cD fn a.tmps ps assign body w.heap.size .ready none)) := by
    rw[← hW1]; have := World.alloc_heap_new (w.alloc (.deferred (some []))) (.loop (cD fn a.tmps ps assign body w.heap.size .ready none)); rwa [World.size_alloc] at this
  have hK1 : W1.heap[w.heap.size]? = some (.deferred (some [])) := by
    rw[← hW1]; exact(Below.heap_alloc _ _ _ (by simp)).trans (World.alloc_heap_new w _)
  have t1 : ∀ V x, (tick g0 V x).heap[w.heap.size + 1]? = V.heap[w.heap.size + 1]? := fun V x => eG (by omega)
  have t2 : ∀ V x, (tick g0 V x).heap[w.heap.size]? = V.heap[w.heap.size]? := fun V x => eG (by omega)
  refine⟨w.heap.size + 1, [{ target := .collected w.heap.size, args := #[] }], W1, { target := .fn (.func gf) lb, args := #[.func (.yield (w.heap.size + 1)) #[] #[]] }, W1, gf,
    #[.func (.yield (w.heap.size + 1)) #[] #[]] ++ lb, W1, ?_, ?_, ?_, ?_, fun h => (by cases h), ?_⟩
  · rw[← hW1]; exact run_enterLoop_outer _ _ _ _ _
  · simp only[resolve, hg]
    simp[go_sem]
  · intro f' _; trivial
  · simp[invoke, go_sem, eg]
  · refine callsIn_wide.2 ?_
    refine(IT (w.heap.size + 1)
      (fun W => I0 W ∧ W.heap[w.heap.size + 1]? = some (.loop (cD fn a.tmps ps assign body w.heap.size .ready none)) ∧ W.heap[w.heap.size]? = some (.deferred (some [])))
      (fun i W => I i W ∧ W.heap[w.heap.size + 1]? = some (.loop (cD fn a.tmps ps assign body w.heap.size .ready none)) ∧ W.heap[w.heap.size]? = some (.deferred (some [])))
      (fun i W => It i W ∧ W.heap[w.heap.size + 1]? = some (.loop (cD fn a.tmps ps assign body w.heap.size .ready none)) ∧ W.heap[w.heap.size]? = some (.deferred (some [])))
      (fun i W => ∃ c, Ix c i W ∧ W.heap[w.heap.size + 1]? = some (.loop (cD fn a.tmps ps assign body w.heap.size .done (some c))) ∧ W.heap[w.heap.size]? = some (.deferred (some [])))
      W1 (fun X Y hx hr => ⟨hI0 X Y hx.1 (hr.mono (by omega)), hr.same _ _ hx.2.1 (.inl (by omega)), hr.same _ _ hx.2.2 (.inl (by omega))⟩)
      (fun i X Y hx hr => ⟨hI i X Y hx.1 (hr.mono (by omega)), hr.same _ _ hx.2.1 (.inl (by omega)), hr.same _ _ hx.2.2 (.inl (by omega))⟩)
      (fun i X Y hx hr => ⟨hIt i X Y hx.1 (hr.mono (by omega)), hr.same _ _ hx.2.1 (.inl (by omega)), hr.same _ _ hx.2.2 (.inl (by omega))⟩)
      (fun i X Y hx hr => by obtain⟨c, h1, h2, h3⟩:= hx; exact⟨c, hIx c i X Y h1 (hr.mono (by omega)), hr.same _ _ h2 (.inl (by omega)), hr.same _ _ h3 (.inl (by omega))⟩)
      (by omega)
      (fun V hv => by obtain⟨q1, q2, q3, q4⟩:= hx0 V hv.1; exact⟨q1, q2, q3, q4, (t1 V x0).trans hv.2.1, (t2 V x0).trans hv.2.2⟩)
      (fun i V hv => by obtain⟨q1, q2, q3, q4⟩:= hx i V hv.1; exact⟨q1, q2, q3, fun hi => ⟨q4 hi, (t1 V _).trans hv.2.1, (t2 V _).trans hv.2.2⟩⟩)
      ?_ ⟨hI0 _ _ h0 (Rec.of hB1), hL1, hK1⟩).mono ?_
    · rintro i args V V' hiN ⟨hi, hl, hk⟩ hsz hb ha
      have hr := hround _ i args V V' (by omega) (lt_of_block hl) ⟨_, hl⟩ hiN hi hb ha;refine(iy (Tp := Tp) (B := w.heap.size) (i := 2 * i + 1) (I := oH I It) (Ix := fun c k => Ix c (k / 2)) (Ar := fun k => Ar (k / 2)) (fun j => hArS (j / 2)) (fun j => by unfold oH; split; exact hI _; exact hIt _) (fun c j => hIx c _) (by omega) hl (by rw[iY]; exact hi) hb (by rw[show (2 * i + 1) / 2 = i by omega]; exact ha) (hAn _ _ _ _ ha) (wpIn_mono hr ?_)).mono ?_
      · intro e a1 W1 h
        cases e <;> first
          | (refine⟨h.1, fun V2 W2 q1 q2 q3 q4 q5 q6 q7 => ?_⟩
             rw[iY] at q1;rw[show (2 * i + 1) / 2 = i by omega] at q3;exact wpIn_mono (h.2 V2 W2 q1 q2 q3 q4 q5 q6 q7) (fun e a W h => mo h))
          | exact h.elim
      · rintro e V'' ⟨hkp, h⟩
        have hk2 := hkp.same _ _ (Nat.le_refl _) (by omega) ((hb.block _ (lt_of_block hk)).trans hk) lg;refine⟨hkp.from (by omega) (by omega), h.imp (fun h => ⟨h.1, by have := h.2.1; rw[jC] at this; exact this, h.2.2, hk2⟩) (fun h => ?_)⟩;obtain⟨h1, c, h2, h3⟩:= h;rw[show (2 * i + 1 + 1) / 2 = i + 1 by omega] at h2;exact⟨h1, c, h2, h3, hk2⟩
    · rintro e W2 ⟨⟨v, rfl⟩, hsz, ⟨hi, hl, hk⟩ | ⟨i, hiN, c, hi, hl, hk⟩⟩
      · exact⟨none, _, run_endLoop (P := Tryz.prog) hl (by simp[cD]), hdone _ _ (Nat.le_refl _) ((World.putObj_heap_other (by omega)).trans hk) (hI _ _ _ hi (Rec.put hl rfl (by omega) _))⟩
      · exact⟨some c, _, run_endLoop (P := Tryz.prog) hl (by simp[cD]), hstop _ c i _ (Nat.le_refl _) ((World.putObj_heap_other (by omega)).trans hk) hiN (hIx c _ _ _ hi (Rec.put hl rfl (by omega) _))⟩
end
end Kv
end
section
namespace Kv
open Go.RowKit Go.Lib Pg
section
variable {w w' A A':World}{B n c g:Nat}{v u r:Value}{l a Q b:List Int}{x y:Int}{D:Nat->Prop}{ao:Option Addr}{Rd:World->Prop}{cs:List Value}{ops:Array Oper}{rest:List Oper}{pos:String}
attribute [local go_sem] Oper.semAt_some
theorem qy{p:Nat}(h:OB w (B <= ·) v l)(hB:B<=w.heap.size)(hl:l.length<=1000000000)(hx:0<=x/\x < 256)(hp:w.cell? ⟨p,0,none⟩=some (.int .u8 x)) :
  ∃ v' w',(Builtin.append_ #[40,40] 40 #[v,.slice (some ⟨p,0,none⟩) 1 1]).run Tryz.prog w=.ok v' w'/\OB w' (B <= ·) v' (l ++ [x])/\Below B w w':=by
 have ho:Oct (l ++ [x]):=fun y hy=>by
  rcases List.mem_append.1 hy with hy | hy
  ·exact h.oct y hy
  ·simp at hy; subst hy; exact hx
 have hnews:∀ j u,[Value.int .u8 x][j]? = some u->w.cell? ((⟨p,0,none⟩:Addr).add j)=some u:=fun j u hj=>by
  match j with
  | 0=>simp at hj; subst hj; exact hp
  | j + 1=>simp at hj
 rcases h.ex with⟨rfl,rfl⟩ | ⟨b,c,rfl,hl2,hR⟩
 ·obtain⟨c',w',hr,hR,hw⟩:=dQ (w:=w) KB 40 ⟨p,0,none⟩ 1 1 [.int .u8 x] rfl hnews (by decide) (by decide) (by decide);exact⟨_,w',hr,⟨ho,.inr ⟨_,c',rfl,hB,hR⟩⟩,hw.mono hB⟩
 ·obtain⟨b',c',w',hr,hb',hR',hw⟩:=cI (w:=w) KB 40 hR ⟨p,0,none⟩ 1 1 [.int .u8 x] rfl hnews (by simp[Value.oneCell']) (by omega) (by omega);refine⟨_,w',hr,⟨ho,.inr ⟨b',c',by simp,?_,by rw[List.map_append,List.length_append]; exact hR'⟩⟩,hw.below (fun x e=>by have e':x=b:=e; omega) hB⟩;rcases hb' with rfl | rfl
  ·exact hl2
  ·exact hB
theorem ec(h:OB w (B <= ·) v l)(hB:B<=w.heap.size)(hl:l.length<=1000000000)(hx:0<=x/\x < 256) :
  ∃ v' w',(Builtin.append_ #[40,40] 40 #[v,.slice (some ⟨w.heap.size,0,none⟩) 1 1]).run Tryz.prog (w.alloc (.cells #[.int .u8 x] 5))=.ok v' w'/\OB w' (B <= ·) v' (l ++ [x])/\Below B w w':=by
 have hb:=aa w (.cells #[.int .u8 x] 5);have hk:=au w [.int .u8 x] 5
 have ho:Oct (l ++ [x]):=fun y hy=>by
  rcases List.mem_append.1 hy with hy | hy
  ·exact h.oct y hy
  ·simp at hy; subst hy; exact hx
 have hnews:∀ j u,[Value.int .u8 x][j]? = some u->(w.alloc (.cells #[.int .u8 x] 5)).cell? ((⟨w.heap.size,0,none⟩:Addr).add j)=some u:=fun j u hj=>by
  match j with
  | 0=>exact hk.cell (i:=0) hj
  | j + 1=>simp at hj
 rcases h.ex with⟨rfl,rfl⟩ | ⟨b,c,rfl,hl2,hR⟩
 ·obtain⟨c',w',hr,hR,hw⟩:=dQ (w:=w.alloc (.cells #[.int .u8 x] 5)) KB 40 ⟨w.heap.size,0,none⟩ 1 1 [.int .u8 x] rfl hnews (by decide) (by decide) (by decide);exact⟨_,w',hr,⟨ho,.inr ⟨_,c',rfl,Nat.le_trans hB hb.size,hR⟩⟩,(hb.mono hB).trans (hw.mono (Nat.le_trans hB hb.size))⟩
 ·obtain⟨b',c',w',hr,hb',hR',hw⟩:=cI (w:=w.alloc (.cells #[.int .u8 x] 5)) KB 40 (hR.keep hb) ⟨w.heap.size,0,none⟩ 1 1 [.int .u8 x] rfl hnews (by simp[Value.oneCell']) (by omega) (by omega);refine⟨_,w',hr,⟨ho,.inr ⟨b',c',by simp,?_,by rw[List.map_append,List.length_append]; exact hR'⟩⟩,(hb.mono hB).trans (hw.below (fun x e=>by have e':x=b:=e; omega) (Nat.le_trans hB hb.size))⟩;rcases hb' with rfl | rfl
  ·exact hl2
  ·exact Nat.le_trans hB hb.size
theorem OB.sh(h:OB w D v l):∃ ao c,v=.slice ao l.length c:=by
 rcases h.ex with⟨rfl,rfl⟩ | ⟨b,c,rfl,_⟩
 ·exact⟨none,0,rfl⟩
 ·exact⟨_,c,rfl⟩
theorem By.lens(h:By w (.slice ao n c) l):l.length=n/\n<=c/\c<=9223372036854775807:=by
 obtain⟨ao',c',e,h2,h3,_⟩:=h.ex
 cases e;exact⟨rfl,h2,h3⟩
theorem gE{a:Act}{o:Oper}{x y:Nat}{T ty:TypeId}(hty:o.type=ty)(ho:o.op=.call { callee:=.builtin .append,args:=#[.tmp x,.tmp y],argTypes:=#[T,T] })(hx:a.eval (.tmp x)=u)(hy:a.eval (.tmp y)=v)(hr:(Builtin.append_ #[T,T] ty #[u,v]).run Tryz.prog w=.ok r w') :
  (execOp a.eval o).run Tryz.prog w=.ok (.value r) w':=by
 subst hty;unfold execOp;simp only[ho,resolve,invoke,builtin,Sem.run_bind,Sem.run_pure,Result.andThen_ok,List.map_toArray,List.map_cons,List.map_nil,hx,hy,hr]
theorem lq(w:World)(D:Nat->Prop):OB w D (.slice none 0 0) []:=⟨fun _ h=>by simp at h,.inl ⟨rfl,rfl⟩⟩
def ArBB(Q:List Int)(i:Nat)(args:Array Value)(_:Nat)(_:World):Prop:=∃ p j,j + 1 + i=Q.length/\Q[j]? = some p/\args=#[.int .i64 (j:Int),.int .u8 p]
theorem ju{Tp:TypeId->Prop}{bs:Nat}(hn:Q.length=n)(hbig:n<=1000000000)(hb:∀ V,Rd V->V.cell? ⟨bs,0,none⟩=some (.slice ao n c)/\∀ j p,Q[j]? = some p->∃ b o,ao=some ⟨b,o,none⟩/\V.cell? ⟨b,o + j,none⟩=some (.int .u8 p)) :
  Itr Tp 193 #[.pointer (some ⟨bs,0,none⟩)] n (ArBB Q) Rd:=by
 intro l J Jx W hJ hJx hRd hY h0;have cb:=(hb W (hRd 0 W h0)).1
 have hb:Hid _:=hb
 have hn:Hid _:=hn
 have w0:IntKind.i64.wrap ((n:Int) - 1)=(n:Int) - 1:=by rw[IntKind.wrap_i64]; omega
 refine(callsIn_wide (n:=0)).1 ?_
 refine callsIn_of_wp Tryz.func193 rfl trivial ?_ rfl;simp only[Tryz.ntmps193,List.size_toArray,List.length_cons,List.length_nil,Nat.reduceAdd,Nat.reduceSub,Array.replicate_succ,Array.replicate_zero,List.push_toArray,List.append_toArray,List.nil_append,List.cons_append];gi_wp2;gi_loopw [3] (fun ti wr=>∃ i:Nat,i<=n/\ti=.int .i64 ((n:Int) - 1 - (i:Int))/\W.heap.size<=wr.heap.size/\J i wr) (fun ti _=>(intOf ti + 1).toNat)
 case atStart=>exact⟨0,Nat.zero_le _,by simp,Nat.le_refl _,h0⟩
 case round =>
  clear cb;obtain⟨i,hi,rfl,hsz,hJi⟩:=hrel;obtain⟨cb,hat⟩:=hb.out wr (hRd _ _ hJi);by_cases hlt:i < n
  ·obtain⟨j,hj⟩:∃ j,j + 1 + i=n:=⟨n - 1 - i,by omega⟩
   obtain⟨p,hp⟩:∃ p,Q[j]? = some p:=⟨Q[j]'(by have:=hn.out; omega),List.getElem?_eq_getElem _⟩
   obtain⟨b,o,rfl,cP⟩:=hat j p hp
   have ej:(n:Int) - 1 - (i:Int)=(j:Int):=by omega
   have HI:Hid (j + 1 + i=n):=hj;have hY1:=hY i _ wr wr hlt hJi hsz (Below.refl _ _) ⟨p,j,by rw[hn.out]; exact hj,hp,rfl⟩;obtain⟨fn,tmps,assign,body,hy,hR⟩:=hY1;rw[ej]
   have w1:IntKind.i64.wrap ((j:Int) - 1)=(j:Int) - 1:=by rw[IntKind.wrap_i64]; omega
   have z1:(j:Int) < n:=by omega
   clear hat ej hj;gi_wp2;refine⟨rfl,hR.mono ?_⟩;rintro e' W4 ⟨hk4,⟨rfl,hJ4⟩ | ⟨rfl,hJ4⟩⟩
   ·gi_wp2;go_roundw
    case rel=>exact⟨i + 1,by omega,by have:=HI.out; congr 1; omega,Nat.le_trans hsz hk4.size,hJ4⟩
    case measure=>simp[intOf]
   ·gi_wp2;refine bodyPost_ret (results_none rfl _ _ _) rfl ?_
    exact⟨⟨_,rfl⟩,Nat.le_trans hsz hk4.size,.inr ⟨i,hlt,hJ4⟩⟩
  ·have hin:i=n:=by omega
   have ej:(n:Int) - 1 - (i:Int) = -1:=by omega
   rw[ej]
   have HJ:Hid (J n wr):=by show J n wr; rw[<- hin]; exact hJi
   clear hat ej hin hJi;gi_wp2;go_end0;exact⟨⟨_,rfl⟩,hsz,.inl HJ.out⟩
theorem kN:Calls Tryz.prog 142 #[.slice ao n c] w fun e w'=>e=.returned (.func (.func 193) #[] #[.pointer (some ⟨w.heap.size,0,none⟩)])/\Blk w' w.heap.size [.slice ao n c] 40/\Below w.heap.size w w':=by
 go_enter Tryz.func142,Tryz.ntmps142;go_wp2;go_ret;exact⟨rfl,au w _ _,aa w _⟩
def nxt(l:List Int):List Int:=match l.reverse.dropWhile (· == 255) with
 | []=>[]
 | x :: t=>t.reverse ++ [x + 1]
theorem lN:∀ {l:List Int},(∀ x∈l,x=255)->l.dropWhile (· == 255)=[]
 | [],_=>rfl
 | x :: l,h=>by
  have hx:=h x List.mem_cons_self;subst hx;rw[List.dropWhile_cons_of_pos (by decide)];exact lN (fun y hy=>h y (List.mem_cons_of_mem _ hy))
theorem lI(A B:List Int)(hx:x≠255)(h:∀ b∈B,b=255):(A ++ x :: B).reverse.dropWhile (· == 255)=x :: A.reverse:=by
 rw[List.reverse_append,List.reverse_cons,List.append_assoc,List.dropWhile_append_of_pos (fun a ha=>by simp[h a (List.mem_reverse.1 ha)]),List.singleton_append,List.dropWhile_cons_of_neg (by simp[hx])]
theorem dV(h:∀ x∈l,x=255):nxt l=[]:=by
 have:l.reverse.dropWhile (· == 255)=[]:=by
  exact lN (fun x hx=>h x (List.mem_reverse.1 hx))
 unfold nxt;rw[this]
theorem rj{j:Nat}(hj:l[j]? = some x)(hx:x≠255)(h:∀ i y,l[i]? = some y->j < i->y=255):nxt l=l.take j ++ [x + 1]:=by
 have hlt:j < l.length:=(List.getElem?_eq_some_iff.1 hj).1
 have e:l=l.take j ++ x :: l.drop (j + 1):=by
  have h1:=(List.take_append_drop j l).symm
  have h2:l.drop j=x :: l.drop (j + 1):=by
   rw[List.drop_eq_getElem_cons hlt];congr 1
   exact(List.getElem?_eq_some_iff.1 hj).2
  rw[h2] at h1;exact h1
 have h3:l.reverse.dropWhile (· == 255)=x :: (l.take j).reverse:=by
  have h4:=lI (l.take j) (l.drop (j + 1)) hx (fun a ha=>by
   obtain⟨i,hi⟩:=List.getElem?_of_mem ha;rw[List.getElem?_drop] at hi;exact h (j + 1 + i) a hi (by omega))
  rw[<- e] at h4;exact h4
 unfold nxt;rw[h3];simp
theorem cW{B0 B1:Nat}{B:World}(h:Below B0 w A)(hr:Rec B1 A B)(hB:B0<=B1)(hw:B0<=A.heap.size):Below B0 w B :=
 ⟨hr.os.trans h.os,hr.tape.trans h.tape,hr.output.trans h.output,Nat.le_trans h.size hr.size,fun k hk=>by
  obtain⟨o,ho⟩:∃ o,A.heap[k]? = some o:=⟨A.heap[k]'(by omega),Array.getElem?_eq_getElem _⟩
  rw[hr.same k o ho (.inl (by omega)),<- ho];exact h.block k hk⟩
theorem lA{ty:TypeId}(h:Blk A g cs ty)(hr:Rec B A A'):Blk A' g cs ty:=hr.blk h
theorem OB.rcd(h:OB A D v l)(hr:Rec B A A'):OB A' D v l:=by
 refine⟨h.oct,h.ex.imp id ?_⟩;rintro⟨b,c,e,hd,hR⟩;obtain⟨cs,k⟩:=hR.kind;exact⟨b,c,e,hd,hR.same ((hr.blk k).blk.trans k.blk.symm)⟩
theorem By.take(h:By w (.slice ao n c) l)(j:Nat)(hj:j<=n):By w (.slice ao j c) (l.take j):=by
 obtain⟨hl,hc,hm⟩:=By.lens h;obtain⟨ao',c',e,h2,h3,h4,h5,h6⟩:=h.ex
 cases e
 have hlen:(l.take j).length=j:=by rw[List.length_take]; omega
 refine⟨ao,c,by rw[hlen],by rw[hlen]; omega,h3,h4,fun x hx=>h5 x (List.mem_of_mem_take hx),?_⟩;rcases h6 with rfl | ⟨b',o',e,hlt,hcell⟩
 ·exact .inl (by simp)
 ·exact .inr ⟨b',o',e,hlt,fun i x hi=>hcell i x (by
   rw[List.getElem?_take] at hi;split at hi
   ·exact hi
   ·cases hi)⟩
theorem pA{o:Nat}(c:w.cell? ⟨g,o,none⟩=some v):(loadVar 40 ⟨g,o,none⟩).run Tryz.prog w=.ok v w:=by go_simp
theorem nD{F:Fence}{Q:Exit->Act->World->Prop}{after:Array Edge}{a:Act}(hF:∀ f,F.fn f)(hu:a.eval (.tmp 14)=u)(hv:a.eval (.tmp 17)=v)(hr:(Builtin.append_ #[40,40] 40 #[u,v]).run Tryz.prog w=.ok r w')(h:wpListIn F n Tryz.prog ops Q rest (a.put (some 18) r) w') :
  wpListIn F n Tryz.prog ops Q ({ dst:=some 18,op:=.call { callee:=.builtin .append,args:=#[.tmp 14,.tmp 17],argTypes:=#[40,40] },type:=40,pos:=pos,after:=after,guard:=none } :: rest) a w :=
 iE rfl hF (Oper.semAt_eq _ _ _ (fun c h=>by cases h)) (gE (x:=14) (y:=17) rfl rfl hu hv hr) h
theorem ld(h : By w (.slice ao n c) l)(hbig : n ≤ 1000000000) :
    Calls Tryz.prog 143 #[.slice ao n c] w fun e w' => ∃ v, e = .returned v ∧ OB w' (w.heap.size ≤ ·) v (nxt l) ∧ Below w.heap.size w w' := by
  obtain⟨hl, hnc, hcm⟩:= By.lens h;have c1 := au w [.slice ao n c] 40;have b1 := aa w (.cells #[.slice ao n c] 40)
  have s1 : (w.alloc (.cells #[.slice ao n c] 40)).heap.size = w.heap.size + 1 := by simp
  have c2 := au (w.alloc (.cells #[.slice ao n c] 40)) [.slice none 0 0] 40;have b2 := aa (w.alloc (.cells #[.slice ao n c] 40)) (.cells #[.slice none 0 0] 40)
  have s2 : ((w.alloc (.cells #[.slice ao n c] 40)).alloc (.cells #[.slice none 0 0] 40)).heap.size = w.heap.size + 2 := by simp
  rw[s1] at c2
  have c1' := c1.keep b2;have b12 := ai b1 b2;obtain⟨Wa, hWa⟩ : ∃ Wa, Hid ((w.alloc (.cells #[.slice ao n c] 40)).alloc (.cells #[.slice none 0 0] 40) = Wa) := ⟨_, rfl⟩;rw[hWa.out] at c1' c2 s2 b12;have HB := aj h;clear h c1 b1 b2 s1;refine(callsIn_wide (n := 0)).1 ?_
  refine callsIn_of_wp_marks Tryz.func143 rfl trivial ?_ rfl;simp only[Tryz.ntmps143, List.size_toArray, List.length_cons, List.length_nil, Nat.reduceAdd, Nat.reduceSub, Array.replicate_succ, Array.replicate_zero, List.push_toArray, List.append_toArray, List.nil_append, List.cons_append];gi_wp2_with (refine⟨trivial, rfl, ?_⟩; gi_at_call 142; rw[hWa.out]; refine(callsIn_wide.2 kN).mono ?_; rintro e' w2 ⟨rfl, hBx, hB2⟩);rw[s2] at hBx;have k1 := c1'.keep hB2;have k2 := c2.keep hB2;have B2 := ai b12 hB2;have hs2 := hB2.size;have IT := ju (Tp := fun _ => False) (bs := w.heap.size + 2) (c := c) (ao := ao) (Q := l) (n := n) (Rd := fun V => Below w2.heap.size w2 V) hl hbig (fun V hv => ⟨(hBx.keep hv).cell (i := 0) rfl, fun j p hj => By.at ((HB.out.keep B2).keep hv) hj⟩);refine gk IT (by rfl) (enters_of Tryz.func193 (by kernel_rfl) rfl) (fun i args n V V' h _ => h) (fun i args n V h => by obtain⟨p, j, _, _, rfl⟩:= h; rfl)
    (fun i V => Below w2.heap.size w2 V ∧ ∀ j x, l[j]? = some x → n ≤ j + i → x = 255)
    (fun c i V => c = .ret ∧ ∃ v, Blk V (w.heap.size + 1) [v] 40 ∧ OB V (w.heap.size ≤ ·) v (nxt l) ∧ Below w.heap.size w V)
    (fun i A B hx hr => ⟨cW hx.1 hr (Nat.le_refl _) hx.1.size, hx.2⟩)
    (fun c i A B hx hr => ⟨hx.1, by obtain⟨v, h1, h2, h3⟩:= hx.2; exact⟨v, hr.blk h1, OB.rcd h2 hr, cW h3 hr B2.size h3.size⟩⟩)
    (fun i V hv => hv.1) ⟨Below.refl _ _, fun j x hj hn => by have := (List.getElem?_eq_some_iff.1 hj).1; omega⟩ ?_ ?_ ?_
  · rintro l2 i args V Wv hl2 hlV hrec hiN ⟨hBV, hall⟩ hb ⟨p, j, hj, hp, rfl⟩
    simp;gi_wp2;refine⟨Below.refl _ _, ?_⟩;intro V2 W2 hBV2 hall2 hb2 hAr2 hoth hsz3 hV2 r hrec2;have hBW := hBV2.trans (hb2.mono hBV2.size);have kb := (k1.keep hBW).cell (i := 0) rfl;have kr := k2.keep hBW
    have hpo : 0 ≤ p ∧ p < 256 := HB.out.oct p (List.mem_of_getElem? hp);clear hall hb hBV hoth hAr2;by_cases hp5 : p = 255
    · subst hp5
      gi_wp2;refine⟨aX.of (Below.refl _ _), hBW, fun j2 x hx hn => ?_⟩;by_cases e : j2 = j
      · subst e; rw[hp] at hx; cases hx; rfl
      · exact hall2 j2 x hx (by omega)
    · have hp6 : p < 255 := by omega
      have BY := By.take ((HB.out.keep B2).keep hBW) j (by omega)
      have hjl : (l.take j).length = j := by rw[List.length_take]; omega
      have hjn : (j : Int) ≤ c := by omega
      have w9 : IntKind.u8.wrap (p + 1) = p + 1 := by rw[IntKind.wrap_u8]; omega
      have HKR := aj kr;have HW := aj hBW
      have HNX : Hid (nxt l = l.take j ++ [p + 1]) := rj hp hp5 (fun i2 y hy hi => hall2 i2 y hy (by omega));clear kr hBW hall2;gi_wp2_with (first
        | (have gate := hr6; clear gate; refine nD (fun _ => trivial) rfl rfl hr6 ?_; clear hr6)
        | (refine⟨trivial, rfl, ?_⟩; gi_at_call 137; refine(CallsIn.inRound l2 (callsIn_wide.2 (bZ BY (by omega)))).mono ?_; rintro e' w5 ⟨v5, rfl, O5, b5⟩; obtain⟨v6, w6, hr6, O6, b6⟩:= ec (B := W2.heap.size) (x := p + 1) O5 b5.size (by omega) (by omega); have kr6 := (HKR.out.keep b5).jM b6 (HKR.out.lt); have kc := kr6.cell (i := 0) rfl; have kfr := kr6.free 0; obtain⟨a5, c5, rfl⟩:= OB.sh O5; obtain⟨a6, c6, rfl⟩:= OB.sh O6; rw[hjl] at hr6 ⊢))
      have hlt : w.heap.size + 1 < w2.heap.size := k2.lt;have hsW := HW.out.size;have b56 := b5.trans b6
      have O7 : OB w6 (W2.heap.size ≤ ·) (.slice a6 (j + 1) c6) (l.take j ++ [p + 1]) := by
        have h9 := O6;rw[show (l.take j ++ [p + 1]).length = j + 1 by rw[List.length_append, hjl]; rfl] at h9;exact h9
      have O8 : OB (w6.setCell ⟨w.heap.size + 1, 0, none⟩ (.slice a6 (j + 1) c6)) (W2.heap.size ≤ ·) (.slice a6 (j + 1) c6) (l.take j ++ [p + 1]) := O7.same (fun b _ hb => Below.heap_setCell w6 _ _ b (by show b ≠ w.heap.size + 1; omega))
      have B6 : Below w.heap.size w w6 := (B2.trans (HW.out.mono B2.size)).trans (b56.mono (Nat.le_trans B2.size hsW));refine⟨(aX.of b56).trans ⟨?_, fun k o hk h0 _ => (Below.heap_setCell w6 _ _ k (by show k ≠ w.heap.size + 1; omega)).trans h0⟩, rfl, _, kr6.setCell (i := 0) _, ?_, B6.setCell (show w.heap.size ≤ w.heap.size + 1 by omega) _⟩
      · exact((Chg.refl (fun x => x = w.heap.size + 1) w6).cell (g := w.heap.size + 1) (i := 0) (.inl rfl) _).size
      · rw[HNX.out]
        exact O8.mono (fun b _ hb => by have := B2.size; omega)
  · rintro D' W' hD hK ⟨hBW, hall⟩
    have kr := k2.keep hBW;have kc := kr.cell (i := 0) rfl;have kf := kr.free 0
    have hlt : w.heap.size + 1 < w2.heap.size := k2.lt
    have hK3 : (W'.setCell ⟨w.heap.size + 1, 0, none⟩ (.slice none 0 0)).heap[D']? = some (.deferred (some [])) := (Below.heap_setCell W' _ _ D' (by show D' ≠ w.heap.size + 1; omega)).trans hK;gi_wp2;refine⟨by simp, .inl ⟨_, _, rfl, run_takeDeferred hK3, ?_⟩⟩;have R3 := Rec.put (B := w2.heap.size) hK3 rfl hD (.deferred none);have k3 := lA (kr.setCell (i := 0) (.slice none 0 0)) R3;refine⟨_, mi rfl rfl (pA (k3.cell (i := 0) rfl)), _, rfl, ?_, ?_⟩
    · rw[dV (fun x hx => by
        obtain⟨j, hj⟩:= List.getElem?_of_mem hx;exact hall j x hj (by omega))]
      exact lq _ _
    · have h9 : Below w.heap.size w (W'.setCell ⟨w.heap.size + 1, 0, none⟩ (.slice none 0 0)) := (B2.trans (hBW.mono B2.size)).setCell (show w.heap.size ≤ w.heap.size + 1 by omega) _
      exact cW h9 R3 B2.size h9.size
  · rintro D' c i W' hD hK hiN ⟨rfl, v, h1, h2, h3⟩
    gi_wp2;refine⟨by simp, .inl ⟨_, _, rfl, run_takeDeferred hK, ?_⟩⟩;have R3 := Rec.put (B := w2.heap.size) hK rfl hD (.deferred none);have k3 := lA h1 R3;exact⟨_, mi rfl rfl (pA (k3.cell (i := 0) rfl)), _, rfl, OB.rcd h2 R3, cW h3 R3 B2.size h3.size⟩
theorem aV:Lt (x :: a) (y :: b)<->x < y\/(x=y/\Lt a b):=by
 unfold Lt;rw[cA];by_cases h1:x < y
 ·simp[h1]
 ·by_cases h2:y < x
  ·rw[if_neg h1,if_pos h2];constructor
   ·intro h; exact absurd h (by decide)
   ·rintro(h | ⟨h,_⟩)<;>omega
  ·rw[if_neg h1,if_neg h2];have:x=y:=by omega
   simp[this]
theorem cT:Lt [] (y :: b):=by simp[Lt,cA]
theorem not_lt_nil:¬ Lt a []:=by cases a<;>simp[Lt,cA]
theorem kH(s:List Int):Lt (s ++ a) (s ++ b)<->Lt a b:=by
 induction s with
 | nil=>exact Iff.rfl
 | cons x s ih=>rw[List.cons_append,List.cons_append,aV,ih]; simp
theorem di:∀ l:List Int,(∀ x∈l,x=255)\/∃ A x B,l=A ++ x :: B/\x≠255/\∀ b∈B,b=255
 | []=>.inl (fun _ h=>by simp at h)
 | y :: t=>by
  rcases di t with h | ⟨A,x,B,rfl,hx,hB⟩
  ·by_cases hy:y=255
   ·exact .inl (fun x hx=>by
     rcases List.mem_cons.1 hx with rfl | hx
     ·exact hy
     ·exact h x hx)
   ·exact .inr ⟨[],y,t,rfl,hy,h⟩
  ·exact .inr ⟨y :: A,x,B,rfl,hx,hB⟩
theorem eX{A B:List Int}(hx:x≠255)(hB:∀ b∈B,b=255):nxt (A ++ x :: B)=A ++ [x + 1]:=by
 unfold nxt;rw[lI A B hx hB];simp
theorem oR(h:nxt l=[]):∀ x∈l,x=255:=by
 rcases di l with h1 | ⟨A,x,B,rfl,hx,hB⟩
 ·exact h1
 ·rw[eX hx hB] at h;simp at h
theorem iu{c:List Int}(h:nxt l≠[])(hc:l <+: c):Lt c (nxt l):=by
 rcases di l with h1 | ⟨A,x,B,rfl,hx,hB⟩
 ·exact absurd (dV h1) h
 ·obtain⟨t,rfl⟩:=hc;rw[eX hx hB,List.append_assoc,kH,List.cons_append,aV];exact .inl (by omega)
theorem jz:∀ {B t:List Int},(∀ b∈B,b=255)->Oct t->Lt t B\/B <+: t
 | [],_,_,_=>.inr (List.nil_prefix)
 | b :: B,[],_,_=>.inl cT
 | b :: B,z :: t,hB,ht=>by
  have hb:=hB b List.mem_cons_self;have hz:=ht z List.mem_cons_self;subst hb;by_cases h:z=255
  ·subst h;rcases jz (fun b hb=>hB b (List.mem_cons_of_mem _ hb)) (fun y hy=>ht y (List.mem_cons_of_mem _ hy)) with h1 | h1
   ·exact .inl (aV.2 (.inr ⟨rfl,h1⟩))
   ·exact .inr (List.cons_prefix_cons.2 ⟨rfl,h1⟩)
  ·exact .inl (aV.2 (.inl (by omega)))
theorem ff:∀ {A B c:List Int} {x:Int},(∀ b∈B,b=255)->Oct c->Lt c (A ++ [x + 1])->Lt c (A ++ x :: B)\/(A ++ x :: B) <+: c
 | [],B,[],x,_,_,_=>.inl cT
 | [],B,y :: t,x,hB,hc,h=>by
  rw[List.nil_append,aV] at h;rw[List.nil_append];rcases h with h | ⟨_,h⟩
  ·by_cases e:y=x
   ·subst e;rcases jz hB (fun z hz=>hc z (List.mem_cons_of_mem _ hz)) with h1 | h1
    ·exact .inl (aV.2 (.inr ⟨rfl,h1⟩))
    ·exact .inr (List.cons_prefix_cons.2 ⟨rfl,h1⟩)
   ·exact .inl (aV.2 (.inl (by omega)))
  ·exact absurd h not_lt_nil
 | a :: A,B,[],x,_,_,_=>.inl cT
 | a :: A,B,y :: t,x,hB,hc,h=>by
  rw[List.cons_append,aV] at h;rw[List.cons_append];rcases h with h | ⟨h1,h2⟩
  ·exact .inl (aV.2 (.inl h))
  ·subst h1;rcases ff hB (fun z hz=>hc z (List.mem_cons_of_mem _ hz)) h2 with h3 | h3
   ·exact .inl (aV.2 (.inr ⟨rfl,h3⟩))
   ·exact .inr (List.cons_prefix_cons.2 ⟨rfl,h3⟩)
theorem ft{c:List Int}(hc:Oct c)(h1:¬ l <+: c)(h2:¬ Lt c l):¬ Lt c (nxt l):=by
 rcases di l with h3 | ⟨A,x,B,rfl,hx,hB⟩
 ·rw[dV h3]; exact not_lt_nil
 ·rw[eX hx hB];intro h;rcases ff hB hc h with h4 | h4
  ·exact h2 h4
  ·exact h1 h4
end
end Kv
end
section
namespace Kv
open Go.RowKit Go.Lib Pg
attribute [local go_sem] Oper.semAt_some
end Kv
end
section
namespace Kv
open Go.RowKit Go.Lib Pg
section
variable {w:World}{pg:Option Addr}{lb:Array Value}{K D:Nat->Prop}{W:List ay}{p:List Int}
attribute [local go_sem] Oper.semAt_some
theorem kW{k:Nat}:Calls Tryz.prog 141 #[.pointer pg,.func (.func k) #[] lb] w fun e w'=>e=.returned (.func (.func 192) #[] #[.pointer (some ⟨w.heap.size,0,none⟩),.pointer (some ⟨w.heap.size + 1,0,none⟩)])/\Blk w' w.heap.size [.pointer pg] 31/\Blk w' (w.heap.size + 1) [.func (.func k) #[] lb] 147/\Below w.heap.size w w':=by
 have b1:=aa w (.cells #[.pointer pg] 31);have c1:=au w [.pointer pg] 31;have b2:=aa (w.alloc (.cells #[.pointer pg] 31)) (.cells #[.func (.func k) #[] lb] 147);have c2:=au (w.alloc (.cells #[.pointer pg] 31)) [.func (.func k) #[] lb] 147
 have s1:(w.alloc (.cells #[.pointer pg] 31)).heap.size=w.heap.size + 1:=by simp
 rw[s1] at c2;go_enter Tryz.func141,Tryz.ntmps141;go_wp2;go_ret;exact⟨rfl,c1.keep b2,c2,ai b1 b2⟩
theorem SA.oct{g n N:Nat}{E:ay}(h:SA w K D g E W n N):∀ x∈E,Oct x.1:=by
 obtain⟨F,V,m,Q,jv,T,oj,hX,rfl,hB⟩:=h.open;obtain⟨L,rfl,A,O,S,k,r⟩:=hX.map.ex;intro x hx;rw[cM] at hx;obtain⟨e,he,rfl⟩:=List.mem_map.1 hx;obtain⟨es,h1,h2⟩:=List.mem_flatten.1 he;obtain⟨p,hp,rfl⟩:=List.mem_map.1 h1;exact((A.br p hp).1.cQ e h2).k.oct
theorem rG{k:List Int}(h:p <+: k):¬ Lt k p:=by
 obtain⟨t,rfl⟩:=h;intro h;have:Lt (p ++ t) (p ++ []):=by simpa using h
 rw[kH] at this;exact not_lt_nil this
theorem wB{x:KV}(hx:Oct x.1):gV p (nxt p) x=decide (p <+: x.1):=by
 unfold gV;by_cases h:p <+: x.1
 ·have h1:=rG h;by_cases hn:nxt p=[]
  ·simp[h,h1,hn]
  ·simp [h,h1];exact .inr (iu hn h)
 ·by_cases h1:Lt x.1 p
  ·simp[h,h1]
  ·have hn:nxt p≠[]:=fun e=>by
    rcases jz (oR e) hx with h2 | h2
    ·exact h1 h2
    ·exact h h2
   simp[h,h1,hn,ft hx h h1]
end
end Kv
end
section
namespace Kv
open Go.RowKit Go.Lib Pg
section
variable {w:World}{K D:Nat->Prop}{v:Value}{l:List Int}{W:List ay}
structure ByU(w:World)(v:Value)(l:List Int):Prop where
 byt:By w v l
 u8:∀ b o n c,v=.slice (some ⟨b,o,none⟩) n c->∃ cs m,w.heap[b]? = some (.cells cs 5 m)
theorem ByU.chg{w':World}(h:ByU w v l)(hc:Chg K w w')(hk:∀ b,K b->∃ cs t,Blk w b cs t/\t≠5):ByU w' v l:=by
 have hs:∀ b o n c,v=.slice (some ⟨b,o,none⟩) n c->w'.heap[b]? = w.heap[b]? := fun b o n c e=>by
  obtain⟨cs,m,hb⟩:=h.u8 b o n c e;refine hc.same b (lt_of_block hb) fun hK => ?_
  obtain⟨ds,t,hd,ht⟩:=hk b hK;have:=hd.blk.symm.trans hb;simp at this;exact ht this.2.1
 refine⟨?_,fun b o n c e=>by rw[hs b o n c e]; exact h.u8 b o n c e⟩;obtain⟨ao,c,h1,h2,h3,h4,h5,h6⟩:=h.byt.ex;refine⟨ao,c,h1,h2,h3,h4,h5,h6.imp id ?_⟩;rintro⟨b,o,rfl,hlt,hcell⟩;exact⟨b,o,rfl,Nat.lt_of_lt_of_le hlt hc.size,fun i x hi=>by rw[World.cell?_of_block (w:=w) (hs b o _ _ h1)]; exact hcell i x hi⟩
theorem ByU.of(h:OB w D v l):ByU w v l:=by
 refine⟨h.by,fun b o n c e => ?_⟩;rcases h.ex with⟨rfl,_⟩ | ⟨b',c',rfl,_,hR⟩
 ·cases e
 ·cases e;obtain⟨cs,k⟩:=hR.kind;exact⟨_,_,k.blk⟩
theorem SA.kind{g n N:Nat}{E:ay}(h:SA w K D g E W n N):∀ b,K b->∃ cs t,Blk w b cs t/\t≠5:=by
 obtain⟨F,V,m,Q,jv,T,oj,_,_,_,_,_,_,_,O⟩:=h.ex;exact O.kind
end
end Kv
end
end Go.Proofs.YtliajmpchofiiaaGreat
