/- Several texts, joined: KvW, KvX, KvY, KvZ, KvAa, KvAb, KvBa, KvBb, KvBc, KvBh, KvBd, KvBe, KvCa. -/
import Derived.Test.YthfepflplbahkaaGreatDoorJah
import Derived.Test.YthfepflplbahkaaGreatDoorJag
import Derived.Shelf.Abstract
import Derived.Shelf.RegionOpen
import Derived.OwnWalkIn
import Derived.TacticsInMore
import Derived.LoopNIn
import Derived.LoopIn
set_option maxRecDepth 100000
set_option maxHeartbeats 8000000
namespace Go.Proofs.YthfepflplbahkaaGreatDoor
section
namespace Kv
open Go.RowKit Go.Lib Pg
section
variable {E:aE}{k:List Int}{w:World}{K D F V:Nat->Prop}{g n N m:Nat}{W:List aE}{kv jv:Value}{Q:List (List KV)}{T T0:List Jr}{oj:Option Nat}
attribute [local go_sem] Oper.semAt_some
theorem Ec(h:dP E)(hn:(look E k).isSome=false):rem E k=E:=by
 obtain⟨X,Y,c,⟨rfl,e⟩ | ⟨x,rfl,e⟩⟩:=h.cut k
 ·exact c.Ep
 ·rw[e] at hn; cases hn
theorem sdepth(h:SA w K D g E W n N) :
  Calls Tryz.prog 143 #[.pointer (some ⟨g,0,none⟩)] w fun e w'=>e=.returned (.int .i64 W.length)/\w'=w:=by
 obtain⟨F,V,m,Q,f,T,d,hX,c,b⟩:=h.open;have a:=b.len;simp at a;rw[<- a];exact r6 hX
theorem sget(h:SA w K D g E W n N)(hk:BK w K kv k)(hn:n<=4000000000000000000)(hN:N<=100000000) :
  Calls Tryz.prog 127 #[.pointer (some ⟨g,0,none⟩),kv] w fun e w'=>∃ v,e=.returned (.tuple #[v,.bool (look E k).isSome])/\OB w' (w.heap.size <= ·) v ((look E k).getD [])/\SA w' K D g E W (n + 1) N/\Chg K w w':=by
 obtain⟨F,V,m,Q,jv,T,oj,hX,rfl,hB⟩:=h.open;obtain⟨ao,c,rfl⟩:=hk.shape;have u:=iq hX hn;have HX:=aB hX;have HB:=aB hB;have HK:=aB hk;clear hX hB hk h;obtain⟨kn,hkn⟩:∃ kn,Hid (k.length=kn):=⟨_,rfl⟩
 rw[hkn.out] at HK ⊢;have ug:=fun w' (X:SX w' K D F V g m Q jv T oj (n + 1) N) (hk:By w' (.slice ao kn c) k)=>lh X hk hN
 obtain⟨r,hr⟩:∃ r,(look Q.flatten k).isSome=r:=⟨_,rfl⟩
 obtain⟨L,hL⟩:∃ L,(look Q.flatten k).getD []=L:=⟨_,rfl⟩
 rw[hr,hL] at ug ⊢;clear hr hL;go_enter Tryz.func127,Tryz.ntmps127;go_wp2_with first
  | (go_at_call 95; go_must (refine u.mono ?_); rintro e w1 ⟨rfl,X1,C1⟩; have c0:=X1.blk.cell (i:=0) rfl)
  | (go_at_call 170; go_must (refine(ug _ X1 (HK.out _ (HX.out.kg C1))).mono ?_); rintro e w2 ⟨v,rfl,O,B⟩; obtain⟨a1,c1,rfl⟩:∃ a1 c1,v=.slice a1 L.length c1:=(by obtain⟨a1,c1,e,_⟩:=O.by.ex; exact⟨a1,c1,e⟩); generalize L.length=ln at *)
 go_ret2;exact⟨_,rfl,O.mono (fun b _ h=>by have:=C1.size; have h':w1.heap.size<=b:=h; show w.heap.size<=b; omega),(X1.keep B).shut rfl HB.out,gv (HX.out.kg C1) (Chg.of B)⟩
theorem GR(hX:SX w K D F V g m Q jv T oj n N)(hB:iX (T.reverse.map Jr.U) W Q.flatten)(hk:BK w K kv k)(hn:n<=4000000000000000000)(hN:N + 2<=100000000)(hr:(look Q.flatten k).isSome=false) :
  Calls Tryz.prog 75 #[.pointer (some ⟨g,0,none⟩),kv] w (Ends w K D g (rem Q.flatten k) W (n + 1) (N + 2) (.bool false)):=by
 obtain⟨ao,c,rfl⟩:=hk.shape;have u:=iq hX hn;have HX:=aB hX;have HB:=aB hB;have HK:=aB hk
 have hN':N<=99999998:=by omega
 replace hN:N<=100000000:=by omega
 clear hX hB hk;obtain⟨kn,hkn⟩:∃ kn,Hid (k.length=kn):=⟨_,rfl⟩
 rw[hkn.out] at HK ⊢;go_enter Tryz.func75,Tryz.ntmps75;go_wp2_with first
  | (go_at_call 95; go_must (refine u.mono ?_); rintro e w1 ⟨rfl,X1,C1⟩; have uh:=vV X1 (HK.out _ (HX.out.kg C1)) hN; rw[hr] at uh)
  | (go_at_call 121; go_must (refine uh.mono ?_); rintro e w2 ⟨rfl,B2⟩; clear uh; replace X1:=X1.keep B2; have C3:=gv (HX.out.kg C1) (Chg.of B2))
 go_ret;have e:=Ec HX.out.map.ord.flat hr;exact⟨rfl,K,((X1.shut e.symm (by rw[e]; exact HB.out)).more (by omega)).mono (fun _ _ h=>.inl h),fun b h=>.inl h,C3⟩
theorem Es(hX:SX w K D F V g m Q jv [] oj n N)(hB:iX ([].reverse.map Jr.U) W Q.flatten)(hk:BK w K kv k)(hn:n<=4000000000000000000)(hN:N + 2<=100000000)(hr:(look Q.flatten k).isSome=true) :
  Calls Tryz.prog 75 #[.pointer (some ⟨g,0,none⟩),kv] w (Ends w K D g (rem Q.flatten k) W (n + 1) (N + 2) (.bool true)):=by
 obtain⟨ao,c,rfl⟩:=hk.shape;have u:=iq hX hn;have HX:=aB hX;have HB:=aB hB;have HK:=aB hk
 have hN':N<=99999998:=by omega
 replace hN:N<=100000000:=by omega
 clear hX hB hk;obtain⟨kn,hkn⟩:∃ kn,Hid (k.length=kn):=⟨_,rfl⟩
 rw[hkn.out] at HK ⊢;go_enter Tryz.func75,Tryz.ntmps75;go_wp2_with first
  | (go_at_call 95; go_must (refine u.mono ?_); rintro e w1 ⟨rfl,X1,C1⟩; have uh:=vV X1 (HK.out _ (HX.out.kg C1)) hN; rw[hr] at uh)
  | (go_at_call 121; go_must (refine uh.mono ?_); rintro e w2 ⟨rfl,B2⟩; clear uh; replace X1:=X1.keep B2; have C3:=gv (HX.out.kg C1) (Chg.of B2))
  | (go_at_call 96; go_must (refine(oY X1).mono ?_); rintro e y ⟨rfl,hy⟩; replace hy:=hy.symm; subst hy; have c0:=X1.blk.cell (i:=0) rfl; have us:=mdel X1.map (HK.out _ C3) (by omega); rw[l7 X1.map.ord,hr] at us)
  | (go_at_call 122; go_must (refine us.mono ?_); rintro e w4 ⟨rfl,F',M',hF,hC⟩)
 go_ret;have X3:=X1.mapped (N':=N) (by have:=X1.tot; have:=nZ (E:=Q.flatten) k; rw[gG X1.map.ord]; omega) M' hF (fun _ h=>h) hC;refine⟨rfl,_,((X3.shut (E:=rem Q.flatten k) (W:=W) (gG X1.map.ord k) (qi HB.out)).more (by omega)).mono (fun b _ hb => ?_),fun b hb => ?_,?_⟩
 ·exact .inl hb
 ·rcases hb with⟨hb,_⟩ | hb
  ·exact .inl hb
  ·rcases hF b hb with h1 | h1
   ·exact .inl (X1.own.map b h1)
   ·exact .inr (by have:=C3.size; omega)
 ·exact gv C3 (hC.mono (fun b _ h=>X1.own.map b h))
theorem DZ{j:Jr}(hX:SX w K D F V g m Q jv (T0 ++ [j]) oj n N)(hB:iX ((T0 ++ [j]).reverse.map Jr.U) W Q.flatten)(hk:BK w K kv k)(hn:n<=4000000000000000000)(hN:N + 2<=100000000)(hkl:k.length<=1000000000)(hr:(look Q.flatten k).isSome=true) :
  Calls Tryz.prog 75 #[.pointer (some ⟨g,0,none⟩),kv] w (Ends w K D g (rem Q.flatten k) W (n + 1) (N + 2) (.bool true)):=by
 obtain⟨ao,c,rfl⟩:=hk.shape;have u:=iq hX hn;have HX:=aB hX;have HB:=aB hB;have HK:=aB hk;replace hkl:=aB hkl
 have hN':N<=99999998:=by omega
 replace hN:N<=100000000:=by omega
 clear hX hB hk;obtain⟨kn,hkn⟩:∃ kn,Hid (k.length=kn):=⟨_,rfl⟩
 rw[hkn.out] at HK ⊢;go_enter Tryz.func75,Tryz.ntmps75;go_wp2_with first
  | (go_at_call 95; go_must (refine u.mono ?_); rintro e w1 ⟨rfl,X1,C1⟩; have uh:=vV X1 (HK.out _ (HX.out.kg C1)) hN; rw[hr] at uh)
  | (go_at_call 121; go_must (refine uh.mono ?_); rintro e w2 ⟨rfl,B2⟩; clear uh; replace X1:=X1.keep B2; have C3:=gv (HX.out.kg C1) (Chg.of B2))
  | (go_at_call 96; go_must (refine(qW X1 (HK.out _ C3) (by have:=hkl.out; omega) hN).mono ?_); rintro e w3 ⟨rfl,K2,V2,j',hj',X2,hK2,C2⟩; have C4:=gv C3 C2; have c0:=X2.blk.cell (i:=0) rfl; have us:=mdel X2.map (HK.out _ C4) (by omega); rw[l7 X2.map.ord,hr] at us)
  | (go_at_call 122; go_must (refine us.mono ?_); rintro e w4 ⟨rfl,F',M',hF,hC⟩)
 go_ret;have X3:=X2.mapped (N':=N + 1) (by have:=X2.tot; have:=nZ (E:=Q.flatten) k; rw[gG X2.map.ord]; omega) M' hF (fun _ h=>h) hC;refine⟨rfl,_,((X3.shut (E:=rem Q.flatten k) (W:=W) (gG X2.map.ord k) (rr HB.out hj' (D7 HX.out.map.ord.flat k))).more (by omega)).mono (fun b _ hb => ?_),fun b hb => ?_,?_⟩
 ·rcases hb with hb | hb
  ·exact .inl hb
  ·exact .inr (by have:=C3.size; omega)
 ·rcases hb with⟨hb,_⟩ | hb
  ·exact(hK2 b hb).imp id (fun h=>by have:=C3.size; omega)
  ·rcases hF b hb with h1 | h1
   ·exact(hK2 b (X2.own.map b h1)).imp id (fun h=>by have:=C3.size; omega)
   ·exact .inr (by have:=C4.size; omega)
 ·exact C4.trans hC (fun b hb h=>(hK2 b (X2.own.map b h)).elim id (fun h=>by have:=C3.size; omega))
theorem sdel(h:SA w K D g E W n N)(b:BK w K kv k)(c:k.length<=1000000000)(hn:n<=4000000000000000000)(d:N + 2<=100000000) :
  Calls Tryz.prog 75 #[.pointer (some ⟨g,0,none⟩),kv] w (Ends w K D g (rem E k) W (n + 1) (N + 2) (.bool (look E k).isSome)):=by
 obtain⟨F,V,m,Q,i,T,e,hX,rfl,a⟩:=h.open
 cases hr:(look Q.flatten k).isSome with
 | false=>exact GR hX a b hn d hr
 | true =>
  rcases List.eq_nil_or_concat T with rfl | ⟨f,j,rfl⟩
  ·exact Es hX a b hn d hr
  ·rw[List.concat_eq_append] at hX a;exact DZ hX a b hn d c hr
end
end Kv
end
section
namespace Kv
open Go.RowKit Go.Lib Pg
section
variable {w:World}{D V:Nat->Prop}{g:Nat}{Q:List (List KV)}{jv:Value}{T:List Jr}{oj oj':Option Nat}
attribute [local go_sem] Oper.semAt_some
theorem SX.rows{w2:World}{K D F V:Nat → Prop}{m:Nat}{i:Value}{d:List Jr}{n N:Nat}(h : SX w K D F V g m Q jv T oj n N)(hb : Blk w2 g [.pointer (some ⟨m, 0, none⟩), i, .int .i64 n] 94)(hc : Chg (fun b => oj = some b ∨ b = g) w w2)(p : (oj' = none ∧ i = .slice none 0 0 ∧ d = []) ∨ ∃ b c, oj' = some b ∧ i = .slice (some ⟨b, 0, none⟩) d.length c ∧ Rw w2 273 1 b d.length c (d.map Jr.v))(C : ∀ j ∈ d, j ∈ T ∨ (j.U = [] ∧ j.v = .slice none 0 0 ∧ j.o = none))(A : (d.filterMap Jr.o).Nodup)(I : ∀ b, oj' = some b → oj = some b ∨ w.heap.size ≤ b)(a : Kv.tot d + Q.flatten.length ≤ N)(J : d.length ≤ 16) :
    SX w2 (fun b => (K b ∧ ¬ oj = some b) ∨ oj' = some b) D F V g m Q i d oj' n N ∧ ∀ j ∈ T, JrA w2 V D g j := by
  have hx : ∀ b cs t, Blk w b cs t → t ≠ 94 → t ≠ 273 → w2.heap[b]? = w.heap[b]? := fun b cs t k l y => hc.same b k.lt (fun e => by
    rcases e with e | e
    · obtain⟨x, u⟩:= h.jn.kind e
      exact y (k.eq u).2
    · subst e
      exact l (k.eq h.blk).2)
  have B : ∀ b, (oj = some b ∨ b = g) → ¬ F b := fun b e => e.elim (h.own.oS b) (fun e => by subst e; exact h.own.lI)
  have q : lT V D w w2 := ⟨fun b cs t _ k a => hx b cs t k (by rcases a with e | e <;> subst e <;> decide) (by rcases a with e | e <;> subst e <;> decide), fun b _ _ k => by obtain⟨cs, k⟩:= k; exact hx b cs _ k (by decide) (by decide)⟩
  have E : ∀ j ∈ T, JrA w2 V D g j := fun j f => (h.jn.each j f).stay q (fun b e => by obtain⟨cs, k⟩:= (h.jn.each j f).kind e; exact hx b cs _ k (by decide) (by decide))
  have z : ∀ b cs t, Blk w b cs t → t ≠ 273 → ¬ oj = some b := fun b cs t k l e => by
    obtain⟨x, u⟩:= h.jn.kind e;exact l (k.eq u).2
  have r : ∀ j ∈ d, ∀ b, j.o = some b → j ∈ T := fun j f b e => (C j f).elim id (fun h => by rw[h.2.2] at e; cases e)
  refine⟨⟨hb, h.map.same (fun b hF => hc.same b (h.map.lt hF) (fun e => B b e hF)) (fun b _ _ k => by obtain⟨cs, k⟩:= k; exact hx b cs _ k (by decide) (by decide)), ⟨p, fun j f => ?_, A⟩, a, J, ?_⟩, E⟩
  · rcases C j f with G | ⟨l, y, H⟩
    · exact E j G
    · exact⟨[], by rw[l]; exact gm.nil _ _ _ _, .inl ⟨H, y, l⟩⟩
  · refine⟨.inl ⟨h.own.top, z g _ _ h.blk (by decide)⟩, fun b hb => .inl ⟨h.own.map b hb, fun e => h.own.oS b e hb⟩, fun b hb => ?_, fun b hb => .inr hb, fun j f b e => ?_, fun b hb => ?_, h.own.lI, h.own.lD, fun b e => ?_, fun j f b e => h.own.p5 j (r j f b e) b e, fun b hv => by
      obtain⟨cs, t, k, a⟩:= h.own.vk b hv
      exact⟨cs, t, k.same (q.var b cs t hv k a), a⟩⟩
    · obtain⟨cs, t, k, a⟩:= h.own.vk b hb
      exact .inl ⟨h.own.var b hb, z b cs t k (by rcases a with e | e <;> subst e <;> decide)⟩
    · have s := r j f b e
      obtain⟨cs, k⟩:= (h.jn.each j s).kind e;exact .inl ⟨h.own.bck j s b e, z b cs _ k (by decide)⟩
    · rcases hb with⟨hK, hn⟩ | hb'
      · by_cases e : b = g
        · subst e; exact⟨_, _, hb, by decide⟩
        · obtain⟨cs, t, k, a⟩:= h.own.kind b hK
          exact⟨cs, t, k.chg hc (fun e2 => e2.elim hn e), a⟩
      · rcases p with⟨e, _⟩ | ⟨b', c, e, _, hR⟩
        · rw[hb'] at e; cases e
        · rw[hb'] at e; cases e
          obtain⟨cs, k⟩:= hR.kind;exact⟨cs, _, k, by decide⟩
    · rcases I b e with l | l
      · exact h.own.oS b l
      · intro hF; have := h.map.lt hF; omega
theorem app_jrn(h:JnA w V D g jv T oj)(r:T.length<=16){a:Addr}(o:w.cell? (a.add 0)=some (.slice none 0 0)) :
  ∃ jb c' w',(Builtin.append_ #[87,87] 87 #[jv,.slice (some a) 1 1]).run Tryz.prog w=.ok (.slice (some ⟨jb,0,none⟩) (T.length + 1) c') w'/\(oj=some jb\/jb=w.heap.size)/\Rw w' 273 1 jb (T.length + 1) c' (T.map Jr.v ++ [.slice none 0 0])/\Chg (fun b=>oj=some b) w w':=by
 have d:∀ j u,[Value.slice none 0 0][j]? = some u->w.cell? (a.add j)=some u:=fun j u k=>by
  have:j=0:=by have:=(List.getElem?_eq_some_iff.1 k).1; simp at this; omega
  subst this;simp at k; subst k; exact o
 rcases h.row with⟨e1,e2,e3⟩ | ⟨b,c,e1,e2,hR⟩
 ·subst e3;obtain⟨c',W,m,f,q⟩:=fy (w:=w) KJ 87 a 1 1 [.slice none 0 0] rfl d (by decide) (by decide) (by decide);exact⟨_,c',W,by rw[e2]; exact m,.inr rfl,f,Chg.of q⟩
 ·obtain⟨p,c',W,m,i,f,l⟩:=dK KJ 87 hR a 1 1 [.slice none 0 0] rfl d (fun v hv=>by simp at hv; subst hv; rfl) (by omega) (by omega);exact⟨p,c',W,by rw[e2]; exact m,i.imp (fun e=>by rw[e1,e]) id,f,l.mono (fun x _ e=>by have n:x=b:=e; rw[e1,n])⟩
end
end Kv
end
section
namespace Kv
open Go.RowKit Go.Lib Pg
section
variable {tmps:Array Value}{w:World}{g m n N:Nat}{v jv bv:Value}{V D K F:Nat->Prop}{j:Jr}{Q:List (List KV)}{T T1 T0:List Jr}{oj:Option Nat}{W:List aE}
attribute [local go_sem] Oper.semAt_some
theorem ra{fn:Func}{p:Tmp}{ty:TypeId}(h:fn.results=#[.cell p ty])(c:tmps.getD p undef=.pointer (some ⟨g,0,none⟩))(b:(loadVar ty ⟨g,0,none⟩).run Tryz.prog w=.ok v w):(results fn tmps).run Tryz.prog w=.ok v w:=by
 have a:tmps[p]?.getD undef=.pointer (some ⟨g,0,none⟩):=by simpa using c
 simp[results,h,a,asAddr,b]
theorem ld_jn{o:Nat}(c:w.cell? ⟨g,o,none⟩=some v):(loadVar 273 ⟨g,o,none⟩).run Tryz.prog w=.ok (.agg #[v]) w:=by
 go_simp
theorem jr_shape(h:JrA w V D g j):∃ a n c,j.v=.slice a n c:=by
 obtain⟨cs,_,⟨_,e,_⟩ | ⟨b,c,_,e,_⟩⟩:=h
 ·exact⟨_,_,_,e⟩
 ·exact⟨_,_,_,e⟩
theorem SX.same{w':World}(h:SX w K D F V g m Q jv T oj n N)(a:∀ b,K b->w'.heap[b]? = w.heap[b]?)(c:∀ b,b < w.heap.size->D b->(∃ cs,Blk w b cs 5)->w'.heap[b]? = w.heap[b]?):SX w' K D F V g m Q jv T oj n N :=
 ⟨h.blk.same (a g h.own.top),h.map.same (fun b hF=>a b (h.own.map b hF)) c,h.jn.stay ⟨fun b _ _ hv _ _=>a b (h.own.var b hv),c⟩ (fun b e=>a b (h.own.jrn b e)) (fun j d b e=>a b (h.own.bck j d b e)),h.tot,h.len,h.own.same a⟩
theorem xj{a j':Jr}{E:aE}(h:iX ((T1 ++ [a] ++ [j]).reverse.map Jr.U) W E)(b:j'.U=a.U ++ j.U):iX ((T1 ++ [j']).reverse.map Jr.U) W.tail E:=by
 rw[List.reverse_append,List.reverse_append] at h;rw[List.reverse_append];simp only[List.reverse_cons,List.reverse_nil,List.nil_append,List.cons_append,List.map_cons] at h ⊢
 match W,h with
 | e2 :: e1 :: W,⟨h1,h2,h3⟩=>exact⟨by rw[b,Ae,h1]; exact h2,h3⟩
theorem Fk(h:JrA w V D g j):∃ cs,gm w V D g j.U cs/\FO w j.v cs:=by
 obtain⟨cs,hC,⟨e1,e2,e3⟩ | ⟨b,c,e1,e2,a⟩⟩:=h
 ·exact⟨cs,hC,.inl ⟨e2,List.eq_nil_of_length_eq_zero (by rw[hC.1,e3]; rfl)⟩⟩
 ·exact⟨cs,hC,.inr ⟨_,c,by rw[hC.1]; exact e2,fun i x hx=>by rw[Addr.add_lit,Nat.zero_add]; exact a.cell hx⟩⟩
theorem xnote0(h:SX w K D F V g m Q jv [] oj n N) :
  Calls Tryz.prog 144 #[.pointer (some ⟨g,0,none⟩),bv] w fun e w'=>e=.returned (.tuple #[])/\w'=w:=by
 have ud:=r6 h;clear h;go_enter Tryz.func144,Tryz.ntmps144;go_wp2_with (go_at_call 143; go_must (refine ud.mono ?_); rintro e y ⟨rfl,hy⟩; replace hy:=hy.symm; subst hy);go_end0;exact⟨rfl,rfl⟩
theorem xcommit1(h:SX w K D F V g m Q jv T0 oj n N)(f:JrA w V D g j)(hv:j.v=bv)(d:Kv.tot T0 + j.U.length + Q.flatten.length<=N)(p:N<=100000000)(c:iX ((T0 ++ [j]).reverse.map Jr.U) W Q.flatten) :
  Calls Tryz.prog 144 #[.pointer (some ⟨g,0,none⟩),bv] w fun e w'=>e=.returned (.tuple #[])/\∃ K',SA w' K' D g Q.flatten W.tail n N/\(∀ b,K' b->K b\/w.heap.size<=b)/\Chg K w w':=by
 rcases List.eq_nil_or_concat T0 with rfl | ⟨o,k,rfl⟩
 ·refine(xnote0 h).mono ?_
  rintro e w' ⟨rfl,rfl⟩;refine⟨rfl,K,h.shut rfl ?_,fun b=>.inl,Chg.refl _ _⟩
  match W,c with
  | e :: W,⟨_,h2⟩=>exact qi h2
 ·rw[List.concat_eq_append] at h c d;obtain⟨cs,hC,hL⟩:=Fk f;subst hv;refine(Hp (N':=N) h hC hL (Nat.le_refl _) d (by omega)).mono ?_
  rintro e w' ⟨rfl,K',l,a,X,i,hc⟩;exact⟨rfl,K',X.shut rfl (xj c a),i,hc⟩
end
end Kv
end
section
namespace Kv
open Go.RowKit Go.Lib Pg
attribute [local go_sem] Oper.semAt_some
def ArBF (Q:List Value) (i:Nat) (args:Array Value) (_:Nat) (_:World):Prop:=∃ p j,j + 1 + i=Q.length/\Q[j]? = some p/\args=#[.int .i64 (j:Int),p]
end Kv
end
section
namespace Kv
open Go.RowKit Go.Lib Pg
section
variable {w w' w2 X Y:World}{B g m n N bs i jj:Nat}{K D F V:Nat->Prop}{Q:List (List KV)}{jv p:Value}{T T0:List Jr}{oj:Option Nat}{cs xs:List Value}{j:Jr}
attribute [local go_sem] Oper.semAt_some
def RowC(w:World)(F:Nat->Prop)(v:Value)(cs:List Value):Prop:=(v=.slice none 0 0/\cs=[])\/∃ b c,v=.slice (some ⟨b,0,none⟩) cs.length c/\Rw w 1 1 b cs.length c cs/\¬ F b
structure RbI(w w2:World)(K D F V:Nat->Prop)(g m:Nat)(Q:List (List KV))(jv:Value)(T0:List Jr)(oj:Option Nat)(n N:Nat)(j:Jr)(cs:List Value)(bs i:Nat)(X:World):Prop where
 ex:∃ K' D' F' Q',SX X K' D' F' V g m Q' jv T0 oj n N/\gm X V D' g j.U cs/\RowC X F' j.v cs/\Blk X bs [j.v] 270/\Q'.flatten=je (j.U.drop (j.U.length - i)) Q.flatten/\Kv.tot T0 + Q'.flatten.length + (j.U.length - i)<=N/\(∀ b,K' b->K b\/w.heap.size<=b)/\(∀ b,D' b->D b\/w.heap.size<=b)/\(∀ b,F' b->F b\/w2.heap.size<=b)/\Chg K w X/\w2.heap.size<=X.heap.size
theorem SX.rcd(h:SX w K D F V g m Q jv T oj n N)(a:Rec B w w'):SX w' K D F V g m Q jv T oj n N :=
 h.same (fun b hb=>by obtain⟨cs,t,k,_⟩:=h.own.kind b hb; rw[(a.blk k).blk,k.blk]) (fun b _ _ c=>by obtain⟨cs,k⟩:=c; rw[(a.blk k).blk,k.blk])
theorem gm.rcd{U:List Und}(h:gm w V D g U cs)(hr:Rec B w w'):gm w' V D g U cs :=
 h.stay ⟨fun b _ _ _ k _=>by rw[(hr.blk k).blk,k.blk],fun b _ _ hk=>by obtain⟨cs,k⟩:=hk; rw[(hr.blk k).blk,k.blk]⟩
theorem Rw.rcd{E:TypeId}{k b c:Nat}(h:Rw w E k b n c xs)(hr:Rec B w w'):Rw w' E k b n c xs:=by
 obtain⟨cs,hk⟩:=h.kind;exact h.same (by rw[(hr.blk hk).blk,hk.blk])
theorem iL{w1:World}(h:Chg K w w1)(a:Rec B w1 w')(f:w.heap.size<=B):Chg K w w' :=
 ⟨a.os.trans h.os,a.tape.trans h.tape,a.output.trans h.output,Nat.le_trans h.size a.size,fun b hb d=>by
  have e:=h.same b hb d;rw[<- e]
  have c:b < w1.heap.size:=Nat.lt_of_lt_of_le hb h.size;rw[Array.getElem?_eq_getElem c]
  exact a.same b _ (Array.getElem?_eq_getElem c) (.inl (by omega))⟩
theorem RbI.rcd(h:RbI w w2 K D F V g m Q jv T0 oj n N j cs bs i X)(a:Rec w2.heap.size X Y)(hw:w.heap.size<=w2.heap.size):RbI w w2 K D F V g m Q jv T0 oj n N j cs bs i Y:=by
 obtain⟨x,u,p,l,y,k,v,r,t,o,h7,h8,q,d,f⟩:=h.ex;refine⟨x,u,p,l,y.rcd a,k.rcd a,v.imp id ?_,a.blk r,t,o,h7,h8,q,iL d a hw,Nat.le_trans f a.size⟩;rintro⟨b,c,e,s,hn⟩;exact⟨b,c,e,Rw.rcd s a,hn⟩
theorem RbI.keep(h:RbI w w2 K D F V g m Q jv T0 oj n N j cs bs i X)(hb:Below X.heap.size X Y)(hw:w.heap.size<=w2.heap.size):RbI w w2 K D F V g m Q jv T0 oj n N j cs bs i Y:=h.rcd (Rec.of hb) hw
theorem Aq{α:Type}{U:List α}{u:α}(b:jj + 1 + i=U.length)(hu:U[jj]? = some u):U.drop (U.length - (i + 1))=u :: U.drop (U.length - i):=by
 have e1:U.length - (i + 1)=jj:=by omega
 have e2:U.length - i=jj + 1:=by omega
 obtain⟨a,rfl⟩:=List.getElem?_eq_some_iff.1 hu;rw[e1,e2];exact List.drop_eq_getElem_cons a
theorem RbI.step(h:RbI w w2 K D F V g m Q jv T0 oj n N j cs bs i X)(hbs:bs < w2.heap.size)(B:¬ F bs)(hj:jj + 1 + i=cs.length)(M:cs[jj]? = some p)(T:N<=100000000)(hw:w.heap.size<=w2.heap.size) :
  ∃ f cap,p=.func (.func f) #[] cap/\(f=191\/f=192)/\Calls Tryz.prog f cap X fun e Y=>e=.returned (.tuple #[])/\RbI w w2 K D F V g m Q jv T0 oj n N j cs bs (i + 1) Y/\bC (fun t=>t≠5) w2.heap.size X Y:=by
 obtain⟨R,D',G,E,q,C,P,h4,O,h6,h7,h8,H,y,A⟩:=h.ex;have hlen:=C.1;obtain⟨u,hu⟩:∃ u,j.U[jj]? = some u:=⟨j.U[jj]'(by omega),List.getElem?_eq_getElem _⟩
 have hC:=C.2 jj u p hu M;obtain⟨f,cap,e,d⟩:=FW q hC T (by omega);refine⟨f,cap,e,?_,d.mono ?_⟩
 ·obtain⟨s1,s2,kv,v1,v2,b1,b2,ok,⟨_,e2⟩ | ⟨s3,vv,x,v3,b3,ov,_,e2⟩⟩:=hC.ex
  ·rw[e] at e2; cases e2; exact .inl rfl
  ·rw[e] at e2; cases e2; exact .inr rfl
 ·rintro e Y ⟨rfl,S,L,W,r,a,hc⟩
  have l:∀ b,G b->R b:=q.own.map
  have z:lT V D' X Y:=⟨fun b _ _ hv k _=>hc.same b k.lt (q.own.lD b hv),fun b hl _ k=>hc.same b hl (fun f=>by obtain⟨cs,k⟩:=k; exact q.map.noU f cs k)⟩
  have v:¬ G bs:=fun hf=>(H bs hf).elim B (fun h=>by omega)
  refine⟨rfl,⟨_,_,S,L,W,(C.stay z).mono (fun _ h=>h) (fun _ _ h=>.inl h),?_,h4.chg hc v,?_,?_,fun b hb => ?_,fun b hb => ?_,fun b hb => ?_,?_,?_⟩,?_⟩
  ·rcases P with h | ⟨b,c,e,I,hn⟩
   ·exact .inl h
   ·exact .inr ⟨b,c,e,I.chg hc hn,fun hf=>(a b hf).elim hn (fun h=>by have:=I.lt; omega)⟩
  ·rw[r,O,Aq (by omega) hu]; rfl
  ·have:=Dq q.map.ord.flat u;rw[r]
   have h12:E.flatten.length=E.flatten.length:=rfl;omega
  ·rcases hb with⟨hb,_⟩ | hb
   ·exact h7 b hb
   ·rcases a b hb with h | h
    ·exact h7 b (l b h)
    ·exact .inr (by omega)
  ·rcases hb with hb | hb
   ·exact h8 b hb
   ·exact .inr (by omega)
  ·rcases a b hb with h | h
   ·exact H b h
   ·exact .inr (by omega)
  ·exact y.trans hc (fun b hb hf=>(h7 b (l b hf)).elim id (fun h=>by omega))
  ·exact Nat.le_trans A hc.size
  ·refine⟨hc.size,fun k o _ s Z=>(hc.same k (lt_of_block s) (fun hf => ?_)).trans s⟩;obtain⟨J,t,kb,ht⟩:=q.own.kind k (l k hf);rw[kb.blk] at s
   cases s;exact Z _ _ _ rfl ht
end
end Kv
end
section
namespace Kv
open Go.RowKit Go.Lib Pg
attribute [local go_sem] Oper.semAt_some
end Kv
end
section
namespace Kv
open Go.RowKit Go.Lib Pg
section
variable {n g N:Nat}{ops:Array Oper}{rest:List Oper}{a:Act}{w w':World}{v jv:Value}{pos:String}{K D:Nat → Prop}{Q:List (List KV)}{T:List Jr}{oj:Option Nat}{X:Nat->Prop}{W:List aE}
attribute [local go_sem] Oper.semAt_some
theorem lK{F:Fence}{Q:Exit->Act->World->Prop}{o:Oper}(c:o.guard=none)(hF:∀ f,F.fn f)(hs:o.semAt F.round a.eval=execOp a.eval o)(b:(execOp a.eval o).run Tryz.prog w=.ok (.value v) w')(h:wpListIn F n Tryz.prog ops Q rest (a.put o.dst v) w'):wpListIn F n Tryz.prog ops Q (o :: rest) a w :=
 wpListIn_plain c fun K d=>by
  unfold Oper.wpIn;rw[hs,b,Oper.uponIn_value];exact⟨fun f _=>hF f,d _ _ h⟩
theorem E8{F:Fence}{x y d:Nat}{Q:Exit->Act->World->Prop}{after:Array Edge}{u r:Value}(hF:∀ f,F.fn f)(hu:a.eval (.tmp x)=u)(hv:a.eval (.tmp y)=v)(b:(Builtin.append_ #[46,46] 46 #[u,v]).run Tryz.prog w=.ok r w')(h:wpListIn F n Tryz.prog ops Q rest (a.put (some d) r) w') :
  wpListIn F n Tryz.prog ops Q ({ dst:=some d,op:=.call { callee:=.builtin .append,args:=#[.tmp x,.tmp y],argTypes:=#[46,46] },type:=46,pos:=pos,after:=after,guard:=none } :: rest) a w :=
 lK rfl hF (Oper.semAt_eq _ _ _ (fun c h=>by cases h)) (run_ap (x:=x) (y:=y) rfl rfl hu hv b) h
theorem SX.wm{K D F V:Nat->Prop}{m:Nat}(h:SX w K D F V g m Q jv T oj n N)(e:N<=100000000)(d:∀ b,X b->¬ F b)(a:∀ b,X b->∀ cs,¬ Blk w b cs 5)(c:∀ b,X b->b < w.heap.size) :
  ∃ L,Wm w X F D m L/\∀ f t,(wlk (ens L) f t).map En.kl2=Q.flatten.filter (jM f t):=by
 obtain⟨L,rfl,A,O,S,k,r⟩:=h.map.ex;exact⟨L,⟨A,O,fun es he=>(S.one es he).2,S.few k e,r,d,a,c⟩,fun f t=>BN O f t⟩
theorem Da(x:KV):jM [] [] x=true:=by
 simp[jM,Lt]
 cases x.1<;>simp[cY]
def TpD(t:TypeId):Prop:=t=98
theorem Hr{E:aE}(h : SA w K D g E W n N)(hN : N ≤ 100000000) :
    Calls Tryz.prog 15 #[.pointer (some ⟨g, 0, none⟩)] w fun e w' => ∃ v es, e = .returned v ∧ PrA w' w.heap.size v es ∧ es.map En.kl2 = E ∧ Below w.heap.size w w' := by
  have hsm := h.small;have hsz := h.size;obtain⟨F, V, m, Q, jv, T, oj, hX, rfl, hB⟩:= h.open;have b1 := ae w (.cells #[.slice none 0 0] 46);have c1 := aC w [.slice none 0 0] 46;have X1 := hX.keep b1
  obtain⟨L, K2, hwl⟩:= X1.wm hN (X := (· = w.heap.size)) (fun b e hF => by have e' : b = w.heap.size := e; have := hX.map.lt hF; omega) (fun b e cs k => by
    have e' : b = w.heap.size := e;subst e'
    exact absurd (c1.eq k).2 (by decide)) (fun b e => by have e' : b = w.heap.size := e; simp; omega)
  have ag : (wlk (ens L) [] []).map En.kl2 = Q.flatten := by rw[hwl, List.filter_eq_self.2 (fun x _ => Da x)]
  have tW := jz (Tp := TpD) K2 (By.nil _) (By.nil _) (by decide) (by decide) (by unfold TpD; decide) (by unfold TpD; decide);have g0 := X1.blk.cell (i := 0) rfl;obtain⟨ax, hE⟩ : ∃ E, Hid (wlk (ens L) [] [] = E) := ⟨_, rfl⟩;rw[hE.out] at tW ag;have hEQ := aB ag
  have hlen : ax.length ≤ N := by have := congrArg List.length ag; simp only[List.length_map] at this; omega
  have sz1 : (w.alloc (.cells #[.slice none 0 0] 46)).heap.size = w.heap.size + 1 := by simp
  have HB1 := aB b1;have HC1 := aB c1;clear h hX X1 K2 hwl ag hB;obtain⟨Wa, au⟩ : ∃ Wa, Hid (w.alloc (.cells #[.slice none 0 0] 46) = Wa) := ⟨_, rfl⟩;rw[au.out] at tW g0 sz1 HB1 HC1;have c1 := HC1.out;refine(callsIn_wide (n := 0)).1 ?_
  refine callsIn_of_wp_marks Tryz.func15 rfl trivial ?_ rfl;simp only[Tryz.ntmps15, List.size_toArray, List.length_cons, List.length_nil, Nat.reduceAdd, Nat.reduceSub, Array.replicate_succ, Array.replicate_zero, List.push_toArray, List.append_toArray, List.nil_append, List.cons_append];rw[← au.out] at g0;gi_wp2_with (refine⟨trivial, rfl, ?_⟩; gi_at_call 42; rw[au.out]; refine(callsIn_wide.2 tW).mono ?_; rintro e' w1 ⟨bw, rfl, ap, IT⟩);have cb := c1.keep ap;clear tW;have q1 := ap.size;refine ix IT (by rfl) (enters_of Tryz.func123 (by kernel_rfl) rfl) (fun i args n V V' h hc => h.cel hc) (fun i args n V h => by obtain⟨e, kv, vv, s, _, rfl, _⟩:= h; rfl)
    (fun i V => Gw w1 V w.heap.size ax i) (fun _ _ _ => False)
    (fun i A B hx hr => hx.rcd hr) (fun _ _ _ _ hx _ => hx)
    (fun i V hv => hv.chg) ⟨Chg.refl _ _, _, [], cb, ⟨.inl ⟨rfl, rfl⟩, fun e he => by cases he⟩, rfl⟩ ?_ ?_ ?_
  · rintro l2 i args V Wv hl hlV hrec hiN hG hb ⟨e0, kv, vv, s0, he0, rfl, hk0, hv0, _⟩
    obtain⟨ak, nk, hk1⟩:= hk0.shape;obtain⟨av, nv, hv1⟩:= hv0.shape;subst hk1 hv1;simp;gi_wp2;refine⟨Below.refl _ _, ?_⟩;intro V2 W2 ah ad hAr2 hoth aj hV2 r hrec2;obtain⟨e1, kv1, vv1, t1, he1, an, hk2, hv2, ht1⟩:= hAr2;obtain rfl : e1 = e0 := by rw[he0] at he1; cases he1; rfl
    simp at an;obtain⟨rfl, rfl⟩:= an;obtain⟨ov, es, g1, g2, g3⟩:= ah.out
    have af : es.length = i := by have := congrArg List.length g3; simp at this; omega
    obtain⟨ao0, cc0, rfl⟩:= g2.shape;have S0 := g1.keep ad;have P0 := g2.keep ad;have z1 := ah.chg.size;have z2 := ad.size;have ab := ae W2 (.cells #[.slice ak e1.kl.length nk, .slice av e1.vl.length nv] 98);have N4 := aC W2 [.slice ak e1.kl.length nk, .slice av e1.vl.length nv] 98;have z5 := ab.size
    have hE4 : EnA (W2.alloc (.cells #[.slice ak e1.kl.length nk, .slice av e1.vl.length nv] 98)) (fun b => w1.heap.size ≤ b) ⟨.slice ak e1.kl.length nk, e1.kl, .slice av e1.vl.length nv, e1.vl⟩:= ⟨(hk2.keep ab).mono (fun b _ hb => by omega), (hv2.keep ab).mono (fun b _ hb => by omega)⟩;obtain⟨ov5, w5, az, P5, ay⟩:= Cd (e := ⟨.slice ak e1.kl.length nk, e1.kl, .slice av e1.vl.length nv, e1.vl⟩) (a := ⟨W2.heap.size, 0, none⟩) 46 (P0.keep ab) (by omega) hE4 (by omega) (N4.cell (i := 0) rfl) (N4.cell (i := 1) rfl);have S4 := S0.keep ab;have S5 := ay.blk S4 (by decide);have s0c := S0.cell (i := 0) rfl;obtain⟨aa, am⟩ : ∃ aa, Hid (es ++ [(⟨.slice ak e1.kl.length nk, e1.kl, .slice av e1.vl.length nv, e1.vl⟩ : En)] = aa) := ⟨_, rfl⟩
    have hes4 : Hid (aa.map En.kl2 = (ax.take (i + 1)).map En.kl2) := by
      show _ = _
      rw[← am.out, List.map_append, g3, List.take_add_one, he0, List.map_append];rfl
    simp only[am.out] at P5;obtain⟨aw, aq, rfl⟩:= P5.shape;have s5c := S5.cell (i := 0) rfl;have s5f := S5.free 0;have ar := aB P5;have HS5 := aB S5;have HSp := aB ay;have HBa := aB ab;have HG2 := aB ah;have HB2 := aB ad;have hsl := S4.cell (i := 0) rfl;replace af := aB af;replace aj := aB aj;replace hV2 := aB hV2;clear hG hk0 hv0 hb hoth P5 S5 ay ab N4 hE4 P0 S0 g1 g2 g3 hk2 hv2 ad ah S4;gi_wp2_with (have gate := az; clear gate; refine E8 (fun _ => trivial) rfl rfl az ?_; clear az)
    have ac : Chg (· = w.heap.size) w5 (w5.setCell ⟨w.heap.size, 0, none⟩ (.slice aw aa.length aq)) := (Chg.refl (fun x => x = w.heap.size) w5).cell (.inl (by rfl)) _
    have al : ∀ b, b = w.heap.size → ∀ cs, ¬ Blk w5 b cs 5 := fun b hb cs k => by
      subst hb;have := (k.eq HS5.out).2;revert this;decide
    have P6 : PrA (w5.setCell ⟨w.heap.size, 0, none⟩ (.slice aw aa.length aq)) w1.heap.size (.slice aw aa.length aq) aa := ⟨ar.out.ex.imp id (fun⟨b, c, e, hl, hR⟩ => ⟨b, c, e, hl, hR.chg ac (by omega)⟩), fun e he => ⟨(ar.out.ea e he).k.chg ac al, (ar.out.ea e he).v.chg ac al⟩⟩;refine⟨((bC.of (Tp := TpD) (B := w1.heap.size) HBa.out).trans (HSp.out.keeps (Tp := TpD) rfl)).trans ⟨ac.size, fun k o hk h0 _ => (ac.same k (lt_of_block h0) (by omega)).trans h0⟩, ⟨?_, _, aa, HS5.out.setCell (i := 0) _, P6, hes4.out⟩⟩;exact(((HG2.out.chg.trans (Chg.of (F := fun _ => False) (ai HB2.out HBa.out)) (fun _ _ h => h.elim)).trans HSp.out.chg (fun b h1 h2 => by omega))).trans ac (fun b _ h => h)
  · rintro D' W' hD hK hG
    obtain⟨ov, es, g1, g2, g3⟩:= hG.out;obtain⟨ao, cc, rfl⟩:= g2.shape;have g1c := g1.cell (i := 0) rfl;gi_wp2;refine⟨by simp, .inl ⟨_, _, rfl, run_takeDeferred hK, ?_⟩⟩;refine⟨_, results_tmp rfl _ _ _, _, es, rfl, (g2.cel (Rec.put hK rfl hD _).cel).low (by omega), ?_, ?_⟩
    · rw[g3, List.take_length]; exact hEQ.out
    · exact vW HB1.out ap ((hG.rcd (Rec.put hK rfl hD _)).chg) (Nat.le_refl _)
  · rintro D' c i W' hD hK hi hF
    exact hF.elim
end
end Kv
end
section
namespace Kv
open Go.RowKit Go.Lib Pg
section
variable {g x:Nat}{V w W1:World}{E:List En}{args:Array Value}{v:Value}{X:Nat → Prop}
attribute [local go_sem] Oper.semAt_some
def tick(g:Nat)(V:World)(x:Nat):World:=V.setCell ⟨g,2,none⟩ (.int .i64 ((x:Int) + 1))
def ItrC(Tp:TypeId->Prop)(g x0:Nat)(gf:Nat)(lb:Array Value)(N:Nat)(Ar:Nat->Array Value->Nat->World->Prop)(Rd:World->Prop):Prop :=
 ∀ (l:Nat) (J0:World->Prop) (J Jt Jx:Nat->World->Prop) (W:World),St W.heap.size J0->(∀ i,St W.heap.size (J i))->(∀ i,St W.heap.size (Jt i))->(∀ i,St W.heap.size (Jx i))->g < W.heap.size ->
  (∀ V,J0 V->V.cell? ⟨g,2,none⟩=some (.int .i64 x0)/\V.frozen? ⟨g,2,none⟩=false/\Rd V/\J 0 (tick g V x0)) ->
  (∀ i V,J i V->V.cell? ⟨g,2,none⟩=some (.int .i64 ((x0 + 1 + i:Nat):Int))/\V.frozen? ⟨g,2,none⟩=false/\Rd V/\(i < N->Jt i (tick g V (x0 + 1 + i)))) ->
  (∀ i args V V',i < N->Jt i V->W.heap.size<=V.heap.size->Below V.heap.size V V'->Ar i args V.heap.size V'->YieldAt Fence.wide 0 Tryz.prog l args V' fun e V''=>bC Tp W.heap.size V' V''/\((e=.returned (.bool true)/\J (i + 1) V'')\/(e=.returned (.bool false)/\Jx (i + 1) V''))) ->
  J0 W ->
  Calls Tryz.prog gf (#[.func (.yield l) #[] #[]] ++ lb) W fun e W'=>(∃ v,e=.returned v)/\W.heap.size<=W'.heap.size/\(J N W'\/∃ i,i < N/\Jx (i + 1) W')
theorem pR{V':World}(hb:Below V.heap.size V V'):Below (tick g V x).heap.size (tick g V x) (tick g V' x):=by
 unfold tick;refine⟨hb.os,hb.tape,hb.output,by simpa[World.setCell] using hb.size,fun k b => ?_⟩
 have a:k < V.heap.size:=by simpa[World.setCell] using b
 by_cases e:k=g
 ·subst e;have c:=hb.block k a;simp only[World.setCell,Array.getElem?_modify,c]
 ·rw[Below.heap_setCell _ _ _ _ (by exact e),Below.heap_setCell _ _ _ _ (by exact e)];exact hb.block k a
theorem dO(g x:Nat)(V:World):(tick g V x).heap.size=V.heap.size:=by simp[tick,World.setCell]
theorem dD(g x:Nat)(V:World):Chg (· = g) V (tick g V x):=(Chg.refl (· = g) V).cell (.inl rfl) _
theorem uC{i n:Nat}(h:ArC E i args n V)(f:∃ cs,Blk V g cs 94):ArC E i args n (tick g V x):=by
 obtain⟨e,kv,vv,s,p,c,o,m,d⟩:=h
 have a:∀ b,b=g->∀ cs,¬ Blk V b cs 5:=fun b hb cs k=>by
  subst hb;obtain⟨l,j⟩:=f;exact absurd (k.eq j).2 (by decide)
 exact⟨e,kv,vv,s,p,c,o.chg (dD g x V) a,m.chg (dD g x V) a,d⟩
theorem ld_it{o:Nat}(c:w.cell? ⟨g,o,none⟩=some v):(loadVar 85 ⟨g,o,none⟩).run Tryz.prog w=.ok v w:=by go_simp
def RdC(X:Nat->Prop)(W1:World)(g bs1 bs2 bw:Nat)(V:World):Prop:=Chg X W1 V/\Blk V bs1 [.pointer (some ⟨g,0,none⟩)] 37/\Blk V bs2 [.func (.func 123) #[] #[.pointer (some ⟨bw,0,none⟩)]] 85/\∃ cs,Blk V g cs 94
theorem Iu{Tp : TypeId → Prop}{bs1 bs2 bw x0:Nat}(IT : Itr Tp 123 #[.pointer (some ⟨bw, 0, none⟩)] E.length (ArC E) (fun V => Chg X W1 V))(hT : ¬ Tp 166)(hx : x0 + E.length ≤ 3000000000000000000) :
    ItrC Tp g x0 169 #[.pointer (some ⟨bs1, 0, none⟩), .pointer (some ⟨bs2, 0, none⟩)] E.length (ArC E) (RdC X W1 g bs1 bs2 bw) := by
  intro l J0 J Jt Jx W hS0 hSJ hSt hSx hgW hJ0 hJ hY h0;have B1 := ae W (.cells #[.func (.yield l) #[] #[]] 166);have Y1 := aC W [.func (.yield l) #[] #[]] 166;have J1 := hS0 _ _ h0 (Rec.of B1);obtain⟨q1, q2, ⟨r1, r2, r3, r4⟩, q3⟩:= hJ0 _ J1
  have s1 : (W.alloc (.cells #[.func (.yield l) #[] #[]] 166)).heap.size = W.heap.size + 1 := by simp
  have cs := r2.cell (i := 0) rfl;have uc := iF (g := g) q1 q2 (by omega) (by omega);have Yt := Y1.chg (dD g x0 _) (by omega);have hst := (hJ 0 _ q3).2.2.1;have cw := hst.2.2.1.cell (i := 0) rfl;have HY := aB hY;have HJ := aB hJ;clear hJ0 hJ hY h0 J1 B1 Y1 r1 r2 r3 r4 q1 q2;obtain⟨Wa, hWa⟩ : ∃ Wa, Hid (W.alloc (.cells #[.func (.yield l) #[] #[]] 166) = Wa) := ⟨_, rfl⟩;rw[hWa.out] at q3 s1 uc Yt hst cw;refine(callsIn_wide (n := 0)).1 ?_
  refine callsIn_of_wp_marks Tryz.func169 rfl trivial ?_ rfl;simp only[Tryz.ntmps169, List.size_toArray, List.length_cons, List.length_nil, Nat.reduceAdd, Nat.reduceSub, Array.replicate_succ, Array.replicate_zero, List.push_toArray, List.append_toArray, List.nil_append, List.cons_append];have tsz := dO g x0 Wa;gi_wp2_with (refine⟨trivial, rfl, ?_⟩; gi_at_call 95; rw[hWa.out]; refine(callsIn_wide.2 uc).mono ?_; rintro e' w0 ⟨rfl, hw0⟩; obtain rfl : w0 = tick g Wa x0 := hw0; clear uc cs);generalize tick g Wa x0 = Wt at *
  have sT : Wt.heap.size = W.heap.size + 1 := by omega
  refine ix IT (by rfl) (enters_of Tryz.func123 (by kernel_rfl) rfl) (fun i args n V V' h hc => h.cel hc) (fun i args n V h => by obtain⟨e, kv, vv, s, _, rfl, _⟩:= h; rfl)
    (fun i V => J i V ∧ W.heap.size + 1 ≤ V.heap.size ∧ Blk V W.heap.size [.func (.yield l) #[] #[]] 166)
    (fun c i V => c = .ret ∧ Jx i V ∧ W.heap.size + 1 ≤ V.heap.size)
    (fun i A B hx hr => ⟨hSJ i A B hx.1 (hr.mono (by omega)), Nat.le_trans hx.2.1 hr.size, eR hx.2.2 hr⟩)
    (fun c i A B hx hr => ⟨hx.1, hSx i A B hx.2.1 (hr.mono (by omega)), Nat.le_trans hx.2.2 hr.size⟩)
    (fun i V hv => (HJ.out i V hv.1).2.2.1.1) ⟨q3, by omega, Yt⟩ ?_ ?_ ?_
  · rintro l2 i args V Wv hl hlV hrec hiN ⟨hJi, hsz, hY2⟩ hb ⟨e0, kv, vv, s0, he0, rfl, hk0, hv0, _⟩
    obtain⟨ak, nk, hk1⟩:= hk0.shape;obtain⟨av, nv, hv1⟩:= hv0.shape;subst hk1 hv1;simp;gi_wp2;refine⟨Below.refl _ _, ?_⟩;intro V2 W2 hJ2 hsz2 hYb aa hAr2 hoth hsz3 hV2 r hrec2;obtain⟨p1, p2, ⟨k1, k2, k3, k4⟩, p3⟩:= HJ.out i V2 hJ2
    have glt : g < V2.heap.size := by obtain⟨cs, k⟩:= k4; exact k.lt
    have c2 : W2.cell? ⟨g, 2, none⟩ = some (.int .i64 ((x0 + 1 + i : Nat) : Int)) := by rw[aa.cell (p := ⟨g, 2, none⟩) glt]; exact p1
    have k4W : ∃ cs, Blk W2 g cs 94 := by obtain⟨cs, k⟩:= k4; exact⟨cs, k.keep aa⟩
    have f2 : W2.frozen? ⟨g, 2, none⟩ = false := by obtain⟨cs, k⟩:= k4W; exact k.free 2
    have cs2 := (k2.keep aa).cell (i := 0) rfl;have uc2 := iF (g := g) c2 f2 (by omega) (by omega);have hYW := (hYb.keep aa).chg (dD g (x0 + 1 + i) W2) (by omega);have yb := hYW.cell (i := 0) rfl;have hA3 := uC (x := x0 + 1 + i) hAr2 k4W;rw[← dO g (x0 + 1 + i) V2] at hA3;have hYY := HY.out i _ _ _ hiN (p3 hiN) (by rw[dO]; omega) (pR (x := x0 + 1 + i) aa) hA3;obtain⟨fn, tmps, assign, body, hy, hR⟩:= hYY
    have hR2 : RoundIn (Fence.wide.inRound l2) 0 Tryz.prog l fn tmps assign body (tick g W2 (x0 + 1 + i)) _ := ⟨hR.1, fun c cs _ => hR.2 c cs (fun _ h => by cases h)⟩
    have hkt : bC Tp Wt.heap.size W2 (tick g W2 (x0 + 1 + i)) := ⟨by rw[dO]; exact Nat.le_refl _, fun k o hk h0 _ => ((dD g (x0 + 1 + i) W2).same k (lt_of_block h0) (by omega)).trans h0⟩;have HK := aB hkt;have HYW := aB hYW;have HR := aB hR2;replace hsz3 := aB hsz3;replace hV2 := aB hV2
    have hWs : W.heap.size + 1 ≤ W2.heap.size := Nat.le_trans hsz2 aa.size;have tsz2 := aB (dO g (x0 + 1 + i) W2);clear hJi hk0 hv0 hb hoth hAr2 hA3 hR hR2 hkt hYW p1 p2 p3 k1 k2 k3 k4 k4W c2 f2 hYb aa hJ2 tsz;gi_wp2_with (refine⟨trivial, rfl, ?_⟩; gi_at_call 95; refine(CallsIn.inRound l2 (callsIn_wide.2 uc2)).mono ?_; rintro e' w3 ⟨rfl, hw3⟩; obtain rfl : w3 = tick g W2 (x0 + 1 + i) := hw3; clear uc2 cs2);refine⟨rfl, HR.out.mono ?_⟩;rintro e' w5 ⟨hk5, h5⟩;have hY5 := hk5.blk HYW.out (Nat.le_refl _) hT
    have hkk : bC Tp Wt.heap.size W2 w5 := HK.out.trans (hk5.mono (by omega))
    have hsz5 : W.heap.size + 1 ≤ w5.heap.size := Nat.le_trans hWs hkk.size;rcases h5 with⟨rfl, hJ5⟩ | ⟨rfl, hJ5⟩
    · gi_wp2
      exact⟨hkk, hJ5, hsz5, hY5⟩
    · gi_wp2
      exact⟨hkk, rfl, hJ5, hsz5⟩
  · rintro D' W' hD hK ⟨hJn, hsz, hYb⟩
    gi_wp2;refine⟨by simp, .inl ⟨_, _, rfl, run_takeDeferred hK, ?_⟩⟩;exact⟨_, results_none rfl _ _ _, ⟨_, rfl⟩, by simp; omega, .inl (hSJ _ _ _ hJn (Rec.put hK rfl (by omega) _))⟩
  · rintro D' c i W' hD hK hiN ⟨rfl, hJx', hsz⟩
    gi_wp2;refine⟨by simp, .inl ⟨_, _, rfl, run_takeDeferred hK, ?_⟩⟩;exact⟨_, results_none rfl _ _ _, ⟨_, rfl⟩, by simp; omega, .inr ⟨i, hiN, hSx (i + 1) _ _ hJx' (Rec.put hK rfl (by omega) _)⟩⟩
end
end Kv
end
section
namespace Kv
open Go.RowKit Go.Lib Pg
section
variable {I It:Nat->World->Prop}{Ix:Code->Nat->World->Prop}{W W' V w:World}{a:Act}{g:Operand}{lb:Array Value}{Ar:Nat → Array Value → Nat → World → Prop}{Rd:World → Prop}{ps:Array Tmp}
attribute [local go_sem] Oper.semAt_some
def my(I It:Nat->World->Prop)(k:Nat):World->Prop:=if k % 2=0 then I (k / 2) else It (k / 2)
theorem ga(I It:Nat->World->Prop)(i:Nat):my I It (2 * i + 1)=It i:=by
 unfold my;rw[if_neg (by omega),show (2 * i + 1) / 2=i by omega]
theorem iH(I It:Nat->World->Prop)(i:Nat):my I It (2 * i + 1 + 1)=I (i + 1):=by
 unfold my;rw[if_pos (by omega),show (2 * i + 1 + 1) / 2=i + 1 by omega]
theorem jS{Tp:TypeId->Prop}{B:Nat}{i:Nat}{e:Exit}(h:qQ Tp B I Ix (i + 1) W e a W'):qQ Tp B (my I It) (fun c k=>Ix c (k / 2)) (2 * i + 1 + 1) W e a W':=by
 have e2:(2 * i + 1 + 1) / 2=i + 1:=by omega
 cases e<;>simp only[qQ] at h ⊢
 ·exact⟨h.1,by rw[iH]; exact h.2⟩
 ·exact⟨h.1,by rw[e2]; exact h.2⟩
 ·exact⟨h.1,by rw[e2]; exact h.2⟩
 ·exact⟨h.1,by rw[e2]; exact h.2⟩
def sF(Tp:TypeId->Prop)(w:World)(N n:Nat)(ps:Array Tmp)(assign body:Code)(tmps:Array Value)(Ar:Nat->Array Value->Nat->World->Prop)(It I:Nat->World->Prop)(Ix:Code->Nat->World->Prop):Prop :=
 ∀ (l i:Nat) (args:Array Value) (V W:World),w.heap.size<=l->l < V.heap.size->(∃ r,V.heap[l]? = some (.loop r))->i < N->It i V->Below V.heap.size V W->Ar i args V.heap.size W ->
  assign.wpIn (Fence.wide.inRound l) n Tryz.prog (Exit.then (fun a1 W1=>Below W.heap.size W W1/\∀ V2 W2,It i V2->Below V2.heap.size V2 W2->Ar i args V2.heap.size W2->(∀ b,b≠l->W2.heap[b]? = W1.heap[b]?)->W2.heap.size=W1.heap.size->V2.heap.size=V.heap.size->(∃ r,W2.heap[l]? = some (.loop r))->body.wpIn (Fence.wide.inRound l) n Tryz.prog (qQ Tp w.heap.size I Ix (i + 1) W2) a1 W2) (fun _ _ _=>False)) { tmps:=(ps.zip args).foldl (fun t (p,v)=>t.setIfInBounds p v) tmps,defers:=[] } W
theorem dR{g x k:Nat}(h:k≠g):(tick g V x).heap[k]? = V.heap[k]? := Below.heap_setCell _ _ _ _ h
theorem rf_outerC{Tp : TypeId → Prop}{gf N n g0 x0:Nat}(IT : ItrC Tp g0 x0 gf lb N Ar Rd){assign body:Code}{Q : Exit → Act → World → Prop}(hg : a.eval g = .func (.func gf) #[] lb)(eg : ∀ args w, (callFunc gf args).run Tryz.prog w = .ok (.enter gf args) w)(hArS : ∀ i args n V W, Ar i args n V → Cel V W → Ar i args n W)(hAn : ∀ i args n V, Ar i args n V → args.size = ps.size)(I0 : World → Prop)(I It : Nat → World → Prop)(Ix : Code → Nat → World → Prop)(hI0 : St w.heap.size I0)(hI : ∀ i, St w.heap.size (I i))(hIt : ∀ i, St w.heap.size (It i))(hIx : ∀ c i, St w.heap.size (Ix c i))(hgw : g0 < w.heap.size)(hx0 : ∀ V, I0 V → V.cell? ⟨g0, 2, none⟩ = some (.int .i64 x0) ∧ V.frozen? ⟨g0, 2, none⟩ = false ∧ Rd V ∧ I 0 (tick g0 V x0))(hx : ∀ i V, I i V → V.cell? ⟨g0, 2, none⟩ = some (.int .i64 ((x0 + 1 + i : Nat) : Int)) ∧ V.frozen? ⟨g0, 2, none⟩ = false ∧ Rd V ∧ (i < N → It i (tick g0 V (x0 + 1 + i))))(h0 : I0 w)(hround : sF Tp w N n ps assign body a.tmps Ar It I Ix)(hdone : ∀ D W, w.heap.size ≤ D → W.heap[D]? = some (.deferred (some [])) → I N W → Q .normal { a with defers := { target := .collected D, args := #[] } :: a.defers } W)(hstop : ∀ D c i W, w.heap.size ≤ D → W.heap[D]? = some (.deferred (some [])) → i < N → Ix c (i + 1) W → c.wpIn Fence.wide n Tryz.prog Q { a with defers := { target := .collected D, args := #[] } :: a.defers } W) :
    (Code.rangeFunc g ps assign body).wpIn Fence.wide n Tryz.prog Q a w := by
  refine wpIn_rangeFunc ?_
  intro fn _;obtain⟨W1, hW1⟩ : ∃ W1, (w.alloc (.deferred (some []))).alloc (.loop (cj fn a.tmps ps assign body w.heap.size .ready none)) = W1 := ⟨_, rfl⟩
  have hB1 : Below w.heap.size w W1 := by rw[← hW1]; exact ai (ae w _) (ae _ _)
  have hs1 : W1.heap.size = w.heap.size + 1 + 1 := by rw[← hW1]; simp
  have hL1 : W1.heap[w.heap.size + 1]? = some (.loop (cj fn a.tmps ps assign body w.heap.size .ready none)) := by
    rw[← hW1]; have := World.alloc_heap_new (w.alloc (.deferred (some []))) (.loop (cj fn a.tmps ps assign body w.heap.size .ready none)); rwa [World.size_alloc] at this
  have hK1 : W1.heap[w.heap.size]? = some (.deferred (some [])) := by
    rw[← hW1]; exact(Below.heap_alloc _ _ _ (by simp)).trans (World.alloc_heap_new w _)
  have t1 : ∀ V x, (tick g0 V x).heap[w.heap.size + 1]? = V.heap[w.heap.size + 1]? := fun V x => dR (by omega)
  have t2 : ∀ V x, (tick g0 V x).heap[w.heap.size]? = V.heap[w.heap.size]? := fun V x => dR (by omega)
  refine⟨w.heap.size + 1, [{ target := .collected w.heap.size, args := #[] }], W1, { target := .fn (.func gf) lb, args := #[.func (.yield (w.heap.size + 1)) #[] #[]] }, W1, gf,
    #[.func (.yield (w.heap.size + 1)) #[] #[]] ++ lb, W1, ?_, ?_, ?_, ?_, fun h => (by cases h), ?_⟩
  · rw[← hW1]; exact run_enterLoop_outer _ _ _ _ _
  · simp only[resolve, hg]
    simp[go_sem]
  · intro f' _; trivial
  · simp[invoke, go_sem, eg]
  · refine callsIn_wide.2 ?_
    refine(IT (w.heap.size + 1)
      (fun W => I0 W ∧ W.heap[w.heap.size + 1]? = some (.loop (cj fn a.tmps ps assign body w.heap.size .ready none)) ∧ W.heap[w.heap.size]? = some (.deferred (some [])))
      (fun i W => I i W ∧ W.heap[w.heap.size + 1]? = some (.loop (cj fn a.tmps ps assign body w.heap.size .ready none)) ∧ W.heap[w.heap.size]? = some (.deferred (some [])))
      (fun i W => It i W ∧ W.heap[w.heap.size + 1]? = some (.loop (cj fn a.tmps ps assign body w.heap.size .ready none)) ∧ W.heap[w.heap.size]? = some (.deferred (some [])))
      (fun i W => ∃ c, Ix c i W ∧ W.heap[w.heap.size + 1]? = some (.loop (cj fn a.tmps ps assign body w.heap.size .done (some c))) ∧ W.heap[w.heap.size]? = some (.deferred (some [])))
      W1 (fun X Y hx hr => ⟨hI0 X Y hx.1 (hr.mono (by omega)), hr.same _ _ hx.2.1 (.inl (by omega)), hr.same _ _ hx.2.2 (.inl (by omega))⟩)
      (fun i X Y hx hr => ⟨hI i X Y hx.1 (hr.mono (by omega)), hr.same _ _ hx.2.1 (.inl (by omega)), hr.same _ _ hx.2.2 (.inl (by omega))⟩)
      (fun i X Y hx hr => ⟨hIt i X Y hx.1 (hr.mono (by omega)), hr.same _ _ hx.2.1 (.inl (by omega)), hr.same _ _ hx.2.2 (.inl (by omega))⟩)
      (fun i X Y hx hr => by obtain⟨c, h1, h2, h3⟩:= hx; exact⟨c, hIx c i X Y h1 (hr.mono (by omega)), hr.same _ _ h2 (.inl (by omega)), hr.same _ _ h3 (.inl (by omega))⟩)
      (by omega)
      (fun V hv => by obtain⟨q1, q2, q3, q4⟩:= hx0 V hv.1; exact⟨q1, q2, q3, q4, (t1 V x0).trans hv.2.1, (t2 V x0).trans hv.2.2⟩)
      (fun i V hv => by obtain⟨q1, q2, q3, q4⟩:= hx i V hv.1; exact⟨q1, q2, q3, fun hi => ⟨q4 hi, (t1 V _).trans hv.2.1, (t2 V _).trans hv.2.2⟩⟩)
      ?_ ⟨hI0 _ _ h0 (Rec.of hB1), hL1, hK1⟩).mono ?_
    · rintro i args V V' hiN ⟨hi, hl, hk⟩ hsz hb ha
      have hr := hround _ i args V V' (by omega) (lt_of_block hl) ⟨_, hl⟩ hiN hi hb ha;refine(fB (Tp := Tp) (B := w.heap.size) (i := 2 * i + 1) (I := my I It) (Ix := fun c k => Ix c (k / 2)) (Ar := fun k => Ar (k / 2)) (fun j => hArS (j / 2)) (fun j => by unfold my; split; exact hI _; exact hIt _) (fun c j => hIx c _) (by omega) hl (by rw[ga]; exact hi) hb (by rw[show (2 * i + 1) / 2 = i by omega]; exact ha) (hAn _ _ _ _ ha) (wpIn_mono hr ?_)).mono ?_
      · intro e a1 W1 h
        cases e <;> first
          | (refine⟨h.1, fun V2 W2 q1 q2 q3 q4 q5 q6 q7 => ?_⟩
             rw[ga] at q1;rw[show (2 * i + 1) / 2 = i by omega] at q3
             exact wpIn_mono (h.2 V2 W2 q1 q2 q3 q4 q5 q6 q7) (fun e a W h => jS h))
          | exact h.elim
      · rintro e V'' ⟨hkp, h⟩
        have hk2 := hkp.same _ _ (Nat.le_refl _) (by omega) ((hb.block _ (lt_of_block hk)).trans hk) jE;refine⟨hkp.from (by omega) (by omega), h.imp (fun h => ⟨h.1, by have := h.2.1; rw[iH] at this; exact this, h.2.2, hk2⟩) (fun h => ?_)⟩;obtain⟨h1, c, h2, h3⟩:= h;rw[show (2 * i + 1 + 1) / 2 = i + 1 by omega] at h2;exact⟨h1, c, h2, h3, hk2⟩
    · rintro e W2 ⟨⟨v, rfl⟩, hsz, ⟨hi, hl, hk⟩ | ⟨i, hiN, c, hi, hl, hk⟩⟩
      · exact⟨none, _, run_endLoop (P := Tryz.prog) hl (by simp[cj]), hdone _ _ (Nat.le_refl _) ((World.putObj_heap_other (by omega)).trans hk) (hI _ _ _ hi (Rec.put hl rfl (by omega) _))⟩
      · exact⟨some c, _, run_endLoop (P := Tryz.prog) hl (by simp[cj]), hstop _ c i _ (Nat.le_refl _) ((World.putObj_heap_other (by omega)).trans hk) hiN (hIx c _ _ _ hi (Rec.put hl rfl (by omega) _))⟩
end
end Kv
end
section
namespace Kv
open Go.RowKit Go.Lib Pg
section
variable {w w' A A':World}{B n c g:Nat}{v u r:Value}{l a Q b:List Int}{x y:Int}{D:Nat->Prop}{ao:Option Addr}{Rd:World->Prop}{cs:List Value}{ops:Array Oper}{rest:List Oper}{pos:String}
attribute [local go_sem] Oper.semAt_some
theorem wB{p:Nat}(h:OB w (B <= ·) v l)(d:B<=w.heap.size)(t:l.length<=1000000000)(hx:0<=x/\x < 256)(r:w.cell? ⟨p,0,none⟩=some (.int .u8 x)) :
  ∃ v' w',(Builtin.append_ #[96,96] 96 #[v,.slice (some ⟨p,0,none⟩) 1 1]).run Tryz.prog w=.ok v' w'/\OB w' (B <= ·) v' (l ++ [x])/\Below B w w':=by
 have o:Oct (l ++ [x]):=fun y hy=>by
  rcases List.mem_append.1 hy with hy | hy
  ·exact h.oct y hy
  ·simp at hy; subst hy; exact hx
 have a:∀ j u,[Value.int .u8 x][j]? = some u->w.cell? ((⟨p,0,none⟩:Addr).add j)=some u:=fun j u g=>by
  match j with
  | 0=>simp at g; subst g; exact r
  | j + 1=>simp at g
 rcases h.ex with⟨rfl,rfl⟩ | ⟨b,c,rfl,hl2,k⟩
 ·obtain⟨i,w',m,k,hw⟩:=fy (w:=w) KB 96 ⟨p,0,none⟩ 1 1 [.int .u8 x] rfl a (by decide) (by decide) (by decide);exact⟨_,w',m,⟨o,.inr ⟨_,i,rfl,d,k⟩⟩,hw.mono d⟩
 ·obtain⟨q,i,w',m,f,n,hw⟩:=dK (w:=w) KB 96 k ⟨p,0,none⟩ 1 1 [.int .u8 x] rfl a (by simp[Value.oneCell']) (by omega) (by omega);refine⟨_,w',m,⟨o,.inr ⟨q,i,by simp,?_,by rw[List.map_append,List.length_append]; exact n⟩⟩,hw.below (fun x e=>by have s:x=b:=e; omega) d⟩;rcases f with rfl | rfl
  ·exact hl2
  ·exact d
theorem fQ(h:OB w (B <= ·) v l)(d:B<=w.heap.size)(t:l.length<=1000000000)(hx:0<=x/\x < 256) :
  ∃ v' w',(Builtin.append_ #[96,96] 96 #[v,.slice (some ⟨w.heap.size,0,none⟩) 1 1]).run Tryz.prog (w.alloc (.cells #[.int .u8 x] 5))=.ok v' w'/\OB w' (B <= ·) v' (l ++ [x])/\Below B w w':=by
 have hb:=ae w (.cells #[.int .u8 x] 5);have q:=aC w [.int .u8 x] 5
 have o:Oct (l ++ [x]):=fun y hy=>by
  rcases List.mem_append.1 hy with hy | hy
  ·exact h.oct y hy
  ·simp at hy; subst hy; exact hx
 have a:∀ j u,[Value.int .u8 x][j]? = some u->(w.alloc (.cells #[.int .u8 x] 5)).cell? ((⟨w.heap.size,0,none⟩:Addr).add j)=some u:=fun j u p=>by
  match j with
  | 0=>exact q.cell (i:=0) p
  | j + 1=>simp at p
 rcases h.ex with⟨rfl,rfl⟩ | ⟨b,c,rfl,hl2,k⟩
 ·obtain⟨g,w',m,k,hw⟩:=fy (w:=w.alloc (.cells #[.int .u8 x] 5)) KB 96 ⟨w.heap.size,0,none⟩ 1 1 [.int .u8 x] rfl a (by decide) (by decide) (by decide);exact⟨_,w',m,⟨o,.inr ⟨_,g,rfl,Nat.le_trans d hb.size,k⟩⟩,(hb.mono d).trans (hw.mono (Nat.le_trans d hb.size))⟩
 ·obtain⟨r,g,w',m,f,n,hw⟩:=dK (w:=w.alloc (.cells #[.int .u8 x] 5)) KB 96 (k.keep hb) ⟨w.heap.size,0,none⟩ 1 1 [.int .u8 x] rfl a (by simp[Value.oneCell']) (by omega) (by omega);refine⟨_,w',m,⟨o,.inr ⟨r,g,by simp,?_,by rw[List.map_append,List.length_append]; exact n⟩⟩,(hb.mono d).trans (hw.below (fun x e=>by have s:x=b:=e; omega) (Nat.le_trans d hb.size))⟩;rcases f with rfl | rfl
  ·exact hl2
  ·exact Nat.le_trans d hb.size
theorem OB.sh(h:OB w D v l):∃ ao c,v=.slice ao l.length c:=by
 rcases h.ex with⟨rfl,rfl⟩ | ⟨b,c,rfl,_⟩
 ·exact⟨none,0,rfl⟩
 ·exact⟨_,c,rfl⟩
theorem By.lens(h:By w (.slice ao n c) l):l.length=n/\n<=c/\c<=9223372036854775807:=by
 obtain⟨ao',c',e,h2,h3,_⟩:=h.ex
 cases e;exact⟨rfl,h2,h3⟩
theorem j4{a:Act}{o:Oper}{x y:Nat}{T ty:TypeId}(b:o.type=ty)(c:o.op=.call { callee:=.builtin .append,args:=#[.tmp x,.tmp y],argTypes:=#[T,T] })(hx:a.eval (.tmp x)=u)(hy:a.eval (.tmp y)=v)(d:(Builtin.append_ #[T,T] ty #[u,v]).run Tryz.prog w=.ok r w') :
  (execOp a.eval o).run Tryz.prog w=.ok (.value r) w':=by
 subst b;unfold execOp;simp only[c,resolve,invoke,builtin,Sem.run_bind,Sem.run_pure,Result.andThen_ok,List.map_toArray,List.map_cons,List.map_nil,hx,hy,d]
theorem rB(w:World)(D:Nat->Prop):OB w D (.slice none 0 0) []:=⟨fun _ h=>by simp at h,.inl ⟨rfl,rfl⟩⟩
def ArBB(Q:List Int)(i:Nat)(args:Array Value)(_:Nat)(_:World):Prop:=∃ p j,j + 1 + i=Q.length/\Q[j]? = some p/\args=#[.int .i64 (j:Int),.int .u8 p]
theorem mD{Tp:TypeId->Prop}{bs:Nat}(hn:Q.length=n)(hbig:n<=1000000000)(hb:∀ V,Rd V->V.cell? ⟨bs,0,none⟩=some (.slice ao n c)/\∀ j p,Q[j]? = some p->∃ b o,ao=some ⟨b,o,none⟩/\V.cell? ⟨b,o + j,none⟩=some (.int .u8 p)) :
  Itr Tp 176 #[.pointer (some ⟨bs,0,none⟩)] n (ArBB Q) Rd:=by
 intro l J Jx W hJ hJx af hY h0;have cb:=(hb W (af 0 W h0)).1
 have hb:Hid _:=hb
 have hn:Hid _:=hn
 have w0:IntKind.i64.wrap ((n:Int) - 1)=(n:Int) - 1:=by rw[IntKind.wrap_i64]; omega
 refine(callsIn_wide (n:=0)).1 ?_
 refine callsIn_of_wp Tryz.func176 rfl trivial ?_ rfl;simp only[Tryz.ntmps176,List.size_toArray,List.length_cons,List.length_nil,Nat.reduceAdd,Nat.reduceSub,Array.replicate_succ,Array.replicate_zero,List.push_toArray,List.append_toArray,List.nil_append,List.cons_append];gi_wp2;gi_loopw [3] (fun ti wr=>∃ i:Nat,i<=n/\ti=.int .i64 ((n:Int) - 1 - (i:Int))/\W.heap.size<=wr.heap.size/\J i wr) (fun ti _=>(intOf ti + 1).toNat)
 case atStart=>exact⟨0,Nat.zero_le _,by simp,Nat.le_refl _,h0⟩
 case round =>
  clear cb;obtain⟨i,hi,rfl,aa,ab⟩:=hrel;obtain⟨cb,ad⟩:=hb.out wr (af _ _ ab);by_cases ag:i < n
  ·obtain⟨j,hj⟩:∃ j,j + 1 + i=n:=⟨n - 1 - i,by omega⟩
   obtain⟨p,hp⟩:∃ p,Q[j]? = some p:=⟨Q[j]'(by have:=hn.out; omega),List.getElem?_eq_getElem _⟩
   obtain⟨b,o,rfl,cP⟩:=ad j p hp
   have ej:(n:Int) - 1 - (i:Int)=(j:Int):=by omega
   have HI:Hid (j + 1 + i=n):=hj;have hY1:=hY i _ wr wr ag ab aa (Below.refl _ _) ⟨p,j,by rw[hn.out]; exact hj,hp,rfl⟩;obtain⟨fn,tmps,assign,body,hy,hR⟩:=hY1;rw[ej]
   have w1:IntKind.i64.wrap ((j:Int) - 1)=(j:Int) - 1:=by rw[IntKind.wrap_i64]; omega
   have z1:(j:Int) < n:=by omega
   clear ad ej hj;gi_wp2;refine⟨rfl,hR.mono ?_⟩;rintro e' W4 ⟨hk4,⟨rfl,ac⟩ | ⟨rfl,ac⟩⟩
   ·gi_wp2;go_roundw
    case rel=>exact⟨i + 1,by omega,by have:=HI.out; congr 1; omega,Nat.le_trans aa hk4.size,ac⟩
    case measure=>simp[intOf]
   ·gi_wp2;refine bodyPost_ret (results_none rfl _ _ _) rfl ?_
    exact⟨⟨_,rfl⟩,Nat.le_trans aa hk4.size,.inr ⟨i,ag,ac⟩⟩
  ·have ae:i=n:=by omega
   have ej:(n:Int) - 1 - (i:Int) = -1:=by omega
   rw[ej]
   have HJ:Hid (J n wr):=by show J n wr; rw[<- ae]; exact ab
   clear ad ej ae ab;gi_wp2;go_end0;exact⟨⟨_,rfl⟩,aa,.inl HJ.out⟩
theorem qj:Calls Tryz.prog 131 #[.slice ao n c] w fun e w'=>e=.returned (.func (.func 176) #[] #[.pointer (some ⟨w.heap.size,0,none⟩)])/\Blk w' w.heap.size [.slice ao n c] 96/\Below w.heap.size w w':=by
 go_enter Tryz.func131,Tryz.ntmps131;go_wp2;go_ret;exact⟨rfl,aC w _ _,ae w _⟩
def nxt(l:List Int):List Int:=match l.reverse.dropWhile (· == 255) with
 | []=>[]
 | x :: t=>t.reverse ++ [x + 1]
theorem qe:∀ {l:List Int},(∀ x∈l,x=255)->l.dropWhile (· == 255)=[]
 | [],_=>rfl
 | x :: l,h=>by
  have hx:=h x List.mem_cons_self;subst hx;rw[List.dropWhile_cons_of_pos (by decide)];exact qe (fun y hy=>h y (List.mem_cons_of_mem _ hy))
theorem pI(A B:List Int)(hx:x≠255)(h:∀ b∈B,b=255):(A ++ x :: B).reverse.dropWhile (· == 255)=x :: A.reverse:=by
 rw[List.reverse_append,List.reverse_cons,List.append_assoc,List.dropWhile_append_of_pos (fun a c=>by simp[h a (List.mem_reverse.1 c)]),List.singleton_append,List.dropWhile_cons_of_neg (by simp[hx])]
theorem fk(h:∀ x∈l,x=255):nxt l=[]:=by
 have:l.reverse.dropWhile (· == 255)=[]:=by
  exact qe (fun x hx=>h x (List.mem_reverse.1 hx))
 unfold nxt;rw[this]
theorem xE{j:Nat}(d:l[j]? = some x)(hx:x≠255)(h:∀ i y,l[i]? = some y->j < i->y=255):nxt l=l.take j ++ [x + 1]:=by
 have b:j < l.length:=(List.getElem?_eq_some_iff.1 d).1
 have e:l=l.take j ++ x :: l.drop (j + 1):=by
  have f:=(List.take_append_drop j l).symm
  have g:l.drop j=x :: l.drop (j + 1):=by
   rw[List.drop_eq_getElem_cons b];congr 1
   exact(List.getElem?_eq_some_iff.1 d).2
  rw[g] at f;exact f
 have m:l.reverse.dropWhile (· == 255)=x :: (l.take j).reverse:=by
  have c:=pI (l.take j) (l.drop (j + 1)) hx (fun a k=>by
   obtain⟨i,hi⟩:=List.getElem?_of_mem k;rw[List.getElem?_drop] at hi
   exact h (j + 1 + i) a hi (by omega))
  rw[<- e] at c;exact c
 unfold nxt;rw[m];simp
theorem eE{b d:Nat}{B:World}(h:Below b w A)(a:Rec d A B)(f:b<=d)(hw:b<=A.heap.size):Below b w B :=
 ⟨a.os.trans h.os,a.tape.trans h.tape,a.output.trans h.output,Nat.le_trans h.size a.size,fun k e=>by
  obtain⟨o,c⟩:∃ o,A.heap[k]? = some o:=⟨A.heap[k]'(by omega),Array.getElem?_eq_getElem _⟩
  rw[a.same k o c (.inl (by omega)),<- c]
  exact h.block k e⟩
theorem pZ{ty:TypeId}(h:Blk A g cs ty)(hr:Rec B A A'):Blk A' g cs ty:=hr.blk h
theorem OB.rcd(h:OB A D v l)(hr:Rec B A A'):OB A' D v l:=by
 refine⟨h.oct,h.ex.imp id ?_⟩;rintro⟨b,c,e,hd,hR⟩;obtain⟨cs,k⟩:=hR.kind;exact⟨b,c,e,hd,hR.same ((hr.blk k).blk.trans k.blk.symm)⟩
theorem By.take(h:By w (.slice ao n c) l)(j:Nat)(s:j<=n):By w (.slice ao j c) (l.take j):=by
 obtain⟨r,hc,hm⟩:=By.lens h;obtain⟨m,t,e,q,p,k,o,f⟩:=h.ex
 cases e
 have hlen:(l.take j).length=j:=by rw[List.length_take]; omega
 refine⟨ao,c,by rw[hlen],by rw[hlen]; omega,p,k,fun x hx=>o x (List.mem_of_mem_take hx),?_⟩;rcases f with rfl | ⟨g,d,e,b,a⟩
 ·exact .inl (by simp)
 ·exact .inr ⟨g,d,e,b,fun i x hi=>a i x (by
   rw[List.getElem?_take] at hi;split at hi
   ·exact hi
   ·cases hi)⟩
theorem qG{o:Nat}(c:w.cell? ⟨g,o,none⟩=some v):(loadVar 96 ⟨g,o,none⟩).run Tryz.prog w=.ok v w:=by go_simp
theorem sD{F:Fence}{Q:Exit->Act->World->Prop}{after:Array Edge}{a:Act}(hF:∀ f,F.fn f)(hu:a.eval (.tmp 14)=u)(hv:a.eval (.tmp 17)=v)(b:(Builtin.append_ #[96,96] 96 #[u,v]).run Tryz.prog w=.ok r w')(h:wpListIn F n Tryz.prog ops Q rest (a.put (some 18) r) w') :
  wpListIn F n Tryz.prog ops Q ({ dst:=some 18,op:=.call { callee:=.builtin .append,args:=#[.tmp 14,.tmp 17],argTypes:=#[96,96] },type:=96,pos:=pos,after:=after,guard:=none } :: rest) a w :=
 lK rfl hF (Oper.semAt_eq _ _ _ (fun c h=>by cases h)) (j4 (x:=14) (y:=17) rfl rfl hu hv b) h
theorem jN(h : By w (.slice ao n c) l)(hbig : n ≤ 1000000000) :
    Calls Tryz.prog 119 #[.slice ao n c] w fun e w' => ∃ v, e = .returned v ∧ OB w' (w.heap.size ≤ ·) v (nxt l) ∧ Below w.heap.size w w' := by
  obtain⟨hl, hnc, hcm⟩:= By.lens h;have c1 := aC w [.slice ao n c] 96;have b1 := ae w (.cells #[.slice ao n c] 96)
  have s1 : (w.alloc (.cells #[.slice ao n c] 96)).heap.size = w.heap.size + 1 := by simp
  have c2 := aC (w.alloc (.cells #[.slice ao n c] 96)) [.slice none 0 0] 96;have b2 := ae (w.alloc (.cells #[.slice ao n c] 96)) (.cells #[.slice none 0 0] 96)
  have s2 : ((w.alloc (.cells #[.slice ao n c] 96)).alloc (.cells #[.slice none 0 0] 96)).heap.size = w.heap.size + 2 := by simp
  rw[s1] at c2
  have c1' := c1.keep b2;have b12 := ai b1 b2;obtain⟨Wa, hWa⟩ : ∃ Wa, Hid ((w.alloc (.cells #[.slice ao n c] 96)).alloc (.cells #[.slice none 0 0] 96) = Wa) := ⟨_, rfl⟩;rw[hWa.out] at c1' c2 s2 b12;have HB := aB h;clear h c1 b1 b2 s1;refine(callsIn_wide (n := 0)).1 ?_
  refine callsIn_of_wp_marks Tryz.func119 rfl trivial ?_ rfl;simp only[Tryz.ntmps119, List.size_toArray, List.length_cons, List.length_nil, Nat.reduceAdd, Nat.reduceSub, Array.replicate_succ, Array.replicate_zero, List.push_toArray, List.append_toArray, List.nil_append, List.cons_append];gi_wp2_with (refine⟨trivial, rfl, ?_⟩; gi_at_call 131; rw[hWa.out]; refine(callsIn_wide.2 qj).mono ?_; rintro e' w2 ⟨rfl, hBx, hB2⟩);rw[s2] at hBx;have k1 := c1'.keep hB2;have k2 := c2.keep hB2;have B2 := ai b12 hB2;have hs2 := hB2.size;have IT := mD (Tp := fun _ => False) (bs := w.heap.size + 2) (c := c) (ao := ao) (Q := l) (n := n) (Rd := fun V => Below w2.heap.size w2 V) hl hbig (fun V hv => ⟨(hBx.keep hv).cell (i := 0) rfl, fun j p hj => By.at ((HB.out.keep B2).keep hv) hj⟩);refine ix IT (by rfl) (enters_of Tryz.func176 (by kernel_rfl) rfl) (fun i args n V V' h _ => h) (fun i args n V h => by obtain⟨p, j, _, _, rfl⟩:= h; rfl)
    (fun i V => Below w2.heap.size w2 V ∧ ∀ j x, l[j]? = some x → n ≤ j + i → x = 255)
    (fun c i V => c = .ret ∧ ∃ v, Blk V (w.heap.size + 1) [v] 96 ∧ OB V (w.heap.size ≤ ·) v (nxt l) ∧ Below w.heap.size w V)
    (fun i A B hx hr => ⟨eE hx.1 hr (Nat.le_refl _) hx.1.size, hx.2⟩)
    (fun c i A B hx hr => ⟨hx.1, by obtain⟨v, h1, h2, h3⟩:= hx.2; exact⟨v, hr.blk h1, OB.rcd h2 hr, eE h3 hr B2.size h3.size⟩⟩)
    (fun i V hv => hv.1) ⟨Below.refl _ _, fun j x hj hn => by have := (List.getElem?_eq_some_iff.1 hj).1; omega⟩ ?_ ?_ ?_
  · rintro l2 i args V Wv hl2 hlV hrec hiN ⟨hBV, ac⟩ hb ⟨p, j, hj, hp, rfl⟩
    simp;gi_wp2;refine⟨Below.refl _ _, ?_⟩;intro V2 W2 hBV2 ab hb2 hAr2 hoth hsz3 hV2 r hrec2;have aa := hBV2.trans (hb2.mono hBV2.size);have kb := (k1.keep aa).cell (i := 0) rfl;have kr := k2.keep aa
    have hpo : 0 ≤ p ∧ p < 256 := HB.out.oct p (List.mem_of_getElem? hp);clear ac hb hBV hoth hAr2;by_cases hp5 : p = 255
    · subst hp5
      gi_wp2;refine⟨bC.of (Below.refl _ _), aa, fun j2 x hx hn => ?_⟩;by_cases e : j2 = j
      · subst e; rw[hp] at hx; cases hx; rfl
      · exact ab j2 x hx (by omega)
    · have hp6 : p < 255 := by omega
      have BY := By.take ((HB.out.keep B2).keep aa) j (by omega)
      have hjl : (l.take j).length = j := by rw[List.length_take]; omega
      have hjn : (j : Int) ≤ c := by omega
      have w9 : IntKind.u8.wrap (p + 1) = p + 1 := by rw[IntKind.wrap_u8]; omega
      have HKR := aB kr;have HW := aB aa
      have HNX : Hid (nxt l = l.take j ++ [p + 1]) := xE hp hp5 (fun i2 y hy hi => ab i2 y hy (by omega));clear kr aa ab
      gi_wp2_with (first
        | (have gate := hr6; clear gate; refine sD (fun _ => trivial) rfl rfl hr6 ?_; clear hr6)
        | (refine⟨trivial, rfl, ?_⟩; gi_at_call 78; refine(CallsIn.inRound l2 (callsIn_wide.2 (dm BY (by omega)))).mono ?_; rintro e' w5 ⟨v5, rfl, O5, b5⟩; obtain⟨v6, w6, hr6, O6, b6⟩:= fQ (B := W2.heap.size) (x := p + 1) O5 b5.size (by omega) (by omega); have kr6 := (HKR.out.keep b5).nP b6 (HKR.out.lt); have kc := kr6.cell (i := 0) rfl; have kfr := kr6.free 0; obtain⟨a5, c5, rfl⟩:= OB.sh O5; obtain⟨a6, c6, rfl⟩:= OB.sh O6; rw[hjl] at hr6 ⊢))
      have hlt : w.heap.size + 1 < w2.heap.size := k2.lt;have hsW := HW.out.size;have b56 := b5.trans b6
      have O7 : OB w6 (W2.heap.size ≤ ·) (.slice a6 (j + 1) c6) (l.take j ++ [p + 1]) := by
        have h9 := O6;rw[show (l.take j ++ [p + 1]).length = j + 1 by rw[List.length_append, hjl]; rfl] at h9;exact h9
      have O8 : OB (w6.setCell ⟨w.heap.size + 1, 0, none⟩ (.slice a6 (j + 1) c6)) (W2.heap.size ≤ ·) (.slice a6 (j + 1) c6) (l.take j ++ [p + 1]) := O7.same (fun b _ hb => Below.heap_setCell w6 _ _ b (by show b ≠ w.heap.size + 1; omega))
      have B6 : Below w.heap.size w w6 := (B2.trans (HW.out.mono B2.size)).trans (b56.mono (Nat.le_trans B2.size hsW));refine⟨(bC.of b56).trans ⟨?_, fun k o hk h0 _ => (Below.heap_setCell w6 _ _ k (by show k ≠ w.heap.size + 1; omega)).trans h0⟩, rfl, _, kr6.setCell (i := 0) _, ?_, B6.setCell (show w.heap.size ≤ w.heap.size + 1 by omega) _⟩
      · exact((Chg.refl (fun x => x = w.heap.size + 1) w6).cell (g := w.heap.size + 1) (i := 0) (.inl rfl) _).size
      · rw[HNX.out]
        exact O8.mono (fun b _ hb => by have := B2.size; omega)
  · rintro D' W' hD hK ⟨aa, ac⟩
    have kr := k2.keep aa;have kc := kr.cell (i := 0) rfl;have kf := kr.free 0
    have hlt : w.heap.size + 1 < w2.heap.size := k2.lt
    have hK3 : (W'.setCell ⟨w.heap.size + 1, 0, none⟩ (.slice none 0 0)).heap[D']? = some (.deferred (some [])) := (Below.heap_setCell W' _ _ D' (by show D' ≠ w.heap.size + 1; omega)).trans hK;gi_wp2;refine⟨by simp, .inl ⟨_, _, rfl, run_takeDeferred hK3, ?_⟩⟩;have R3 := Rec.put (B := w2.heap.size) hK3 rfl hD (.deferred none);have k3 := pZ (kr.setCell (i := 0) (.slice none 0 0)) R3;refine⟨_, ra rfl rfl (qG (k3.cell (i := 0) rfl)), _, rfl, ?_, ?_⟩
    · rw[fk (fun x hx => by
        obtain⟨j, hj⟩:= List.getElem?_of_mem hx
        exact ac j x hj (by omega))]
      exact rB _ _
    · have h9 : Below w.heap.size w (W'.setCell ⟨w.heap.size + 1, 0, none⟩ (.slice none 0 0)) := (B2.trans (aa.mono B2.size)).setCell (show w.heap.size ≤ w.heap.size + 1 by omega) _
      exact eE h9 R3 B2.size h9.size
  · rintro D' c i W' hD hK hiN ⟨rfl, v, h1, h2, h3⟩
    gi_wp2;refine⟨by simp, .inl ⟨_, _, rfl, run_takeDeferred hK, ?_⟩⟩;have R3 := Rec.put (B := w2.heap.size) hK rfl hD (.deferred none);have k3 := pZ h1 R3;exact⟨_, ra rfl rfl (qG (k3.cell (i := 0) rfl)), _, rfl, OB.rcd h2 R3, eE h3 R3 B2.size h3.size⟩
theorem bR:Lt (x :: a) (y :: b)<->x < y\/(x=y/\Lt a b):=by
 unfold Lt;rw[cY];by_cases c:x < y
 ·simp[c]
 ·by_cases d:y < x
  ·rw[if_neg c,if_pos d];constructor
   ·intro h; exact absurd h (by decide)
   ·rintro(h | ⟨h,_⟩)<;>omega
  ·rw[if_neg c,if_neg d];have:x=y:=by omega
   simp[this]
theorem ez:Lt [] (y :: b):=by simp[Lt,cY]
theorem not_lt_nil:¬ Lt a []:=by cases a<;>simp[Lt,cY]
theorem hH(s:List Int):Lt (s ++ a) (s ++ b)<->Lt a b:=by
 induction s with
 | nil=>exact Iff.rfl
 | cons x s ih=>rw[List.cons_append,List.cons_append,bR,ih]; simp
theorem eD:∀ l:List Int,(∀ x∈l,x=255)\/∃ A x B,l=A ++ x :: B/\x≠255/\∀ b∈B,b=255
 | []=>.inl (fun _ h=>by simp at h)
 | y :: t=>by
  rcases eD t with h | ⟨A,x,B,rfl,hx,hB⟩
  ·by_cases hy:y=255
   ·exact .inl (fun x hx=>by
     rcases List.mem_cons.1 hx with rfl | hx
     ·exact hy
     ·exact h x hx)
   ·exact .inr ⟨[],y,t,rfl,hy,h⟩
  ·exact .inr ⟨y :: A,x,B,rfl,hx,hB⟩
theorem gM{A B:List Int}(hx:x≠255)(hB:∀ b∈B,b=255):nxt (A ++ x :: B)=A ++ [x + 1]:=by
 unfold nxt;rw[pI A B hx hB];simp
theorem rA(h:nxt l=[]):∀ x∈l,x=255:=by
 rcases eD l with h1 | ⟨A,x,B,rfl,hx,hB⟩
 ·exact h1
 ·rw[gM hx hB] at h;simp at h
theorem kG{c:List Int}(h:nxt l≠[])(hc:l <+: c):Lt c (nxt l):=by
 rcases eD l with a | ⟨A,x,B,rfl,hx,b⟩
 ·exact absurd (fk a) h
 ·obtain⟨t,rfl⟩:=hc;rw[gM hx b,List.append_assoc,hH,List.cons_append,bR];exact .inl (by omega)
theorem mK:∀ {B t:List Int},(∀ b∈B,b=255)->Oct t->Lt t B\/B <+: t
 | [],_,_,_=>.inr (List.nil_prefix)
 | b :: B,[],_,_=>.inl ez
 | b :: B,z :: t,hB,ht=>by
  have hb:=hB b List.mem_cons_self;have c:=ht z List.mem_cons_self;subst hb;by_cases h:z=255
  ·subst h;rcases mK (fun b hb=>hB b (List.mem_cons_of_mem _ hb)) (fun y hy=>ht y (List.mem_cons_of_mem _ hy)) with a | a
   ·exact .inl (bR.2 (.inr ⟨rfl,a⟩))
   ·exact .inr (List.cons_prefix_cons.2 ⟨rfl,a⟩)
  ·exact .inl (bR.2 (.inl (by omega)))
theorem iG:∀ {A B c:List Int} {x:Int},(∀ b∈B,b=255)->Oct c->Lt c (A ++ [x + 1])->Lt c (A ++ x :: B)\/(A ++ x :: B) <+: c
 | [],B,[],x,_,_,_=>.inl ez
 | [],B,y :: t,x,hB,hc,h=>by
  rw[List.nil_append,bR] at h;rw[List.nil_append];rcases h with h | ⟨_,h⟩
  ·by_cases e:y=x
   ·subst e;rcases mK hB (fun z hz=>hc z (List.mem_cons_of_mem _ hz)) with h1 | h1
    ·exact .inl (bR.2 (.inr ⟨rfl,h1⟩))
    ·exact .inr (List.cons_prefix_cons.2 ⟨rfl,h1⟩)
   ·exact .inl (bR.2 (.inl (by omega)))
  ·exact absurd h not_lt_nil
 | a :: A,B,[],x,_,_,_=>.inl ez
 | a :: A,B,y :: t,x,hB,hc,h=>by
  rw[List.cons_append,bR] at h;rw[List.cons_append];rcases h with h | ⟨h1,h2⟩
  ·exact .inl (bR.2 (.inl h))
  ·subst h1;rcases iG hB (fun z hz=>hc z (List.mem_cons_of_mem _ hz)) h2 with h3 | h3
   ·exact .inl (bR.2 (.inr ⟨rfl,h3⟩))
   ·exact .inr (List.cons_prefix_cons.2 ⟨rfl,h3⟩)
theorem kQ{c:List Int}(hc:Oct c)(f:¬ l <+: c)(d:¬ Lt c l):¬ Lt c (nxt l):=by
 rcases eD l with e | ⟨A,x,B,rfl,hx,b⟩
 ·rw[fk e]; exact not_lt_nil
 ·rw[gM hx b];intro h;rcases iG b hc h with a | a
  ·exact d a
  ·exact f a
end
end Kv
end
section
namespace Kv
open Go.RowKit Go.Lib Pg
section
variable {Wb V:World}{bo g x i:Nat}{mv jv:Value}{EL:List En}
attribute [local go_sem] Oper.semAt_some
structure qI(Wb V:World)(bo g:Nat)(mv jv:Value)(x:Nat)(EL:List En)(i:Nat):Prop where
 chg:Chg (fun b=>b=bo\/b=g) Wb V
 top:Blk V g [mv,jv,.int .i64 x] 94
 out:∃ ov es,Blk V bo [ov] 46/\PrA V Wb.heap.size ov es/\es.map En.kl2=(EL.take i).map En.kl2
theorem qI.rcd{V':World}(h:qI Wb V bo g mv jv x EL i)(a:Rec Wb.heap.size V V'):qI Wb V' bo g mv jv x EL i:=by
 obtain⟨d,es,e,b,c⟩:=h.out;exact⟨iL h.chg a (Nat.le_refl _),a.blk h.top,d,es,eR e a,b.cel a.cel,c⟩
theorem qI.tick(h:qI Wb V bo g mv jv x EL i):qI Wb (tick g V x) bo g mv jv (x + 1) EL i:=by
 obtain⟨n,es,l,a,o⟩:=h.out;have hc:=dD g x V
 have d:bo≠g:=fun e=>by subst e; exact absurd (l.eq h.top).2 (by decide)
 have f:∀ b,b=g->∀ cs,¬ Blk V b cs 5:=fun b hb cs k=>by
  subst hb;exact absurd (k.eq h.top).2 (by decide)
 refine⟨h.chg.trans hc (fun b _ e=>.inr e),h.top.setCell (i:=2) _,n,es,l.chg hc d,⟨a.ex.imp id ?_,fun e he=>⟨(a.ea e he).k.chg hc f,(a.ea e he).v.chg hc f⟩⟩,o⟩;rintro⟨b,c,e,m,j⟩
 exact⟨b,c,e,m,j.chg hc (fun e2=>by
  have e3:b=g:=e2;subst e3;obtain⟨cs,k⟩:=j.kind
  exact absurd (k.eq h.top).2 (by decide))⟩
theorem Hq{W W':World}(h1:Below W.heap.size W Wb)(h3:Chg (fun b=>b=bo\/b=g) Wb W')(hb:W.heap.size<=bo):Chg (· = g) W W' :=
 (Chg.of (F:=(· = g)) h1).trans h3 (fun b hl e=>e.elim (fun e=>by omega) id)
end
end Kv
end
section
namespace Kv
open Go.RowKit Go.Lib Pg
section
variable {w:World}{g m n N:Nat}{EL:List En}{v jv pv:Value}{pg:Option Addr}{lb:Array Value}{K D:Nat->Prop}{F:Nat → Prop}{Q:List (List KV)}{T:List Jr}{oj:Option Nat}{L:List Pg}{f t p:List Int}{E:aE}{W:List aE}
attribute [local go_sem] Oper.semAt_some
structure Iter(w:World)(g:Nat)(EL:List En)(v:Value):Prop where
 ex:∃ bs1 bs2 bw W1,v=.func (.func 169) #[] #[.pointer (some ⟨bs1,0,none⟩),.pointer (some ⟨bs2,0,none⟩)]/\Itr TpW 123 #[.pointer (some ⟨bw,0,none⟩)] EL.length (ArC EL) (fun V=>Chg (· = g) W1 V)/\RdC (· = g) W1 g bs1 bs2 bw w
 small:∀ e∈EL,e.kl.length<=1000000000/\e.vl.length<=1000000000
theorem Iter.chg{w':World}(h:Iter w g EL v)(hc:Chg (· = g) w w')(l:∃ cs,Blk w' g cs 94):Iter w' g EL v:=by
 obtain⟨a,b,j,m,e,k,r1,i,d,cs,f⟩:=h.ex;exact⟨⟨a,b,j,m,e,k,r1.trans hc (fun _ _ h=>h),i.chg hc (fun e=>by have c:a=g:=e; subst c; exact absurd (i.eq f).2 (by decide)),d.chg hc (fun e=>by have c:b=g:=e; subst c; exact absurd (d.eq f).2 (by decide)),l⟩,h.small⟩
theorem iT{k:Nat}:Calls Tryz.prog 118 #[.pointer pg,.func (.func k) #[] lb] w fun e w'=>e=.returned (.func (.func 169) #[] #[.pointer (some ⟨w.heap.size,0,none⟩),.pointer (some ⟨w.heap.size + 1,0,none⟩)])/\Blk w' w.heap.size [.pointer pg] 37/\Blk w' (w.heap.size + 1) [.func (.func k) #[] lb] 85/\Below w.heap.size w w':=by
 have b1:=ae w (.cells #[.pointer pg] 37);have c1:=aC w [.pointer pg] 37;have b2:=ae (w.alloc (.cells #[.pointer pg] 37)) (.cells #[.func (.func k) #[] lb] 85);have c2:=aC (w.alloc (.cells #[.pointer pg] 37)) [.func (.func k) #[] lb] 85
 have s1:(w.alloc (.cells #[.pointer pg] 37)).heap.size=w.heap.size + 1:=by simp
 rw[s1] at c2;go_enter Tryz.func118,Tryz.ntmps118;go_wp2;go_ret;exact⟨rfl,c1.keep b2,c2,ai b1 b2⟩
theorem xwm{F V:Nat->Prop}(h:SX w K D F V g m Q jv T oj n N)(c:N<=100000000):∃ L,Wm w (· = g) F D m L/\∀ f t,(wlk (ens L) f t).map En.kl2=Q.flatten.filter (jM f t) :=
 h.wm c (fun b e hF=>by have a:b=g:=e; subst a; exact h.own.lI hF) (fun b e cs k=>by
  have a:b=g:=e;subst a
  exact absurd (h.blk.eq k).2 (by decide)) (fun b e=>by have a:b=g:=e; subst a; exact h.blk.lt)
theorem yW{w1 w2:World}{D:Nat → Prop}{bw:Nat}{n:Int}(h : Blk w g [.pointer (some ⟨m, 0, none⟩), jv, .int .i64 n] 94)(j : Wm w (· = g) F D m L)(d : Below w.heap.size w w1)(b : Itr TpW 123 #[.pointer (some ⟨bw, 0, none⟩)] (wlk (ens L) f t).length (ArC (wlk (ens L) f t)) (fun V => Chg (· = g) w1 V))(b1 : Blk w2 w1.heap.size [.pointer (some ⟨g, 0, none⟩)] 37)(b2 : Blk w2 (w1.heap.size + 1) [.func (.func 123) #[] #[.pointer (some ⟨bw, 0, none⟩)]] 85)(a : Below w1.heap.size w1 w2) :
    Iter w2 g (wlk (ens L) f t) (.func (.func 169) #[] #[.pointer (some ⟨w1.heap.size, 0, none⟩), .pointer (some ⟨w1.heap.size + 1, 0, none⟩)]) :=
  ⟨⟨_, _, bw, w1, rfl, b, Chg.of a, b1, b2, ⟨_, (h.keep d).keep a⟩⟩, fun e he => by
    obtain⟨es, i, c⟩:= r9 he
    exact j.small es i e c⟩
theorem swalk{fv tv:Value}(h:SA w K D g E W n N)(hN:N<=100000000)(hf:By w fv f)(ht:By w tv t)(hfl:f.length<=1000000000)(htl:t.length<=1000000000) :
  Calls Tryz.prog 83 #[.pointer (some ⟨g,0,none⟩),fv,tv] w fun e w'=>∃ v EL,e=.returned v/\Iter w' g EL v/\EL.map En.kl2=E.filter (jM f t)/\Below w.heap.size w w':=by
 obtain⟨F,V,m,Q,jv,T,oj,hX,rfl,hB⟩:=h.open;obtain⟨L,Km,hw⟩:=xwm hX hN;have tW:=jz (Tp:=TpW) Km hf ht hfl htl (by unfold TpW; decide) (by unfold TpW; decide);have c0:=hX.blk.cell (i:=0) rfl;obtain⟨fa,fc,rfl,-⟩:=id hf.ex;obtain⟨ta,tc,rfl,-⟩:=id ht.ex;generalize hfn:f.length=fn at *;generalize htn:t.length=tn at *;have HX:=aB hX;have HK:=aB Km;have HW:=aB hw;clear hX Km hw h hB hf ht hfn htn;go_enter Tryz.func83,Tryz.ntmps83;go_wp2_with first
  | (go_at_call 42; go_must (refine tW.mono ?_); rintro e w1 ⟨bw,rfl,B1,IT⟩; clear tW)
  | (go_at_call 118; go_must (refine iT.mono ?_); rintro e w2 ⟨rfl,k1,k2,B2⟩)
 go_ret;exact⟨_,_,rfl,yW HX.out.blk HK.out B1 IT k1 k2 B2,HW.out f t,ai B1 B2⟩
theorem SA.oct(h:SA w K D g E W n N):∀ x∈E,Oct x.1:=by
 obtain⟨F,V,m,Q,f,T,d,hX,rfl,i⟩:=h.open;obtain⟨L,rfl,A,O,S,k,r⟩:=hX.map.ex;intro x hx;rw[dE] at hx;obtain⟨e,he,rfl⟩:=List.mem_map.1 hx;obtain⟨es,c,a⟩:=List.mem_flatten.1 he;obtain⟨p,b,rfl⟩:=List.mem_map.1 c;exact((A.cO p b).1.ea e a).k.oct
theorem wW{k:List Int}(h:p <+: k):¬ Lt k p:=by
 obtain⟨t,rfl⟩:=h;intro h;have:Lt (p ++ t) (p ++ []):=by simpa using h
 rw[hH] at this;exact not_lt_nil this
theorem vu{x:KV}(hx:Oct x.1):jM p (nxt p) x=decide (p <+: x.1):=by
 unfold jM;by_cases h:p <+: x.1
 ·have a:=wW h;by_cases hn:nxt p=[]
  ·simp[h,a,hn]
  ·simp[h,a,kG hn h]
 ·by_cases a:Lt x.1 p
  ·simp[h,a]
  ·have hn:nxt p≠[]:=fun e=>by
    rcases mK (rA e) hx with b | b
    ·exact a b
    ·exact h b
   simp[h,a,hn,kQ hx h a]
theorem Hj(h:SA w K D g E W n N)(hN:N<=100000000)(hp:By w pv p)(hpl:p.length<=1000000) :
  Calls Tryz.prog 73 #[.pointer (some ⟨g,0,none⟩),pv] w fun e w'=>∃ v EL,e=.returned v/\Iter w' g EL v/\EL.map En.kl2=E.filter (fun x=>decide (p <+: x.1))/\Below w.heap.size w w':=by
 have ab:=h.oct;obtain⟨F,V,m,Q,jv,T,oj,hX,rfl,hB⟩:=h.open;obtain⟨pa,pc,rfl,-⟩:=id hp.ex;have ac:=jN hp.drew (by omega);have hS:=hX.blk.drew;have HX:=aB hX;have HP:=aB hp;have HO:=aB ab;have ad:=aB hpl
 have bD:Below w.heap.size w w.drew:=⟨rfl,rfl,rfl,Nat.le_refl _,fun _ _=>rfl⟩
 clear hX hp h hB ab hpl;obtain⟨pn,hpn⟩:∃ pn,Hid (p.length=pn):=⟨_,rfl⟩
 rw[hpn.out] at HP ac ⊢;go_enter Tryz.func73,Tryz.ntmps73;go_wp2_with fail;refine bH (S:=fun w'=>Blk w' g [.pointer (some ⟨m,0,none⟩),jv,.int .i64 n] 94) (by kernel_rfl) hS ?_
 refine aj 0 (some 5) (.pointer (some ⟨g,0,none⟩)) (by kernel_rfl) (fun _ _=>by kernel_rfl) (fun _ _ _ h=>h) hS ?_
 refine aj 1 (some 6) (.pointer (some ⟨g,0,none⟩)) (by kernel_rfl) (fun _ _=>by kernel_rfl) (fun _ _ _ h=>h) hS ?_
 refine aj 2 (some 7) (.pointer (some ⟨g,0,none⟩)) (by kernel_rfl) (fun _ _=>by kernel_rfl) (fun _ _ _ h=>h) hS ?_
 refine aj 3 (some 8) (.pointer (some ⟨g,0,none⟩)) (by kernel_rfl) (fun _ _=>by kernel_rfl) (fun _ _ _ h=>h) hS ?_
 refine aL 4 (some 9) (.pointer (some ⟨m,0,none⟩)) 86 8 g 0 (by kernel_rfl) (by kernel_rfl) (by kernel_rfl) (fun w' h=>rj (h.cell (i:=0) rfl)) (fun _ _ _ h=>h) hS ?_
 refine aj 5 (some 10) (.slice pa pn pc) (by kernel_rfl) (fun _ _=>by kernel_rfl) (fun _ _ _ h=>h) hS ?_
 refine aj 6 (some 11) (.slice pa pn pc) (by kernel_rfl) (fun _ _=>by kernel_rfl) (fun _ _ _ h=>h) hS ?_
 refine aU 7 (some 12) 119 #[.slice pa pn pc] (by kernel_rfl) (by kernel_rfl) ac ?_
 rintro e' w1 ⟨nv,rfl,O1,B1⟩;refine⟨_,rfl,hS.keep B1,?_⟩
 have aa:=ai bD B1;replace hS:=hS.keep B1;have X1:=HX.out.keep aa;obtain⟨L,Km,hw⟩:=xwm X1 hN
 have hnl:(nxt p).length<=p.length:=by
  rcases eD p with h1 | ⟨A,x,B,rfl,hx,hB⟩
  ·rw[fk h1]; simp
  ·rw[gM hx hB]; simp
 have tW:=jz (Tp:=TpW) Km (HP.out.keep aa) O1.by (by have:=ad.out; omega) (by have:=ad.out; omega) (by unfold TpW; decide) (by unfold TpW; decide)
 refine aU 8 (some 13) 42 #[.pointer (some ⟨m,0,none⟩),.slice pa pn pc,nv] (by kernel_rfl) (by kernel_rfl) tW ?_
 rintro e' w2 ⟨bw,rfl,B2,IT⟩;refine⟨_,rfl,hS.keep B2,?_⟩;replace hS:=hS.keep B2;refine aU 9 (some 14) 118 #[.pointer (some ⟨g,0,none⟩),.func (.func 123) #[] #[.pointer (some ⟨bw,0,none⟩)]] (by kernel_rfl) (by kernel_rfl) iT ?_
 rintro e' w3 ⟨rfl,k1,k2,B3⟩;refine⟨_,rfl,hS.keep B3,?_⟩;replace hS:=hS.keep B3;refine aj 10 (some 4) (.func (.func 169) #[] #[.pointer (some ⟨w2.heap.size,0,none⟩),.pointer (some ⟨w2.heap.size + 1,0,none⟩)]) (by kernel_rfl) (fun _ _=>by kernel_rfl) (fun _ _ _ h=>h) hS ?_
 refine bj (by kernel_rfl) ?_
 simp only[Act.put,List.setIfInBounds_toArray,List.set_cons_zero,List.set_cons_succ];have FI:=aB (yW X1.blk Km B2 IT k1 k2 B3);have HW:=aB (hw p (nxt p));have BB:=aB (ai (ai aa B2) B3);clear hS X1 Km hw tW IT k1 k2 B3 B2 B1 aa O1 bD;go_wp2;go_ret;refine⟨_,_,rfl,FI.out,?_,BB.out⟩;rw[HW.out];exact List.filter_congr (fun x hx=>vu (HO.out x hx))
end
end Kv
end
section
namespace Kv
open Go.RowKit Go.Lib Pg
section
variable {w w' w0:World}{K D K' D':Nat->Prop}{v r kv pv:Value}{l k p:List Int}{g n N B b n' N':Nat}{E E':aE}{W W':List aE}{es:List En}{x:Int}{args:Array Value}
structure ByU(w:World)(v:Value)(l:List Int):Prop where
 byt:By w v l
 u8:∀ b o n c,v=.slice (some ⟨b,o,none⟩) n c->∃ cs m,w.heap[b]? = some (.cells cs 5 m)
theorem ByU.chg(h:ByU w v l)(hc:Chg K w w')(p:∀ b,K b->∃ cs t,Blk w b cs t/\t≠5):ByU w' v l:=by
 have hs:∀ b o n c,v=.slice (some ⟨b,o,none⟩) n c->w'.heap[b]? = w.heap[b]? := fun b o n c e=>by
  obtain⟨cs,m,hb⟩:=h.u8 b o n c e;refine hc.same b (lt_of_block hb) fun u => ?_
  obtain⟨A,t,r,s⟩:=p b u;have:=r.blk.symm.trans hb;simp at this;exact s this.2.1
 refine⟨?_,fun b o n c e=>by rw[hs b o n c e]; exact h.u8 b o n c e⟩;obtain⟨j,c,f,g,z,q,y,k⟩:=h.byt.ex;refine⟨j,c,f,g,z,q,y,k.imp id ?_⟩;rintro⟨b,o,rfl,d,a⟩;exact⟨b,o,rfl,Nat.lt_of_lt_of_le d hc.size,fun i x hi=>by rw[World.cell?_of_block (w:=w) (hs b o _ _ f)]; exact a i x hi⟩
theorem ByU.of(h:OB w D v l):ByU w v l:=by
 refine⟨h.by,fun b o n c e => ?_⟩;rcases h.ex with⟨rfl,_⟩ | ⟨b',c',rfl,_,hR⟩
 ·cases e
 ·cases e;obtain⟨cs,k⟩:=hR.kind;exact⟨_,_,k.blk⟩
theorem SA.kind(h:SA w K D g E W n N):∀ b,K b->∃ cs t,Blk w b cs t/\t≠5:=by
 obtain⟨F,V,m,Q,jv,T,oj,_,_,_,_,_,_,_,O⟩:=h.ex;exact O.kind
structure Sec where
 g:Nat
 E:aE
 W:List aE
 n:Nat
 N:Nat
structure Fm where
 L:List (Value × List Int)
 R:List (Value × aE)
 O:List Sec
def Rb(f:Fm)(b:Nat):Prop:=∃ p∈f.R,∃ n c,p.1=.slice (some ⟨b,0,none⟩) n c
structure KnK(w0 w:World)(f:Fm)(K:Nat->Prop)(g:Nat)(E:aE)(W:List aE)(n N:Nat):Prop where
 sa:SA w K (w0.heap.size <= ·) g E W n N
 kz:∀ b,K b->w0.heap.size<=b/\¬ Rb f b
 bys:∀ p∈f.L,ByU w p.1 p.2
 prs:∀ p∈f.R,∃ es,PrA w w0.heap.size p.1 es/\es.map En.kl2=p.2
 oth:∀ s∈f.O,∃ J,SA w J (w0.heap.size <= ·) s.g s.E s.W s.n s.N/\∀ b,J b->w0.heap.size<=b/\¬ Rb f b/\¬ K b
 bel:Below w0.heap.size w0 w
structure Kn(w0 w:World)(f:Fm)(g:Nat)(E:aE)(W:List aE)(n N:Nat):Prop where
 ex:∃ K,KnK w0 w f K g E W n N
theorem PrA.wh(h:PrA w B v es){c:Nat}(e:v=.slice (some ⟨b,0,none⟩) n c):b < w.heap.size/\B<=b:=by
 rcases h.ex with⟨rfl,_⟩ | ⟨b',c',rfl,hb,hR⟩
 ·cases e
 ·cases e; exact⟨hR.lt,hb⟩
theorem PrA.chg(h:PrA w B v es)(hc:Chg K w w')(i:∀ b n c,v=.slice (some ⟨b,0,none⟩) n c->¬ K b)(d:∀ b,K b->∀ cs,¬ Blk w b cs 5):PrA w' B v es :=
 ⟨h.ex.imp id (fun⟨b,c,e,g,a⟩=>⟨b,c,e,g,a.same (hc.same b a.lt (i b _ _ e))⟩),fun e he=>(h.ea e he).off fun b hb f=>hc.same b hb fun j=>by obtain⟨cs,k⟩:=f; exact d b j cs k⟩
theorem PrA.low{B':Nat}(h:PrA w B v es)(hB:B'<=B):PrA w B' v es :=
 ⟨h.ex.imp id (fun⟨b,c,e,hl,hR⟩=>⟨b,c,e,Nat.le_trans hB hl,hR⟩),fun e he=>(h.ea e he).mono fun _ _ h=>Nat.le_trans hB h⟩
theorem KnK.lt{f:Fm}(h:KnK w0 w f K g E W n N)(hb:Rb f b):b < w.heap.size:=by
 obtain⟨p,hp,m,c,e⟩:=hb;obtain⟨es,P,_⟩:=h.prs p hp;exact(PrA.wh P e).1
theorem KnK.step{f:Fm}(h:KnK w0 w f K g E W n N)(hs:SA w' K' D' g E' W' n' N')(u:∀ b,D' b->w0.heap.size<=b\/w.heap.size<=b)(r:∀ b,K' b->K b\/w.heap.size<=b)(hc:Chg K w w'):KnK w0 w' f K' g E' W' n' N':=by
 have k:=h.bel.size
 have d:∀ b,K b->∀ cs,¬ Blk w b cs 5:=fun b hb cs=>h.sa.noU hb cs
 refine⟨hs.mono (fun b _ hb=>(u b hb).elim id (Nat.le_trans k)),fun b hb => ?_,fun p i=>(h.bys p i).chg hc h.sa.kind,fun p i => ?_,fun s o => ?_,h.bel.trans (hc.below (fun b hb=>(h.kz b hb).1) k)⟩
 ·rcases r b hb with a | a
  ·exact h.kz b a
  ·exact⟨Nat.le_trans k a,fun t=>by have:=h.lt t; omega⟩
 ·obtain⟨es,P,e⟩:=h.prs p i;exact⟨es,PrA.chg P hc (fun b m c e a=>(h.kz b a).2 ⟨p,i,m,c,e⟩) d,e⟩
 ·obtain⟨J,q,j⟩:=h.oth s o;refine⟨J,q.chg hc (fun b a l=>(j b l).2.2 a) d,fun b hb=>⟨(j b hb).1,(j b hb).2.1,fun a => ?_⟩⟩;rcases r b a with a | a
  ·exact(j b hb).2.2 a
  ·have:=q.lt hb; omega
theorem KnK.keep{f:Fm}(h:KnK w0 w f K g E W n N)(hb:Below w.heap.size w w'):KnK w0 w' f K g E W n N :=
 h.step (h.sa.keep hb) (fun _ h=>.inl h) (fun _ h=>.inl h) (Chg.of hb)
theorem Kn.keep{f:Fm}(h:Kn w0 w f g E W n N)(hb:Below w.heap.size w w'):Kn w0 w' f g E W n N:=by
 obtain⟨K,h⟩:=h.ex;exact⟨K,h.keep hb⟩
theorem Kn.drew{f:Fm}(h:Kn w0 w f g E W n N):Kn w0 w.drew f g E W n N:=h.keep ⟨rfl,rfl,rfl,Nat.le_refl _,fun _ _=>rfl⟩
theorem Kn.below{f:Fm}(h:Kn w0 w f g E W n N):Below w0.heap.size w0 w:=by
 obtain⟨K,h⟩:=h.ex;exact h.bel
theorem Kn.gy{f:Fm}(h:Kn w0 w f g E W n N):dP E:=by
 obtain⟨K,h⟩:=h.ex;exact h.sa.gy
theorem Kn.size{f:Fm}(h:Kn w0 w f g E W n N):E.length<=N:=by
 obtain⟨K,h⟩:=h.ex;exact h.sa.size
theorem Kn.depth{f:Fm}(h:Kn w0 w f g E W n N):W.length<=16:=by
 obtain⟨K,h⟩:=h.ex;exact h.sa.depth
theorem Kn.more{f:Fm}(h:Kn w0 w f g E W n N)(hN:N<=N'):Kn w0 w f g E W n N':=by
 obtain⟨K,h⟩:=h.ex;exact⟨K,{ h with sa:=h.sa.more hN }⟩
def Fr(w0:World)(f:Fm)(v:Value)(l:List Int):Prop:=By w0 v l\/(v,l)∈f.L
theorem KnK.bk{f:Fm}(h:KnK w0 w f K g E W n N)(hv:Fr w0 f v l):BK w K v l:=fun a hc=>by
 rcases hv with hv | hv
 ·exact hv.keep (h.bel.trans (hc.below (fun b hb=>(h.kz b hb).1) h.bel.size))
 ·exact((h.bys _ hv).chg hc h.sa.kind).byt
theorem Kn.by{f:Fm}(h:Kn w0 w f g E W n N)(hv:Fr w0 f v l):By w v l:=by
 obtain⟨K,h⟩:=h.ex;exact(h.bk hv).by
def Fm.by(f:Fm)(v:Value)(l:List Int):Fm:={ f with L:=(v,l) :: f.L }
def Fm.pr(f:Fm)(v:Value)(E:aE):Fm:={ f with R:=(v,E) :: f.R }
theorem Kn.bytes{f:Fm}(h:Kn w0 w f g E W n N)(hv:ByU w v l):Kn w0 w (f.by v l) g E W n N:=by
 obtain⟨K,h⟩:=h.ex;refine⟨K,{ h with bys:=fun p a => ?_ }⟩;rcases List.mem_cons.1 a with rfl | a
 ·exact hv
 ·exact h.bys p a
theorem Fr.more{f:Fm}{u:Value}{m:List Int}(h:Fr w0 f v l):Fr w0 (f.by u m) v l:=h.imp id (List.mem_cons_of_mem _)
theorem Fr.new{f:Fm}:Fr w0 (f.by v l) v l:=.inr List.mem_cons_self
theorem Et(w:World)(x:Int)(hx:0<=x/\x < 256):OB (w.alloc (.cells #[.int .u8 x] 5)) (w.heap.size <= ·) (.slice (some ⟨w.heap.size,0,none⟩) 1 1) [x] :=
 ⟨fun y hy=>by simp at hy; subst hy; exact hx,.inr ⟨_,1,rfl,Nat.le_refl _,kS (aC w [.int .u8 x] _) rfl (show 1<=maxLen by decide)⟩⟩
def Mb(w:World)(B g:Nat)(Q:List (List KV))(N:Nat):Prop:=∃ F,Mp w F (B <= ·) g Q N/\∀ b,F b->B<=b
theorem Kn.lit{f:Fm}(h:Kn w0 w f g E W n N)(hx:0<=x/\x < 256):Kn w0 (w.alloc (.cells #[.int .u8 x] 5)) (f.by (.slice (some ⟨w.heap.size,0,none⟩) 1 1) [x]) g E W n N :=
 (h.keep (ae w _)).bytes (ByU.of (Et w x hx))
theorem D5(w:World)(x:Int)(hx:0<=x/\x < 256):ByU (w.alloc (.cells #[.int .u8 x] 5 (1,2))) (.slice (some ⟨w.heap.size,0,none⟩) 1 1) [x]:=by
 have hb:(w.alloc (.cells #[.int .u8 x] 5 (1,2))).heap[w.heap.size]? = some (.cells #[.int .u8 x] 5 (1,2)):=by
  show (w.heap.push _)[w.heap.size]? = _
  simp
 refine⟨⟨_,1,rfl,Nat.le_refl _,by decide,(fun e=>by cases e),(fun y hy=>by simp at hy; subst hy; exact hx),.inr ⟨_,0,rfl,lt_of_block hb,fun i y hi => ?_⟩⟩,fun b o n c e => ?_⟩
 ·match i with
  | 0 =>
   simp at hi;subst hi;simp only[World.cell?,hb];rfl
  | k + 1=>simp at hi
 ·cases e;exact⟨_,_,hb⟩
theorem Kn.const{f:Fm}(h:Kn w0 w f g E W n N)(hx:0<=x/\x < 256):Kn w0 (w.alloc (.cells #[.int .u8 x] 5 (1,2))) (f.by (.slice (some ⟨w.heap.size,0,none⟩) 1 1) [x]) g E W n N :=
 (h.keep (ae w _)).bytes (D5 w x hx)
structure Fin(w0:World)(f:Fm)(g:Nat)(E:aE)(W:List aE)(n N:Nat)(r:Value)(e:Ending)(w':World):Prop where
 ret:e=.returned r
 kn:Kn w0 w' f g E W n N
theorem KnK.ends{f:Fm}{P:Nat}(h:KnK w0 w f K g E W n N)(u:Calls Tryz.prog P args w (Ends w K (w0.heap.size <= ·) g E' W' n' N' r)):Calls Tryz.prog P args w (Fin w0 f g E' W' n' N' r):=by
 refine u.mono ?_
 rintro e c ⟨rfl,a,hs,b,hc⟩;exact⟨rfl,a,h.step hs (fun _ h=>h) b hc⟩
theorem kset{f:Fm}{vv:Value}{v:List Int}(h:Kn w0 w f g E W n N)(b:Fr w0 f kv k)(hv:Fr w0 f vv v)(hn:n<=4000000000000000000)(a:N + 2<=100000000) :
  Calls Tryz.prog 64 #[.pointer (some ⟨g,0,none⟩),kv,vv] w (Fin w0 f g (if fL k v=0 then put E k v else E) W (n + 1) (N + 2) (.int .i64 (fL k v))):=by
 obtain⟨K,h⟩:=h.ex;exact h.ends (sset h.sa (h.bk b) (h.bk hv) hn a)
theorem kdel{f:Fm}(h:Kn w0 w f g E W n N)(c:Fr w0 f kv k)(a:k.length<=1000000000)(hn:n<=4000000000000000000)(b:N + 2<=100000000) :
  Calls Tryz.prog 75 #[.pointer (some ⟨g,0,none⟩),kv] w (Fin w0 f g (rem E k) W (n + 1) (N + 2) (.bool (look E k).isSome)):=by
 obtain⟨K,h⟩:=h.ex;exact h.ends (sdel h.sa (h.bk c) a hn b)
theorem kdepth{f:Fm}(h:Kn w0 w f g E W n N) :
  Calls Tryz.prog 143 #[.pointer (some ⟨g,0,none⟩)] w fun e w'=>e=.returned (.int .i64 W.length)/\w'=w:=by
 obtain⟨K,h⟩:=h.ex;exact sdepth h.sa
structure FinG(w0:World)(f:Fm)(g:Nat)(E:aE)(W:List aE)(n N:Nat)(k:List Int)(e:Ending)(w':World):Prop where
 ex:∃ v,e=.returned (.tuple #[v,.bool (look E k).isSome])/\Kn w0 w' (f.by v ((look E k).getD [])) g E W n N
theorem kget{f:Fm}(h:Kn w0 w f g E W n N)(a:Fr w0 f kv k)(hn:n<=4000000000000000000)(b:N<=100000000) :
  Calls Tryz.prog 127 #[.pointer (some ⟨g,0,none⟩),kv] w (FinG w0 f g E W (n + 1) N k):=by
 obtain⟨K,h⟩:=h.ex;refine(sget h.sa (h.bk a) hn b).mono ?_
 rintro e d ⟨v,rfl,O,S,c⟩;exact⟨v,rfl,Kn.bytes ⟨K,h.step S (fun _ h=>.inl h) (fun _ h=>.inl h) c⟩ (ByU.of O)⟩
theorem KnK.stepP{f:Fm}{F:aE}(h:KnK w0 w f K g E W n N)(hs:SA w' K' D' g E' W' n' N')(t:∀ b,D' b->w0.heap.size<=b\/w.heap.size<=b)(r:∀ b,K' b->K b)(hc:Chg K w w')(P:PrA w' w.heap.size v es)(he:es.map En.kl2=F):KnK w0 w' (f.pr v F) K' g E' W' n' N':=by
 have k:=h.bel.size
 have i:∀ b,K b->∀ cs,¬ Blk w b cs 5:=fun b hb cs=>h.sa.noU hb cs
 refine⟨hs.mono (fun b _ hb=>(t b hb).elim id (Nat.le_trans k)),fun b hb => ?_,fun p a=>(h.bys p a).chg hc h.sa.kind,fun p a => ?_,fun s o => ?_,h.bel.trans (hc.below (fun b hb=>(h.kz b hb).1) k)⟩
 ·have d:=r b hb;refine⟨(h.kz b d).1,?_⟩;rintro⟨p,a,m,c,e⟩;rcases List.mem_cons.1 a with rfl | a
  ·have:=(PrA.wh P e).2;have:=h.sa.lt d;omega
  ·exact(h.kz b d).2 ⟨p,a,m,c,e⟩
 ·rcases List.mem_cons.1 a with rfl | a
  ·exact⟨es,PrA.low P k,he⟩
  ·obtain⟨es,P,e⟩:=h.prs p a;exact⟨es,PrA.chg P hc (fun b m c e d=>(h.kz b d).2 ⟨p,a,m,c,e⟩) i,e⟩
 ·obtain⟨J,q,j⟩:=h.oth s o;refine⟨J,q.chg hc (fun b d l=>(j b l).2.2 d) i,fun b hb=>⟨(j b hb).1,?_,fun d=>(j b hb).2.2 (r b d)⟩⟩;rintro⟨p,a,m,c,e⟩;rcases List.mem_cons.1 a with rfl | a
  ·have:=(PrA.wh P e).2;have:=q.lt hb;omega
  ·exact(j b hb).2.1 ⟨p,a,m,c,e⟩
structure FinP(w0:World)(f:Fm)(g:Nat)(E:aE)(W:List aE)(n N:Nat)(F:aE)(e:Ending)(w':World):Prop where
 ex:∃ ao c,e=.returned (.slice ao F.length c)/\Kn w0 w' (f.pr (.slice ao F.length c) F) g E W n N
theorem Hw{f:Fm}(h:Kn w0 w f g E W n N)(b:N<=100000000) :
  Calls Tryz.prog 15 #[.pointer (some ⟨g,0,none⟩)] w (FinP w0 f g E W n N E):=by
 obtain⟨K,h⟩:=h.ex;refine(Hr h.sa b).mono ?_
 rintro e i ⟨v,es,rfl,P,he,B⟩;obtain⟨a,c,rfl⟩:=P.shape
 have d:es.length=E.length:=by rw[<- he,List.length_map]
 rw[d] at P ⊢;exact⟨a,c,rfl,K,h.stepP (h.sa.keep B) (fun _ h=>.inl h) (fun _ h=>h) (Chg.of B) P he⟩
structure Gu(w0:World)(f:Fm)(g:Nat)(E:aE)(W:List aE)(n N:Nat)(F:aE)(e:Ending)(w':World):Prop where
 ex:∃ v EL,e=.returned v/\Iter w' g EL v/\EL.map En.kl2=F/\Kn w0 w' f g E W n N
theorem kwalk{f:Fm}{fv tv:Value}{a t:List Int}(h:Kn w0 w f g E W n N)(i:N<=100000000)(hf:Fr w0 f fv a)(j:Fr w0 f tv t)(b:a.length<=1000000000)(c:t.length<=1000000000) :
  Calls Tryz.prog 83 #[.pointer (some ⟨g,0,none⟩),fv,tv] w (Gu w0 f g E W n N (E.filter (jM a t))):=by
 obtain⟨K,h⟩:=h.ex;refine(swalk h.sa i (h.bk hf).by (h.bk j).by b c).mono ?_
 rintro e l ⟨v,k,rfl,I,d,B⟩;exact⟨v,k,rfl,I,d,K,h.keep B⟩
theorem Hi{f:Fm}(h:Kn w0 w f g E W n N)(c:N<=100000000)(d:Fr w0 f pv p)(a:p.length<=1000000) :
  Calls Tryz.prog 73 #[.pointer (some ⟨g,0,none⟩),pv] w (Gu w0 f g E W n N (E.filter (fun x=>decide (p <+: x.1)))):=by
 obtain⟨K,h⟩:=h.ex;refine(Hj h.sa c (h.bk d).by a).mono ?_
 rintro e j ⟨v,i,rfl,I,b,B⟩;exact⟨v,i,rfl,I,b,K,h.keep B⟩
structure FinN(w0:World)(e:Ending)(w':World):Prop where
 ex:∃ g,e=.returned (.pointer (some ⟨g,0,none⟩))/\Kn w0 w' ⟨[],[],[]⟩ g [] [] 0 0
theorem knew(hb:Below w0.heap.size w0 w):Calls Tryz.prog 16 #[] w (FinN w0):=by
 refine snew.mono ?_
 rintro e f ⟨g,K,rfl,S,d,B⟩;exact⟨g,rfl,K,S.mono (fun _ _ h=>h.elim),fun b c=>⟨Nat.le_trans hb.size (d b c),fun⟨p,a,_⟩=>by cases a⟩,fun p a=>(by cases a),fun p a=>(by cases a),fun p a=>(by cases a),hb.trans (B.mono hb.size)⟩
def Fm.st(f:Fm)(s:Sec):Fm:={ f with O:=[s] }
structure Fin2(w0:World)(f:Fm)(s:Sec)(E:aE)(N:Nat)(e:Ending)(w':World):Prop where
 ex:∃ g,e=.returned (.pointer (some ⟨g,0,none⟩))/\Kn w0 w' (f.st s) g E [] 0 N
theorem KnK.two{f:Fm}{g':Nat}(h:KnK w0 w f K g E W n N)(S:SA w' K' D' g' E' W' n' N')(j:∀ b,D' b->w0.heap.size<=b)(d:∀ b,K' b->w.heap.size<=b)(B:Below w.heap.size w w'):KnK w0 w' (f.st ⟨g,E,W,n,N⟩) K' g' E' W' n' N':=by
 have a:=h.keep B;refine⟨S.mono (fun b _ hb=>j b hb),fun b hb=>⟨Nat.le_trans h.bel.size (d b hb),fun i => ?_⟩,a.bys,a.prs,fun s hs => ?_,a.bel⟩
 ·have c:Rb f b:=i;have:=h.lt c;have:=d b hb;omega
 ·obtain rfl:s=⟨g,E,W,n,N⟩:=List.mem_singleton.1 hs;exact⟨K,a.sa,fun b hb=>⟨(h.kz b hb).1,(h.kz b hb).2,fun e=>by have:=h.sa.lt hb; have:=d b e; omega⟩⟩
theorem knew2{f:Fm}(h:Kn w0 w f g E W n N):Calls Tryz.prog 16 #[] w (Fin2 w0 f ⟨g,E,W,n,N⟩ [] 0):=by
 obtain⟨K,h⟩:=h.ex;refine snew.mono ?_
 rintro e d ⟨b,a,rfl,S,c,B⟩;exact⟨b,rfl,a,h.two S (fun _ h=>h.elim) c B⟩
theorem Kn.swap{f:Fm}{s:Sec}(h:Kn w0 w f g E W n N)(i:f.O=[s]):Kn w0 w (f.st ⟨g,E,W,n,N⟩) s.g s.E s.W s.n s.N:=by
 obtain⟨K,h⟩:=h.ex;obtain⟨J,d,a⟩:=h.oth s (by rw[i]; exact List.mem_cons_self);refine⟨J,d,fun b hb=>⟨(a b hb).1,(a b hb).2.1⟩,h.bys,h.prs,fun t e => ?_,h.bel⟩;obtain rfl:t=⟨g,E,W,n,N⟩:=List.mem_singleton.1 e;exact⟨K,h.sa,fun b hb=>⟨(h.kz b hb).1,(h.kz b hb).2,fun c=>(a b c).2.2 hb⟩⟩
end
end Kv
end
end Go.Proofs.YthfepflplbahkaaGreatDoor
