import Derived.Test.YtpoifdokmjhclaaGreatJgq
set_option maxRecDepth 100000
set_option maxHeartbeats 8000000
namespace Go.Proofs.YtpoifdokmjhclaaGreat
namespace Pw
open Go.RowKit Go.Lib Pg Kv Bk
attribute [local go_sem] Oper.semAt_some
theorem KU:Kd Tryz.prog 52 22 1 8 (.int .u64 0):=⟨by kernel_rfl,by kernel_rfl,rfl,by simp[Value.cells,Value.oneCell'],by decide⟩
structure UA (w:World) (B:Nat) (v:Value) (l:List Int):Prop where
 ex:(v=.slice none 0 0/\l=[])\/∃ b c,v=.slice (some ⟨b,0,none⟩) l.length c/\B<=b/\Rw w 22 1 b l.length c (l.map (Value.int .u64))
section
variable {w w':World} {B B':Nat} {v:Value} {l:List Int}
theorem UA.shape (h:UA w B v l):∃ ao c,v=.slice ao l.length c:=by
 rcases h.ex with⟨rfl,rfl⟩ | ⟨b,c,rfl,_⟩
 ·exact⟨none,0,rfl⟩
 ·exact⟨_,c,rfl⟩
theorem UA.nil (w:World) (B:Nat):UA w B (.slice none 0 0) []:=⟨.inl ⟨rfl,rfl⟩⟩
theorem UA.keep (h:UA w B v l) (hb:Below w.heap.size w w'):UA w' B v l:=⟨h.ex.imp id (fun⟨b,c,e,hl,hR⟩=>⟨b,c,e,hl,hR.keep hb⟩)⟩
theorem UA.chg {F:Nat->Prop} (h:UA w B v l) (hc:Chg F w w') (hF:∀ b,F b->b < B):UA w' B v l:=⟨h.ex.imp id (fun⟨b,c,e,hl,hR⟩=>⟨b,c,e,hl,hR.chg hc (fun hf=>by have:=hF b hf;omega)⟩)⟩
theorem UA.low (h:UA w B v l) (hB:B'<=B):UA w B' v l:=⟨h.ex.imp id (fun⟨b,c,e,hl,hR⟩=>⟨b,c,e,Nat.le_trans hB hl,hR⟩)⟩
theorem UA.rcd {C:Nat} (h:UA w B v l) (hr:Rec C w w'):UA w' B v l:=⟨h.ex.imp id (fun⟨b,c,e,hl,hR⟩=>⟨b,c,e,hl,Kv.Rw.rcd hR hr⟩)⟩
theorem Bq {x:Int} {a:Addr} (ty:TypeId) (h:UA w B v l) (s:B<=w.heap.size) (t:l.length<=2000000000) (c0:w.cell? (a.add 0)=some (.int .u64 x)) :
  ∃ v' w',(Builtin.append_ #[52,52] ty #[v,.slice (some a) 1 1]).run Tryz.prog w=.ok v' w'/\UA w' B v' (l ++ [x])/\Chg (fun b=>B<=b/\∃ cs,Blk w b cs 22) w w':=by
 have d:∀ j u,[Value.int .u64 x][j]? = some u->w.cell? (a.add j)=some u:=fun j u o=>by
  match j with
  | 0=>simp at o;rw[<- o];exact c0
  | k+1=>simp at o
 rcases h.ex with⟨rfl,rfl⟩ | ⟨b,c,rfl,hb,f⟩
 ·obtain⟨g,w',m,f,hw⟩:=gz (w:=w) KU ty a 1 1 [.int .u64 x] rfl d (by omega) (by omega) (by omega);exact⟨_,w',m,⟨.inr ⟨_,g,rfl,s,f⟩⟩,Chg.of hw⟩
 ·obtain⟨q,g,w',m,n,i,p⟩:=dM KU ty f a 1 1 [.int .u64 x] rfl d (fun u hu=>by simp at hu;subst hu;rfl) (by omega) (by omega);refine⟨_,w',m,⟨.inr ⟨q,g,by simp,by rcases n with rfl | rfl<;>omega,?_⟩⟩,p.mono (fun y _ e=>?_)⟩
  ·simpa using i
  ·have r:y=b:=e;subst r;exact⟨hb,f.kind⟩
end
section
variable {n:Nat}{ops:Array Oper}{rest:List Oper}{pos:String}{a:Act}{w w':World}{u v r:Value}{K D:Nat->Prop}{W:List aA}
theorem rm{F:Fence}{Q:Exit->Act->World->Prop}{after:Array Edge}(hF:∀ f,F.fn f)(hu:a.eval (.tmp 12)=u)(hv:a.eval (.tmp 15)=v)(hr:(Builtin.append_ #[52,52] 52 #[u,v]).run Tryz.prog w=.ok r w')(h:wpListIn F n Tryz.prog ops Q rest (a.put (some 16) r) w') :
  wpListIn F n Tryz.prog ops Q ({ dst:=some 16,op:=.call { callee:=.builtin .append,args:=#[.tmp 12,.tmp 15],argTypes:=#[52,52] },type:=52,pos:=pos,after:=after,guard:=none } :: rest) a w :=
 Kv.qE rfl hF (Oper.semAt_eq _ _ _ (fun c h=>by cases h)) (Kv.iy (x:=12) (y:=15) rfl hr (ho:=rfl) (hx:=hu) (hy:=hv)) h
theorem CC{F:Fence}{Q:Exit->Act->World->Prop}{after:Array Edge}(hF:∀ f,F.fn f)(hu:a.eval (.tmp 8)=u)(hv:a.eval (.tmp 11)=v)(hr:(Builtin.append_ #[52,52] 52 #[u,v]).run Tryz.prog w=.ok r w')(h:wpListIn F n Tryz.prog ops Q rest (a.put (some 12) r) w') :
  wpListIn F n Tryz.prog ops Q ({ dst:=some 12,op:=.call { callee:=.builtin .append,args:=#[.tmp 8,.tmp 11],argTypes:=#[52,52] },type:=52,pos:=pos,after:=after,guard:=none } :: rest) a w :=
 Kv.qE rfl hF (Oper.semAt_eq _ _ _ (fun c h=>by cases h)) (Kv.iy (x:=8) (y:=11) rfl hr (ho:=rfl) (hx:=hu) (hy:=hv)) h
theorem zt{g N B:Nat}{E:aA}(h:SA w K D g E W n N)(hr:Rec B w w'):SA w' K D g E W n N :=
 h.same (fun b a=>by obtain⟨cs,t,k,_⟩:=h.kind b a;exact(hr.same b _ k.blk (.inr rfl)).trans k.blk.symm) (fun b _ _ hk=>by obtain⟨cs,k⟩:=hk;exact(hr.same b _ k.blk (.inr rfl)).trans k.blk.symm)
structure j0(Wb:World)(a t:Nat)(R:World)(K D:Nat->Prop)(g:Nat)(E:aA)(Wn:List aA)(N x:Nat)(l:List Int)(V:World):Prop where
 chg:Chg (fun b=>b=g\/b=t) Wb V
 sa:SA V K D g E Wn x N
 out:∃ v,Blk V t [v] 52/\UA V R.heap.size v l
 ext:fy a R V
structure pk(Wb:World)(t:Nat)(K D:Nat->Prop)(g:Nat)(E:aA)(Wn:List aA)(N x:Nat)(V:World):Prop where
 chg:Chg (fun b=>b=g\/b=t) Wb V
 sa:SA V K D g E Wn x N
 out:Blk V t [.slice none 0 0] 52
end
section
variable {Wb V V' R:World} {a t g x N:Nat} {K D:Nat->Prop} {E:aA} {Wn:List aA} {l:List Int}
section
variable {v:Value}
theorem yM(h:SA V K D g E Wn x N)(h1:Blk V t [v] 52):t≠g:=fun e=>by
 obtain⟨cs,k⟩:=h.kv;subst e;exact absurd (h1.eq k).2 (by decide)
theorem j0.rcd(h:j0 Wb a t R K D g E Wn N x l V)(hr:Rec Wb.heap.size V V'):j0 Wb a t R K D g E Wn N x l V':=by
 obtain⟨v,c,b⟩:=h.out;exact⟨qd h.chg hr (Nat.le_refl _),zt h.sa hr,⟨v,lT c hr,b.rcd hr⟩,h.ext.rcd hr⟩
theorem pk.rcd(h:pk Wb t K D g E Wn N x V)(hr:Rec Wb.heap.size V V'):pk Wb t K D g E Wn N x V':=⟨qd h.chg hr (Nat.le_refl _),zt h.sa hr,lT h.out hr⟩
theorem j0.tick(h:j0 Wb a t R K D g E Wn N x l V)(f:g < a)(i:a<=R.heap.size):j0 Wb a t R K D g E Wn N (x+1) l (tick g V x):=by
 obtain⟨v,c,d⟩:=h.out;have hc:=dU g x V;exact⟨h.chg.trans hc (fun b _ e=>.inl e),h.sa.tick,⟨v,c.chg hc (yM h.sa c),d.chg hc (fun b e=>by have j:b=g:=e;omega)⟩,h.ext.tick f⟩
theorem pk.tick(h:pk Wb t K D g E Wn N x V)(d:g < a)(c:fy a R V):j0 Wb a t R K D g E Wn N (x+1) [] (tick g V x):=by
 have hc:=dU g x V;exact⟨h.chg.trans hc (fun b _ e=>.inl e),h.sa.tick,⟨_,h.out.chg hc (yM h.sa h.out),UA.nil _ _⟩,c.tick d⟩
theorem qc(hc:Chg (fun b=>b=g\/b=t) Wb V)(a:SA V K D g E Wn x N)(h1:Blk V t [v] 52):RdS Wb (fun b=>b=g\/b=t) K D g E Wn N V:=by
 refine⟨hc,fun b hb cs k=>?_,_,a⟩;rcases hb with rfl | rfl
 ·obtain⟨c,d⟩:=a.kv;exact absurd (k.eq d).2 (by decide)
 ·exact absurd (k.eq h1).2 (by decide)
end
end
section
variable {w:World}{K D:Nat→Prop}{g x0 N:Nat}{E:aA}{Wn:List aA}
theorem sZ{m:Nat}(hS:SA w K D g E Wn x0 N)(hm0:0 < m)(hm:m≤1000000000)(hRk:∀ x ∈ E,[105] <+: x.1→Ky.frm (10:Nat)=Ky.fIn x.1)(hN:N≤100000000)(hx:x0+N≤2000000000000000000) :
    Calls Tryz.prog 100 #[.pointer (some ⟨g,0,none⟩),.int .i64 m] w fun e w'=>∃ v j,e=.returned v∧UA w' w.heap.size v (((pks 10 105 E).map Prod.snd).take m)∧j=min m (pks 10 105 E).length∧SA w' K D g E Wn (x0+1+j) N∧Chg (·=g) w w':=by
  have hglt:g < w.heap.size:=hS.lt hS.top;have b1:=aa w (.cells #[.int .i64 m] 3);have b2:=aa (w.alloc (.cells #[.int .i64 m] 3)) (.cells #[.slice none 0 0] 52);have c1:=(aj w [.int .i64 m] 3).keep b2;have c2:=aj (w.alloc (.cells #[.int .i64 m] 3)) [.slice none 0 0] 52
  have s1:(w.alloc (.cells #[.int .i64 m] 3)).heap.size=w.heap.size+1:=by simp
  have s2:((w.alloc (.cells #[.int .i64 m] 3)).alloc (.cells #[.slice none 0 0] 52)).heap.size=w.heap.size+2:=by simp
  rw[s1] at c2;have b12:=ae b1 b2
  have hm1:¬ ((m:Int) < 1):=by omega
  obtain⟨Wp,hWp⟩:∃ Wp,Hid ((w.alloc (.cells #[.int .i64 m] 3)).alloc (.cells #[.slice none 0 0] 52)=Wp):=⟨_,rfl⟩;rw[hWp.out] at c1 c2 s2 b12;clear b1 b2 s1;have HS:=ax hS;have HRK:=ax hRk;clear hS hRk;refine(callsIn_wide (n:=0)).1 ?_
  refine callsIn_of_wp_marks Tryz.func100 rfl trivial ?_ rfl;simp only[Tryz.ntmps100,List.size_toArray,List.length_cons,List.length_nil,Nat.reduceAdd,Nat.reduceSub,Array.replicate_succ,Array.replicate_zero,List.push_toArray,List.append_toArray,List.nil_append,List.cons_append];gi_wp2_with (refine⟨trivial,rfl,?_⟩;gi_at_call 147;rw[hWp.out];refine(callsIn_wide.2 (oa (r:=10))).mono ?_;rintro W u ⟨bs,bk,rfl,hbs,hbk,k1,k2,B1⟩);have BB:=ae b12 B1;have T1:=c2.keep B1;have SB:=HS.out.keep BB;have zb:=B1.size
  have U:∀ b,K b→b < w.heap.size:=fun b hb=>HS.out.lt hb
  have IT:=tK (X:=fun b=>b=g∨b=w.heap.size+1) (r:=10) (m0:=105) SB k1 (fun h=>by rcases h with h | h <;> omega) k2 (fun h=>by rcases h with h | h <;> omega) (by decide) (by decide) of10 HRK.out (fun b hb=>hb.elim .inl (fun e=>.inr (fun hk=>by have:=U b hk;omega))) (fun b hb=>by have:=T1.lt;rcases hb with h | h <;> omega) hN hx
  have I0:pk u (w.heap.size+1) K D g E Wn N x0 u:=⟨Chg.refl _ _,SB,T1⟩;have HB:=ax BB;have HN:=ax (c1.keep B1)
  have hlen:((pks 10 105 E).map Prod.snd).length=(pks 10 105 E).length:=List.length_map ..;clear SB k1 k2 B1 BB c2 c1;refine oB IT (by rfl) (enters_of Tryz.func193 (by kernel_rfl) rfl) (fun i args n V V' h hc=>h) (fun i args n V h=>by obtain⟨c,_,rfl⟩:= h;rfl)
    (fun V=>pk u (w.heap.size+1) K D g E Wn N x0 V)
    (fun R i V=>u.heap.size+2≤R.heap.size∧i < m∧j0 u (u.heap.size+2) (w.heap.size+1) R K D g E Wn N (x0+1+i) (((pks 10 105 E).map Prod.snd).take i) V)
    (fun R i V=>u.heap.size+2≤R.heap.size∧i < m∧j0 u (u.heap.size+2) (w.heap.size+1) R K D g E Wn N (x0+1+i+1) (((pks 10 105 E).map Prod.snd).take i) V)
    (fun R c i V=>c=.exit 0∧i=m∧j0 u (u.heap.size+2) (w.heap.size+1) R K D g E Wn N (x0+1+i) (((pks 10 105 E).map Prod.snd).take i) V)
    (fun A B hx Y=>hx.rcd Y) (fun R i A B hx Y=>⟨hx.1,hx.2.1,hx.2.2.rcd Y⟩) (fun R i A B hx Y=>⟨hx.1,hx.2.1,hx.2.2.rcd Y⟩) (fun R c i A B hx Y=>⟨hx.1,hx.2.1,hx.2.2.rcd Y⟩) (by omega)
    (fun V hv=>by have q:=hv.sa.cnt;exact⟨q.1,q.2,qc hv.chg hv.sa hv.out,fun R hR hE=>⟨hR,hm0,by simpa using hv.tick (by omega) hE⟩⟩)
    (fun R i V hv=>by have z:=hv.2.2;have q:=z.sa.cnt;obtain⟨v,G,y⟩:= z.out;exact⟨q.1,q.2,qc z.chg z.sa G,z.ext,fun _=>⟨hv.1,hv.2.1,z.tick (by omega) hv.1⟩⟩)
    I0 ?_ ?_ ?_
  · rintro R hR l2 i args V Wv hl hlV hrec hiN ⟨-,H,z⟩ hb ⟨c,hc,rfl⟩
    have O:((pks 10 105 E).map Prod.snd)[i]?=some c.2:=by rw[List.getElem?_map,hc];rfl
    simp;gi_wp2;refine⟨aa _ _,?_⟩;intro V2 W2 _ him2 f p hAr2 J hsz3 hV2 r hrec2;obtain⟨v,G,y⟩:= f.out
    have hlt:i < ((pks 10 105 E).map Prod.snd).length:=(List.getElem?_eq_some_iff.1 O).1
    have P:(((pks 10 105 E).map Prod.snd).take i).length=i:=by rw[List.length_take];omega
    obtain⟨ao,cc,rfl⟩:= y.shape;rw[P] at G y;have zV:=hb.size;have z2:=p.size;have zT:=f.chg.size;have zE:=f.ext.size
    have Z:Blk W2 Wv.heap.size [.int .i64 (10:Nat),.int .u64 c.1,.int .u64 c.2] 103:=⟨(J _ (by omega)).trans (aj Wv [.int .i64 (10:Nat),.int .u64 c.1,.int .u64 c.2] 103).blk⟩;have P0:=G.keep p;have Q0:=y.keep p;have d:=aa W2 (.cells #[.int .u64 c.2] 22);have N4:=aj W2 [.int .u64 c.2] 22;obtain⟨W4,M⟩:∃ W4,Hid (W2.alloc (.cells #[.int .u64 c.2] 22)=W4):=⟨_,rfl⟩;rw[M.out] at d N4;have z4:=d.size;obtain⟨v5,w5,l,U5,I⟩:= Bq (a:=⟨W2.heap.size,0,none⟩) 52 (Q0.keep d) (by omega) (by have:=f.sa.size;have:((pks 10 105 E).map Prod.snd).length≤E.length:=(by rw[List.length_map];unfold pks;rw[List.length_map];exact List.length_filter_le _ _);omega) (N4.cell (i:=0) rfl)
    have hl5:(((pks 10 105 E).map Prod.snd).take i ++ [c.2]).length=i+1:=by rw[List.length_append,P];rfl
    obtain⟨a5,c5,rfl⟩:= U5.shape;rw[hl5] at U5 l
    have he5:((pks 10 105 E).map Prod.snd).take (i+1)=((pks 10 105 E).map Prod.snd).take i ++ [c.2]:=by rw[List.take_add_one,O];rfl
    have S5:=(P0.keep d).chg I (fun h=>by obtain⟨_,cs,k⟩:= h;exact absurd (k.eq (P0.keep d)).2 (by decide));obtain⟨q1,t⟩:∃ q1,Hid (i+1=q1):=⟨_,rfl⟩;rw[t.out] at U5 l
    have s:Chg (·=w.heap.size+1) w5 (w5.setCell ⟨w.heap.size+1,0,none⟩ (.slice a5 q1 c5)):=(Chg.refl (fun x=>x=w.heap.size+1) w5).cell (.inl (by rfl)) _;have S6:=S5.setCell (i:=0) (.slice a5 q1 c5)
    have hK5 : aZ TpU u.heap.size W4 w5 := ⟨I.size, fun k o _ Q hs => (I.same k (lt_of_block Q) (fun h => by
      obtain⟨_,cs,kb⟩:= h;rw[kb.blk] at Q
      cases Q
      exact hs _ _ _ rfl rfl)).trans Q⟩
    have hKe:aZ TpU u.heap.size W2 (w5.setCell ⟨w.heap.size+1,0,none⟩ (.slice a5 q1 c5)):=((aZ.of d).trans hK5).trans ⟨s.size,fun k o hk Q _=>(s.same k (lt_of_block Q) (fun e=>by have W:k=w.heap.size+1:=e;have:=T1.lt;omega)).trans Q⟩
    have hTI:j0 u (u.heap.size+2) (w.heap.size+1) R K D g E Wn N (x0+1+q1) (((pks 10 105 E).map Prod.snd).take q1) (w5.setCell ⟨w.heap.size+1,0,none⟩ (.slice a5 q1 c5)):=by
      have hTl:=T1.lt;refine⟨?_,?_,⟨_,S6,?_⟩,?_⟩
      · exact((f.chg.trans (Chg.of (F:=fun _=>False) (ae p d)) (fun _ _ h=>h.elim)).trans I (fun b h1 h2=>by omega)).trans s (fun b _ h=>.inr h)
      · have q := ((f.sa.keep (ae p d)).chg I (fun b h1 hk => by have := U b hk; omega) (fun b h1 cs Z => by obtain⟨_, cs', k'⟩:= h1; exact absurd (Z.eq k').2 (by decide))).chg s (fun b e hk => by have W : b = w.heap.size + 1 := e; have := U b hk; omega) (fun b e cs Z => by
          have W:b=w.heap.size+1:=e;subst W
          exact absurd (Z.eq S5).2 (by decide))
        rw[show x0+1+q1=x0+1+i+1 by have:=t.out;omega];exact q
      · rw[← t.out,he5]
        have q:=U5.chg s (fun b e=>by have W:b=w.heap.size+1:=e;omega);rw[← t.out] at q;exact q
      · exact(((f.ext.keep p).keep d).chg I (fun b h=>.inr h.1)).chg s (fun b e=>.inl (by have W:b=w.heap.size+1:=e;omega))
    have p0c:=P0.cell (i:=0) rfl;have kc:=Z.cell (i:=2) rfl;have s5c:=S5.cell (i:=0) rfl;have s5f:=S5.free 0;have t6c:=S6.cell (i:=0) rfl;have n6c:=((((((HN.out.chg f.chg (fun e=>by rcases e with e | e <;> omega)).keep p).keep d).chg I (fun h=>by omega))).chg s (fun e=>by have W:w.heap.size=w.heap.size+1:=e;omega)).cell (i:=0) rfl;have HKE:=ax hKe;have HTI:=ax hTI;clear z J hAr2 hb f p P0 Q0 N4 d U5 I S5 s S6 hK5 hKe hTI G y Z P hl5 he5 O hlt zV z2 zT zE z4 hc hsz3 hV2;rw[← M.out] at l;clear M;by_cases T:q1=m
    · subst T
      gi_wp2_with (first | (have gate:=l;clear gate;(with_reducible refine rm ?_ ?_ ?_ l ?_);(exact fun _=>trivial);rfl;rfl;clear l));exact⟨HKE.out,rfl,t.out,t.out ▸ HTI.out⟩
    · have hq : ¬ ((q1 : Int) = (m : Int)) := by omega
      gi_wp2_with (first | (have gate:=l;clear gate;(with_reducible refine rm ?_ ?_ ?_ l ?_);(exact fun _=>trivial);rfl;rfl;clear l));exact⟨HKE.out,hR,by have:=t.out;omega,t.out ▸ HTI.out⟩
  · rintro R D' W' hR hD hK ⟨-,H,z⟩
    obtain⟨v,G,y⟩:= z.out;obtain⟨ao,cc,rfl⟩:= y.shape;obtain⟨ln,L⟩:∃ ln,Hid ((((pks 10 105 E).map Prod.snd).take (pks 10 105 E).length).length=ln):=⟨_,rfl⟩;rw[L.out] at G y;have h1c:=G.cell (i:=0) rfl;have R3:=Rec.put hK rfl hD (.deferred none);have C:=z.rcd R3;have S:=ax y;have zW:=HB.out.size;clear y;gi_wp2;refine⟨by simp,.inl ⟨_,_,rfl,run_takeDeferred hK,?_⟩⟩;refine⟨_,results_tmp rfl _ _ _,_,_,rfl,?_,?_,C.sa,?_⟩
    · have q:=(S.out.rcd R3).low (B':=w.heap.size) (by omega)
      rw[List.take_of_length_le (by rw[hlen];omega)] at q ⊢;exact q
    · rw[Nat.min_eq_right (by omega)]
    · exact(Chg.of (F:=(·=g)) HB.out).trans C.chg (fun b hl e=>e.elim id (fun e=>by omega))
  · rintro R D' c i W' hR hD hK hiN ⟨rfl,H,z⟩
    obtain⟨v,G,y⟩:= z.out;obtain⟨ao,cc,rfl⟩:= y.shape;obtain⟨ln,L⟩:∃ ln,Hid ((((pks 10 105 E).map Prod.snd).take (i+1)).length=ln):=⟨_,rfl⟩;rw[L.out] at G y;have h1c:=G.cell (i:=0) rfl;have R3:=Rec.put hK rfl hD (.deferred none);have C:=z.rcd R3;have S:=ax y;have zW:=HB.out.size;clear y;gi_wp2;refine⟨by simp,.inl ⟨_,_,rfl,run_takeDeferred hK,?_⟩⟩;refine⟨_,results_tmp rfl _ _ _,_,_,rfl,?_,?_,C.sa,?_⟩
    · have q:=(S.out.rcd R3).low (B':=w.heap.size) (by omega)
      rw[H] at q;exact q
    · rw[Nat.min_eq_left (by omega)];exact H
    · exact(Chg.of (F:=(·=g)) HB.out).trans C.chg (fun b hl e=>e.elim id (fun e=>by omega))
theorem nV(hS:SA w K D g E Wn x0 N)(ab:∀ x ∈ E,[98] <+: x.1→Ky.frm (11:Nat)=Ky.fIn x.1)(hN:N≤100000000)(hx:x0+N≤2000000000000000000) :
    Calls Tryz.prog 99 #[.pointer (some ⟨g,0,none⟩)] w fun e w'=>∃ v j,e=.returned v∧UA w' w.heap.size v (((pks 11 98 E).map Prod.fst))∧j=(pks 11 98 E).length∧SA w' K D g E Wn (x0+1+j) N∧Chg (·=g) w w':=by
  have hglt:g < w.heap.size:=hS.lt hS.top;have b12:=aa w (.cells #[.slice none 0 0] 52);have c2:=aj w [.slice none 0 0] 52
  have s2:(w.alloc (.cells #[.slice none 0 0] 52)).heap.size=w.heap.size+1:=by simp
  obtain⟨Wp,U⟩:∃ Wp,Hid (w.alloc (.cells #[.slice none 0 0] 52)=Wp):=⟨_,rfl⟩;rw[U.out] at c2 s2 b12;have HS:=ax hS;have HRK:=ax ab;clear hS ab;refine(callsIn_wide (n:=0)).1 ?_
  refine callsIn_of_wp_marks Tryz.func99 rfl trivial ?_ rfl;simp only[Tryz.ntmps99,List.size_toArray,List.length_cons,List.length_nil,Nat.reduceAdd,Nat.reduceSub,Array.replicate_succ,Array.replicate_zero,List.push_toArray,List.append_toArray,List.nil_append,List.cons_append];gi_wp2_with (refine⟨trivial,rfl,?_⟩;gi_at_call 147;rw[U.out];refine(callsIn_wide.2 (oa (r:=11))).mono ?_;rintro S p ⟨bs,bk,rfl,hbs,hbk,k1,k2,B1⟩);have BB:=ae b12 B1;have T1:=c2.keep B1;have SB:=HS.out.keep BB;have zb:=B1.size
  have M:∀ b,K b→b < w.heap.size:=fun b hb=>HS.out.lt hb
  have IT:=rE (h9:=by decide) (X:=fun b=>b=g∨b=w.heap.size) (r:=11) (m0:=98) SB k1 (fun h=>by rcases h with h | h <;> omega) k2 (fun h=>by rcases h with h | h <;> omega) (by decide) (by decide) of11 HRK.out (fun b hb=>hb.elim .inl (fun e=>.inr (fun hk=>by have:=M b hk;omega))) (fun b hb=>by have:=T1.lt;rcases hb with h | h <;> omega) hN hx
  have I0:pk p (w.heap.size) K D g E Wn N x0 p:=⟨Chg.refl _ _,SB,T1⟩;have HB:=ax BB
  have hlen:((pks 11 98 E).map Prod.fst).length=(pks 11 98 E).length:=List.length_map ..;clear SB k1 k2 B1 BB c2;refine oB IT (by rfl) (enters_of Tryz.func193 (by kernel_rfl) rfl) (fun i args n V V' h hc=>h) (fun i args n V h=>by obtain⟨c,_,rfl⟩:= h;rfl)
    (fun V=>pk p (w.heap.size) K D g E Wn N x0 V)
    (fun R i V=>p.heap.size+2≤R.heap.size∧j0 p (p.heap.size+2) (w.heap.size) R K D g E Wn N (x0+1+i) (((pks 11 98 E).map Prod.fst).take i) V)
    (fun R i V=>p.heap.size+2≤R.heap.size∧j0 p (p.heap.size+2) (w.heap.size) R K D g E Wn N (x0+1+i+1) (((pks 11 98 E).map Prod.fst).take i) V)
    (fun R c i V=>False)
    (fun A B hx T=>hx.rcd T) (fun R i A B hx T=>⟨hx.1,hx.2.rcd T⟩) (fun R i A B hx T=>⟨hx.1,hx.2.rcd T⟩) (fun R c i A B hx T=>hx) (by omega)
    (fun V hv=>by have q:=hv.sa.cnt;exact⟨q.1,q.2,qc hv.chg hv.sa hv.out,fun R hR hE=>⟨hR,by simpa using hv.tick (by omega) hE⟩⟩)
    (fun R i V hv=>by have t:=hv.2;have q:=t.sa.cnt;obtain⟨v,C,y⟩:= t.out;exact⟨q.1,q.2,qc t.chg t.sa C,t.ext,fun _=>⟨hv.1,t.tick (by omega) hv.1⟩⟩)
    I0 ?_ ?_ ?_
  · rintro R hR l2 i args V Wv hl hlV hrec hiN ⟨-,t⟩ hb ⟨c,hc,rfl⟩
    have I:((pks 11 98 E).map Prod.fst)[i]?=some c.1:=by rw[List.getElem?_map,hc];rfl
    simp;gi_wp2;refine⟨aa _ _,?_⟩;intro V2 P _ f l hAr2 z hsz3 hV2 r hrec2;obtain⟨v,C,y⟩:= f.out
    have hlt:i < ((pks 11 98 E).map Prod.fst).length:=(List.getElem?_eq_some_iff.1 I).1
    have J:(((pks 11 98 E).map Prod.fst).take i).length=i:=by rw[List.length_take];omega
    obtain⟨ao,cc,rfl⟩:= y.shape;rw[J] at C y;have zV:=hb.size;have z2:=l.size;have zT:=f.chg.size;have zE:=f.ext.size
    have O:Blk P Wv.heap.size [.int .i64 (11:Nat),.int .u64 c.1,.int .u64 c.2] 103:=⟨(z _ (by omega)).trans (aj Wv [.int .i64 (11:Nat),.int .u64 c.1,.int .u64 c.2] 103).blk⟩;have P0:=C.keep l;have Q0:=y.keep l;have d:=aa P (.cells #[.int .u64 c.1] 22);have N4:=aj P [.int .u64 c.1] 22;obtain⟨W4,H⟩:∃ W4,Hid (P.alloc (.cells #[.int .u64 c.1] 22)=W4):=⟨_,rfl⟩;rw[H.out] at d N4;have z4:=d.size;obtain⟨v5,Q,s,U5,G⟩:= Bq (a:=⟨P.heap.size,0,none⟩) 52 (Q0.keep d) (by omega) (by have:=f.sa.size;have:((pks 11 98 E).map Prod.fst).length≤E.length:=(by rw[List.length_map];unfold pks;rw[List.length_map];exact List.length_filter_le _ _);omega) (N4.cell (i:=0) rfl)
    have hl5:(((pks 11 98 E).map Prod.fst).take i ++ [c.1]).length=i+1:=by rw[List.length_append,J];rfl
    obtain⟨a5,c5,rfl⟩:= U5.shape;rw[hl5] at U5 s
    have he5:((pks 11 98 E).map Prod.fst).take (i+1)=((pks 11 98 E).map Prod.fst).take i ++ [c.1]:=by rw[List.take_add_one,I];rfl
    have S5:=(P0.keep d).chg G (fun h=>by obtain⟨_,cs,k⟩:= h;exact absurd (k.eq (P0.keep d)).2 (by decide));obtain⟨q1,u⟩:∃ q1,Hid (i+1=q1):=⟨_,rfl⟩;rw[u.out] at U5 s
    have m:Chg (·=w.heap.size) Q (Q.setCell ⟨w.heap.size,0,none⟩ (.slice a5 q1 c5)):=(Chg.refl (fun x=>x=w.heap.size) Q).cell (.inl (by rfl)) _;have S6:=S5.setCell (i:=0) (.slice a5 q1 c5)
    have hK5 : aZ TpU p.heap.size W4 Q := ⟨G.size, fun k o _ L hs => (G.same k (lt_of_block L) (fun h => by
      obtain⟨_,cs,kb⟩:= h;rw[kb.blk] at L
      cases L
      exact hs _ _ _ rfl rfl)).trans L⟩
    have Z:aZ TpU p.heap.size P (Q.setCell ⟨w.heap.size,0,none⟩ (.slice a5 q1 c5)):=((aZ.of d).trans hK5).trans ⟨m.size,fun k o hk L _=>(m.same k (lt_of_block L) (fun e=>by have S:k=w.heap.size:=e;have:=T1.lt;omega)).trans L⟩
    have W:j0 p (p.heap.size+2) (w.heap.size) R K D g E Wn N (x0+1+q1) (((pks 11 98 E).map Prod.fst).take q1) (Q.setCell ⟨w.heap.size,0,none⟩ (.slice a5 q1 c5)):=by
      have hTl:=T1.lt;refine⟨?_,?_,⟨_,S6,?_⟩,?_⟩
      · exact((f.chg.trans (Chg.of (F:=fun _=>False) (ae l d)) (fun _ _ h=>h.elim)).trans G (fun b h1 h2=>by omega)).trans m (fun b _ h=>.inr h)
      · have q := ((f.sa.keep (ae l d)).chg G (fun b h1 hk => by have := M b hk; omega) (fun b h1 cs O => by obtain⟨_, cs', k'⟩:= h1; exact absurd (O.eq k').2 (by decide))).chg m (fun b e hk => by have S : b = w.heap.size := e; have := M b hk; omega) (fun b e cs O => by
          have S:b=w.heap.size:=e;subst S
          exact absurd (O.eq S5).2 (by decide))
        rw[show x0+1+q1=x0+1+i+1 by have:=u.out;omega];exact q
      · rw[← u.out,he5]
        have q:=U5.chg m (fun b e=>by have S:b=w.heap.size:=e;omega);rw[← u.out] at q;exact q
      · exact(((f.ext.keep l).keep d).chg G (fun b h=>.inr h.1)).chg m (fun b e=>.inl (by have S:b=w.heap.size:=e;omega))
    have p0c:=P0.cell (i:=0) rfl;have kc:=O.cell (i:=1) rfl;have s5c:=S5.cell (i:=0) rfl;have s5f:=S5.free 0;have HKE:=ax Z;have HTI:=ax W;clear t z hAr2 hb f l P0 Q0 N4 d U5 G S5 m S6 hK5 Z W C y O J hl5 he5 I hlt zV z2 zT zE z4 hc hsz3 hV2;rw[← H.out] at s;clear H;gi_wp2_with (first | (have gate:=s;clear gate;(with_reducible refine CC ?_ ?_ ?_ s ?_);(exact fun _=>trivial);rfl;rfl;clear s));exact⟨HKE.out,hR,u.out ▸ HTI.out⟩
  · rintro R D' W' hR hD hK ⟨-,t⟩
    obtain⟨v,C,y⟩:= t.out;obtain⟨ao,cc,rfl⟩:= y.shape;obtain⟨ln,hln⟩:∃ ln,Hid ((((pks 11 98 E).map Prod.fst).take (pks 11 98 E).length).length=ln):=⟨_,rfl⟩;rw[hln.out] at C y;have h1c:=C.cell (i:=0) rfl;have R3:=Rec.put hK rfl hD (.deferred none);have Y:=t.rcd R3;have HH2:=ax y;have zW:=HB.out.size;clear y;gi_wp2;refine⟨by simp,.inl ⟨_,_,rfl,run_takeDeferred hK,?_⟩⟩;refine⟨_,results_tmp rfl _ _ _,_,_,rfl,?_,?_,Y.sa,?_⟩
    · have q:=(HH2.out.rcd R3).low (B':=w.heap.size) (by omega)
      rw[List.take_of_length_le (by rw[hlen];omega)] at q;exact q
    · rfl
    · exact(Chg.of (F:=(·=g)) HB.out).trans Y.chg (fun b hl e=>e.elim id (fun e=>by omega))
  · rintro R D' c i W' hR hD hK hiN h
    exact h.elim
end
end Pw
end Go.Proofs.YtpoifdokmjhclaaGreat
