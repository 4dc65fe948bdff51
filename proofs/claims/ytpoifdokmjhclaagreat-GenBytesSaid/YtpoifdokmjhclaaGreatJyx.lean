import Derived.Test.YtpoifdokmjhclaaGreatJyw
import Derived.Handy
set_option maxRecDepth 100000
set_option maxHeartbeats 8000000
namespace Go.Proofs.YtpoifdokmjhclaaGreat
section
namespace Pw
open Go.RowKit Go.Lib Pg Kv Bk
attribute [local go_sem] Oper.semAt_some
theorem KU:Kd Tryz.prog 52 22 1 8 (.int .u64 0):=⟨by kernel_rfl,by kernel_rfl,rfl,by simp[Value.cells,Value.oneCell'],by decide⟩
structure UA (w:World) (B:Nat) (v:Value) (l:List Int):Prop where
 ex:(v=.slice none 0 0/\l=[])\/∃ b c,v=.slice (some ⟨b,0,none⟩) l.length c/\B<=b/\Rw w 22 1 b l.length c (l.map (Value.int .u64))
section
variable {w w':World} {B B':Nat} {v:Value} {l:List Int}
theorem UA.shape (h:UA w B v l):∃ ao c,v=.slice ao l.length c:=by
 rcases h.ex with⟨rfl,rfl⟩ | ⟨b,c,rfl,_⟩
 ·exact⟨none,0,rfl⟩
 exact⟨_,c,rfl⟩
theorem UA.nil (w:World) (B:Nat):UA w B (.slice none 0 0) []:=⟨.inl ⟨rfl,rfl⟩⟩
theorem UA.keep (h:UA w B v l) (hb:BW w w'):UA w' B v l:=⟨h.ex.imp id (λ⟨b,c,e,hl,hR⟩=>⟨b,c,e,hl,hR.keep hb⟩)⟩
theorem UA.chg {F:Nat->Prop} (h:UA w B v l) (hc:Chg F w w') (hF:∀ b,F b->b < B):UA w' B v l:=⟨h.ex.imp id (λ⟨b,c,e,hl,hR⟩=>⟨b,c,e,hl,hR.chg hc (λhf=>by have:=hF b hf;omega)⟩)⟩
theorem UA.low (h:UA w B v l) (hB:B'<=B):UA w B' v l:=⟨h.ex.imp id (λ⟨b,c,e,hl,hR⟩=>⟨b,c,e,Nat.le_trans hB hl,hR⟩)⟩
theorem UA.rcd {C:Nat} (h:UA w B v l) (hr:Rec C w w'):UA w' B v l:=⟨h.ex.imp id (λ⟨b,c,e,hl,hR⟩=>⟨b,c,e,hl,Kv.Rw.rcd hR hr⟩)⟩
theorem Cq {x:Int} {a:Addr} (ty:TypeId) (h:UA w B v l) (s:B<=w.heap.size) (t:l.length<=2000000000) (c0:w.cell? (a.add 0)=some (.int .u64 x)) :
  ∃ v' w',(Builtin.append_ #[52,52] ty #[v,.slice (some a) 1 1]).run Tryz.prog w=.ok v' w'/\UA w' B v' (l ++ [x])/\Chg (λb=>B<=b/\∃ cs,Blk w b cs 22) w w':=by
 have d:∀ j u,[Value.int .u64 x][j]? = some u->w.cell? (a.add j)=some u:=λj u o=>by
  match j with
  | 0=>simp at o;rw[<- o];exact c0
  | k+1=>simp at o
 rcases h.ex with⟨rfl,rfl⟩ | ⟨b,c,rfl,hb,f⟩
 ·obtain⟨g,w',m,f,hw⟩:=gN (w:=w) KU ty a 1 1 [.int .u64 x] rfl d (h0:=by omega) (hbig:=by omega) (hm:=by omega);exact⟨_,w',m,⟨.inr ⟨_,g,rfl,s,f⟩⟩,Chg.of hw⟩
 obtain⟨q,g,w',m,n,i,p⟩:=dW KU ty f a 1 1 [.int .u64 x] rfl d (λu hu=>by simp at hu;subst hu;rfl);refine⟨_,w',m,⟨.inr ⟨q,g,by simp,by rcases n with rfl | rfl<;>omega,?_⟩⟩,p.mono (λy _ e=>?_)⟩
 ·simpa using i
 have r:y=b:=e;subst r;exact⟨hb,f.kind⟩
end
section
variable {n:Nat}{ops:Array Oper}{rest:List Oper}{pos:String}{a:Act}{w w':World}{u v r:Value}{K D:Nat->Prop}{W:List aD}
theorem sj{F:Fence}{Q:Exit->Act->World->Prop}{after:Array Edge}(hF:∀ f,F.fn f)(hu:a.eval (.tmp 12)=u)(hv:a.eval (.tmp 15)=v)(hr:(Builtin.append_ #[52,52] 52 #[u,v]).run Tryz.prog w=.ok r w')(h:wpListIn F n Tryz.prog ops Q rest (a.put (some 16) r) w') :
  wpListIn F n Tryz.prog ops Q ({ dst:=some 16,op:=.call { callee:=.builtin .append,args:=#[.tmp 12,.tmp 15],argTypes:=#[52,52] },type:=52,pos:=pos,after:=after,guard:=none } :: rest) a w :=
 Kv.rz rfl hF (Oper.semAt_eq _ _ _ (λc h=>by cases h)) (Kv.iH (x:=12) (y:=15) rfl hr (ho:=rfl) (hx:=hu) (hy:=hv)) h
theorem DD{F:Fence}{Q:Exit->Act->World->Prop}{after:Array Edge}(hF:∀ f,F.fn f)(hu:a.eval (.tmp 8)=u)(hv:a.eval (.tmp 11)=v)(hr:(Builtin.append_ #[52,52] 52 #[u,v]).run Tryz.prog w=.ok r w')(h:wpListIn F n Tryz.prog ops Q rest (a.put (some 12) r) w') :
  wpListIn F n Tryz.prog ops Q ({ dst:=some 12,op:=.call { callee:=.builtin .append,args:=#[.tmp 8,.tmp 11],argTypes:=#[52,52] },type:=52,pos:=pos,after:=after,guard:=none } :: rest) a w :=
 Kv.rz rfl hF (Oper.semAt_eq _ _ _ (λc h=>by cases h)) (Kv.iH (x:=8) (y:=11) rfl hr (ho:=rfl) (hx:=hu) (hy:=hv)) h
theorem Av{g N B:Nat}{E:aD}(h:SA w K D g E W n N)(hr:Rec B w w'):SA w' K D g E W n N :=
 h.same (λb a=>by obtain⟨cs,t,k,_⟩:=h.kind b a;exact(hr.same b _ k.blk (.inr rfl)).trans k.blk.symm) (λb _ _ hk=>by obtain⟨cs,k⟩:=hk;exact(hr.same b _ k.blk (.inr rfl)).trans k.blk.symm)
structure kF(Wb:World)(a t:Nat)(R:World)(K D:Nat->Prop)(g:Nat)(E:aD)(Wn:List aD)(N x:Nat)(l:List Int)(V:World):Prop where
 chg:Chg (λb=>b=g\/b=t) Wb V
 sa:SA V K D g E Wn x N
 out:∃ v,Blk V t [v] 52/\UA V R.heap.size v l
 ext:fQ a R V
structure pU(Wb:World)(t:Nat)(K D:Nat->Prop)(g:Nat)(E:aD)(Wn:List aD)(N x:Nat)(V:World):Prop where
 chg:Chg (λb=>b=g\/b=t) Wb V
 sa:SA V K D g E Wn x N
 out:Blk V t [.slice none 0 0] 52
end
section
variable {Wb V V' R:World} {a t g x N:Nat} {K D:Nat->Prop} {E:aD} {Wn:List aD} {l:List Int}
section
variable {v:Value}
theorem zM(h:SA V K D g E Wn x N)(h1:Blk V t [v] 52):t≠g:=λe=>by
 obtain⟨cs,k⟩:=h.kv;subst e;exact absurd (h1.eq k).2 (by decide)
theorem kF.rcd(h:kF Wb a t R K D g E Wn N x l V)(hr:Rec Wb.heap.size V V'):kF Wb a t R K D g E Wn N x l V':=by
 obtain⟨v,c,b⟩:=h.out;exact⟨qE h.chg hr (Nat.le_refl _),Av h.sa hr,⟨v,my c hr,b.rcd hr⟩,h.ext.rcd hr⟩
theorem pU.rcd(h:pU Wb t K D g E Wn N x V)(hr:Rec Wb.heap.size V V'):pU Wb t K D g E Wn N x V':=⟨qE h.chg hr (Nat.le_refl _),Av h.sa hr,my h.out hr⟩
theorem kF.tick(h:kF Wb a t R K D g E Wn N x l V)(f:g < a)(i:a<=R.heap.size):kF Wb a t R K D g E Wn N (x+1) l (tick g V x):=by
 obtain⟨v,c,d⟩:=h.out;have hc:=ee g x V;exact⟨h.chg.trans hc (λb _ e=>.inl e),h.sa.tick,⟨v,c.chg hc (zM h.sa c),d.chg hc (λb e=>by have j:b=g:=e;omega)⟩,h.ext.tick f⟩
theorem pU.tick(h:pU Wb t K D g E Wn N x V)(d:g < a)(c:fQ a R V):kF Wb a t R K D g E Wn N (x+1) [] (tick g V x):=by
 have hc:=ee g x V;exact⟨h.chg.trans hc (λb _ e=>.inl e),h.sa.tick,⟨_,h.out.chg hc (zM h.sa h.out),UA.nil _ _⟩,c.tick d⟩
theorem qD(hc:Chg (λb=>b=g\/b=t) Wb V)(hs:SA V K D g E Wn x N)(h1:Blk V t [v] 52):RdS Wb (λb=>b=g\/b=t) K D g E Wn N V:=by
 refine⟨hc,λb hb cs k=>?_,_,hs⟩;rcases hb with rfl | rfl
 ·obtain⟨a,c⟩:=hs.kv;exact absurd (k.eq c).2 (by decide)
 exact absurd (k.eq h1).2 (by decide)
end
end
section
variable {w:World}{K D:Nat→Prop}{g x0 N:Nat}{E:aD}{Wn:List aD}
theorem uD{m:Nat}(hS:SA w K D g E Wn x0 N)(hm0:0 < m)(hm:m≤1000000000)(hRk:∀ x ∈ E,[105] <+: x.1→Ky.frm (10:Nat)=Ky.fIn x.1)(hN:N≤100000000)(hx:x0+N≤2000000000000000000) :
    Calls Tryz.prog 100 #[.pointer (some ⟨g,0,none⟩),.int .i64 m] w λe w'=>∃ v j,e=.returned v∧UA w' w.heap.size v (((pks 10 105 E).map Prod.snd).take m)∧j=min m (pks 10 105 E).length∧SA w' K D g E Wn (x0+1+j) N∧Chg (·=g) w w':=by
  have hglt:g < w.heap.size:=hS.lt hS.top;have b1:=aa w (.cells #[.int .i64 m] 3);have b2:=aa (w.alloc (.cells #[.int .i64 m] 3)) (.cells #[.slice none 0 0] 52);have c1:=(ay w [.int .i64 m] 3).keep b2;have c2:=ay (w.alloc (.cells #[.int .i64 m] 3)) [.slice none 0 0] 52
  have s1:(w.alloc (.cells #[.int .i64 m] 3)).heap.size=w.heap.size+1:=by simp
  have s2:((w.alloc (.cells #[.int .i64 m] 3)).alloc (.cells #[.slice none 0 0] 52)).heap.size=w.heap.size+2:=by simp
  rw[s1] at c2;have b12:=ae b1 b2
  have hm1:¬ ((m:Int) < 1):=by omega
  obtain⟨Wp,hWp⟩:∃ Wp,Hid ((w.alloc (.cells #[.int .i64 m] 3)).alloc (.cells #[.slice none 0 0] 52)=Wp):=⟨_,rfl⟩;rw[hWp.out] at c1 c2 s2 b12;clear b1 b2 s1;have HS:=aG hS;have HRK:=aG hRk;clear hS hRk;refine(callsIn_wide (n:=0)).1 ?_
  refine callsIn_of_wp_marks Tryz.func100 rfl trivial ?_ rfl;simp only[Tryz.ntmps100,List.size_toArray,List.length_cons,List.length_nil,Nat.reduceAdd,Nat.reduceSub,Array.replicate_succ,Array.replicate_zero,List.push_toArray,List.append_toArray,List.nil_append,List.cons_append];gi_wp2_with (refine⟨trivial,rfl,?_⟩;gi_at_call 147;rw[hWp.out];refine(callsIn_wide.2 (oN (r:=10))).mono ?_;rintro W u ⟨bs,bk,rfl,hbs,hbk,k1,k2,B1⟩);have BB:=ae b12 B1;have T1:=c2.keep B1;have SB:=HS.out.keep BB;have zb:=B1.size
  have U:∀ b,K b→b < w.heap.size:=λb hb=>HS.out.lt hb
  have IT:=nE (X:=λb=>b=g∨b=w.heap.size+1) (r:=10) (m0:=105) SB k1 (λh=>by rcases h with h | h <;> omega) k2 (λh=>by rcases h with h | h <;> omega) of10 HRK.out (λb hb=>hb.elim .inl (λe=>.inr (λhk=>by have:=U b hk;omega))) (λb hb=>by have:=T1.lt;rcases hb with h | h <;> omega) hN hx
  have I0:pU u (w.heap.size+1) K D g E Wn N x0 u:=⟨Chg.refl _ _,SB,T1⟩;have HB:=aG BB;have HN:=aG (c1.keep B1)
  have hlen:((pks 10 105 E).map Prod.snd).length=(pks 10 105 E).length:=List.length_map ..;clear SB k1 k2 B1 BB c2 c1;refine o5 IT (by rfl) (enters_of Tryz.func193 (by kernel_rfl) rfl) (λi args n V V' h hc=>h) (λi args n V h=>by obtain⟨c,_,rfl⟩:= h;rfl)
    (λV=>pU u (w.heap.size+1) K D g E Wn N x0 V)
    (λR i V=>u.heap.size+2≤R.heap.size∧i < m∧kF u (u.heap.size+2) (w.heap.size+1) R K D g E Wn N (x0+1+i) (((pks 10 105 E).map Prod.snd).take i) V)
    (λR i V=>u.heap.size+2≤R.heap.size∧i < m∧kF u (u.heap.size+2) (w.heap.size+1) R K D g E Wn N (x0+1+i+1) (((pks 10 105 E).map Prod.snd).take i) V)
    (λR c i V=>c=.exit 0∧i=m∧kF u (u.heap.size+2) (w.heap.size+1) R K D g E Wn N (x0+1+i) (((pks 10 105 E).map Prod.snd).take i) V)
    (λA B hx Y=>hx.rcd Y) (λR i A B hx Y=>⟨hx.1,hx.2.1,hx.2.2.rcd Y⟩) (λR i A B hx Y=>⟨hx.1,hx.2.1,hx.2.2.rcd Y⟩) (λR c i A B hx Y=>⟨hx.1,hx.2.1,hx.2.2.rcd Y⟩) (by omega)
    (λV hv=>by have q:=hv.sa.cnt;exact⟨q.1,q.2,qD hv.chg hv.sa hv.out,λR hR hE=>⟨hR,hm0,by simpa using hv.tick (by omega) hE⟩⟩)
    (λR i V hv=>by have z:=hv.2.2;have q:=z.sa.cnt;obtain⟨v,G,y⟩:= z.out;exact⟨q.1,q.2,qD z.chg z.sa G,z.ext,λ_=>⟨hv.1,hv.2.1,z.tick (by omega) hv.1⟩⟩)
    I0 ?_ ?_ ?_
  · rintro R hR l2 i args V Wv hl hlV hrec hiN ⟨-,H,z⟩ hb ⟨c,hc,rfl⟩
    have O:((pks 10 105 E).map Prod.snd)[i]?=some c.2:=by rw[List.getElem?_map,hc];rfl
    simp;gi_wp2;refine⟨aa _ _,?_⟩;intro V2 W2 _ him2 f p hAr2 J hsz3 hV2 r hrec2;obtain⟨v,G,y⟩:= f.out
    have hlt:i < ((pks 10 105 E).map Prod.snd).length:=(List.getElem?_eq_some_iff.1 O).1
    have P:(((pks 10 105 E).map Prod.snd).take i).length=i:=by rw[List.length_take];omega
    obtain⟨ao,cc,rfl⟩:= y.shape;rw[P] at G y;have zV:=hb.size;have z2:=p.size;have zT:=f.chg.size;have zE:=f.ext.size
    have Z:Blk W2 Wv.heap.size [.int .i64 (10:Nat),.int .u64 c.1,.int .u64 c.2] 103:=⟨(J _ (by omega)).trans (ay Wv [.int .i64 (10:Nat),.int .u64 c.1,.int .u64 c.2] 103).blk⟩;have P0:=G.keep p;have Q0:=y.keep p;have d:=aa W2 (.cells #[.int .u64 c.2] 22);have N4:=ay W2 [.int .u64 c.2] 22;obtain⟨W4,M⟩:∃ W4,Hid (W2.alloc (.cells #[.int .u64 c.2] 22)=W4):=⟨_,rfl⟩;rw[M.out] at d N4;have z4:=d.size;obtain⟨v5,w5,l,U5,I⟩:= Cq (a:=⟨W2.heap.size,0,none⟩) 52 (Q0.keep d) (by omega) (by have:=f.sa.size;have:((pks 10 105 E).map Prod.snd).length≤E.length:=(by rw[List.length_map];unfold pks;rw[List.length_map];exact List.length_filter_le _ _);omega) (N4.cell (i:=0) rfl)
    have hl5:(((pks 10 105 E).map Prod.snd).take i ++ [c.2]).length=i+1:=by rw[List.length_append,P];rfl
    obtain⟨a5,c5,rfl⟩:= U5.shape;rw[hl5] at U5 l
    have he5:((pks 10 105 E).map Prod.snd).take (i+1)=((pks 10 105 E).map Prod.snd).take i ++ [c.2]:=by rw[List.take_add_one,O];rfl
    have S5:=(P0.keep d).chg I (λh=>by obtain⟨_,cs,k⟩:= h;exact absurd (k.eq (P0.keep d)).2 (by decide));obtain⟨q1,t⟩:∃ q1,Hid (i+1=q1):=⟨_,rfl⟩;rw[t.out] at U5 l
    have s:Chg (·=w.heap.size+1) w5 (w5.setCell ⟨w.heap.size+1,0,none⟩ (.slice a5 q1 c5)):=(Chg.refl (λx=>x=w.heap.size+1) w5).cell (.inl (by rfl)) _;have S6:=S5.setCell (i:=0) (.slice a5 q1 c5)
    have hK5 : bM TpU u.heap.size W4 w5 := ⟨I.size, λk o _ Q hs => (I.same k (lt_of_block Q) (λh => by
      obtain⟨_,cs,kb⟩:= h;rw[kb.blk] at Q
      cases Q
      exact hs _ _ _ rfl rfl)).trans Q⟩
    have hKe:bM TpU u.heap.size W2 (w5.setCell ⟨w.heap.size+1,0,none⟩ (.slice a5 q1 c5)):=((bM.of d).trans hK5).trans ⟨s.size,λk o hk Q _=>(s.same k (lt_of_block Q) (λe=>by have W:k=w.heap.size+1:=e;have:=T1.lt;omega)).trans Q⟩
    have hTI:kF u (u.heap.size+2) (w.heap.size+1) R K D g E Wn N (x0+1+q1) (((pks 10 105 E).map Prod.snd).take q1) (w5.setCell ⟨w.heap.size+1,0,none⟩ (.slice a5 q1 c5)):=by
      have hTl:=T1.lt;refine⟨?_,?_,⟨_,S6,?_⟩,?_⟩
      · exact((f.chg.trans (Chg.of (F:=λ_=>False) (ae p d)) (λ_ _ h=>h.elim)).trans I (λb h1 h2=>by omega)).trans s (λb _ h=>.inr h)
      · have q := ((f.sa.keep (ae p d)).chg I (λb h1 hk => by have := U b hk; omega) (λb h1 cs Z => by obtain⟨_, cs', k'⟩:= h1; exact absurd (Z.eq k').2 (by decide))).chg s (λb e hk => by have W : b = w.heap.size + 1 := e; have := U b hk; omega) (λb e cs Z => by
          have W:b=w.heap.size+1:=e;subst W
          exact absurd (Z.eq S5).2 (by decide))
        rw[show x0+1+q1=x0+1+i+1 by have:=t.out;omega];exact q
      · rw[← t.out,he5]
        have q:=U5.chg s (λb e=>by have W:b=w.heap.size+1:=e;omega);rw[← t.out] at q;exact q
      · exact(((f.ext.keep p).keep d).chg I (λb h=>.inr h.1)).chg s (λb e=>.inl (by have W:b=w.heap.size+1:=e;omega))
    have p0c:=P0.cell (i:=0) rfl;have kc:=Z.cell (i:=2) rfl;have s5c:=S5.cell (i:=0) rfl;have s5f:=S5.free 0;have t6c:=S6.cell (i:=0) rfl;have n6c:=((((((HN.out.chg f.chg (λe=>by rcases e with e | e <;> omega)).keep p).keep d).chg I (λh=>by omega))).chg s (λe=>by have W:w.heap.size=w.heap.size+1:=e;omega)).cell (i:=0) rfl;have HKE:=aG hKe;have HTI:=aG hTI;clear z J hAr2 hb f p P0 Q0 N4 d U5 I S5 s S6 hK5 hKe hTI G y Z P hl5 he5 O hlt zV z2 zT zE z4 hc hsz3 hV2;rw[← M.out] at l;clear M;by_cases T:q1=m
    · subst T
      gi_wp2_with (first | (have gate:=l;clear gate;(with_reducible refine sj ?_ ?_ ?_ l ?_);(exact λ_=>trivial);rfl;rfl;clear l));exact⟨HKE.out,rfl,t.out,t.out ▸ HTI.out⟩
    · have hq : ¬ ((q1 : Int) = (m : Int)) := by omega
      gi_wp2_with (first | (have gate:=l;clear gate;(with_reducible refine sj ?_ ?_ ?_ l ?_);(exact λ_=>trivial);rfl;rfl;clear l));exact⟨HKE.out,hR,by have:=t.out;omega,t.out ▸ HTI.out⟩
  · rintro R D' W' hR hD hK ⟨-,H,z⟩
    obtain⟨v,G,y⟩:= z.out;obtain⟨ao,cc,rfl⟩:= y.shape;obtain⟨ln,L⟩:∃ ln,Hid ((((pks 10 105 E).map Prod.snd).take (pks 10 105 E).length).length=ln):=⟨_,rfl⟩;rw[L.out] at G y;have h1c:=G.cell (i:=0) rfl;have R3:=Rec.put hK rfl hD (.deferred none);have C:=z.rcd R3;have S:=aG y;have zW:=HB.out.size;clear y;gi_wp2;refine⟨by simp,.inl ⟨_,_,rfl,run_takeDeferred hK,?_⟩⟩;refine⟨_,results_tmp rfl _ _ _,_,_,rfl,?_,?_,C.sa,?_⟩
    · have q:=(S.out.rcd R3).low (B':=w.heap.size) (by omega)
      rw[List.take_of_length_le (by rw[hlen];omega)] at q ⊢;exact q
    · rw[Nat.min_eq_right (by omega)]
    · exact(Chg.of (F:=(·=g)) HB.out).trans C.chg (λb hl e=>e.elim id (λe=>by omega))
  · rintro R D' c i W' hR hD hK hiN ⟨rfl,H,z⟩
    obtain⟨v,G,y⟩:= z.out;obtain⟨ao,cc,rfl⟩:= y.shape;obtain⟨ln,L⟩:∃ ln,Hid ((((pks 10 105 E).map Prod.snd).take (i+1)).length=ln):=⟨_,rfl⟩;rw[L.out] at G y;have h1c:=G.cell (i:=0) rfl;have R3:=Rec.put hK rfl hD (.deferred none);have C:=z.rcd R3;have S:=aG y;have zW:=HB.out.size;clear y;gi_wp2;refine⟨by simp,.inl ⟨_,_,rfl,run_takeDeferred hK,?_⟩⟩;refine⟨_,results_tmp rfl _ _ _,_,_,rfl,?_,?_,C.sa,?_⟩
    · have q:=(S.out.rcd R3).low (B':=w.heap.size) (by omega)
      rw[H] at q;exact q
    · rw[Nat.min_eq_left (by omega)];exact H
    · exact(Chg.of (F:=(·=g)) HB.out).trans C.chg (λb hl e=>e.elim id (λe=>by omega))
theorem oI(hS:SA w K D g E Wn x0 N)(ab:∀ x ∈ E,[98] <+: x.1→Ky.frm (11:Nat)=Ky.fIn x.1)(hN:N≤100000000)(hx:x0+N≤2000000000000000000) :
    Calls Tryz.prog 99 #[.pointer (some ⟨g,0,none⟩)] w λe w'=>∃ v j,e=.returned v∧UA w' w.heap.size v (((pks 11 98 E).map Prod.fst))∧j=(pks 11 98 E).length∧SA w' K D g E Wn (x0+1+j) N∧Chg (·=g) w w':=by
  have hglt:g < w.heap.size:=hS.lt hS.top;have b12:=aa w (.cells #[.slice none 0 0] 52);have c2:=ay w [.slice none 0 0] 52
  have s2:(w.alloc (.cells #[.slice none 0 0] 52)).heap.size=w.heap.size+1:=by simp
  obtain⟨Wp,U⟩:∃ Wp,Hid (w.alloc (.cells #[.slice none 0 0] 52)=Wp):=⟨_,rfl⟩;rw[U.out] at c2 s2 b12;have HS:=aG hS;have HRK:=aG ab;clear hS ab;refine(callsIn_wide (n:=0)).1 ?_
  refine callsIn_of_wp_marks Tryz.func99 rfl trivial ?_ rfl;simp only[Tryz.ntmps99,List.size_toArray,List.length_cons,List.length_nil,Nat.reduceAdd,Nat.reduceSub,Array.replicate_succ,Array.replicate_zero,List.push_toArray,List.append_toArray,List.nil_append,List.cons_append];gi_wp2_with (refine⟨trivial,rfl,?_⟩;gi_at_call 147;rw[U.out];refine(callsIn_wide.2 (oN (r:=11))).mono ?_;rintro S p ⟨bs,bk,rfl,hbs,hbk,k1,k2,B1⟩);have BB:=ae b12 B1;have T1:=c2.keep B1;have SB:=HS.out.keep BB;have zb:=B1.size
  have M:∀ b,K b→b < w.heap.size:=λb hb=>HS.out.lt hb
  have IT:=nE (X:=λb=>b=g∨b=w.heap.size) (r:=11) (m0:=98) SB k1 (λh=>by rcases h with h | h <;> omega) k2 (λh=>by rcases h with h | h <;> omega) of11 HRK.out (λb hb=>hb.elim .inl (λe=>.inr (λhk=>by have:=M b hk;omega))) (λb hb=>by have:=T1.lt;rcases hb with h | h <;> omega) hN hx
  have I0:pU p (w.heap.size) K D g E Wn N x0 p:=⟨Chg.refl _ _,SB,T1⟩;have HB:=aG BB
  have hlen:((pks 11 98 E).map Prod.fst).length=(pks 11 98 E).length:=List.length_map ..;clear SB k1 k2 B1 BB c2;refine o5 IT (by rfl) (enters_of Tryz.func193 (by kernel_rfl) rfl) (λi args n V V' h hc=>h) (λi args n V h=>by obtain⟨c,_,rfl⟩:= h;rfl)
    (λV=>pU p (w.heap.size) K D g E Wn N x0 V)
    (λR i V=>p.heap.size+2≤R.heap.size∧kF p (p.heap.size+2) (w.heap.size) R K D g E Wn N (x0+1+i) (((pks 11 98 E).map Prod.fst).take i) V)
    (λR i V=>p.heap.size+2≤R.heap.size∧kF p (p.heap.size+2) (w.heap.size) R K D g E Wn N (x0+1+i+1) (((pks 11 98 E).map Prod.fst).take i) V)
    (λR c i V=>False)
    (λA B hx T=>hx.rcd T) (λR i A B hx T=>⟨hx.1,hx.2.rcd T⟩) (λR i A B hx T=>⟨hx.1,hx.2.rcd T⟩) (λR c i A B hx T=>hx) (by omega)
    (λV hv=>by have q:=hv.sa.cnt;exact⟨q.1,q.2,qD hv.chg hv.sa hv.out,λR hR hE=>⟨hR,by simpa using hv.tick (by omega) hE⟩⟩)
    (λR i V hv=>by have t:=hv.2;have q:=t.sa.cnt;obtain⟨v,C,y⟩:= t.out;exact⟨q.1,q.2,qD t.chg t.sa C,t.ext,λ_=>⟨hv.1,t.tick (by omega) hv.1⟩⟩)
    I0 ?_ ?_ ?_
  · rintro R hR l2 i args V Wv hl hlV hrec hiN ⟨-,t⟩ hb ⟨c,hc,rfl⟩
    have I:((pks 11 98 E).map Prod.fst)[i]?=some c.1:=by rw[List.getElem?_map,hc];rfl
    simp;gi_wp2;refine⟨aa _ _,?_⟩;intro V2 P _ f l hAr2 z hsz3 hV2 r hrec2;obtain⟨v,C,y⟩:= f.out
    have hlt:i < ((pks 11 98 E).map Prod.fst).length:=(List.getElem?_eq_some_iff.1 I).1
    have J:(((pks 11 98 E).map Prod.fst).take i).length=i:=by rw[List.length_take];omega
    obtain⟨ao,cc,rfl⟩:= y.shape;rw[J] at C y;have zV:=hb.size;have z2:=l.size;have zT:=f.chg.size;have zE:=f.ext.size
    have O:Blk P Wv.heap.size [.int .i64 (11:Nat),.int .u64 c.1,.int .u64 c.2] 103:=⟨(z _ (by omega)).trans (ay Wv [.int .i64 (11:Nat),.int .u64 c.1,.int .u64 c.2] 103).blk⟩;have P0:=C.keep l;have Q0:=y.keep l;have d:=aa P (.cells #[.int .u64 c.1] 22);have N4:=ay P [.int .u64 c.1] 22;obtain⟨W4,H⟩:∃ W4,Hid (P.alloc (.cells #[.int .u64 c.1] 22)=W4):=⟨_,rfl⟩;rw[H.out] at d N4;have z4:=d.size;obtain⟨v5,Q,s,U5,G⟩:= Cq (a:=⟨P.heap.size,0,none⟩) 52 (Q0.keep d) (by omega) (by have:=f.sa.size;have:((pks 11 98 E).map Prod.fst).length≤E.length:=(by rw[List.length_map];unfold pks;rw[List.length_map];exact List.length_filter_le _ _);omega) (N4.cell (i:=0) rfl)
    have hl5:(((pks 11 98 E).map Prod.fst).take i ++ [c.1]).length=i+1:=by rw[List.length_append,J];rfl
    obtain⟨a5,c5,rfl⟩:= U5.shape;rw[hl5] at U5 s
    have he5:((pks 11 98 E).map Prod.fst).take (i+1)=((pks 11 98 E).map Prod.fst).take i ++ [c.1]:=by rw[List.take_add_one,I];rfl
    have S5:=(P0.keep d).chg G (λh=>by obtain⟨_,cs,k⟩:= h;exact absurd (k.eq (P0.keep d)).2 (by decide));obtain⟨q1,u⟩:∃ q1,Hid (i+1=q1):=⟨_,rfl⟩;rw[u.out] at U5 s
    have m:Chg (·=w.heap.size) Q (Q.setCell ⟨w.heap.size,0,none⟩ (.slice a5 q1 c5)):=(Chg.refl (λx=>x=w.heap.size) Q).cell (.inl (by rfl)) _;have S6:=S5.setCell (i:=0) (.slice a5 q1 c5)
    have hK5 : bM TpU p.heap.size W4 Q := ⟨G.size, λk o _ L hs => (G.same k (lt_of_block L) (λh => by
      obtain⟨_,cs,kb⟩:= h;rw[kb.blk] at L
      cases L
      exact hs _ _ _ rfl rfl)).trans L⟩
    have Z:bM TpU p.heap.size P (Q.setCell ⟨w.heap.size,0,none⟩ (.slice a5 q1 c5)):=((bM.of d).trans hK5).trans ⟨m.size,λk o hk L _=>(m.same k (lt_of_block L) (λe=>by have S:k=w.heap.size:=e;have:=T1.lt;omega)).trans L⟩
    have W:kF p (p.heap.size+2) (w.heap.size) R K D g E Wn N (x0+1+q1) (((pks 11 98 E).map Prod.fst).take q1) (Q.setCell ⟨w.heap.size,0,none⟩ (.slice a5 q1 c5)):=by
      have hTl:=T1.lt;refine⟨?_,?_,⟨_,S6,?_⟩,?_⟩
      · exact((f.chg.trans (Chg.of (F:=λ_=>False) (ae l d)) (λ_ _ h=>h.elim)).trans G (λb h1 h2=>by omega)).trans m (λb _ h=>.inr h)
      · have q := ((f.sa.keep (ae l d)).chg G (λb h1 hk => by have := M b hk; omega) (λb h1 cs O => by obtain⟨_, cs', k'⟩:= h1; exact absurd (O.eq k').2 (by decide))).chg m (λb e hk => by have S : b = w.heap.size := e; have := M b hk; omega) (λb e cs O => by
          have S:b=w.heap.size:=e;subst S
          exact absurd (O.eq S5).2 (by decide))
        rw[show x0+1+q1=x0+1+i+1 by have:=u.out;omega];exact q
      · rw[← u.out,he5]
        have q:=U5.chg m (λb e=>by have S:b=w.heap.size:=e;omega);rw[← u.out] at q;exact q
      · exact(((f.ext.keep l).keep d).chg G (λb h=>.inr h.1)).chg m (λb e=>.inl (by have S:b=w.heap.size:=e;omega))
    have p0c:=P0.cell (i:=0) rfl;have kc:=O.cell (i:=1) rfl;have s5c:=S5.cell (i:=0) rfl;have s5f:=S5.free 0;have HKE:=aG Z;have HTI:=aG W;clear t z hAr2 hb f l P0 Q0 N4 d U5 G S5 m S6 hK5 Z W C y O J hl5 he5 I hlt zV z2 zT zE z4 hc hsz3 hV2;rw[← H.out] at s;clear H;gi_wp2_with (first | (have gate:=s;clear gate;(with_reducible refine DD ?_ ?_ ?_ s ?_);(exact λ_=>trivial);rfl;rfl;clear s));exact⟨HKE.out,hR,u.out ▸ HTI.out⟩
  · rintro R D' W' hR hD hK ⟨-,t⟩
    obtain⟨v,C,y⟩:= t.out;obtain⟨ao,cc,rfl⟩:= y.shape;obtain⟨ln,hln⟩:∃ ln,Hid ((((pks 11 98 E).map Prod.fst).take (pks 11 98 E).length).length=ln):=⟨_,rfl⟩;rw[hln.out] at C y;have h1c:=C.cell (i:=0) rfl;have R3:=Rec.put hK rfl hD (.deferred none);have Y:=t.rcd R3;have HH2:=aG y;have zW:=HB.out.size;clear y;gi_wp2;refine⟨by simp,.inl ⟨_,_,rfl,run_takeDeferred hK,?_⟩⟩;refine⟨_,results_tmp rfl _ _ _,_,_,rfl,?_,?_,Y.sa,?_⟩
    · have q:=(HH2.out.rcd R3).low (B':=w.heap.size) (by omega)
      rw[List.take_of_length_le (by rw[hlen];omega)] at q;exact q
    · rfl
    · exact(Chg.of (F:=(·=g)) HB.out).trans Y.chg (λb hl e=>e.elim id (λe=>by omega))
  · rintro R D' c i W' hR hD hK hiN h
    exact h.elim
end
end Pw
end
section
namespace Sd
open Go.RowKit Go.Lib Pg Lim Gl Kv Bk Pw
section
variable {B:Nat} {K:Nat->Prop} {g:Nat} {E:aD} {Wn:List aD} {x N c:Nat} {w w':World} {v:Value}
end
section
variable {b:Nat} {Ds:List Nat} {w w':World}
end
section
variable {n:Nat} {l:Fr} {fn:Func} {R:Ending->World->Prop} {w:World} {b:Nat}
end
section
variable {n:Nat} {ds:List Deferred} {l:Fr} {Q:Exit->Act->World->Prop} {w:World} {B:Nat} {K:Nat->Prop} {g:Nat} {E:aD} {Wn:List aD} {x N c:Nat} {v:Value}
end
end Sd
end
section
namespace Di
open Go.RowKit Go.Lib Pg Lim Gl Kv Bk Pw Sd
set_option linter.unusedVariables false
section
variable {P:Program} {ops:Array Oper} {Q:Exit->Act->World->Prop} {r:Option Nat}
end
section
variable {lo n:Nat} {ds:List Deferred} {Q Q':Exit->Act->World->Prop} {l:Fr} {w:World}
end
section
variable {n:Nat} {ds:List Deferred} {ops:Array Oper} {rest:List Oper} {o:Oper} {Q Q':Exit->Act->World->Prop} {l:Fr} {w:World}
end
end Di
end
section
namespace Fo
open Go.RowKit Lim
section
variable {w:World}{v:Value}{r:List Int}{x y:Int}{ao ao':Option Addr}{n c n' c':Nat}
structure tH(w:World)(B T:Nat)(ao:Option Addr)(n c:Nat)(x:Int):Prop where
 ex:∃ b o l,l.length=n/\n<=c/\IsN l x/\At w ao b o l/\dN w b o n/\(l=[]\/(B<=b/\b < T))
theorem nB(w:World)(B T:Nat):tH w B T none 0 0 0:=⟨0,0,[],rfl,Nat.le_refl _,jP,⟨.inl rfl,λi hi=>by simp at hi⟩,λi hi=>by omega,.inl rfl⟩
theorem kQ{w':World}(h:dL w w' v r)(f:IsN r x):∃ a c,v=.slice a r.length c/\tH w' w.heap.size w'.heap.size a r.length c x:=by
 obtain⟨i,b,o,c,e,k,g,d,j⟩:=h.is;refine⟨i,c,e,b,o,r,rfl,k,f,d,j,?_⟩;rcases d.lt with e | e
 ·exact .inl e
 exact .inr ⟨g,e⟩
def sL(x y:Int):Int:=if y<=x then x - y else 0
def qP(x y:Int):Int:=if y<=x then 0 else 10
theorem fAdd(h:aW w ao n c x)(t:aW w ao' n' c' y)(hn:n<=1099511627776)(g:n'<=1099511627776) :
  CP 229 #[.slice ao n c,.slice ao' n' c'] w λe w'=>∃ a k d,e=.returned (.slice a k d)/\tH w' w.heap.size w'.heap.size a k d (x+y)/\k<=n+n' + 1/\BW w w':=by
 obtain⟨b,o,l,z,q,C,u,rfl⟩:=h.ex;obtain⟨s,D,E,m,i,p,f,rfl⟩:=t.ex;refine(Fl ao n c b o ao' n' c' s D l E w z m q i hn g C p u f).mono ?_
 rintro e w' ⟨v,r,rfl,j,B,hlen,F⟩;obtain⟨a,d,rfl,A⟩:=kQ j B;exact⟨a,_,d,rfl,A,hlen,F⟩
theorem fMul(h:aW w ao n c x)(t:aW w ao' n' c' y)(hn:n<=1099511627776)(g:n'<=1099511627776) :
  CP 267 #[.slice ao n c,.slice ao' n' c'] w λe w'=>∃ a k d,e=.returned (.slice a k d)/\tH w' w.heap.size w'.heap.size a k d (x * y)/\k<=n+n'/\BW w w':=by
 obtain⟨b,o,l,z,q,C,u,rfl⟩:=h.ex;obtain⟨s,D,E,m,i,p,f,rfl⟩:=t.ex;refine(qa ao n c b o ao' n' c' s D l E w z m q i hn g C p u f).mono ?_
 rintro e w' ⟨v,r,rfl,j,B,hlen,F⟩;obtain⟨a,d,rfl,A⟩:=kQ j B;exact⟨a,_,d,rfl,A,hlen,F⟩
theorem fSub(h:aW w ao n c x)(E:aW w ao' n' c' y)(hn:n<=1099511627776)(i:n'<=1099511627776) :
  CP 361 #[.slice ao n c,.slice ao' n' c'] w λe w'=>∃ a k d,e=.returned (.tuple #[.slice a k d,.int .i64 (qP x y)])/\tH w' w.heap.size w'.heap.size a k d (sL x y)/\k<=n/\BW w w':=by
 obtain⟨b,o,l,B,u,C,A,rfl⟩:=h.ex;obtain⟨z,D,s,m,j,p,g,rfl⟩:=E.ex;unfold qP sL;by_cases f:val s<=val l
 ·rw[if_pos f,if_pos f];refine(sub_ge ao n c b o ao' n' c' z D l s w B m u j hn i C p A g f).mono ?_
  rintro e w' ⟨v,r,rfl,q,G,hlen,t⟩;obtain⟨a,d,rfl,F⟩:=kQ q G;exact⟨a,_,d,rfl,F,hlen,t⟩
 rw[if_neg f,if_neg f];refine(sub_lt ao n c b o ao' n' c' z D l s w B m u j hn i C p A g (by omega)).mono ?_
 rintro e w' ⟨rfl,t⟩;exact⟨none,0,0,rfl,nB _ _ _,Nat.zero_le _,t⟩
def D5(x y:Int):Int:=if y=0 then 0 else x % y
def oy(y:Int):Int:=if y=0 then 11 else 0
theorem Ee{ad:Option Addr}{g G:Nat}{z:Int}(h:aW w ao n c x)(L:aW w ao' n' c' y)(M:aW w ad g G z)(hn:n<=274877906944)(i:n'<=274877906944)(j:g<=274877906944) :
  CP 321 #[.slice ao n c,.slice ao' n' c',.slice ad g G] w λe w'=>∃ a k d a' k' d',e=.returned (.tuple #[.slice a k d,.slice a' k' d',.int .i64 (oy z)])/\tH w' w.heap.size w'.heap.size a k d (x * y / z)/\tH w' w.heap.size w'.heap.size a' k' d' (D5 (x * y) z)/\k<=n+n'/\k'<=n+n' + g/\BW w w':=by
 by_cases f:z=0
 ·unfold D5 oy;rw[if_pos f,if_pos f]
  have N:x * y / z=0:=by rw[f,Int.ediv_zero]
  rw[N];refine(rT h L M hn i j f).mono ?_
  rintro e w' ⟨rfl,J⟩;exact⟨none,0,0,none,0,0,rfl,nB _ _ _,nB _ _ _,Nat.zero_le _,Nat.zero_le _,J⟩
 unfold D5 oy;rw[if_neg f,if_neg f];obtain⟨b,o,l,W,O,S,P,rfl⟩:=h.ex;obtain⟨V,Z,U,H,p,A,E,rfl⟩:=L.ex;obtain⟨X,T,ld,q,m,K,F,rfl⟩:=M.ex;refine(vy ao n c b o ao' n' c' V Z ad g G X T l U ld w W H q O p m hn i j S A K P E F f).mono ?_
 rintro e w' ⟨v,u,r,s,rfl,t,D,Y,R,B,C,J⟩;obtain⟨a,d,rfl,Q⟩:=kQ t Y;obtain⟨a',d',rfl,I⟩:=kQ D R;exact⟨a,_,d,a',_,d',rfl,Q,I,B,C,J⟩
end
end Fo
end
section
open Go.RowKit Lim
section
variable {w:World}{ao:Option Addr}
theorem dZero{n c:Nat}{x:Int}(h:aW w ao n c x)(hn:n<=1099511627776) :
  Calls Tryz.prog 181 #[.agg #[.slice ao n c]] w λe w'=>e=.returned (.bool (decide (x=0)))/\BW w w':=by
 have b:=aa w (.cells #[.slice ao n c] 55);have h:=h.keep b;have t:=nBits h hn;have hm:=sd x h.nonneg;by_cases hx:x=0
 ·have hm:=hm.2 hx;rw[hm] at t;rw[decide_eq_true hx];clear hm hx h;go_enter Tryz.func181,Tryz.ntmps181;go_wp2_with fail;refine t.mono ?_
  rintro e f ⟨rfl,d⟩;go_wp2;go_ret;exact⟨rfl,ae b d⟩
 have hm:bitLen x.toNat≠0:=λe=>hx (hm.1 e)
 rw[decide_eq_false hx];generalize bitLen x.toNat=m at *;obtain⟨k,rfl⟩:∃ k,m=k+1:=⟨m - 1,by omega⟩
 clear hm hx h;go_enter Tryz.func181,Tryz.ntmps181;go_wp2_with fail;refine t.mono ?_
 rintro e f ⟨rfl,d⟩;go_wp2;go_ret;refine⟨?_,ae b d⟩;congr 2
theorem dTenTo(n:Nat)(hn:n<=4096) :
  Calls Tryz.prog 320 #[.int .i64 n] w λe w'=>∃ a k d,e=.returned (.slice a k d)/\jf w' a k d (10 ^ n)/\k<=n+2/\BW w w':=by
 go_enter Tryz.func320,Tryz.ntmps320;go_wp2_with fail;refine(nPow n hn).mono ?_
 rintro e f ⟨a,k,d,rfl,c,hk,b⟩;go_wp2;go_ret;exact⟨a,k,d,rfl,c,hk,b⟩
def U36:Int:=10 ^ 36
theorem dUnit:Calls Tryz.prog 268 #[] w λe w'=>∃ a k d,e=.returned (.slice a k d)/\jf w' a k d U36/\k<=38/\BW w w':=by
 go_enter Tryz.func268,Tryz.ntmps268;go_wp2_with fail;refine(dTenTo 36 (by decide)).mono ?_
 rintro e f ⟨a,k,d,rfl,c,hk,b⟩;go_wp2;go_ret;exact⟨a,k,d,rfl,c,hk,b⟩
end
end
end Go.Proofs.YtpoifdokmjhclaaGreat
