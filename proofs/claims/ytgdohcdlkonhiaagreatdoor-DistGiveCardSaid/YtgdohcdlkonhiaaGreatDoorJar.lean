import Derived.Test.YtgdohcdlkonhiaaGreatDoorJaq
set_option maxRecDepth 100000
set_option maxHeartbeats 8000000
namespace Go.Proofs.YtgdohcdlkonhiaaGreatDoor
namespace Pw
open Go.RowKit Go.Lib Pg Kv Bk
attribute [local go_sem] Oper.semAt_some
theorem KU:Kd Tryz.prog 23 22 1 8 (.int .u64 0):=⟨by kernel_rfl,by kernel_rfl,rfl,by simp[Value.cells,Value.oneCell'],by decide⟩
structure UA (w:World) (B:Nat) (v:Value) (l:List Int):Prop where
 ex:(v=.slice none 0 0/\l=[])\/∃ b c,v=.slice (some ⟨b,0,none⟩) l.length c/\B<=b/\Rw w 22 1 b l.length c (l.map (Value.int .u64))
section
variable {w w':World} {B B':Nat} {v:Value} {l:List Int}
theorem UA.shape (h:UA w B v l):∃ ao c,v=.slice ao l.length c:=by
 rcases h.ex with⟨rfl,rfl⟩ | ⟨b,c,rfl,_⟩
 ·exact⟨none,0,rfl⟩
 ·exact⟨_,c,rfl⟩
theorem UA.nil (w:World) (B:Nat):UA w B (.slice none 0 0) []:=⟨.inl ⟨rfl,rfl⟩⟩
theorem UA.keep (h:UA w B v l) (hb:Below w.heap.size w w'):UA w' B v l:=⟨h.ex.imp id (fun⟨b,c,e,hl,hR⟩=>⟨b,c,e,hl,hR.keep hb⟩)⟩
theorem UA.chg {F:Nat->Prop} (h:UA w B v l) (hc:Chg F w w') (hF:∀ b,F b->b < B):UA w' B v l:=⟨h.ex.imp id (fun⟨b,c,e,hl,hR⟩=>⟨b,c,e,hl,hR.chg hc (fun hf=>by have:=hF b hf;omega)⟩)⟩
theorem UA.low (h:UA w B v l) (hB:B'<=B):UA w B' v l:=⟨h.ex.imp id (fun⟨b,c,e,hl,hR⟩=>⟨b,c,e,Nat.le_trans hB hl,hR⟩)⟩
theorem UA.rcd {C:Nat} (h:UA w B v l) (hr:Rec C w w'):UA w' B v l:=⟨h.ex.imp id (fun⟨b,c,e,hl,hR⟩=>⟨b,c,e,hl,Kv.Rw.rcd hR hr⟩)⟩
theorem app_u {x:Int} {a:Addr} (ty:TypeId) (h:UA w B v l) (s:B<=w.heap.size) (t:l.length<=2000000000) (c0:w.cell? (a.add 0)=some (.int .u64 x)) :
  ∃ v' w',(Builtin.append_ #[23,23] ty #[v,.slice (some a) 1 1]).run Tryz.prog w=.ok v' w'/\UA w' B v' (l ++ [x])/\Chg (fun b=>B<=b/\∃ cs,Blk w b cs 22) w w':=by
 have d:∀ j u,[Value.int .u64 x][j]? = some u->w.cell? (a.add j)=some u:=fun j u o=>by
  match j with
  | 0=>simp at o;rw[<- o];exact c0
  | k+1=>simp at o
 rcases h.ex with⟨rfl,rfl⟩ | ⟨b,c,rfl,hb,f⟩
 ·obtain⟨g,w',m,f,hw⟩:=iK (w:=w) KU ty a 1 1 [.int .u64 x] rfl d (by omega) (by omega) (by omega);exact⟨_,w',m,⟨.inr ⟨_,g,rfl,s,f⟩⟩,Chg.of hw⟩
 ·obtain⟨q,g,w',m,n,i,p⟩:=eC KU ty f a 1 1 [.int .u64 x] rfl d (fun u hu=>by simp at hu;subst hu;rfl) (by omega) (by omega);refine⟨_,w',m,⟨.inr ⟨q,g,by simp,by rcases n with rfl | rfl<;>omega,?_⟩⟩,p.mono (fun y _ e=>?_)⟩
  ·simpa using i
  ·have r:y=b:=e;subst r;exact⟨hb,f.kind⟩
end
section
variable {n:Nat}{ops:Array Oper}{rest:List Oper}{pos:String}{w w':World}{K D:Nat->Prop}{W:List aC}
theorem Bm{F:Fence}{Q:Exit->Act->World->Prop}{after:Array Edge}{a:Act}{u v r:Value}(hF:∀ f,F.fn f)(hu:a.eval (.tmp 8)=u)(hv:a.eval (.tmp 11)=v)(hr:(Builtin.append_ #[23,23] 23 #[u,v]).run Tryz.prog w=.ok r w')(h:wpListIn F n Tryz.prog ops Q rest (a.put (some 12) r) w') :
  wpListIn F n Tryz.prog ops Q ({ dst:=some 12,op:=.call { callee:=.builtin .append,args:=#[.tmp 8,.tmp 11],argTypes:=#[23,23] },type:=23,pos:=pos,after:=after,guard:=none } :: rest) a w :=
 Kv.vQ rfl hF (Oper.semAt_eq _ _ _ (fun c h=>by cases h)) (Kv.jW (x:=8) (y:=11) rfl hr (ho:=rfl) (hx:=hu) (hy:=hv)) h
theorem tu{g N B:Nat}{E:aC}(h:SA w K D g E W n N)(hr:Rec B w w'):SA w' K D g E W n N :=
 h.same (fun b a=>by obtain⟨cs,t,k,_⟩:=h.kind b a;exact(hr.same b _ k.blk (.inr rfl)).trans k.blk.symm) (fun b _ _ hk=>by obtain⟨cs,k⟩:=hk;exact(hr.same b _ k.blk (.inr rfl)).trans k.blk.symm)
structure oh(Wb:World)(a t:Nat)(R:World)(K D:Nat->Prop)(g:Nat)(E:aC)(Wn:List aC)(N x:Nat)(l:List Int)(V:World):Prop where
 chg:Chg (fun b=>b=g\/b=t) Wb V
 sa:SA V K D g E Wn x N
 out:∃ v,Blk V t [v] 23/\UA V R.heap.size v l
 ext:fZ a R V
structure sO(Wb:World)(t:Nat)(K D:Nat->Prop)(g:Nat)(E:aC)(Wn:List aC)(N x:Nat)(V:World):Prop where
 chg:Chg (fun b=>b=g\/b=t) Wb V
 sa:SA V K D g E Wn x N
 out:Blk V t [.slice none 0 0] 23
end
section
variable {Wb V V' R:World} {a t g x N:Nat} {K D:Nat->Prop} {E:aC} {Wn:List aC} {l:List Int}
section
variable {v:Value}
theorem xV(h:SA V K D g E Wn x N)(h1:Blk V t [v] 23):t≠g:=fun e=>by
 obtain⟨cs,k⟩:=h.kv;subst e;exact absurd (h1.eq k).2 (by decide)
theorem oh.rcd(h:oh Wb a t R K D g E Wn N x l V)(hr:Rec Wb.heap.size V V'):oh Wb a t R K D g E Wn N x l V':=by
 obtain⟨v,c,b⟩:=h.out;exact⟨eV h.chg hr (Nat.le_refl _),tu h.sa hr,⟨v,iW c hr,b.rcd hr⟩,h.ext.rcd hr⟩
theorem sO.rcd(h:sO Wb t K D g E Wn N x V)(hr:Rec Wb.heap.size V V'):sO Wb t K D g E Wn N x V':=⟨eV h.chg hr (Nat.le_refl _),tu h.sa hr,iW h.out hr⟩
theorem oh.tick(h:oh Wb a t R K D g E Wn N x l V)(f:g < a)(i:a<=R.heap.size):oh Wb a t R K D g E Wn N (x+1) l (tick g V x):=by
 obtain⟨v,c,d⟩:=h.out;have hc:=dC g x V;exact⟨h.chg.trans hc (fun b _ e=>.inl e),h.sa.tick,⟨v,c.chg hc (xV h.sa c),d.chg hc (fun b e=>by have j:b=g:=e;omega)⟩,h.ext.tick f⟩
theorem sO.tick(h:sO Wb t K D g E Wn N x V)(d:g < a)(c:fZ a R V):oh Wb a t R K D g E Wn N (x+1) [] (tick g V x):=by
 have hc:=dC g x V;exact⟨h.chg.trans hc (fun b _ e=>.inl e),h.sa.tick,⟨_,h.out.chg hc (xV h.sa h.out),UA.nil _ _⟩,c.tick d⟩
theorem zu(hc:Chg (fun b=>b=g\/b=t) Wb V)(a:SA V K D g E Wn x N)(h1:Blk V t [v] 23):RdS Wb (fun b=>b=g\/b=t) K D g E Wn N V:=by
 refine⟨hc,fun b hb cs k=>?_,_,a⟩;rcases hb with rfl | rfl
 ·obtain⟨c,d⟩:=a.kv;exact absurd (k.eq d).2 (by decide)
 ·exact absurd (k.eq h1).2 (by decide)
end
end
theorem oo {w:World} {K D:Nat→Prop} {g x0 N  : Nat} {E:aC} {Wn:List aC} (hS:SA w K D g E Wn x0 N) (aa:∀ x ∈ E,[98] <+: x.1→Ky.frm (11:Nat)=Ky.fIn x.1) (hN:N≤100000000) (hx:x0+N≤2000000000000000000) :
    Calls Tryz.prog 193 #[.pointer (some ⟨g,0,none⟩)] w fun e w'=>∃ v j,e=.returned v∧UA w' w.heap.size v (((pks 11 98 E).map Prod.fst))∧j=(pks 11 98 E).length∧SA w' K D g E Wn (x0+1+j) N∧Chg (·=g) w w':=by
  have hglt:g < w.heap.size:=hS.lt hS.top;have b12:=ai w (.cells #[.slice none 0 0] 23);have c2:=aJ w [.slice none 0 0] 23
  have s2:(w.alloc (.cells #[.slice none 0 0] 23)).heap.size=w.heap.size+1:=by simp
  obtain⟨Wp,U⟩:∃ Wp,Hid (w.alloc (.cells #[.slice none 0 0] 23)=Wp):=⟨_,rfl⟩;rw[U.out] at c2 s2 b12;have HS:=aQ hS;have HRK:=aQ aa;clear hS aa;refine(callsIn_wide (n:=0)).1 ?_
  refine callsIn_of_wp_marks Tryz.func193 rfl trivial ?_ rfl;simp only[Tryz.ntmps193,List.size_toArray,List.length_cons,List.length_nil,Nat.reduceAdd,Nat.reduceSub,Array.replicate_succ,Array.replicate_zero,List.push_toArray,List.append_toArray,List.nil_append,List.cons_append];gi_wp2_with (refine⟨trivial,rfl,?_⟩;gi_at_call 249;rw[U.out];refine(callsIn_wide.2 (we (r:=11))).mono ?_;rintro S p ⟨bs,bk,rfl,hbs,hbk,k1,k2,B1⟩);have BB:=aj b12 B1;have T1:=c2.keep B1;have SB:=HS.out.keep BB;have zb:=B1.size
  have M:∀ b,K b→b < w.heap.size:=fun b hb=>HS.out.lt hb
  have IT:=rJ (h9:=by decide) (X:=fun b=>b=g∨b=w.heap.size) (r:=11) (m0:=98) SB k1 (fun h=>by rcases h with h | h <;> omega) k2 (fun h=>by rcases h with h | h <;> omega) (by decide) (by decide) of11 HRK.out (fun b hb=>hb.elim .inl (fun e=>.inr (fun hk=>by have:=M b hk;omega))) (fun b hb=>by have:=T1.lt;rcases hb with h | h <;> omega) hN hx
  have I0:sO p (w.heap.size) K D g E Wn N x0 p:=⟨Chg.refl _ _,SB,T1⟩;have HB:=aQ BB
  have hlen:((pks 11 98 E).map Prod.fst).length=(pks 11 98 E).length:=List.length_map ..;clear SB k1 k2 B1 BB c2;refine wS IT (by rfl) (enters_of Tryz.func292 (by kernel_rfl) rfl) (fun i args n V V' h hc=>h) (fun i args n V h=>by obtain⟨c,_,rfl⟩:= h;rfl)
    (fun V=>sO p (w.heap.size) K D g E Wn N x0 V)
    (fun R i V=>p.heap.size+2≤R.heap.size∧oh p (p.heap.size+2) (w.heap.size) R K D g E Wn N (x0+1+i) (((pks 11 98 E).map Prod.fst).take i) V)
    (fun R i V=>p.heap.size+2≤R.heap.size∧oh p (p.heap.size+2) (w.heap.size) R K D g E Wn N (x0+1+i+1) (((pks 11 98 E).map Prod.fst).take i) V)
    (fun R c i V=>False)
    (fun A B hx T=>hx.rcd T) (fun R i A B hx T=>⟨hx.1,hx.2.rcd T⟩) (fun R i A B hx T=>⟨hx.1,hx.2.rcd T⟩) (fun R c i A B hx T=>hx) (by omega)
    (fun V hv=>by have q:=hv.sa.cnt;exact⟨q.1,q.2,zu hv.chg hv.sa hv.out,fun R hR hE=>⟨hR,by simpa using hv.tick (by omega) hE⟩⟩)
    (fun R i V hv=>by have t:=hv.2;have q:=t.sa.cnt;obtain⟨v,C,y⟩:= t.out;exact⟨q.1,q.2,zu t.chg t.sa C,t.ext,fun _=>⟨hv.1,t.tick (by omega) hv.1⟩⟩)
    I0 ?_ ?_ ?_
  · rintro R hR l2 i args V Wv hl hlV hrec hiN ⟨-,t⟩ hb ⟨c,hc,rfl⟩
    have I:((pks 11 98 E).map Prod.fst)[i]?=some c.1:=by rw[List.getElem?_map,hc];rfl
    simp;gi_wp2;refine⟨ai _ _,?_⟩;intro V2 P _ f l hAr2 z hsz3 hV2 r hrec2;obtain⟨v,C,y⟩:= f.out
    have hlt:i < ((pks 11 98 E).map Prod.fst).length:=(List.getElem?_eq_some_iff.1 I).1
    have J:(((pks 11 98 E).map Prod.fst).take i).length=i:=by rw[List.length_take];omega
    obtain⟨ao,cc,rfl⟩:= y.shape;rw[J] at C y;have zV:=hb.size;have z2:=l.size;have zT:=f.chg.size;have zE:=f.ext.size
    have O:Blk P Wv.heap.size [.int .i64 (11:Nat),.int .u64 c.1,.int .u64 c.2] 46:=⟨(z _ (by omega)).trans (aJ Wv [.int .i64 (11:Nat),.int .u64 c.1,.int .u64 c.2] 46).blk⟩;have P0:=C.keep l;have Q0:=y.keep l;have d:=ai P (.cells #[.int .u64 c.1] 22);have N4:=aJ P [.int .u64 c.1] 22;obtain⟨W4,H⟩:∃ W4,Hid (P.alloc (.cells #[.int .u64 c.1] 22)=W4):=⟨_,rfl⟩;rw[H.out] at d N4;have z4:=d.size;obtain⟨v5,Q,s,U5,G⟩:= app_u (a:=⟨P.heap.size,0,none⟩) 23 (Q0.keep d) (by omega) (by have:=f.sa.size;have:((pks 11 98 E).map Prod.fst).length≤E.length:=(by rw[List.length_map];unfold pks;rw[List.length_map];exact List.length_filter_le _ _);omega) (N4.cell (i:=0) rfl)
    have hl5:(((pks 11 98 E).map Prod.fst).take i ++ [c.1]).length=i+1:=by rw[List.length_append,J];rfl
    obtain⟨a5,c5,rfl⟩:= U5.shape;rw[hl5] at U5 s
    have he5:((pks 11 98 E).map Prod.fst).take (i+1)=((pks 11 98 E).map Prod.fst).take i ++ [c.1]:=by rw[List.take_add_one,I];rfl
    have S5:=(P0.keep d).chg G (fun h=>by obtain⟨_,cs,k⟩:= h;exact absurd (k.eq (P0.keep d)).2 (by decide));obtain⟨q1,u⟩:∃ q1,Hid (i+1=q1):=⟨_,rfl⟩;rw[u.out] at U5 s
    have m:Chg (·=w.heap.size) Q (Q.setCell ⟨w.heap.size,0,none⟩ (.slice a5 q1 c5)):=(Chg.refl (fun x=>x=w.heap.size) Q).cell (.inl (by rfl)) _;have S6:=S5.setCell (i:=0) (.slice a5 q1 c5)
    have hK5 : aX TpU p.heap.size W4 Q := ⟨G.size, fun k o _ L hs => (G.same k (lt_of_block L) (fun h => by
      obtain⟨_,cs,kb⟩:= h;rw[kb.blk] at L
      cases L
      exact hs _ _ _ rfl rfl)).trans L⟩
    have Z:aX TpU p.heap.size P (Q.setCell ⟨w.heap.size,0,none⟩ (.slice a5 q1 c5)):=((aX.of d).trans hK5).trans ⟨m.size,fun k o hk L _=>(m.same k (lt_of_block L) (fun e=>by have S:k=w.heap.size:=e;have:=T1.lt;omega)).trans L⟩
    have W:oh p (p.heap.size+2) (w.heap.size) R K D g E Wn N (x0+1+q1) (((pks 11 98 E).map Prod.fst).take q1) (Q.setCell ⟨w.heap.size,0,none⟩ (.slice a5 q1 c5)):=by
      have hTl:=T1.lt;refine⟨?_,?_,⟨_,S6,?_⟩,?_⟩
      · exact((f.chg.trans (Chg.of (F:=fun _=>False) (aj l d)) (fun _ _ h=>h.elim)).trans G (fun b h1 h2=>by omega)).trans m (fun b _ h=>.inr h)
      · have q := ((f.sa.keep (aj l d)).chg G (fun b h1 hk => by have := M b hk; omega) (fun b h1 cs O => by obtain⟨_, cs', k'⟩:= h1; exact absurd (O.eq k').2 (by decide))).chg m (fun b e hk => by have S : b = w.heap.size := e; have := M b hk; omega) (fun b e cs O => by
          have S:b=w.heap.size:=e;subst S
          exact absurd (O.eq S5).2 (by decide))
        rw[show x0+1+q1=x0+1+i+1 by have:=u.out;omega];exact q
      · rw[← u.out,he5]
        have q:=U5.chg m (fun b e=>by have S:b=w.heap.size:=e;omega);rw[← u.out] at q;exact q
      · exact(((f.ext.keep l).keep d).chg G (fun b h=>.inr h.1)).chg m (fun b e=>.inl (by have S:b=w.heap.size:=e;omega))
    have p0c:=P0.cell (i:=0) rfl;have kc:=O.cell (i:=1) rfl;have s5c:=S5.cell (i:=0) rfl;have s5f:=S5.free 0;have HKE:=aQ Z;have HTI:=aQ W;clear t z hAr2 hb f l P0 Q0 N4 d U5 G S5 m S6 hK5 Z W C y O J hl5 he5 I hlt zV z2 zT zE z4 hc hsz3 hV2;rw[← H.out] at s;clear H;gi_wp2_with (first | (have gate:=s;clear gate;(with_reducible refine Bm ?_ ?_ ?_ s ?_);(exact fun _=>trivial);rfl;rfl;clear s));exact⟨HKE.out,hR,u.out ▸ HTI.out⟩
  · rintro R D' W' hR hD hK ⟨-,t⟩
    obtain⟨v,C,y⟩:= t.out;obtain⟨ao,cc,rfl⟩:= y.shape;obtain⟨ln,hln⟩:∃ ln,Hid ((((pks 11 98 E).map Prod.fst).take (pks 11 98 E).length).length=ln):=⟨_,rfl⟩;rw[hln.out] at C y;have h1c:=C.cell (i:=0) rfl;have R3:=Rec.put hK rfl hD (.deferred none);have Y:=t.rcd R3;have HH2:=aQ y;have zW:=HB.out.size;clear y;gi_wp2;refine⟨by simp,.inl ⟨_,_,rfl,run_takeDeferred hK,?_⟩⟩;refine⟨_,results_tmp rfl _ _ _,_,_,rfl,?_,?_,Y.sa,?_⟩
    · have q:=(HH2.out.rcd R3).low (B':=w.heap.size) (by omega)
      rw[List.take_of_length_le (by rw[hlen];omega)] at q;exact q
    · rfl
    · exact(Chg.of (F:=(·=g)) HB.out).trans Y.chg (fun b hl e=>e.elim id (fun e=>by omega))
  · rintro R D' c i W' hR hD hK hiN h
    exact h.elim
end Pw
end Go.Proofs.YtgdohcdlkonhiaaGreatDoor
