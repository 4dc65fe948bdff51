import Derived.Test.YtgdohcdlkonhiaaGreatDoorJaf
set_option maxRecDepth 100000
set_option maxHeartbeats 8000000
namespace Go.Proofs.YtgdohcdlkonhiaaGreatDoor
section
namespace Ky
open Kv (su dS kL mZ nxt iQ tJ dO qi)
open Go.RowKit Go.Lib Pg
attribute [local go_sem] Oper.semAt_some
section
variable {B n c:Nat}{A A' w:World}{cs:List Value}{D:Nat->Prop}{v:Value}{l:List Int}{ao:Option Addr}
theorem nE{g:Nat}{ty:TypeId}(h:Blk A g cs ty)(hr:Rec B A A'):Blk A' g cs ty:=hr.blk h
theorem OB.rcd(h:OB A D v l)(hr:Rec B A A'):OB A' D v l:=by
 refine⟨h.oct,h.ex.imp id ?_⟩;rintro⟨b,c,e,hd,hR⟩;obtain⟨cs,k⟩:=hR.kind;exact⟨b,c,e,hd,hR.same ((hr.blk k).blk.trans k.blk.symm)⟩
theorem By.take(h:By w (.slice ao n c) l)(j:Nat)(t:j<=n):By w (.slice ao j c) (l.take j):=by
 obtain⟨s,hc,hm⟩:=By.lens h;obtain⟨p,r,e,q,k,f,g,o⟩:=h.ex
 cases e
 have hlen:(l.take j).length=j:=by rw[List.length_take];omega
 refine⟨ao,c,by rw[hlen],by rw[hlen];omega,k,f,fun x hx=>g x (List.mem_of_mem_take hx),?_⟩;rcases o with rfl | ⟨d,m,e,b,a⟩
 ·exact .inl (by simp)
 ·exact .inr ⟨d,m,e,b,fun i x hi=>a i x (by
   rw[List.getElem?_take] at hi;split at hi
   ·exact hi
   ·cases hi)⟩
theorem ni(h:By w (.slice ao n c) l)(T:n≤1000000000) :
    Calls Tryz.prog 265 #[.slice ao n c] w fun e w'=>∃ v,e=.returned v∧OB w' (w.heap.size≤·) v (nxt l)∧Below w.heap.size w w':=by
  obtain⟨hl,hnc,hcm⟩:= By.lens h;have c1:=aJ w [.slice ao n c] 42;have b1:=ai w (.cells #[.slice ao n c] 42)
  have s1:(w.alloc (.cells #[.slice ao n c] 42)).heap.size=w.heap.size+1:=by simp
  have c2:=aJ (w.alloc (.cells #[.slice ao n c] 42)) [.slice none 0 0] 42;have b2:=ai (w.alloc (.cells #[.slice ao n c] 42)) (.cells #[.slice none 0 0] 42)
  have s2:((w.alloc (.cells #[.slice ao n c] 42)).alloc (.cells #[.slice none 0 0] 42)).heap.size=w.heap.size+2:=by simp
  rw[s1] at c2
  have P:=c1.keep b2;have W:=aj b1 b2;obtain⟨Wa,I⟩:∃ Wa,Hid ((w.alloc (.cells #[.slice ao n c] 42)).alloc (.cells #[.slice none 0 0] 42)=Wa):=⟨_,rfl⟩;rw[I.out] at P c2 s2 W;have HB:=bQ h;clear h c1 b1 b2 s1;refine(callsIn_wide (n:=0)).1 ?_
  refine callsIn_of_wp_marks Tryz.func265 rfl trivial ?_ rfl;simp only[Tryz.ntmps265,List.size_toArray,List.length_cons,List.length_nil,Nat.reduceAdd,Nat.reduceSub,Array.replicate_succ,Array.replicate_zero,List.push_toArray,List.append_toArray,List.nil_append,List.cons_append];gi_wp2_with (refine⟨trivial,rfl,?_⟩;gi_at_call 304;rw[I.out];refine(callsIn_wide.2 mZ).mono ?_;rintro e' z ⟨rfl,N,t⟩);rw[s2] at N;have k1:=P.keep t;have k2:=c2.keep t;have q:=aj W t;have hs2:=t.size;have IT:=kL (Tp:=fun _=>False) (bs:=w.heap.size+2) (c:=c) (ao:=ao) (Q:=l) (n:=n) (Rd:=fun V=>Below z.heap.size z V) hl T (fun V hv=>⟨(N.keep hv).cell (i:=0) rfl,fun j p D=>By.at ((HB.out.keep q).keep hv) D⟩);refine kt IT (by rfl) (enters_of Tryz.func321 (by kernel_rfl) rfl) (fun i args n V V' h _=>h) (fun i args n V h=>by obtain⟨p,j,_,_,rfl⟩:= h;rfl)
    (fun i V=>Below z.heap.size z V∧∀ j x,l[j]?=some x→n≤j+i→x=255)
    (fun c i V=>c=.ret∧∃ v,Blk V (w.heap.size+1) [v] 42∧OB V (w.heap.size≤·) v (nxt l)∧Below w.heap.size w V)
    (fun i A B hx S=>⟨dO hx.1 S (Nat.le_refl _) hx.1.size,hx.2⟩)
    (fun c i A B hx S=>⟨hx.1,by obtain⟨v,h1,h2,H⟩:= hx.2;exact⟨v,S.blk h1,OB.rcd h2 S,dO H S q.size H.size⟩⟩)
    (fun i V hv=>hv.1) ⟨Below.refl _ _,fun j x D hn=>by have:=(List.getElem?_eq_some_iff.1 D).1;omega⟩ ?_ ?_ ?_
  · rintro l2 i args V Wv hl2 hlV hrec hiN ⟨hBV,m⟩ hb ⟨p,j,D,hp,rfl⟩
    simp;gi_wp2;refine⟨Below.refl _ _,?_⟩;intro V2 W2 u f hb2 K J hsz3 hV2 r hrec2;have d:=u.trans (hb2.mono u.size);have kb:=(k1.keep d).cell (i:=0) rfl;have kr:=k2.keep d
    have hpo:0≤p∧p < 256:=HB.out.oct p (List.mem_of_getElem? hp);clear m hb hBV J K;by_cases R:p=255
    · subst R
      gi_wp2;refine⟨aX.of (Below.refl _ _),d,fun j2 x hx hn=>?_⟩;by_cases e:j2=j
      · subst e;rw[hp] at hx;cases hx;rfl
      · exact f j2 x hx (by omega)
    · have hp6 : p < 255 := by omega
      have BY:=By.take ((HB.out.keep q).keep d) j (by omega)
      have G:(l.take j).length=j:=by rw[List.length_take];omega
      have hjn:(j:Int)≤c:=by omega
      have w9:IntKind.u8.wrap (p+1)=p+1:=by rw[IntKind.wrap_u8];omega
      have O:=bQ kr;have HW:=bQ d
      have HNX:Hid (nxt l=l.take j ++ [p+1]):=tJ hp R (fun i2 y hy hi=>f i2 y hy (by omega));clear kr d f
      gi_wp2_with (first
        | (have gate:=s;clear gate;refine qi (fun _=>trivial) rfl rfl s ?_;clear s)
        | (refine⟨trivial,rfl,?_⟩;gi_at_call 101;refine(CallsIn.inRound l2 (callsIn_wide.2 (cT BY (by omega)))).mono ?_;rintro e' w5 ⟨v5,rfl,O5,b5⟩;obtain⟨v6,F,s,O6,b6⟩:= dS (B:=W2.heap.size) (x:=p+1) O5 b5.size (by omega) (by omega);have C:=(O.out.keep b5).lG b6 (O.out.lt);have kc:=C.cell (i:=0) rfl;have kfr:=C.free 0;obtain⟨a5,c5,rfl⟩:= OB.sh O5;obtain⟨a6,c6,rfl⟩:= OB.sh O6;rw[G] at s ⊢))
      have hlt:w.heap.size+1 < z.heap.size:=k2.lt;have hsW:=HW.out.size;have M:=b5.trans b6
      have O7:OB F (W2.heap.size≤·) (.slice a6 (j+1) c6) (l.take j ++ [p+1]):=by
        have U:=O6;rw[show (l.take j ++ [p+1]).length=j+1 by rw[List.length_append,G];rfl] at U;exact U
      have O8:OB (F.setCell ⟨w.heap.size+1,0,none⟩ (.slice a6 (j+1) c6)) (W2.heap.size≤·) (.slice a6 (j+1) c6) (l.take j ++ [p+1]):=O7.same (fun b _ hb=>Below.heap_setCell F _ _ b (by show b≠w.heap.size+1;omega))
      have B6:Below w.heap.size w F:=(q.trans (HW.out.mono q.size)).trans (M.mono (Nat.le_trans q.size hsW));refine⟨(aX.of M).trans ⟨?_,fun k o hk h0 _=>(Below.heap_setCell F _ _ k (by show k≠w.heap.size+1;omega)).trans h0⟩,rfl,_,C.setCell (i:=0) _,?_,B6.setCell (show w.heap.size≤w.heap.size+1 by omega) _⟩
      · exact((Chg.refl (fun x=>x=w.heap.size+1) F).cell (g:=w.heap.size+1) (i:=0) (.inl rfl) _).size
      · rw[HNX.out]
        exact O8.mono (fun b _ hb=>by have:=q.size;omega)
  · rintro Z X hD Y ⟨d,m⟩
    have kr:=k2.keep d;have kc:=kr.cell (i:=0) rfl;have kf:=kr.free 0
    have hlt:w.heap.size+1 < z.heap.size:=k2.lt
    have L:(X.setCell ⟨w.heap.size+1,0,none⟩ (.slice none 0 0)).heap[Z]?=some (.deferred (some [])):=(Below.heap_setCell X _ _ Z (by show Z≠w.heap.size+1;omega)).trans Y;gi_wp2;refine⟨by simp,.inl ⟨_,_,rfl,run_takeDeferred L,?_⟩⟩;have E:=Rec.put (B:=z.heap.size) L rfl hD (.deferred none);have k3:=nE (kr.setCell (i:=0) (.slice none 0 0)) E;refine⟨_,eD rfl rfl (su (k3.cell (i:=0) rfl)),_,rfl,?_,?_⟩
    · rw[iQ (fun x hx => by
        obtain⟨j,D⟩:= List.getElem?_of_mem hx
        exact m j x D (by omega))]
      exact qC _ _
    · have U:Below w.heap.size w (X.setCell ⟨w.heap.size+1,0,none⟩ (.slice none 0 0)):=(q.trans (d.mono q.size)).setCell (show w.heap.size≤w.heap.size+1 by omega) _
      exact dO U E q.size U.size
  · rintro Z c i X hD Y hiN ⟨rfl,v,h1,h2,H⟩
    gi_wp2;refine⟨by simp,.inl ⟨_,_,rfl,run_takeDeferred Y,?_⟩⟩;have E:=Rec.put (B:=z.heap.size) Y rfl hD (.deferred none);have k3:=nE h1 E;exact⟨_,eD rfl rfl (su (k3.cell (i:=0) rfl)),_,rfl,OB.rcd h2 E,dO H E q.size H.size⟩
end
end Ky
end
end Go.Proofs.YtgdohcdlkonhiaaGreatDoor
