import Derived.Test.YtjejmkcjflhoiaaGreatDoorJaj
set_option maxRecDepth 100000
set_option maxHeartbeats 8000000
namespace Go.Proofs.YtjejmkcjflhoiaaGreatDoor
section
namespace Ky
open Go.RowKit Go.Lib Pg
attribute [local go_sem] Oper.semAt_some
end Ky
end
section
namespace Ky
open Kv (pM eh kT nI nxt gm uA dX qB)
open Go.RowKit Go.Lib Pg
attribute [local go_sem] Oper.semAt_some
section
variable {B n c:Nat}{A A' w:World}{cs:List Value}{D:Nat->Prop}{v:Value}{l:List Int}{ao:Option Addr}
theorem nW{g:Nat}{ty:TypeId}(h:Blk A g cs ty)(hr:Rec B A A'):Blk A' g cs ty:=hr.blk h
theorem OB.rcd(h:OB A D v l)(hr:Rec B A A'):OB A' D v l:=by
 refine⟨h.oct,h.ex.imp id ?_⟩;rintro⟨b,c,e,hd,hR⟩;obtain⟨cs,k⟩:=hR.kind;exact⟨b,c,e,hd,hR.same ((hr.blk k).blk.trans k.blk.symm)⟩
theorem By.take(h:By w (.slice ao n c) l)(j:Nat)(t:j<=n):By w (.slice ao j c) (l.take j):=by
 obtain⟨s,hc,hm⟩:=By.lens h;obtain⟨p,r,e,q,k,f,g,o⟩:=h.ex
 cases e
 have hlen:(l.take j).length=j:=by rw[List.length_take];omega
 refine⟨ao,c,by rw[hlen],by rw[hlen];omega,k,f,fun x hx=>g x (List.mem_of_mem_take hx),?_⟩;rcases o with rfl | ⟨d,m,e,b,a⟩
 ·exact .inl (by simp)
 ·exact .inr ⟨d,m,e,b,fun i x hi=>a i x (by
   rw[List.getElem?_take] at hi;split at hi
   ·exact hi
   ·cases hi)⟩
theorem nL(h:By w (.slice ao n c) l)(U:n≤1000000000) :
    Calls Tryz.prog 74 #[.slice ao n c] w fun e w'=>∃ v,e=.returned v∧OB w' (w.heap.size≤·) v (nxt l)∧Below w.heap.size w w':=by
  obtain⟨hl,hnc,hcm⟩:= By.lens h;have c1:=aE w [.slice ao n c] 87;have b1:=ae w (.cells #[.slice ao n c] 87)
  have s1:(w.alloc (.cells #[.slice ao n c] 87)).heap.size=w.heap.size+1:=by simp
  have c2:=aE (w.alloc (.cells #[.slice ao n c] 87)) [.slice none 0 0] 87;have b2:=ae (w.alloc (.cells #[.slice ao n c] 87)) (.cells #[.slice none 0 0] 87)
  have s2:((w.alloc (.cells #[.slice ao n c] 87)).alloc (.cells #[.slice none 0 0] 87)).heap.size=w.heap.size+2:=by simp
  rw[s1] at c2
  have R:=c1.keep b2;have X:=aB b1 b2;obtain⟨Wa,J⟩:∃ Wa,Hid ((w.alloc (.cells #[.slice ao n c] 87)).alloc (.cells #[.slice none 0 0] 87)=Wa):=⟨_,rfl⟩;rw[J.out] at R c2 s2 X;have HB:=bp h;clear h c1 b1 b2 s1;refine(callsIn_wide (n:=0)).1 ?_
  refine callsIn_of_wp_marks Tryz.func74 rfl trivial ?_ rfl;simp only[Tryz.ntmps74,List.size_toArray,List.length_cons,List.length_nil,Nat.reduceAdd,Nat.reduceSub,Array.replicate_succ,Array.replicate_zero,List.push_toArray,List.append_toArray,List.nil_append,List.cons_append];gi_wp2_with (refine⟨trivial,rfl,?_⟩;gi_at_call 122;rw[J.out];refine(callsIn_wide.2 nI).mono ?_;rintro e' z ⟨rfl,O,t⟩);rw[s2] at O;have k1:=R.keep t;have Y:=c2.keep t;have q:=aB X t;have hs2:=t.size;have IT:=kT (Tp:=fun _=>False) (bs:=w.heap.size+2) (c:=c) (ao:=ao) (Q:=l) (n:=n) (Rd:=fun V=>Below z.heap.size z V) hl U (fun V hv=>⟨(O.keep hv).cell (i:=0) rfl,fun j p D=>By.at ((HB.out.keep q).keep hv) D⟩);refine iK IT (by rfl) (enters_of Tryz.func171 (by kernel_rfl) rfl) (fun i args n V V' h _=>h) (fun i args n V h=>by obtain⟨p,j,_,_,rfl⟩:= h;rfl)
    (fun i V=>Below z.heap.size z V∧∀ j x,l[j]?=some x→n≤j+i→x=255)
    (fun c i V=>c=.ret∧∃ v,Blk V (w.heap.size+1) [v] 87∧OB V (w.heap.size≤·) v (nxt l)∧Below w.heap.size w V)
    (fun i A B hx T=>⟨dX hx.1 T (Nat.le_refl _) hx.1.size,hx.2⟩)
    (fun c i A B hx T=>⟨hx.1,by obtain⟨v,h1,h2,I⟩:= hx.2;exact⟨v,T.blk h1,OB.rcd h2 T,dX I T q.size I.size⟩⟩)
    (fun i V hv=>hv.1) ⟨Below.refl _ _,fun j x D hn=>by have:=(List.getElem?_eq_some_iff.1 D).1;omega⟩ ?_ ?_ ?_
  · rintro l2 i args V Wv hl2 hlV hrec hiN ⟨hBV,m⟩ hb ⟨p,j,D,hp,rfl⟩
    simp;gi_wp2;refine⟨Below.refl _ _,?_⟩;intro V2 W2 u f hb2 L K hsz3 hV2 r hrec2;have d:=u.trans (hb2.mono u.size);have kb:=(k1.keep d).cell (i:=0) rfl;have G:=Y.keep d
    have hpo:0≤p∧p < 256:=HB.out.oct p (List.mem_of_getElem? hp);clear m hb hBV K L;by_cases S:p=255
    · subst S
      gi_wp2;refine⟨bL.of (Below.refl _ _),d,fun j2 x hx hn=>?_⟩;by_cases e:j2=j
      · subst e;rw[hp] at hx;cases hx;rfl
      · exact f j2 x hx (by omega)
    · have hp6 : p < 255 := by omega
      have BY:=By.take ((HB.out.keep q).keep d) j (by omega)
      have H:(l.take j).length=j:=by rw[List.length_take];omega
      have hjn:(j:Int)≤c:=by omega
      have w9:IntKind.u8.wrap (p+1)=p+1:=by rw[IntKind.wrap_u8];omega
      have P:=bp G;have HW:=bp d
      have HNX:Hid (nxt l=l.take j ++ [p+1]):=uA hp S (fun i2 y hy hi=>f i2 y hy (by omega));clear G d f
      gi_wp2_with (first
        | (have gate:=s;clear gate;refine qB (fun _=>trivial) rfl rfl s ?_;clear s)
        | (refine⟨trivial,rfl,?_⟩;gi_at_call 69;refine(CallsIn.inRound l2 (callsIn_wide.2 (cZ BY (by omega)))).mono ?_;rintro e' w5 ⟨v5,rfl,O5,b5⟩;obtain⟨v6,F,s,O6,b6⟩:= eh (B:=W2.heap.size) (x:=p+1) O5 b5.size (by omega) (by omega);have C:=(P.out.keep b5).lQ b6 (P.out.lt);have kc:=C.cell (i:=0) rfl;have kfr:=C.free 0;obtain⟨a5,c5,rfl⟩:= OB.sh O5;obtain⟨a6,c6,rfl⟩:= OB.sh O6;rw[H] at s ⊢))
      have hlt:w.heap.size+1 < z.heap.size:=Y.lt;have hsW:=HW.out.size;have N:=b5.trans b6
      have O7:OB F (W2.heap.size≤·) (.slice a6 (j+1) c6) (l.take j ++ [p+1]):=by
        have W:=O6;rw[show (l.take j ++ [p+1]).length=j+1 by rw[List.length_append,H];rfl] at W;exact W
      have O8:OB (F.setCell ⟨w.heap.size+1,0,none⟩ (.slice a6 (j+1) c6)) (W2.heap.size≤·) (.slice a6 (j+1) c6) (l.take j ++ [p+1]):=O7.same (fun b _ hb=>Below.heap_setCell F _ _ b (by show b≠w.heap.size+1;omega))
      have B6:Below w.heap.size w F:=(q.trans (HW.out.mono q.size)).trans (N.mono (Nat.le_trans q.size hsW));refine⟨(bL.of N).trans ⟨?_,fun k o hk h0 _=>(Below.heap_setCell F _ _ k (by show k≠w.heap.size+1;omega)).trans h0⟩,rfl,_,C.setCell (i:=0) _,?_,B6.setCell (show w.heap.size≤w.heap.size+1 by omega) _⟩
      · exact((Chg.refl (fun x=>x=w.heap.size+1) F).cell (g:=w.heap.size+1) (i:=0) (.inl rfl) _).size
      · rw[HNX.out]
        exact O8.mono (fun b _ hb=>by have:=q.size;omega)
  · rintro D' Z hD hK ⟨d,m⟩
    have G:=Y.keep d;have kc:=G.cell (i:=0) rfl;have kf:=G.free 0
    have hlt:w.heap.size+1 < z.heap.size:=Y.lt
    have M:(Z.setCell ⟨w.heap.size+1,0,none⟩ (.slice none 0 0)).heap[D']?=some (.deferred (some [])):=(Below.heap_setCell Z _ _ D' (by show D'≠w.heap.size+1;omega)).trans hK;gi_wp2;refine⟨by simp,.inl ⟨_,_,rfl,run_takeDeferred M,?_⟩⟩;have E:=Rec.put (B:=z.heap.size) M rfl hD (.deferred none);have k3:=nW (G.setCell (i:=0) (.slice none 0 0)) E;refine⟨_,eK rfl rfl (pM (k3.cell (i:=0) rfl)),_,rfl,?_,?_⟩
    · rw[gm (fun x hx => by
        obtain⟨j,D⟩:= List.getElem?_of_mem hx
        exact m j x D (by omega))]
      exact qX _ _
    · have W:Below w.heap.size w (Z.setCell ⟨w.heap.size+1,0,none⟩ (.slice none 0 0)):=(q.trans (d.mono q.size)).setCell (show w.heap.size≤w.heap.size+1 by omega) _
      exact dX W E q.size W.size
  · rintro D' c i Z hD hK hiN ⟨rfl,v,h1,h2,I⟩
    gi_wp2;refine⟨by simp,.inl ⟨_,_,rfl,run_takeDeferred hK,?_⟩⟩;have E:=Rec.put (B:=z.heap.size) hK rfl hD (.deferred none);have k3:=nW h1 E;exact⟨_,eK rfl rfl (pM (k3.cell (i:=0) rfl)),_,rfl,OB.rcd h2 E,dX I E q.size I.size⟩
end
end Ky
end
section
namespace Ky
open Go.RowKit Go.Lib Pg
attribute [local go_sem] Oper.semAt_some
end Ky
end
section
namespace Ky
open Kv (nxt gm de fS gQ kL)
open Go.RowKit Go.Lib Pg
section
variable {b a l:List Int}
theorem gq{y:Int}:Lt [] (y :: b):=by simp[Lt,dw]
theorem not_lt_nil:¬ Lt a []:=by cases a<;>simp[Lt,dw]
theorem fU:∀ {x y s t:List Int},x.length=y.length->(Lt (x ++ s) (y ++ t)<->Lt x y\/(x=y/\Lt s t))
 | [],[],s,t,_=>by simp[lt_irrefl]
 | [],_ :: _,_,_,h=>by simp at h
 | _ :: _,[],_,_,h=>by simp at h
 | a :: x,b :: y,s,t,h=>by
  rw[List.cons_append,List.cons_append,de,de,fU (by simpa using h)];constructor
  ·rintro(h1 | ⟨h1,h2 | ⟨h2,h3⟩⟩)
   ·exact .inl (.inl h1)
   ·exact .inl (.inr ⟨h1,h2⟩)
   ·exact .inr ⟨by rw[h1,h2],h3⟩
  ·rintro((h1 | ⟨h1,h2⟩) | ⟨h1,h2⟩)
   ·exact .inl h1
   ·exact .inr ⟨h1,.inl h2⟩
   ·cases h1;exact .inr ⟨rfl,.inr ⟨rfl,h2⟩⟩
theorem Cu(h:nxt l≠[]):Lt l (nxt l):=by
 rcases gQ l with h1 | ⟨A,x,B,rfl,hx,hB⟩
 ·exact absurd (gm h1) h
 ·rw[kL hx hB,fS,de];exact .inl (by omega)
theorem mr:∀ (n:Nat) (a:Int),be (n+1) a=be n (a / 256) ++ [a % 256]
 | 0,a=>by simp[be]
 | n + 1,a=>by
  rw[be,mr n a,be,List.cons_append];congr 2
  rw[Int.ediv_ediv_of_nonneg (by decide),Int.pow_succ,Int.mul_comm]
theorem zo(n:Nat):(256:Int) ^ (n+1)=256 ^ n * 256:=Int.pow_succ 256 n
theorem tH:∀ (n:Nat) {a b:Int},0<=a->a < 256 ^ n->0<=b->b < 256 ^ n->(Lt (be n a) (be n b)<->a < b)
 | 0,a,b,h1,h2,h3,h4=>by
  simp at h2 h4;constructor
  ·intro h;exact absurd h (lt_irrefl _)
  ·intro h;omega
 | n + 1,a,b,h1,h2,h3,h4=>by
  rw[zo] at h2 h4;have ih:=tH n (a:=a / 256) (b:=b / 256) (by omega) (by omega) (by omega) (by omega);rw[mr,mr,fU (by rw[aT,aT]),ih];constructor
  ·rintro(h | ⟨h,f⟩)
   ·omega
   ·have he:a / 256=b / 256:=by
     rcases Int.lt_trichotomy (a / 256) (b / 256) with c | c | c
     ·have:=ih.2 c;rw[h] at this;exact absurd this (lt_irrefl _)
     ·exact c
     ·have e:=tH n (a:=b / 256) (b:=a / 256) (by omega) (by omega) (by omega) (by omega);have:=e.2 c;rw[h] at this;exact absurd this (lt_irrefl _)
    have g:a % 256 < b % 256:=by
     rcases de.1 f with h7 | ⟨_,h7⟩
     ·exact h7
     ·exact absurd h7 not_lt_nil
    omega
  ·intro h;by_cases he:a / 256 < b / 256
   ·exact .inl he
   ·have d:a / 256=b / 256:=by omega
    exact .inr ⟨by rw[d],de.2 (.inl (by omega))⟩
theorem be_inj{n:Nat}{a b:Int}(g:0<=a)(d:a < 256 ^ n)(e:0<=b)(f:b < 256 ^ n)(h:be n a=be n b):a=b:=by
 rcases Int.lt_trichotomy a b with c | c | c
 ·have:=(tH n g d e f).2 c;rw[h] at this;exact absurd this (lt_irrefl _)
 ·exact c
 ·have:=(tH n e f g d).2 c;rw[h] at this;exact absurd this (lt_irrefl _)
theorem A9:∀ (n:Nat) {a:Int},0<=a->a < 256 ^ n->bv (be n a)=a
 | 0,a,h1,h2=>by simp at h2;simp[be,bv];omega
 | n + 1,a,h1,h2=>by
  rw[zo] at h2;rw[mr,qE,A9 n (by omega) (by omega)];omega
end
end Ky
end
section
namespace Ky
open Go.RowKit Go.Lib Pg
attribute [local go_sem] Oper.semAt_some qS
end Ky
end
section
namespace Ky
open Go.RowKit Go.Lib Pg
attribute [local go_sem] Oper.semAt_some qS
end Ky
end
section
namespace Ky
open Go.RowKit Go.Lib Pg
attribute [local go_sem] Oper.semAt_some qS
end Ky
end
section
namespace Ky
open Go.RowKit Go.Lib Pg
attribute [local go_sem] Oper.semAt_some qS
end Ky
end
end Go.Proofs.YtjejmkcjflhoiaaGreatDoor
