import Derived.Test.YtidnifmehnjipaaGreatJaf
set_option maxRecDepth 100000
set_option maxHeartbeats 8000000
namespace Go.Proofs.YtidnifmehnjipaaGreat
section
namespace Ky
open Kv (sA cT ko mT nxt eO tD dB qp)
open Go.RowKit Go.Lib Pg
attribute [local go_sem] Oper.semAt_some
section
variable {B n c:Nat}{A A' w:World}{cs:List Value}{D:Nat->Prop}{v:Value}{l:List Int}{ao:Option Addr}
theorem nu{g:Nat}{ty:TypeId}(h:Blk A g cs ty)(hr:Rec B A A'):Blk A' g cs ty:=hr.blk h
theorem OB.rcd(h:OB A D v l)(hr:Rec B A A'):OB A' D v l:=by
 refine⟨h.oct,h.ex.imp id ?_⟩;rintro⟨b,c,e,hd,hR⟩;obtain⟨cs,k⟩:=hR.kind;exact⟨b,c,e,hd,hR.same ((hr.blk k).blk.trans k.blk.symm)⟩
theorem By.take(h:By w (.slice ao n c) l)(j:Nat)(t:j<=n):By w (.slice ao j c) (l.take j):=by
 obtain⟨s,hc,hm⟩:=By.lens h;obtain⟨p,r,e,q,k,f,g,o⟩:=h.ex
 cases e
 have hlen:(l.take j).length=j:=by rw[List.length_take];omega
 refine⟨ao,c,by rw[hlen],by rw[hlen];omega,k,f,fun x hx=>g x (List.mem_of_mem_take hx),?_⟩;rcases o with rfl | ⟨d,m,e,b,a⟩
 ·exact .inl (by simp)
 ·exact .inr ⟨d,m,e,b,fun i x hi=>a i x (by
   rw[List.getElem?_take] at hi;split at hi
   ·exact hi
   ·cases hi)⟩
theorem mV(h:By w (.slice ao n c) l)(U:n≤1000000000) :
    Calls Tryz.prog 74 #[.slice ao n c] w fun e w'=>∃ v,e=.returned v∧OB w' (w.heap.size≤·) v (nxt l)∧Below w.heap.size w w':=by
  obtain⟨hl,hnc,hcm⟩:= By.lens h;have c1:=aj w [.slice ao n c] 36;have b1:=af w (.cells #[.slice ao n c] 36)
  have s1:(w.alloc (.cells #[.slice ao n c] 36)).heap.size=w.heap.size+1:=by simp
  have c2:=aj (w.alloc (.cells #[.slice ao n c] 36)) [.slice none 0 0] 36;have b2:=af (w.alloc (.cells #[.slice ao n c] 36)) (.cells #[.slice none 0 0] 36)
  have s2:((w.alloc (.cells #[.slice ao n c] 36)).alloc (.cells #[.slice none 0 0] 36)).heap.size=w.heap.size+2:=by simp
  rw[s1] at c2
  have R:=c1.keep b2;have X:=ai b1 b2;obtain⟨Wa,J⟩:∃ Wa,Hid ((w.alloc (.cells #[.slice ao n c] 36)).alloc (.cells #[.slice none 0 0] 36)=Wa):=⟨_,rfl⟩;rw[J.out] at R c2 s2 X;have HB:=aQ h;clear h c1 b1 b2 s1;refine(callsIn_wide (n:=0)).1 ?_
  refine callsIn_of_wp_marks Tryz.func74 rfl trivial ?_ rfl;simp only[Tryz.ntmps74,List.size_toArray,List.length_cons,List.length_nil,Nat.reduceAdd,Nat.reduceSub,Array.replicate_succ,Array.replicate_zero,List.push_toArray,List.append_toArray,List.nil_append,List.cons_append];gi_wp2_with (refine⟨trivial,rfl,?_⟩;gi_at_call 123;rw[J.out];refine(callsIn_wide.2 mT).mono ?_;rintro e' z ⟨rfl,O,t⟩);rw[s2] at O;have k1:=R.keep t;have Y:=c2.keep t;have q:=ai X t;have hs2:=t.size;have IT:=ko (Tp:=fun _=>False) (bs:=w.heap.size+2) (c:=c) (ao:=ao) (Q:=l) (n:=n) (Rd:=fun V=>Below z.heap.size z V) hl U (fun V Z=>⟨(O.keep Z).cell (i:=0) rfl,fun j p D=>By.at ((HB.out.keep q).keep Z) D⟩);refine gY IT (by rfl) (enters_of Tryz.func174 (by kernel_rfl) rfl) (fun i args n V V' h _=>h) (fun i args n V h=>by obtain⟨p,j,_,_,rfl⟩:= h;rfl)
    (fun i V=>Below z.heap.size z V∧∀ j x,l[j]?=some x→n≤j+i→x=255)
    (fun c i V=>c=.ret∧∃ v,Blk V (w.heap.size+1) [v] 36∧OB V (w.heap.size≤·) v (nxt l)∧Below w.heap.size w V)
    (fun i A B hx T=>⟨dB hx.1 T (Nat.le_refl _) hx.1.size,hx.2⟩)
    (fun c i A B hx T=>⟨hx.1,by obtain⟨v,h1,h2,I⟩:= hx.2;exact⟨v,T.blk h1,OB.rcd h2 T,dB I T q.size I.size⟩⟩)
    (fun i V Z=>Z.1) ⟨Below.refl _ _,fun j x D hn=>by have:=(List.getElem?_eq_some_iff.1 D).1;omega⟩ ?_ ?_ ?_
  · rintro l2 i args V Wv hl2 hlV hrec hiN ⟨hBV,m⟩ hb ⟨p,j,D,hp,rfl⟩
    simp;gi_wp2;refine⟨Below.refl _ _,?_⟩;intro V2 W2 u f hb2 L K hsz3 hV2 r hrec2;have d:=u.trans (hb2.mono u.size);have kb:=(k1.keep d).cell (i:=0) rfl;have G:=Y.keep d
    have hpo:0≤p∧p < 256:=HB.out.oct p (List.mem_of_getElem? hp);clear m hb hBV K L;by_cases S:p=255
    · subst S
      gi_wp2;refine⟨bH.of (Below.refl _ _),d,fun j2 x hx hn=>?_⟩;by_cases e:j2=j
      · subst e;rw[hp] at hx;cases hx;rfl
      · exact f j2 x hx (by omega)
    · have hp6 : p < 255 := by omega
      have BY:=By.take ((HB.out.keep q).keep d) j (by omega)
      have H:(l.take j).length=j:=by rw[List.length_take];omega
      have hjn:(j:Int)≤c:=by omega
      have w9:IntKind.u8.wrap (p+1)=p+1:=by rw[IntKind.wrap_u8];omega
      have P:=aQ G;have HW:=aQ d
      have HNX:Hid (nxt l=l.take j ++ [p+1]):=tD hp S (fun i2 y hy hi=>f i2 y hy (by omega));clear G d f
      gi_wp2_with (first
        | (have gate:=s;clear gate;refine qp (fun _=>trivial) rfl rfl s ?_;clear s)
        | (refine⟨trivial,rfl,?_⟩;gi_at_call 114;refine(CallsIn.inRound l2 (callsIn_wide.2 (cH BY (by omega)))).mono ?_;rintro e' w5 ⟨v5,rfl,O5,b5⟩;obtain⟨v6,F,s,O6,b6⟩:= cT (B:=W2.heap.size) (x:=p+1) O5 b5.size (by omega) (by omega);have C:=(P.out.keep b5).eV b6 (P.out.lt);have kc:=C.cell (i:=0) rfl;have kfr:=C.free 0;obtain⟨a5,c5,rfl⟩:= OB.sh O5;obtain⟨a6,c6,rfl⟩:= OB.sh O6;rw[H] at s ⊢))
      have hlt:w.heap.size+1 < z.heap.size:=Y.lt;have hsW:=HW.out.size;have N:=b5.trans b6
      have O7:OB F (W2.heap.size≤·) (.slice a6 (j+1) c6) (l.take j ++ [p+1]):=by
        have W:=O6;rw[show (l.take j ++ [p+1]).length=j+1 by rw[List.length_append,H];rfl] at W;exact W
      have O8:OB (F.setCell ⟨w.heap.size+1,0,none⟩ (.slice a6 (j+1) c6)) (W2.heap.size≤·) (.slice a6 (j+1) c6) (l.take j ++ [p+1]):=O7.same (fun b _ hb=>Below.heap_setCell F _ _ b (by show b≠w.heap.size+1;omega))
      have B6:Below w.heap.size w F:=(q.trans (HW.out.mono q.size)).trans (N.mono (Nat.le_trans q.size hsW));refine⟨(bH.of N).trans ⟨?_,fun k o hk h0 _=>(Below.heap_setCell F _ _ k (by show k≠w.heap.size+1;omega)).trans h0⟩,rfl,_,C.setCell (i:=0) _,?_,B6.setCell (show w.heap.size≤w.heap.size+1 by omega) _⟩
      · exact((Chg.refl (fun x=>x=w.heap.size+1) F).cell (g:=w.heap.size+1) (i:=0) (.inl rfl) _).size
      · rw[HNX.out]
        exact O8.mono (fun b _ hb=>by have:=q.size;omega)
  · rintro D' W' hD hK ⟨d,m⟩
    have G:=Y.keep d;have kc:=G.cell (i:=0) rfl;have kf:=G.free 0
    have hlt:w.heap.size+1 < z.heap.size:=Y.lt
    have M:(W'.setCell ⟨w.heap.size+1,0,none⟩ (.slice none 0 0)).heap[D']?=some (.deferred (some [])):=(Below.heap_setCell W' _ _ D' (by show D'≠w.heap.size+1;omega)).trans hK;gi_wp2;refine⟨by simp,.inl ⟨_,_,rfl,run_takeDeferred M,?_⟩⟩;have E:=Rec.put (B:=z.heap.size) M rfl hD (.deferred none);have k3:=nu (G.setCell (i:=0) (.slice none 0 0)) E;refine⟨_,dV rfl rfl (sA (k3.cell (i:=0) rfl)),_,rfl,?_,?_⟩
    · rw[eO (fun x hx => by
        obtain⟨j,D⟩:= List.getElem?_of_mem hx
        exact m j x D (by omega))]
      exact gp _ _
    · have W:Below w.heap.size w (W'.setCell ⟨w.heap.size+1,0,none⟩ (.slice none 0 0)):=(q.trans (d.mono q.size)).setCell (show w.heap.size≤w.heap.size+1 by omega) _
      exact dB W E q.size W.size
  · rintro D' c i W' hD hK hiN ⟨rfl,v,h1,h2,I⟩
    gi_wp2;refine⟨by simp,.inl ⟨_,_,rfl,run_takeDeferred hK,?_⟩⟩;have E:=Rec.put (B:=z.heap.size) hK rfl hD (.deferred none);have k3:=nu h1 E;exact⟨_,dV rfl rfl (sA (k3.cell (i:=0) rfl)),_,rfl,OB.rcd h2 E,dB I E q.size I.size⟩
end
end Ky
end
section
namespace Ky
open Kv (nxt eO cn qh fi iH)
open Go.RowKit Go.Lib Pg
section
variable {b a l:List Int}
theorem fq{y:Int}:Lt [] (y :: b):=by simp[Lt,cA]
theorem not_lt_nil:¬ Lt a []:=by cases a<;>simp[Lt,cA]
theorem iX:∀ {x y s t:List Int},x.length=y.length->(Lt (x ++ s) (y ++ t)<->Lt x y\/(x=y/\Lt s t))
 | [],[],s,t,_=>by simp[lt_irrefl]
 | [],_ :: _,_,_,h=>by simp at h
 | _ :: _,[],_,_,h=>by simp at h
 | a :: x,b :: y,s,t,h=>by
  rw[List.cons_append,List.cons_append,cn,cn,iX (by simpa using h)];constructor
  ·rintro(h1 | ⟨h1,h2 | ⟨h2,h3⟩⟩)
   ·exact .inl (.inl h1)
   ·exact .inl (.inr ⟨h1,h2⟩)
   ·exact .inr ⟨by rw[h1,h2],h3⟩
  ·rintro((h1 | ⟨h1,h2⟩) | ⟨h1,h2⟩)
   ·exact .inl h1
   ·exact .inr ⟨h1,.inl h2⟩
   ·cases h1;exact .inr ⟨rfl,.inr ⟨rfl,h2⟩⟩
theorem lt_nxt(h:nxt l≠[]):Lt l (nxt l):=by
 rcases fi l with h1 | ⟨A,x,B,rfl,hx,hB⟩
 ·exact absurd (eO h1) h
 ·rw[iH hx hB,qh,cn];exact .inl (by omega)
theorem jJ:∀ (n:Nat) (a:Int),be (n+1) a=be n (a / 256) ++ [a % 256]
 | 0,a=>by simp[be]
 | n + 1,a=>by
  rw[be,jJ n a,be,List.cons_append];congr 2
  rw[Int.ediv_ediv_of_nonneg (by decide),Int.pow_succ,Int.mul_comm]
theorem zi(n:Nat):(256:Int) ^ (n+1)=256 ^ n * 256:=Int.pow_succ 256 n
theorem sG:∀ (n:Nat) {a b:Int},0<=a->a < 256 ^ n->0<=b->b < 256 ^ n->(Lt (be n a) (be n b)<->a < b)
 | 0,a,b,h1,h2,h3,h4=>by
  simp at h2 h4;constructor
  ·intro h;exact absurd h (lt_irrefl _)
  ·intro h;omega
 | n + 1,a,b,h1,h2,h3,h4=>by
  rw[zi] at h2 h4;have ih:=sG n (a:=a / 256) (b:=b / 256) (by omega) (by omega) (by omega) (by omega);rw[jJ,jJ,iX (by rw[aD,aD]),ih];constructor
  ·rintro(h | ⟨h,g⟩)
   ·omega
   ·have he:a / 256=b / 256:=by
     rcases Int.lt_trichotomy (a / 256) (b / 256) with c | c | c
     ·have:=ih.2 c;rw[h] at this;exact absurd this (lt_irrefl _)
     ·exact c
     ·have f:=sG n (a:=b / 256) (b:=a / 256) (by omega) (by omega) (by omega) (by omega);have:=f.2 c;rw[h] at this;exact absurd this (lt_irrefl _)
    have i:a % 256 < b % 256:=by
     rcases cn.1 g with d | ⟨_,d⟩
     ·exact d
     ·exact absurd d not_lt_nil
    omega
  ·intro h;by_cases he:a / 256 < b / 256
   ·exact .inl he
   ·have e:a / 256=b / 256:=by omega
    exact .inr ⟨by rw[e],cn.2 (.inl (by omega))⟩
theorem be_inj{n:Nat}{a b:Int}(g:0<=a)(d:a < 256 ^ n)(e:0<=b)(f:b < 256 ^ n)(h:be n a=be n b):a=b:=by
 rcases Int.lt_trichotomy a b with c | c | c
 ·have:=(sG n g d e f).2 c;rw[h] at this;exact absurd this (lt_irrefl _)
 ·exact c
 ·have:=(sG n e f g d).2 c;rw[h] at this;exact absurd this (lt_irrefl _)
theorem AX:∀ (n:Nat) {a:Int},0<=a->a < 256 ^ n->bv (be n a)=a
 | 0,a,h1,h2=>by simp at h2;simp[be,bv];omega
 | n + 1,a,h1,h2=>by
  rw[zi] at h2;rw[jJ,jG,AX n (by omega) (by omega)];omega
end
end Ky
end
section
namespace Ky
open Go.RowKit Go.Lib Pg
attribute [local go_sem] Oper.semAt_some lG
theorem Cm {k:Int} (h:k≠1/\k≠2/\k≠3/\k≠4/\k≠5/\k≠6/\k≠7/\k≠8/\k≠9/\k≠10/\k≠11/\k≠12/\k≠13/\k≠14/\k≠15/\k≠16/\k≠17):frm k=(0,0,0):=by
 by_cases a:0<=k/\k < 18
 ·have:k=0:=by omega
  subst this;rfl
 ·exact if_neg a
theorem j1 {w:World} {k:Int}:Calls Tryz.prog 88 #[.int .i64 k] w fun e w'=>e=.returned (.tuple #[.int .u8 (frm k).2.1,.int .i64 ((frm k).1 / 8),.int .u8 (frm k).2.2])/\w'=w:=by
 rcases(by omega:k=1\/k=2\/k=3\/k=4\/k=5\/k=6\/k=7\/k=8\/k=9\/k=10\/k=11\/k=12\/k=13\/k=14\/k=15\/k=16\/k=17\/(k≠1/\k≠2/\k≠3/\k≠4/\k≠5/\k≠6/\k≠7/\k≠8/\k≠9/\k≠10/\k≠11/\k≠12/\k≠13/\k≠14/\k≠15/\k≠16/\k≠17)) with rfl | rfl | rfl | rfl | rfl | rfl | rfl | rfl | rfl | rfl | rfl | rfl | rfl | rfl | rfl | rfl | rfl | h
 ·go_enter Tryz.func88,Tryz.ntmps88;go_wp2;go_ret3;exact⟨rfl,rfl⟩
 ·go_enter Tryz.func88,Tryz.ntmps88;go_wp2;go_ret3;exact⟨rfl,rfl⟩
 ·go_enter Tryz.func88,Tryz.ntmps88;go_wp2;go_ret3;exact⟨rfl,rfl⟩
 ·go_enter Tryz.func88,Tryz.ntmps88;go_wp2;go_ret3;exact⟨rfl,rfl⟩
 ·go_enter Tryz.func88,Tryz.ntmps88;go_wp2;go_ret3;exact⟨rfl,rfl⟩
 ·go_enter Tryz.func88,Tryz.ntmps88;go_wp2;go_ret3;exact⟨rfl,rfl⟩
 ·go_enter Tryz.func88,Tryz.ntmps88;go_wp2;go_ret3;exact⟨rfl,rfl⟩
 ·go_enter Tryz.func88,Tryz.ntmps88;go_wp2;go_ret3;exact⟨rfl,rfl⟩
 ·go_enter Tryz.func88,Tryz.ntmps88;go_wp2;go_ret3;exact⟨rfl,rfl⟩
 ·go_enter Tryz.func88,Tryz.ntmps88;go_wp2;go_ret3;exact⟨rfl,rfl⟩
 ·go_enter Tryz.func88,Tryz.ntmps88;go_wp2;go_ret3;exact⟨rfl,rfl⟩
 ·go_enter Tryz.func88,Tryz.ntmps88;go_wp2;go_ret3;exact⟨rfl,rfl⟩
 ·go_enter Tryz.func88,Tryz.ntmps88;go_wp2;go_ret3;exact⟨rfl,rfl⟩
 ·go_enter Tryz.func88,Tryz.ntmps88;go_wp2;go_ret3;exact⟨rfl,rfl⟩
 ·go_enter Tryz.func88,Tryz.ntmps88;go_wp2;go_ret3;exact⟨rfl,rfl⟩
 ·go_enter Tryz.func88,Tryz.ntmps88;go_wp2;go_ret3;exact⟨rfl,rfl⟩
 ·go_enter Tryz.func88,Tryz.ntmps88;go_wp2;go_ret3;exact⟨rfl,rfl⟩
 ·rw[Cm h];obtain⟨t,u,n,o,m,q,r,s,p,b,g,j,l,d,f,i,c⟩:=h;go_enter Tryz.func88,Tryz.ntmps88;go_wp2;go_ret3;exact⟨rfl,rfl⟩
end Ky
end
section
namespace Ky
open Kv (cT)
open Go.RowKit Go.Lib Pg
attribute [local go_sem] Oper.semAt_some lG
theorem vN (k:Int):∃ (n N:Nat) (m0 m1:Int),frm k=((n:Int),m0,m1)/\(n:Int) / 8=(N:Int)/\N<=2/\(n<=8<->N=0)/\(n<=16<->N<=1)/\(m0=0<->n=0)/\(0<=m0/\m0 < 256)/\(0<=m1/\m1 < 256)/\(N=0->m1=0)/\(k=10->N=2/\m1=0):=by
 by_cases h:0<=k/\k < 18
 ·obtain⟨j,rfl⟩:=Int.eq_ofNat_of_zero_le h.1
  have a:j < 18:=by omega
  match j,a with
  | 0,_=>exact⟨0,0,0,0,rfl,by decide,by decide,by decide,by decide,by decide,by decide,by decide,by decide,by decide⟩
  | 1,_=>exact⟨1,0,112,0,rfl,by decide,by decide,by decide,by decide,by decide,by decide,by decide,by decide,by decide⟩
  | 2,_=>exact⟨1,0,99,0,rfl,by decide,by decide,by decide,by decide,by decide,by decide,by decide,by decide,by decide⟩
  | 3,_=>exact⟨1,0,109,0,rfl,by decide,by decide,by decide,by decide,by decide,by decide,by decide,by decide,by decide⟩
  | 4,_=>exact⟨9,1,97,0,rfl,by decide,by decide,by decide,by decide,by decide,by decide,by decide,by decide,by decide⟩
  | 5,_=>exact⟨10,1,118,48,rfl,by decide,by decide,by decide,by decide,by decide,by decide,by decide,by decide,by decide⟩
  | 6,_=>exact⟨18,2,118,100,rfl,by decide,by decide,by decide,by decide,by decide,by decide,by decide,by decide,by decide⟩
  | 7,_=>exact⟨18,2,118,104,rfl,by decide,by decide,by decide,by decide,by decide,by decide,by decide,by decide,by decide⟩
  | 8,_=>exact⟨18,2,118,115,rfl,by decide,by decide,by decide,by decide,by decide,by decide,by decide,by decide,by decide⟩
  | 9,_=>exact⟨9,1,116,0,rfl,by decide,by decide,by decide,by decide,by decide,by decide,by decide,by decide,by decide⟩
  | 10,_=>exact⟨17,2,105,0,rfl,by decide,by decide,by decide,by decide,by decide,by decide,by decide,by decide,by decide⟩
  | 11,_=>exact⟨9,1,98,0,rfl,by decide,by decide,by decide,by decide,by decide,by decide,by decide,by decide,by decide⟩
  | 12,_=>exact⟨9,1,117,0,rfl,by decide,by decide,by decide,by decide,by decide,by decide,by decide,by decide,by decide⟩
  | 13,_=>exact⟨9,1,114,0,rfl,by decide,by decide,by decide,by decide,by decide,by decide,by decide,by decide,by decide⟩
  | 14,_=>exact⟨17,2,113,0,rfl,by decide,by decide,by decide,by decide,by decide,by decide,by decide,by decide,by decide⟩
  | 15,_=>exact⟨17,2,101,0,rfl,by decide,by decide,by decide,by decide,by decide,by decide,by decide,by decide,by decide⟩
  | 16,_=>exact⟨17,2,110,0,rfl,by decide,by decide,by decide,by decide,by decide,by decide,by decide,by decide,by decide⟩
  | 17,_=>exact⟨17,2,107,0,rfl,by decide,by decide,by decide,by decide,by decide,by decide,by decide,by decide,by decide⟩
  | j+18,h=>omega
 ·exact⟨0,0,0,0,if_neg h,by decide,by decide,by decide,by decide,by decide,by decide,by decide,by decide,fun b=>by omega⟩
theorem kJ {w:World} {k a b:Int} (s:0<=a) (t:a < 18446744073709551616) :
  Calls Tryz.prog 37 #[.agg #[.int .i64 k,.int .u64 a,.int .u64 b]] w fun e w'=>∃ v,e=.returned (.tuple #[v,.int .i64 (if mkE k a b then 70 else 0)])/\OB w' (w.heap.size <= ·) v (if mkE k a b then [] else mk k a b)/\Below w.heap.size w w':=by
 have u1:=fun w=>j1 (w:=w) (k:=k)
 obtain⟨n,N,m0,m1,hf,hN,p,Q,o,hm,hm0,hm1,K,l⟩:=vN k;rw[hf] at u1;simp only[hN] at u1
 have r:Hid (mkE k a b=(decide (n=0) || (decide (a≠0) && decide (n<=8)) || (decide (b≠0) && decide (n<=16)))):=by
  show _=_
  unfold mkE;rw[hf];simp only[show (((n:Int),m0,m1).1=0)=(n=0) by simp,show (((n:Int),m0,m1).1<=8)=(n<=8) by simp;omega,show (((n:Int),m0,m1).1<=16)=(n<=16) by simp;omega]
 have z:Hid (mk k a b=[m0] ++ (if 8 < n then be 8 (tn k a) else []) ++ (if m1=0 then [] else [m1]) ++ (if 16 < n then be 8 b else [])):=by
  show _=_
  unfold mk mkb;rw[hf];simp only[show (16 < ((n:Int),m0,m1).1)=(16 < n) by simp;omega,show (8 < ((n:Int),m0,m1).1)=(8 < n) by simp;omega]
 have I:=aQ hm0;have HM1:=aQ hm1;have qa:=aj w [.int .i64 k,.int .u64 a,.int .u64 b] 90;have ba:=af w (.cells #[.int .i64 k,.int .u64 a,.int .u64 b] 90);clear hf hN hm0 hm1;by_cases f:m0=0
 ·have n0:n=0:=hm.1 f
  have d:Hid (mkE k a b=true):=by show _=_;rw[r.out];simp;omega
  rw[d.out];subst f;have U:=aQ (And.intro s t);clear K l Q o hm p s t r z;go_enter Tryz.func37,Tryz.ntmps37;go_wp2_with first
   | (go_at_call 88;refine(u1 _).mono ?_;rintro e T ⟨rfl,rfl⟩)
  go_ret2;exact⟨_,rfl,gp _ _,ba⟩
 ·have n0:¬ n=0:=fun h=>f (hm.2 h)
  rcases(by omega:N=0\/N=1\/N=2) with rfl | rfl | rfl
  ·by_cases ha:a=0
   ·by_cases hb:b=0
    ·have c:m1=0:=K rfl
     have g:¬ k=10:=fun h=>by have:=(l h).1;omega
     have d:Hid (mkE k a b=false):=by show _=_;rw[r.out];simp;omega
     have j:Hid (mk k a b=[m0]):=by show _=_;rw[z.out];simp only[if_neg (show ¬ 8 < n by omega),if_neg (show ¬ 16 < n by omega),if_pos c,List.append_nil]
     rw[d.out]
     have W:¬ m0=0:=f;have U:=aQ (And.intro s t);subst c;subst ha;subst hb;clear K l Q o hm p s t r z;have y:=ja (w.alloc (.cells #[.int .i64 k,.int .u64 0,.int .u64 0] 90)) m0 I.out;have al:=af (w.alloc (.cells #[.int .i64 k,.int .u64 0,.int .u64 0] 90)) (.cells #[.int .u8 m0] 5)
     have L:(w.alloc (.cells #[.int .i64 k,.int .u64 0,.int .u64 0] 90)).heap.size=w.heap.size+1:=by simp
     rw[L] at y;have m:=qa.keep al
     have C:w.heap.size+1<=((w.alloc (.cells #[.int .i64 k,.int .u64 0,.int .u64 0] 90)).alloc (.cells #[.int .u8 m0] 5)).heap.size:=by simp
     have P:=m.cell (i:=0) rfl;have J:=m.cell (i:=1) rfl;have M:=m.cell (i:=2) rfl;go_enter Tryz.func37,Tryz.ntmps37;go_wp2_with first
      | (go_at_call 88;refine(u1 _).mono ?_;rintro e T ⟨rfl,rfl⟩)
     go_ret2;exact⟨_,rfl,by rw[j.out];have A:=y;exact A.mono (fun b _ h=>by omega),(ba.trans (al.mono ba.size))⟩
    ·have g:¬ k=10:=fun h=>by have:=(l h).1; omega
     have d:Hid (mkE k a b=true):=by show _=_;rw[r.out];simp;omega
     rw[d.out]
     have W:¬ m0=0:=f;have U:=aQ (And.intro s t);subst ha
     have hbq:(b != 0)=true:=by simp[hb]
     clear K l Q o hm p s t r z;go_enter Tryz.func37,Tryz.ntmps37;go_wp2_with first
      | (go_at_call 88;refine(u1 _).mono ?_;rintro e T ⟨rfl,rfl⟩)
     go_ret2;exact⟨_,rfl,gp _ _,ba⟩
   ·have g:¬ k=10:=fun h=>by have:=(l h).1; omega
    have d:Hid (mkE k a b=true):=by show _=_;rw[r.out];simp;omega
    rw[d.out]
    have W:¬ m0=0:=f;have U:=aQ (And.intro s t);clear K l Q o hm p s t r z;go_enter Tryz.func37,Tryz.ntmps37;go_wp2_with first
     | (go_at_call 88;refine(u1 _).mono ?_;rintro e T ⟨rfl,rfl⟩)
    go_ret2;exact⟨_,rfl,gp _ _,ba⟩
  ·have g:¬ k=10:=fun h=>by have:=(l h).1; omega
   by_cases hb:b=0
   ·by_cases c:m1=0
    ·have d:Hid (mkE k a b=false):=by show _=_; rw[r.out]; simp; omega
     have j:Hid (mk k a b=[m0] ++ be 8 (tn k a)):=by show _=_;rw[z.out];simp only[if_pos (show 8 < n by omega),if_neg (show ¬ 16 < n by omega),if_pos c,List.append_nil]
     have S:Hid (tn k a=a):=by show _=_;unfold tn;rw[if_neg g]
     rw[S.out] at j;rw[d.out]
     have W:¬ m0=0:=f;have U:=aQ (And.intro s t);subst c;subst hb;clear K l Q o hm p s t r z;have y:=ja (w.alloc (.cells #[.int .i64 k,.int .u64 a,.int .u64 0] 90)) m0 I.out;have al:=af (w.alloc (.cells #[.int .i64 k,.int .u64 a,.int .u64 0] 90)) (.cells #[.int .u8 m0] 5)
     have L:(w.alloc (.cells #[.int .i64 k,.int .u64 a,.int .u64 0] 90)).heap.size=w.heap.size+1:=by simp
     rw[L] at y;have m:=qa.keep al
     have C:w.heap.size+1<=((w.alloc (.cells #[.int .i64 k,.int .u64 a,.int .u64 0] 90)).alloc (.cells #[.int .u8 m0] 5)).heap.size:=by simp
     have P:=m.cell (i:=0) rfl;have J:=m.cell (i:=1) rfl;have M:=m.cell (i:=2) rfl
     have H:True:=trivial;go_enter Tryz.func37,Tryz.ntmps37;go_wp2_with first
      | (go_at_call 88;refine(u1 _).mono ?_;rintro e T ⟨rfl,rfl⟩)
      | (go_at_call 89;have gate:=H;clear gate H;go_must (refine(et (B:=w.heap.size+1) (n:=8) (x:=a) y C (by decide) (by simp)).mono ?_);rintro e V ⟨v5,rfl,F,u⟩;obtain⟨a5,c5,rfl⟩:=OB.sh F;have q:=m.eV u (Nat.lt_succ_self _);have E:=q.cell (i:=0) rfl;have G:=q.cell (i:=1) rfl;have D:=q.cell (i:=2) rfl;have R:w.heap.size+1<=V.heap.size:=Nat.le_trans C u.size)
     go_ret2;exact⟨_,rfl,by rw[j.out];have A:=F;simp only[List.length_append,List.length_cons,List.length_nil,aD] at A ⊢;exact A.mono (fun b _ h=>by omega),((ba.trans (al.mono ba.size)).trans (u.mono (Nat.le_succ _)))⟩
    ·have d:Hid (mkE k a b=false):=by show _=_; rw[r.out]; simp; omega
     have j:Hid (mk k a b=[m0] ++ be 8 (tn k a) ++ [m1]):=by show _=_;rw[z.out];simp only[if_pos (show 8 < n by omega),if_neg (show ¬ 16 < n by omega),if_neg c,List.append_nil]
     have S:Hid (tn k a=a):=by show _=_;unfold tn;rw[if_neg g]
     rw[S.out] at j;rw[d.out]
     have W:¬ m0=0:=f;have U:=aQ (And.intro s t);subst hb;clear K l Q o hm p s t r z;have y:=ja (w.alloc (.cells #[.int .i64 k,.int .u64 a,.int .u64 0] 90)) m0 I.out;have al:=af (w.alloc (.cells #[.int .i64 k,.int .u64 a,.int .u64 0] 90)) (.cells #[.int .u8 m0] 5)
     have L:(w.alloc (.cells #[.int .i64 k,.int .u64 a,.int .u64 0] 90)).heap.size=w.heap.size+1:=by simp
     rw[L] at y;have m:=qa.keep al
     have C:w.heap.size+1<=((w.alloc (.cells #[.int .i64 k,.int .u64 a,.int .u64 0] 90)).alloc (.cells #[.int .u8 m0] 5)).heap.size:=by simp
     have P:=m.cell (i:=0) rfl;have J:=m.cell (i:=1) rfl;have M:=m.cell (i:=2) rfl
     have H:True:=trivial;go_enter Tryz.func37,Tryz.ntmps37;go_wp2_with first
      | (go_at_call 88;refine(u1 _).mono ?_;rintro e T ⟨rfl,rfl⟩)
      | (go_at_call 89;have gate:=H;clear gate H;go_must (refine(et (B:=w.heap.size+1) (n:=8) (x:=a) y C (by decide) (by simp)).mono ?_);rintro e V ⟨v5,rfl,F,u⟩;obtain⟨a5,c5,rfl⟩:=OB.sh F;have q:=m.eV u (Nat.lt_succ_self _);have E:=q.cell (i:=0) rfl;have G:=q.cell (i:=1) rfl;have D:=q.cell (i:=2) rfl;have R:w.heap.size+1<=V.heap.size:=Nat.le_trans C u.size;obtain⟨v6,w6,O,O6,Y⟩:=cT (x:=m1) F R (by simp[aD]) HM1.out;obtain⟨a6,c6,rfl⟩:=OB.sh O6;have Z:=q.eV Y (Nat.lt_succ_self _);have c6_0:=Z.cell (i:=0) rfl;have c6_1:=Z.cell (i:=1) rfl;have c6_2:=Z.cell (i:=2) rfl;have s6:w.heap.size+1<=w6.heap.size:=Nat.le_trans R Y.size)
      | (at_builtin;refine Lib.wpList_append_run _ rfl _ _ _ _ rfl _ _ rfl rfl _ _ O ?_;clear O)
     go_ret2;exact⟨_,rfl,by rw[j.out];have A:=O6;simp only[List.length_append,List.length_cons,List.length_nil,aD] at A ⊢;exact A.mono (fun b _ h=>by omega),(((ba.trans (al.mono ba.size)).trans (u.mono (Nat.le_succ _))).trans (Y.mono (Nat.le_succ _)))⟩
   ·have d:Hid (mkE k a b=true):=by show _=_; rw[r.out]; simp; omega
    rw[d.out]
    have W:¬ m0=0:=f;have U:=aQ (And.intro s t)
    have hbq:(b != 0)=true:=by simp[hb]
    clear K l Q o hm p s t r z;go_enter Tryz.func37,Tryz.ntmps37;go_wp2_with first
     | (go_at_call 88;refine(u1 _).mono ?_;rintro e T ⟨rfl,rfl⟩)
    go_ret2;exact⟨_,rfl,gp _ _,ba⟩
  ·by_cases g:k=10
   ·have c:m1=0:=(l g).2
    have d:Hid (mkE k a b=false):=by show _=_;rw[r.out];simp;omega
    have j:Hid (mk k a b=[m0] ++ be 8 (tn k a) ++ be 8 b):=by show _=_;rw[z.out];simp only[if_pos (show 8 < n by omega),if_pos (show 16 < n by omega),if_pos c,List.append_nil]
    have S:Hid (tn k a=18446744073709551615 - a):=by show _=_;unfold tn;rw[if_pos g]
    rw[S.out] at j;rw[d.out]
    have W:¬ m0=0:=f;have U:=aQ (And.intro s t)
    have wk:IntKind.u64.wrap (18446744073709551615 - a)=18446744073709551615 - a:=by rw[IntKind.wrap_u64];omega
    subst g;subst c;clear K l Q o hm p s t r z;have y:=ja (w.alloc (.cells #[.int .i64 10,.int .u64 a,.int .u64 b] 90)) m0 I.out;have al:=af (w.alloc (.cells #[.int .i64 10,.int .u64 a,.int .u64 b] 90)) (.cells #[.int .u8 m0] 5)
    have L:(w.alloc (.cells #[.int .i64 10,.int .u64 a,.int .u64 b] 90)).heap.size=w.heap.size+1:=by simp
    rw[L] at y;have m:=qa.keep al
    have C:w.heap.size+1<=((w.alloc (.cells #[.int .i64 10,.int .u64 a,.int .u64 b] 90)).alloc (.cells #[.int .u8 m0] 5)).heap.size:=by simp
    have P:=m.cell (i:=0) rfl;have J:=m.cell (i:=1) rfl;have M:=m.cell (i:=2) rfl
    have H:True:=trivial;go_enter Tryz.func37,Tryz.ntmps37;go_wp2_with first
     | (go_at_call 88;refine(u1 _).mono ?_;rintro e T ⟨rfl,rfl⟩)
     | (go_at_call 89;have gate:=H;clear gate H;go_must (refine(et (B:=w.heap.size+1) (n:=8) (x:=18446744073709551615 - a) y C (by decide) (by simp)).mono ?_);rintro e V ⟨v5,rfl,F,u⟩;obtain⟨a5,c5,rfl⟩:=OB.sh F;have q:=m.eV u (Nat.lt_succ_self _);have E:=q.cell (i:=0) rfl;have G:=q.cell (i:=1) rfl;have D:=q.cell (i:=2) rfl;have R:w.heap.size+1<=V.heap.size:=Nat.le_trans C u.size)
     | (go_at_call 89;refine(et (B:=w.heap.size+1) (n:=8) (x:=b) F R (by decide) (by simp[aD])).mono ?_;rintro e w7 ⟨v7,rfl,X,b7⟩;obtain⟨a7,c7,rfl⟩:=OB.sh X)
    go_ret2;exact⟨_,rfl,by rw[j.out];have A:=X;simp only[List.length_append,List.length_cons,List.length_nil,aD] at A ⊢;exact A.mono (fun b _ h=>by omega),(((ba.trans (al.mono ba.size)).trans (u.mono (Nat.le_succ _))).trans (b7.mono (Nat.le_succ _)))⟩
   ·by_cases c:m1=0
    ·have d:Hid (mkE k a b=false):=by show _=_; rw[r.out]; simp; omega
     have j:Hid (mk k a b=[m0] ++ be 8 (tn k a) ++ be 8 b):=by show _=_;rw[z.out];simp only[if_pos (show 8 < n by omega),if_pos (show 16 < n by omega),if_pos c,List.append_nil]
     have S:Hid (tn k a=a):=by show _=_;unfold tn;rw[if_neg g]
     rw[S.out] at j;rw[d.out]
     have W:¬ m0=0:=f;have U:=aQ (And.intro s t);subst c;clear K l Q o hm p s t r z;have y:=ja (w.alloc (.cells #[.int .i64 k,.int .u64 a,.int .u64 b] 90)) m0 I.out;have al:=af (w.alloc (.cells #[.int .i64 k,.int .u64 a,.int .u64 b] 90)) (.cells #[.int .u8 m0] 5)
     have L:(w.alloc (.cells #[.int .i64 k,.int .u64 a,.int .u64 b] 90)).heap.size=w.heap.size+1:=by simp
     rw[L] at y;have m:=qa.keep al
     have C:w.heap.size+1<=((w.alloc (.cells #[.int .i64 k,.int .u64 a,.int .u64 b] 90)).alloc (.cells #[.int .u8 m0] 5)).heap.size:=by simp
     have P:=m.cell (i:=0) rfl;have J:=m.cell (i:=1) rfl;have M:=m.cell (i:=2) rfl
     have H:True:=trivial;go_enter Tryz.func37,Tryz.ntmps37;go_wp2_with first
      | (go_at_call 88;refine(u1 _).mono ?_;rintro e T ⟨rfl,rfl⟩)
      | (go_at_call 89;have gate:=H;clear gate H;go_must (refine(et (B:=w.heap.size+1) (n:=8) (x:=a) y C (by decide) (by simp)).mono ?_);rintro e V ⟨v5,rfl,F,u⟩;obtain⟨a5,c5,rfl⟩:=OB.sh F;have q:=m.eV u (Nat.lt_succ_self _);have E:=q.cell (i:=0) rfl;have G:=q.cell (i:=1) rfl;have D:=q.cell (i:=2) rfl;have R:w.heap.size+1<=V.heap.size:=Nat.le_trans C u.size)
      | (go_at_call 89;refine(et (B:=w.heap.size+1) (n:=8) (x:=b) F R (by decide) (by simp[aD])).mono ?_;rintro e w7 ⟨v7,rfl,X,b7⟩;obtain⟨a7,c7,rfl⟩:=OB.sh X)
     go_ret2;exact⟨_,rfl,by rw[j.out];have A:=X;simp only[List.length_append,List.length_cons,List.length_nil,aD] at A ⊢;exact A.mono (fun b _ h=>by omega),(((ba.trans (al.mono ba.size)).trans (u.mono (Nat.le_succ _))).trans (b7.mono (Nat.le_succ _)))⟩
    ·have d:Hid (mkE k a b=false):=by show _=_; rw[r.out]; simp; omega
     have j:Hid (mk k a b=[m0] ++ be 8 (tn k a) ++ [m1] ++ be 8 b):=by show _=_;rw[z.out];simp only[if_pos (show 8 < n by omega),if_pos (show 16 < n by omega),if_neg c]
     have S:Hid (tn k a=a):=by show _=_;unfold tn;rw[if_neg g]
     rw[S.out] at j;rw[d.out]
     have W:¬ m0=0:=f;have U:=aQ (And.intro s t);clear K l Q o hm p s t r z;have y:=ja (w.alloc (.cells #[.int .i64 k,.int .u64 a,.int .u64 b] 90)) m0 I.out;have al:=af (w.alloc (.cells #[.int .i64 k,.int .u64 a,.int .u64 b] 90)) (.cells #[.int .u8 m0] 5)
     have L:(w.alloc (.cells #[.int .i64 k,.int .u64 a,.int .u64 b] 90)).heap.size=w.heap.size+1:=by simp
     rw[L] at y;have m:=qa.keep al
     have C:w.heap.size+1<=((w.alloc (.cells #[.int .i64 k,.int .u64 a,.int .u64 b] 90)).alloc (.cells #[.int .u8 m0] 5)).heap.size:=by simp
     have P:=m.cell (i:=0) rfl;have J:=m.cell (i:=1) rfl;have M:=m.cell (i:=2) rfl
     have H:True:=trivial;go_enter Tryz.func37,Tryz.ntmps37;go_wp2_with first
      | (go_at_call 88;refine(u1 _).mono ?_;rintro e T ⟨rfl,rfl⟩)
      | (go_at_call 89;have gate:=H;clear gate H;go_must (refine(et (B:=w.heap.size+1) (n:=8) (x:=a) y C (by decide) (by simp)).mono ?_);rintro e V ⟨v5,rfl,F,u⟩;obtain⟨a5,c5,rfl⟩:=OB.sh F;have q:=m.eV u (Nat.lt_succ_self _);have E:=q.cell (i:=0) rfl;have G:=q.cell (i:=1) rfl;have D:=q.cell (i:=2) rfl;have R:w.heap.size+1<=V.heap.size:=Nat.le_trans C u.size;obtain⟨v6,w6,O,O6,Y⟩:=cT (x:=m1) F R (by simp[aD]) HM1.out;obtain⟨a6,c6,rfl⟩:=OB.sh O6;have Z:=q.eV Y (Nat.lt_succ_self _);have c6_0:=Z.cell (i:=0) rfl;have c6_1:=Z.cell (i:=1) rfl;have c6_2:=Z.cell (i:=2) rfl;have s6:w.heap.size+1<=w6.heap.size:=Nat.le_trans R Y.size)
      | (at_builtin;refine Lib.wpList_append_run _ rfl _ _ _ _ rfl _ _ rfl rfl _ _ O ?_;clear O)
      | (go_at_call 89;refine(et (B:=w.heap.size+1) (n:=8) (x:=b) O6 s6 (by decide) (by simp[aD])).mono ?_;rintro e w7 ⟨v7,rfl,X,b7⟩;obtain⟨a7,c7,rfl⟩:=OB.sh X)
     go_ret2;exact⟨_,rfl,by rw[j.out];have A:=X;simp only[List.length_append,List.length_cons,List.length_nil,aD] at A ⊢;exact A.mono (fun b _ h=>by omega),((((ba.trans (al.mono ba.size)).trans (u.mono (Nat.le_succ _))).trans (Y.mono (Nat.le_succ _))).trans (b7.mono (Nat.le_succ _)))⟩
end Ky
end
section
namespace Ky
open Go.RowKit Go.Lib Pg
attribute [local go_sem] Oper.semAt_some lG
end Ky
end
end Go.Proofs.YtidnifmehnjipaaGreat
