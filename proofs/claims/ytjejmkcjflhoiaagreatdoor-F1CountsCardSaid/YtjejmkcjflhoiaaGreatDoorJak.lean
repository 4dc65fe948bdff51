import Derived.Test.YtjejmkcjflhoiaaGreatDoorJai
import Derived.Test.YtjejmkcjflhoiaaGreatDoorJaj
import Derived.Shelf.Abstract
import Derived.Shelf.RegionOpen
import Derived.OwnWalkIn
import Derived.TacticsInMore
import Derived.LoopNIn
import Derived.LoopIn
set_option maxRecDepth 100000
set_option maxHeartbeats 8000000
namespace Go.Proofs.YtjejmkcjflhoiaaGreatDoor
section
namespace Ky
open Kv (nxt)
open Go.RowKit Go.Lib Pg
attribute [local go_sem] Oper.semAt_some
def iT:=@Kv.iT
def kB:=@Kv.kB
end Ky
end
section
namespace Ky
open Kv (nxt)
open Go.RowKit Go.Lib Pg
attribute [local go_sem] Oper.semAt_some
def qt:=@Kv.qt
def qI:=@Kv.qI
def gl:=@Kv.gl
def qh:=@Kv.qh
def dD:=@Kv.dD
def lF:=@Kv.lF
def OB.rcd:=@Kv.OB.rcd
def By.take:=@Kv.By.take
def oV:=@Pg.BR
def jO:=@Kv.jO
def me:=@Kv.me
theorem mM {w:World} {ao:Option Addr} {n c:Nat} {l:List Int} (h:By w (.slice ao n c) l) (U:n≤1000000000) :
    Calls Tryz.prog 74 #[.slice ao n c] w fun e w'=>∃ v,e=.returned v∧OB w' (w.heap.size≤·) v (nxt l)∧Below w.heap.size w w':=by
  obtain⟨hl,hnc,hcm⟩:= By.lens h;have c1:=aD w [.slice ao n c] 87;have b1:=ae w (.cells #[.slice ao n c] 87)
  have s1:(w.alloc (.cells #[.slice ao n c] 87)).heap.size=w.heap.size+1:=by simp
  have c2:=aD (w.alloc (.cells #[.slice ao n c] 87)) [.slice none 0 0] 87;have b2:=ae (w.alloc (.cells #[.slice ao n c] 87)) (.cells #[.slice none 0 0] 87)
  have s2:((w.alloc (.cells #[.slice ao n c] 87)).alloc (.cells #[.slice none 0 0] 87)).heap.size=w.heap.size+2:=by simp
  rw[s1] at c2
  have S:=c1.keep b2;have P:=aA b1 b2;obtain⟨Wa,K⟩:∃ Wa,Hid ((w.alloc (.cells #[.slice ao n c] 87)).alloc (.cells #[.slice none 0 0] 87)=Wa):=⟨_,rfl⟩;rw[K.out] at S c2 s2 P;have HB:=ba h;clear h c1 b1 b2 s1;refine(callsIn_wide (n:=0)).1 ?_
  refine callsIn_of_wp_marks Tryz.func74 rfl trivial ?_ rfl;simp only[Tryz.ntmps74,List.size_toArray,List.length_cons,List.length_nil,Nat.reduceAdd,Nat.reduceSub,Array.replicate_succ,Array.replicate_zero,List.push_toArray,List.append_toArray,List.nil_append,List.cons_append];gi_wp2_with (refine⟨trivial,rfl,?_⟩;gi_at_call 122;rw[K.out];refine(callsIn_wide.2 kB).mono ?_;rintro e' u ⟨rfl,N,s⟩);rw[s2] at N;have k1:=S.keep s;have k2:=c2.keep s;have q:=aA P s;have hs2:=s.size;have IT:=iT (Tp:=fun _=>False) (bs:=w.heap.size+2) (c:=c) (ao:=ao) (Q:=l) (n:=n) (Rd:=fun V=>Below u.heap.size u V) hl U (fun V hv=>⟨(N.keep hv).cell (i:=0) rfl,fun j p E=>By.at ((HB.out.keep q).keep hv) E⟩);refine iF IT (by rfl) (enters_of Tryz.func171 (by kernel_rfl) rfl) (fun i args n V V' h _=>h) (fun i args n V h=>by obtain⟨p,j,_,_,rfl⟩:= h;rfl)
    (fun i V=>Below u.heap.size u V∧∀ j x,l[j]?=some x→n≤j+i→x=255)
    (fun c i V=>c=.ret∧∃ v,Blk V (w.heap.size+1) [v] 87∧OB V (w.heap.size≤·) v (nxt l)∧Below w.heap.size w V)
    (fun i A B hx H=>⟨dD hx.1 H (Nat.le_refl _) hx.1.size,hx.2⟩)
    (fun c i A B hx H=>⟨hx.1,by obtain⟨v,h1,h2,J⟩:= hx.2;exact⟨v,H.blk h1,OB.rcd h2 H,dD J H q.size J.size⟩⟩)
    (fun i V hv=>hv.1) ⟨Below.refl _ _,fun j x E hn=>by have:=(List.getElem?_eq_some_iff.1 E).1;omega⟩ ?_ ?_ ?_
  · rintro l2 i args V Wv hl2 hlV hrec hiN ⟨hBV,m⟩ hb ⟨p,j,E,hp,rfl⟩
    simp;gi_wp2;refine⟨Below.refl _ _,?_⟩;intro V2 W2 z f hb2 M X hsz3 hV2 r hrec2;have d:=z.trans (hb2.mono z.size);have kb:=(k1.keep d).cell (i:=0) rfl;have G:=k2.keep d
    have hpo:0≤p∧p < 256:=HB.out.oct p (List.mem_of_getElem? hp);clear m hb hBV X M;by_cases L:p=255
    · subst L
      gi_wp2;refine⟨bG.of (Below.refl _ _),d,fun j2 x hx hn=>?_⟩;by_cases e:j2=j
      · subst e;rw[hp] at hx;cases hx;rfl
      · exact f j2 x hx (by omega)
    · have hp6 : p < 255 := by omega
      have BY:=By.take ((HB.out.keep q).keep d) j (by omega)
      have O:(l.take j).length=j:=by rw[List.length_take];omega
      have hjn:(j:Int)≤c:=by omega
      have w9:IntKind.u8.wrap (p+1)=p+1:=by rw[IntKind.wrap_u8];omega
      have R:=ba G;have HW:=ba d
      have HNX:Hid (nxt l=l.take j ++ [p+1]):=qh hp L (fun i2 y hy hi=>f i2 y hy (by omega));clear G d f
      gi_wp2_with (first
        | (have gate:=t;clear gate;refine me (fun _=>trivial) rfl rfl t ?_;clear t)
        | (refine⟨trivial,rfl,?_⟩;gi_at_call 69;refine(CallsIn.inRound l2 (callsIn_wide.2 (cQ BY (by omega)))).mono ?_;rintro e' w5 ⟨v5,rfl,O5,b5⟩;obtain⟨v6,F,t,O6,b6⟩:= eF (B:=W2.heap.size) (x:=p+1) O5 b5.size (by omega) (by omega);have C:=(R.out.keep b5).lQ b6 (R.out.lt);have kc:=C.cell (i:=0) rfl;have kfr:=C.free 0;obtain⟨a5,c5,rfl⟩:= OB.sh O5;obtain⟨a6,c6,rfl⟩:= OB.sh O6;rw[O] at t ⊢))
      have hlt:w.heap.size+1 < u.heap.size:=k2.lt;have hsW:=HW.out.size;have I:=b5.trans b6
      have O7:OB F (W2.heap.size≤·) (.slice a6 (j+1) c6) (l.take j ++ [p+1]):=by
        have T:=O6;rw[show (l.take j ++ [p+1]).length=j+1 by rw[List.length_append,O];rfl] at T;exact T
      have O8:OB (F.setCell ⟨w.heap.size+1,0,none⟩ (.slice a6 (j+1) c6)) (W2.heap.size≤·) (.slice a6 (j+1) c6) (l.take j ++ [p+1]):=O7.same (fun b _ hb=>Below.heap_setCell F _ _ b (by show b≠w.heap.size+1;omega))
      have B6:Below w.heap.size w F:=(q.trans (HW.out.mono q.size)).trans (I.mono (Nat.le_trans q.size hsW));refine⟨(bG.of I).trans ⟨?_,fun k o hk h0 _=>(Below.heap_setCell F _ _ k (by show k≠w.heap.size+1;omega)).trans h0⟩,rfl,_,C.setCell (i:=0) _,?_,B6.setCell (show w.heap.size≤w.heap.size+1 by omega) _⟩
      · exact((Chg.refl (fun x=>x=w.heap.size+1) F).cell (g:=w.heap.size+1) (i:=0) (.inl rfl) _).size
      · rw[HNX.out]
        exact O8.mono (fun b _ hb=>by have:=q.size;omega)
  · rintro Y Z hD hK ⟨d,m⟩
    have G:=k2.keep d;have kc:=G.cell (i:=0) rfl;have kf:=G.free 0
    have hlt:w.heap.size+1 < u.heap.size:=k2.lt
    have W:(Z.setCell ⟨w.heap.size+1,0,none⟩ (.slice none 0 0)).heap[Y]?=some (.deferred (some [])):=(Below.heap_setCell Z _ _ Y (by show Y≠w.heap.size+1;omega)).trans hK;gi_wp2;refine⟨by simp,.inl ⟨_,_,rfl,run_takeDeferred W,?_⟩⟩;have D:=Rec.put (B:=u.heap.size) W rfl hD (.deferred none);have k3:=lF (G.setCell (i:=0) (.slice none 0 0)) D;refine⟨_,eI rfl rfl (oV (k3.cell (i:=0) rfl)),_,rfl,?_,?_⟩
    · rw[gl (fun x hx => by
        obtain⟨j,E⟩:= List.getElem?_of_mem hx
        exact m j x E (by omega))]
      exact nU _ _
    · have T:Below w.heap.size w (Z.setCell ⟨w.heap.size+1,0,none⟩ (.slice none 0 0)):=(q.trans (d.mono q.size)).setCell (show w.heap.size≤w.heap.size+1 by omega) _
      exact dD T D q.size T.size
  · rintro Y c i Z hD hK hiN ⟨rfl,v,h1,h2,J⟩
    gi_wp2;refine⟨by simp,.inl ⟨_,_,rfl,run_takeDeferred hK,?_⟩⟩;have D:=Rec.put (B:=u.heap.size) hK rfl hD (.deferred none);have k3:=lF h1 D;exact⟨_,eI rfl rfl (oV (k3.cell (i:=0) rfl)),_,rfl,OB.rcd h2 D,dD J D q.size J.size⟩
end Ky
end
section
namespace Ky
open Kv (nxt)
open Go.RowKit Go.Lib Pg
attribute [local go_sem] Oper.semAt_some
end Ky
end
section
namespace Ky
open Kv (nxt)
open Go.RowKit Go.Lib Pg
section
variable {b a l:List Int}
def cM:=@Kv.cM
theorem gi{y:Int}:Lt [] (y :: b):=by simp[Lt,dm]
theorem not_lt_nil:¬ Lt a []:=by cases a<;>simp[Lt,dm]
def fU:=@Kv.fU
theorem fV:∀ {x y s t:List Int},x.length=y.length->(Lt (x ++ s) (y ++ t)<->Lt x y\/(x=y/\Lt s t))
 | [],[],s,t,_=>by simp[lt_irrefl]
 | [],_ :: _,_,_,h=>by simp at h
 | _ :: _,[],_,_,h=>by simp at h
 | a :: x,b :: y,s,t,h=>by
  rw[List.cons_append,List.cons_append,cM,cM,fV (by simpa using h)];constructor
  ·rintro(h1 | ⟨h1,h2 | ⟨h2,h3⟩⟩)
   ·exact .inl (.inl h1)
   ·exact .inl (.inr ⟨h1,h2⟩)
   ·exact .inr ⟨by rw[h1,h2],h3⟩
  ·rintro((h1 | ⟨h1,h2⟩) | ⟨h1,h2⟩)
   ·exact .inl h1
   ·exact .inr ⟨h1,.inl h2⟩
   ·cases h1;exact .inr ⟨rfl,.inr ⟨rfl,h2⟩⟩
def gj:=@Kv.gj
def ju:=@Kv.ju
def l9:=@Kv.l9
theorem zh(h:nxt l≠[]):Lt l (nxt l):=by
 rcases gj l with h1 | ⟨A,x,B,rfl,hx,hB⟩
 ·exact absurd (gl h1) h
 ·rw[ju hx hB,fU,cM];exact .inl (by omega)
def gT:=@Kv.gT
def mG:=@Kv.mG
def iJ:=@Kv.iJ
def gV:=@Kv.gV
theorem l8:∀ (n:Nat) (a:Int),be (n+1) a=be n (a / 256) ++ [a % 256]
 | 0,a=>by simp[be]
 | n + 1,a=>by
  rw[be,l8 n a,be,List.cons_append];congr 2
  rw[Int.ediv_ediv_of_nonneg (by decide),Int.pow_succ,Int.mul_comm]
theorem Bj(n:Nat):(256:Int) ^ (n+1)=256 ^ n * 256:=Int.pow_succ 256 n
theorem rO:∀ (n:Nat) {a b:Int},0<=a->a < 256 ^ n->0<=b->b < 256 ^ n->(Lt (be n a) (be n b)<->a < b)
 | 0,a,b,h1,h2,h3,h4=>by
  simp at h2 h4;constructor
  ·intro h;exact absurd h (lt_irrefl _)
  ·intro h;omega
 | n + 1,a,b,h1,h2,h3,h4=>by
  rw[Bj] at h2 h4;have ih:=rO n (a:=a / 256) (b:=b / 256) (by omega) (by omega) (by omega) (by omega);rw[l8,l8,fV (by rw[aP,aP]),ih];constructor
  ·rintro(h | ⟨h,f⟩)
   ·omega
   ·have he:a / 256=b / 256:=by
     rcases Int.lt_trichotomy (a / 256) (b / 256) with c | c | c
     ·have:=ih.2 c;rw[h] at this;exact absurd this (lt_irrefl _)
     ·exact c
     ·have d:=rO n (a:=b / 256) (b:=a / 256) (by omega) (by omega) (by omega) (by omega);have:=d.2 c;rw[h] at this;exact absurd this (lt_irrefl _)
    have g:a % 256 < b % 256:=by
     rcases cM.1 f with h7 | ⟨_,h7⟩
     ·exact h7
     ·exact absurd h7 not_lt_nil
    omega
  ·intro h;by_cases he:a / 256 < b / 256
   ·exact .inl he
   ·have e:a / 256=b / 256:=by omega
    exact .inr ⟨by rw[e],cM.2 (.inl (by omega))⟩
theorem be_inj{n:Nat}{a b:Int}(f:0<=a)(d:a < 256 ^ n)(e:0<=b)(g:b < 256 ^ n)(h:be n a=be n b):a=b:=by
 rcases Int.lt_trichotomy a b with c | c | c
 ·have:=(rO n f d e g).2 c;rw[h] at this;exact absurd this (lt_irrefl _)
 ·exact c
 ·have:=(rO n e g f d).2 c;rw[h] at this;exact absurd this (lt_irrefl _)
theorem Ah:∀ (n:Nat) {a:Int},0<=a->a < 256 ^ n->bv (be n a)=a
 | 0,a,h1,h2=>by simp at h2;simp[be,bv];omega
 | n + 1,a,h1,h2=>by
  rw[Bj] at h2;rw[l8,qk,Ah n (by omega) (by omega)];omega
end
end Ky
end
section
namespace Ky
open Kv (nxt)
open Go.RowKit Go.Lib Pg
attribute [local go_sem] Oper.semAt_some qv
end Ky
end
section
namespace Ky
open Kv (nxt)
open Go.RowKit Go.Lib Pg
attribute [local go_sem] Oper.semAt_some qv
end Ky
end
section
namespace Ky
open Kv (nxt)
open Go.RowKit Go.Lib Pg
attribute [local go_sem] Oper.semAt_some qv
instance (l:List Int):Decidable (Oct l):=inferInstanceAs (Decidable (∀ x∈l,0<=x/\x < 256))
end Ky
end
section
namespace Ky
open Kv (nxt)
open Go.RowKit Go.Lib Pg
attribute [local go_sem] Oper.semAt_some qv
end Ky
end
end Go.Proofs.YtjejmkcjflhoiaaGreatDoor
