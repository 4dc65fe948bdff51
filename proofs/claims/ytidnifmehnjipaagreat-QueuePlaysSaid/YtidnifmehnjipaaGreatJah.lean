import Derived.Test.YtidnifmehnjipaaGreatJag
set_option maxRecDepth 100000
set_option maxHeartbeats 8000000
namespace Go.Proofs.YtidnifmehnjipaaGreat
namespace Ky
open Go.RowKit Go.Lib Pg
attribute [local go_sem] Oper.semAt_some
section
variable {k a b m0 m1:Int}
theorem eight(l:List Int)(h:l.length=8):∃ a b c d e f g i,l=[a,b,c,d,e,f,g,i]:=by
 match l,h with
 | [a,b,c,d,e,f,g,i],_=>exact⟨a,b,c,d,e,f,g,i,rfl⟩
theorem mk_eq{n:Int}(hf:frm k=(n,m0,m1)):mk k a b=[m0] ++ (if 8 < n then be 8 (tn k a) else []) ++ (if m1=0 then [] else [m1]) ++ (if 16 < n then be 8 b else []):=by
 unfold mk mkb;rw[hf]
theorem Cl{n:Int}(hf:frm k=(n,m0,m1))(hn:n≠0):mkE k a b=false<->(n<=8->a=0)/\(n<=16->b=0):=by
 unfold mkE;rw[hf];simp[hn];constructor
 ·rintro⟨d,c⟩;constructor
  ·intro h;by_cases e:a=0
   ·exact e
   ·have:=d e;omega
  ·intro h;by_cases e:b=0
   ·exact e
   ·have:=c e;omega
 ·rintro⟨d,c⟩;constructor
  ·intro e;by_cases h:n<=8
   ·exact absurd (d h) e
   ·omega
  ·intro e;by_cases h:n<=16
   ·exact absurd (c h) e
   ·omega
theorem mb:∀ k:Nat,k < 18->0 < k->((frm k).1=1/\(frm k).2.2=0)\/((frm k).1=9/\(frm k).2.2=0)\/((frm k).1=10/\(frm k).2.2≠0)\/((frm k).1=17/\(frm k).2.2=0)\/((frm k).1=18/\(frm k).2.2≠0):=by decide +kernel
theorem Fe:tn k (tn k a)=a:=by
 unfold tn;split<;>omega
theorem rZ(h:0<=a/\a < 18446744073709551616):0<=tn k a/\tn k a < 256 ^ 8:=by
 rw[show (256:Int) ^ 8=18446744073709551616 by decide];unfold tn;split<;>omega
theorem bv8(h:0<=a/\a < 18446744073709551616):bv (be 8 a)=a:=AX 8 h.1 (by rw[show (256:Int) ^ 8=18446744073709551616 by decide];exact h.2)
theorem bv8t(h:0<=a/\a < 18446744073709551616):tn k (bv (be 8 (tn k a)))=a:=by
 rw[AX 8 (rZ h).1 (rZ h).2,Fe]
theorem jI{k:Nat}(d:k < 18)(c:0 < k)(g:0≤a∧a < 18446744073709551616)(hb:0≤b∧b < 18446744073709551616)(e:mkE k a b=false) :
    frm k=fIn (mk k a b)∧rdA k (mk k a b)=a∧rdB (mk k a b)=b:=by
  obtain⟨⟨n, m0, m1⟩, hf⟩ : ∃ f, frm k = f := ⟨_, rfl⟩;have hF := mb k d c;rw[hf] at hF;simp only at hF;have e1 := bv8t (k := k) g;have e2 := bv8 hb;obtain⟨h, w, s, l, j, u, x, m, hx⟩:= eight (be 8 (tn k a)) (aD _ _);obtain⟨v, o, z, p, t, q, r, i, hy⟩:= eight (be 8 b) (aD _ _);rw[hx] at e1;rw[hy] at e2;rcases hF with⟨rfl, rfl⟩ | ⟨rfl, rfl⟩ | ⟨rfl, h1⟩ | ⟨rfl, rfl⟩ | ⟨rfl, h1⟩ <;>
    (obtain⟨hA, y⟩:= (Cl hf (by decide)).1 e
     rw[mk_eq hf,hf,hx,hy]
     simp_all [fIn,rdA,rdB])
theorem mk_inj{k o:Nat}(i:k < 18)(n:0 < k)(j:o < 18)(r:0 < o){c d:Int}(s:0<=a/\a < 18446744073709551616)(hb:0<=b/\b < 18446744073709551616)(hc:0<=c/\c < 18446744073709551616)(m:0<=d/\d < 18446744073709551616)(p:mkE k a b=false)(f:mkE o c d=false)(h:mk k a b=mk o c d):k=o/\a=c/\b=d:=by
 obtain⟨f1,l,g⟩:=jI i n s hb p;obtain⟨f2,t,q⟩:=jI j r hc m f
 have e:k=o:=wO k i o j (by rw[f1,f2,h]);subst e;rw[h] at l g;exact⟨rfl,by rw[<- l,t],by rw[<- g,q]⟩
theorem be8_lt(ha:0<=a/\a < 256 ^ 8)(hb:0<=b/\b < 256 ^ 8):Lt (be 8 a) (be 8 b)<->a < b:=sG 8 ha.1 ha.2 hb.1 hb.2
theorem be8_eq(ha:0<=a/\a < 256 ^ 8)(hb:0<=b/\b < 256 ^ 8):be 8 a=be 8 b<->a=b:=⟨be_inj ha.1 ha.2 hb.1 hb.2,fun h=>by rw[h]⟩
theorem cL(k a b:Int):(mk k a b).length<=18:=by
 unfold mk;rw[List.length_append];have:=jV (frm k) (tn k a);split
 ·rw[aD];omega
 ·simp;omega
end
end Ky
end Go.Proofs.YtidnifmehnjipaaGreat
