/- Several texts, joined: KyX. -/
import Derived.Test.YtliajmpchofiiaaGreatJaf
set_option maxRecDepth 100000
set_option maxHeartbeats 8000000
namespace Go.Proofs.YtliajmpchofiiaaGreat
namespace Ky
open Go.RowKit Go.Lib Pg
section
variable {k a b m0 m1:Int}
attribute [local go_sem] Oper.semAt_some
theorem eight(l:List Int)(h:l.length=8):∃ a b c d e f g i,l=[a,b,c,d,e,f,g,i]:=by
 match l,h with
 | [a,b,c,d,e,f,g,i],_=>exact⟨a,b,c,d,e,f,g,i,rfl⟩
theorem mk_eq{n:Int}(hf:frm k=(n,m0,m1)):mk k a b=[m0] ++ (if 8 < n then be 8 (tn k a) else []) ++ (if m1=0 then [] else [m1]) ++ (if 16 < n then be 8 b else []):=by
 unfold mk mkb;rw[hf]
theorem mkE_eq{n:Int}(hf:frm k=(n,m0,m1))(hn:n≠0):mkE k a b=false<->(n<=8->a=0)/\(n<=16->b=0):=by
 unfold mkE;rw[hf];simp[hn];constructor
 ·rintro⟨h1,h2⟩;constructor
  ·intro h;by_cases e:a=0
   ·exact e
   ·have:=h1 e; omega
  ·intro h;by_cases e:b=0
   ·exact e
   ·have:=h2 e; omega
 ·rintro⟨h1,h2⟩;constructor
  ·intro e;by_cases h:n<=8
   ·exact absurd (h1 h) e
   ·omega
  ·intro e;by_cases h:n<=16
   ·exact absurd (h2 h) e
   ·omega
theorem we:∀ k:Nat,k < 18->0 < k->((frm k).1=1/\(frm k).2.2=0)\/((frm k).1=9/\(frm k).2.2=0)\/((frm k).1=10/\(frm k).2.2≠0)\/((frm k).1=17/\(frm k).2.2=0)\/((frm k).1=18/\(frm k).2.2≠0):=by decide +kernel
theorem tn_tn:tn k (tn k a)=a:=by
 unfold tn;split<;>omega
theorem pz(h:0<=a/\a < 18446744073709551616):0<=tn k a/\tn k a < 256 ^ 8:=by
 rw[show (256:Int) ^ 8=18446744073709551616 by decide];unfold tn;split<;>omega
theorem bv8(h:0<=a/\a < 18446744073709551616):bv (be 8 a)=a:=xI 8 h.1 (by rw[show (256:Int) ^ 8=18446744073709551616 by decide]; exact h.2)
theorem bv8t(h:0<=a/\a < 18446744073709551616):tn k (bv (be 8 (tn k a)))=a:=by
 rw[xI 8 (pz h).1 (pz h).2,tn_tn]
theorem kh{k:Nat}(hk : k < 18)(h0 : 0 < k)(ha : 0 ≤ a ∧ a < 18446744073709551616)(hb : 0 ≤ b ∧ b < 18446744073709551616)(hE : mkE k a b = false) :
    frm k = fIn (mk k a b) ∧ rdA k (mk k a b) = a ∧ rdB (mk k a b) = b := by
  obtain⟨⟨n, m0, m1⟩, hf⟩ : ∃ f, frm k = f := ⟨_, rfl⟩;have hF := we k hk h0;rw[hf] at hF;simp only at hF;have e1 := bv8t (k := k) ha;have e2 := bv8 hb;obtain⟨x0, x1, x2, x3, x4, x5, x6, x7, hx⟩:= eight (be 8 (tn k a)) (aJ _ _);obtain⟨y0, y1, y2, y3, y4, y5, y6, y7, hy⟩:= eight (be 8 b) (aJ _ _);rw[hx] at e1;rw[hy] at e2;rcases hF with⟨rfl, rfl⟩ | ⟨rfl, rfl⟩ | ⟨rfl, h1⟩ | ⟨rfl, rfl⟩ | ⟨rfl, h1⟩ <;>
    (obtain⟨hA, hB⟩:= (mkE_eq hf (by decide)).1 hE
     rw[mk_eq hf, hf, hx, hy];simp_all [fIn, rdA, rdB])
theorem mk_inj{k o:Nat}(hk:k < 18)(h0:0 < k)(ho:o < 18)(o0:0 < o){c d:Int}(ha:0<=a/\a < 18446744073709551616)(hb:0<=b/\b < 18446744073709551616)(hc:0<=c/\c < 18446744073709551616)(hd:0<=d/\d < 18446744073709551616)(hE:mkE k a b=false)(hE2:mkE o c d=false)(h:mk k a b=mk o c d):k=o/\a=c/\b=d:=by
 obtain⟨f1,a1,b1⟩:=kh hk h0 ha hb hE;obtain⟨f2,a2,b2⟩:=kh ho o0 hc hd hE2
 have e:k=o:=rQ k hk o ho (by rw[f1,f2,h]);subst e;rw[h] at a1 b1;exact⟨rfl,by rw[<- a1,a2],by rw[<- b1,b2]⟩
theorem be8_lt(ha:0<=a/\a < 256 ^ 8)(hb:0<=b/\b < 256 ^ 8):Lt (be 8 a) (be 8 b)<->a < b:=qd 8 ha.1 ha.2 hb.1 hb.2
theorem be8_eq(ha:0<=a/\a < 256 ^ 8)(hb:0<=b/\b < 256 ^ 8):be 8 a=be 8 b<->a=b:=⟨be_inj ha.1 ha.2 hb.1 hb.2,fun h=>by rw[h]⟩
theorem fY(k a b:Int):(mk k a b).length<=18:=by
 unfold mk;rw[List.length_append];have:=dS (frm k) (tn k a);split
 ·rw[aJ]; omega
 ·simp; omega
end
end Ky
end Go.Proofs.YtliajmpchofiiaaGreat
