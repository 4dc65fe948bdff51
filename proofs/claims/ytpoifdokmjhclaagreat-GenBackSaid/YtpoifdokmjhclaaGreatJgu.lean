import Derived.Test.YtpoifdokmjhclaaGreatJgi
import Derived.Handy
set_option maxRecDepth 100000
set_option maxHeartbeats 8000000
namespace Go.Proofs.YtpoifdokmjhclaaGreat
section
namespace Fo
open Go.RowKit Lim
section
variable {w:World}{v:Value}{r:List Int}{x y:Int}{ao ao':Option Addr}{n c n' c':Nat}
structure sk(w:World)(B T:Nat)(ao:Option Addr)(n c:Nat)(x:Int):Prop where
 ex:∃ b o l,l.length=n/\n<=c/\IsN l x/\At w ao b o l/\dF w b o n/\(l=[]\/(B<=b/\b < T))
theorem mJ(w:World)(B T:Nat):sk w B T none 0 0 0:=⟨0,0,[],rfl,Nat.le_refl _,jB,⟨.inl rfl,fun i hi=>by simp at hi⟩,fun i hi=>by omega,.inl rfl⟩
theorem ku{w':World}(h:dD w w' v r)(f:IsN r x):∃ a c,v=.slice a r.length c/\sk w' w.heap.size w'.heap.size a r.length c x:=by
 obtain⟨i,b,o,c,e,k,g,d,j⟩:=h.is;refine⟨i,c,e,b,o,r,rfl,k,f,d,j,?_⟩;rcases d.lt with e | e
 ·exact .inl e
 ·exact .inr ⟨g,e⟩
def rQ(x y:Int):Int:=if y<=x then x - y else 0
def qp(x y:Int):Int:=if y<=x then 0 else 10
theorem fAdd(h:aT w ao n c x)(t:aT w ao' n' c' y)(hn:n<=1099511627776)(g:n'<=1099511627776) :
  Calls Tryz.prog 229 #[.slice ao n c,.slice ao' n' c'] w fun e w'=>∃ a k d,e=.returned (.slice a k d)/\sk w' w.heap.size w'.heap.size a k d (x+y)/\k<=n+n' + 1/\Below w.heap.size w w':=by
 obtain⟨b,o,l,z,q,C,u,rfl⟩:=h.ex;obtain⟨s,D,E,m,i,p,f,rfl⟩:=t.ex;refine(Ef ao n c b o ao' n' c' s D l E w z m q i hn g C p u f).mono ?_
 rintro e w' ⟨v,r,rfl,j,B,hlen,F⟩;obtain⟨a,d,rfl,A⟩:=ku j B;exact⟨a,_,d,rfl,A,hlen,F⟩
theorem fMul(h:aT w ao n c x)(t:aT w ao' n' c' y)(hn:n<=1099511627776)(g:n'<=1099511627776) :
  Calls Tryz.prog 267 #[.slice ao n c,.slice ao' n' c'] w fun e w'=>∃ a k d,e=.returned (.slice a k d)/\sk w' w.heap.size w'.heap.size a k d (x * y)/\k<=n+n'/\Below w.heap.size w w':=by
 obtain⟨b,o,l,z,q,C,u,rfl⟩:=h.ex;obtain⟨s,D,E,m,i,p,f,rfl⟩:=t.ex;refine(pz ao n c b o ao' n' c' s D l E w z m q i hn g C p u f).mono ?_
 rintro e w' ⟨v,r,rfl,j,B,hlen,F⟩;obtain⟨a,d,rfl,A⟩:=ku j B;exact⟨a,_,d,rfl,A,hlen,F⟩
theorem fSub(h:aT w ao n c x)(E:aT w ao' n' c' y)(hn:n<=1099511627776)(i:n'<=1099511627776) :
  Calls Tryz.prog 361 #[.slice ao n c,.slice ao' n' c'] w fun e w'=>∃ a k d,e=.returned (.tuple #[.slice a k d,.int .i64 (qp x y)])/\sk w' w.heap.size w'.heap.size a k d (rQ x y)/\k<=n/\Below w.heap.size w w':=by
 obtain⟨b,o,l,B,u,C,A,rfl⟩:=h.ex;obtain⟨z,D,s,m,j,p,g,rfl⟩:=E.ex;unfold qp rQ;by_cases f:val s<=val l
 ·rw[if_pos f,if_pos f];refine(sub_ge ao n c b o ao' n' c' z D l s w B m u j hn i C p A g f).mono ?_
  rintro e w' ⟨v,r,rfl,q,G,hlen,t⟩;obtain⟨a,d,rfl,F⟩:=ku q G;exact⟨a,_,d,rfl,F,hlen,t⟩
 ·rw[if_neg f,if_neg f];refine(sub_lt ao n c b o ao' n' c' z D l s w B m u j hn i C p A g (by omega)).mono ?_
  rintro e w' ⟨rfl,t⟩;exact⟨none,0,0,rfl,mJ _ _ _,Nat.zero_le _,t⟩
def C8(x y:Int):Int:=if y=0 then 0 else x % y
def nN(y:Int):Int:=if y=0 then 11 else 0
theorem De{ad:Option Addr}{g G:Nat}{z:Int}(h:aT w ao n c x)(L:aT w ao' n' c' y)(M:aT w ad g G z)(hn:n<=274877906944)(i:n'<=274877906944)(j:g<=274877906944) :
  Calls Tryz.prog 321 #[.slice ao n c,.slice ao' n' c',.slice ad g G] w fun e w'=>∃ a k d a' k' d',e=.returned (.tuple #[.slice a k d,.slice a' k' d',.int .i64 (nN z)])/\sk w' w.heap.size w'.heap.size a k d (x * y / z)/\sk w' w.heap.size w'.heap.size a' k' d' (C8 (x * y) z)/\k<=n+n'/\k'<=n+n' + g/\Below w.heap.size w w':=by
 by_cases f:z=0
 ·unfold C8 nN;rw[if_pos f,if_pos f]
  have N:x * y / z=0:=by rw[f,Int.ediv_zero]
  rw[N];refine(qX h L M hn i j f).mono ?_
  rintro e w' ⟨rfl,J⟩;exact⟨none,0,0,none,0,0,rfl,mJ _ _ _,mJ _ _ _,Nat.zero_le _,Nat.zero_le _,J⟩
 ·unfold C8 nN;rw[if_neg f,if_neg f];obtain⟨b,o,l,W,O,S,P,rfl⟩:=h.ex;obtain⟨V,Z,U,H,p,A,E,rfl⟩:=L.ex;obtain⟨X,T,ld,q,m,K,F,rfl⟩:=M.ex;refine(uK ao n c b o ao' n' c' V Z ad g G X T l U ld w W H q O p m hn i j S A K P E F f).mono ?_
  rintro e w' ⟨v,u,r,s,rfl,t,D,Y,R,B,C,J⟩;obtain⟨a,d,rfl,Q⟩:=ku t Y;obtain⟨a',d',rfl,I⟩:=ku D R;exact⟨a,_,d,a',_,d',rfl,Q,I,B,C,J⟩
end
end Fo
end
section
open Go.RowKit Lim
section
variable {w:World}{ao:Option Addr}
theorem dZero{n c:Nat}{x:Int}(h:aT w ao n c x)(hn:n<=1099511627776) :
  Calls Tryz.prog 181 #[.agg #[.slice ao n c]] w fun e w'=>e=.returned (.bool (decide (x=0)))/\Below w.heap.size w w':=by
 have b:=aa w (.cells #[.slice ao n c] 55);have h:=h.keep b;have t:=nBits h hn;have hm:=rh x h.nonneg;by_cases hx:x=0
 ·have hm:=hm.2 hx;rw[hm] at t;rw[decide_eq_true hx];clear hm hx h;go_enter Tryz.func181,Tryz.ntmps181;go_wp2_with fail;refine t.mono ?_
  rintro e f ⟨rfl,d⟩;go_wp2;go_ret;exact⟨rfl,ae b d⟩
 ·have hm:bitLen x.toNat≠0:=fun e=>hx (hm.1 e)
  rw[decide_eq_false hx];generalize bitLen x.toNat=m at *;obtain⟨k,rfl⟩:∃ k,m=k+1:=⟨m - 1,by omega⟩
  clear hm hx h;go_enter Tryz.func181,Tryz.ntmps181;go_wp2_with fail;refine t.mono ?_
  rintro e f ⟨rfl,d⟩;go_wp2;go_ret;refine⟨?_,ae b d⟩;congr 2
theorem dTenTo(n:Nat)(hn:n<=4096) :
  Calls Tryz.prog 320 #[.int .i64 n] w fun e w'=>∃ a k d,e=.returned (.slice a k d)/\iT w' a k d (10 ^ n)/\k<=n+2/\Below w.heap.size w w':=by
 go_enter Tryz.func320,Tryz.ntmps320;go_wp2_with fail;refine(nPow n hn).mono ?_
 rintro e f ⟨a,k,d,rfl,c,hk,b⟩;go_wp2;go_ret;exact⟨a,k,d,rfl,c,hk,b⟩
def U36:Int:=10 ^ 36
theorem dUnit:Calls Tryz.prog 268 #[] w fun e w'=>∃ a k d,e=.returned (.slice a k d)/\iT w' a k d U36/\k<=38/\Below w.heap.size w w':=by
 go_enter Tryz.func268,Tryz.ntmps268;go_wp2_with fail;refine(dTenTo 36 (by decide)).mono ?_
 rintro e f ⟨a,k,d,rfl,c,hk,b⟩;go_wp2;go_ret;exact⟨a,k,d,rfl,c,hk,b⟩
end
end
end Go.Proofs.YtpoifdokmjhclaaGreat
