import Derived.Test.YtjejmkcjflhoiaaGreatDoorJaa
import Derived.Handy
set_option maxRecDepth 100000
set_option maxHeartbeats 8000000
namespace Go.Proofs.YtjejmkcjflhoiaaGreatDoor
section
namespace Fo
open Go.RowKit Lim
section
variable {w:World}{v:Value}{r:List Int}{x y:Int}{ao ao':Option Addr}{n c n' c':Nat}
structure oE(w:World)(B T:Nat)(ao:Option Addr)(n c:Nat)(x:Int):Prop where
 ex:∃ b o l,l.length=n/\n<=c/\IsN l x/\At w ao b o l/\dJ w b o n/\(l=[]\/(B<=b/\b < T))
theorem im(w:World)(B T:Nat):oE w B T none 0 0 0:=⟨0,0,[],rfl,Nat.le_refl _,ky,⟨.inl rfl,fun i hi=>by simp at hi⟩,fun i hi=>by omega,.inl rfl⟩
theorem iu{w':World}(h:dM w w' v r)(i:IsN r x):∃ a c,v=.slice a r.length c/\oE w' w.heap.size w'.heap.size a r.length c x:=by
 obtain⟨f,b,o,c,e,j,g,d,k⟩:=h.is;refine⟨f,c,e,b,o,r,rfl,j,i,d,k,?_⟩;rcases d.lt with e | e
 ·exact .inl e
 ·exact .inr ⟨g,e⟩
def ly(x y:Int):Int:=if y<=x then x - y else 0
def kX(x y:Int):Int:=if y<=x then 0 else 10
theorem fAdd(h:aY w ao n c x)(q:aY w ao' n' c' y)(hn:n<=1099511627776)(f:n'<=1099511627776) :
  Calls Tryz.prog 34 #[.slice ao n c,.slice ao' n' c'] w fun e w'=>∃ a k d,e=.returned (.slice a k d)/\oE w' w.heap.size w'.heap.size a k d (x+y)/\k<=n+n' + 1/\Below w.heap.size w w':=by
 obtain⟨b,o,l,z,C,u,F,rfl⟩:=h.ex;obtain⟨D,A,t,p,i,j,m,rfl⟩:=q.ex;refine(CO ao n c b o ao' n' c' D A l t w z p C i hn f u j F m).mono ?_
 rintro e w' ⟨v,r,rfl,g,E,hlen,s⟩;obtain⟨a,d,rfl,B⟩:=iu g E;exact⟨a,_,d,rfl,B,hlen,s⟩
theorem fMul(h:aY w ao n c x)(q:aY w ao' n' c' y)(hn:n<=1099511627776)(f:n'<=1099511627776) :
  Calls Tryz.prog 60 #[.slice ao n c,.slice ao' n' c'] w fun e w'=>∃ a k d,e=.returned (.slice a k d)/\oE w' w.heap.size w'.heap.size a k d (x * y)/\k<=n+n'/\Below w.heap.size w w':=by
 obtain⟨b,o,l,z,C,u,F,rfl⟩:=h.ex;obtain⟨D,A,t,p,i,j,m,rfl⟩:=q.ex;refine(pZ ao n c b o ao' n' c' D A l t w z p C i hn f u j F m).mono ?_
 rintro e w' ⟨v,r,rfl,g,E,hlen,s⟩;obtain⟨a,d,rfl,B⟩:=iu g E;exact⟨a,_,d,rfl,B,hlen,s⟩
theorem fSub(h:aY w ao n c x)(E:aY w ao' n' c' y)(hn:n<=1099511627776)(g:n'<=1099511627776) :
  Calls Tryz.prog 63 #[.slice ao n c,.slice ao' n' c'] w fun e w'=>∃ a k d,e=.returned (.tuple #[.slice a k d,.int .i64 (kX x y)])/\oE w' w.heap.size w'.heap.size a k d (ly x y)/\k<=n/\Below w.heap.size w w':=by
 obtain⟨b,o,l,z,B,u,D,rfl⟩:=h.ex;obtain⟨C,A,s,p,i,j,m,rfl⟩:=E.ex;unfold kX ly;by_cases f:val s<=val l
 ·rw[if_pos f,if_pos f];refine(sub_ge ao n c b o ao' n' c' C A l s w z p B i hn g u j D m f).mono ?_
  rintro e w' ⟨v,r,rfl,t,G,hlen,q⟩;obtain⟨a,d,rfl,F⟩:=iu t G;exact⟨a,_,d,rfl,F,hlen,q⟩
 ·rw[if_neg f,if_neg f];refine(sub_lt ao n c b o ao' n' c' C A l s w z p B i hn g u j D m (by omega)).mono ?_
  rintro e w' ⟨rfl,q⟩;exact⟨none,0,0,rfl,im _ _ _,Nat.zero_le _,q⟩
def rW(x y:Int):Int:=if y=0 then 0 else x % y
def gw(y:Int):Int:=if y=0 then 11 else 0
theorem fDiv(h:aY w ao n c x)(C:aY w ao' n' c' y)(hn:n<=1099511627776)(g:n'<=1099511627776) :
  Calls Tryz.prog 58 #[.slice ao n c,.slice ao' n' c'] w fun e w'=>∃ a k d a' k' d',e=.returned (.tuple #[.slice a k d,.slice a' k' d',.int .i64 (gw y)])/\oE w' w.heap.size w'.heap.size a k d (x / y)/\oE w' w.heap.size w'.heap.size a' k' d' (rW x y)/\k<=n/\k'<=n+n'/\Below w.heap.size w w':=by
 by_cases f:y=0
 ·unfold rW gw;rw[if_pos f,if_pos f,f,Int.ediv_zero];refine(sk C g f).mono ?_
  rintro e w' ⟨rfl,rfl⟩;exact⟨none,0,0,none,0,0,rfl,im _ _ _,im _ _ _,Nat.zero_le _,Nat.zero_le _,Below.refl _ _⟩
 ·unfold rW gw;rw[if_neg f,if_neg f];obtain⟨b,o,l,E,K,D,H,rfl⟩:=h.ex;obtain⟨M,F,J,t,A,B,p,rfl⟩:=C.ex;refine(qR ao n c b o ao' n' c' M F l J w E t K A hn g D B H p f).mono ?_
  rintro e w' ⟨v,u,r,s,rfl,j,m,N,L,z,i,I⟩;obtain⟨a,d,rfl,G⟩:=iu j N;obtain⟨a',d',rfl,q⟩:=iu m L;exact⟨a,_,d,a',_,d',rfl,G,q,z,i,I⟩
theorem Ez{ad:Option Addr}{i K:Nat}{z:Int}(h:aY w ao n c x)(L:aY w ao' n' c' y)(hd:aY w ad i K z)(hn:n<=274877906944)(j:n'<=274877906944)(g:i<=274877906944) :
  Calls Tryz.prog 106 #[.slice ao n c,.slice ao' n' c',.slice ad i K] w fun e w'=>∃ a k d a' k' d',e=.returned (.tuple #[.slice a k d,.slice a' k' d',.int .i64 (gw z)])/\oE w' w.heap.size w'.heap.size a k d (x * y / z)/\oE w' w.heap.size w'.heap.size a' k' d' (rW (x * y) z)/\k<=n+n'/\k'<=n+n' + i/\Below w.heap.size w w':=by
 by_cases f:z=0
 ·unfold rW gw;rw[if_pos f,if_pos f]
  have R:x * y / z=0:=by rw[f,Int.ediv_zero]
  rw[R];refine(sE h L hd hn j g f).mono ?_
  rintro e w' ⟨rfl,E⟩;exact⟨none,0,0,none,0,0,rfl,im _ _ _,im _ _ _,Nat.zero_le _,Nat.zero_le _,E⟩
 ·unfold rW gw;rw[if_neg f,if_neg f];obtain⟨b,o,l,O,V,N,S,rfl⟩:=h.ex;obtain⟨Y,P,U,D,H,J,B,rfl⟩:=L.ex;obtain⟨T,M,W,I,m,q,G,rfl⟩:=hd.ex;refine(ux ao n c b o ao' n' c' Y P ad i K T M l U W w O D I V H m hn j g N J q S B G f).mono ?_
  rintro e w' ⟨v,u,r,s,rfl,t,A,Z,X,F,p,E⟩;obtain⟨a,d,rfl,Q⟩:=iu t Z;obtain⟨a',d',rfl,C⟩:=iu A X;exact⟨a,_,d,a',_,d',rfl,Q,C,F,p,E⟩
end
end Fo
end
section
open Go.RowKit Lim
section
variable {w:World}{ao:Option Addr}{n c:Nat}{x:Int}
theorem Fc(h:aY w ao n c x)(hn:n<=1099511627776) :
  Calls Tryz.prog 22 #[.agg #[.slice ao n c]] w fun e w'=>e=.returned (.bool (decide (x=0)))/\Below w.heap.size w w':=by
 have d:=ae w (.cells #[.slice ao n c] 32);have h:=h.keep d;have t:=nBits h hn;have hm:=tf x h.uL;by_cases hx:x=0
 ·have hm:=hm.2 hx;rw[hm] at t;rw[decide_eq_true hx];clear hm hx h;go_enter Tryz.func22,Tryz.ntmps22;go_wp2_with fail;refine t.mono ?_
  rintro e f ⟨rfl,b⟩;go_wp2;go_ret;exact⟨rfl,aA d b⟩
 ·have hm:bitLen x.toNat≠0:=fun e=>hx (hm.1 e)
  rw[decide_eq_false hx];generalize bitLen x.toNat=m at *;obtain⟨k,rfl⟩:∃ k,m=k+1:=⟨m - 1,by omega⟩
  clear hm hx h;go_enter Tryz.func22,Tryz.ntmps22;go_wp2_with fail;refine t.mono ?_
  rintro e f ⟨rfl,b⟩;go_wp2;go_ret;refine⟨?_,aA d b⟩;congr 2
theorem Cm(n:Nat)(hn:n<=4096) :
  Calls Tryz.prog 93 #[.int .i64 n] w fun e w'=>∃ a k d,e=.returned (.slice a k d)/\dX w' a k d (10 ^ n)/\k<=n+2/\Below w.heap.size w w':=by
 go_enter Tryz.func93,Tryz.ntmps93;go_wp2_with fail;refine(nPow n hn).mono ?_
 rintro e g ⟨a,k,d,rfl,f,c,b⟩;go_wp2;go_ret;exact⟨a,k,d,rfl,f,c,b⟩
def U36:Int:=10 ^ 36
theorem Dk:0 < U36:=by decide
theorem pH:Calls Tryz.prog 59 #[] w fun e w'=>∃ a k d,e=.returned (.slice a k d)/\dX w' a k d U36/\k<=38/\Below w.heap.size w w':=by
 go_enter Tryz.func59,Tryz.ntmps59;go_wp2_with fail;refine(Cm 36 (by decide)).mono ?_
 rintro e g ⟨a,k,d,rfl,f,c,b⟩;go_wp2;go_ret;exact⟨a,k,d,rfl,f,c,b⟩
theorem dOfNat(h:aY w ao n c x)(hn:n<=1099511627776) :
  Calls Tryz.prog 45 #[.slice ao n c] w fun e w'=>∃ a k d,e=.returned (.agg #[.slice a k d])/\dX w' a k d (x * U36)/\k<=n+38/\Below w.heap.size w w':=by
 have j:=ae w (.cells #[.slice none 0 0] 32);have p:=fg w (.slice none 0 0) 32;have h:=h.keep j;go_enter Tryz.func45,Tryz.ntmps45;go_wp2_with fail;refine pH.mono ?_
 rintro e v ⟨a,k,d,rfl,r,y,b⟩;have h:=h.keep b;have p:=p.keep b;have j:=aA j b;clear b;go_wp2_with fail;refine(nMul h r.a hn (by omega)).mono ?_
 rintro e z ⟨m,l,o,rfl,i,s,b⟩;have f:=p.keep b;have c1:=f.cell;have f1:=f.free;have t:=f.put (.slice m l o);have q:=i.put f qZ (.slice m l o);have u:=sY j b (g:=w.heap.size) (Nat.le_refl _) (.slice m l o);clear h r i b p f j;go_wp2;refine bodyPost_ret (mr rfl rfl t) rfl ?_
 exact⟨m,l,o,rfl,q,by omega,u⟩
theorem dTrunc(h:aY w ao n c x)(hn:n<=1099511627776) :
  Calls Tryz.prog 26 #[.agg #[.slice ao n c]] w fun e w'=>∃ a k d a' k' d',e=.returned (.tuple #[.slice a k d,.agg #[.slice a' k' d']])/\dX w' a k d (x / U36)/\dX w' a' k' d' (x % U36)/\k<=n/\k'<=n+38/\Below w.heap.size w w':=by
 have m:=qg w (.cells #[.slice ao n c] 32) (.cells #[.slice none 0 0] 32);have p:=mI w (.cells #[.slice ao n c] 32) (.slice none 0 0) 32;have o:=(fg w (.slice ao n c) 32).alloc (.cells #[.slice none 0 0] 32);have h:=h.keep m;go_enter Tryz.func26,Tryz.ntmps26;go_wp2_with fail
 go_region_with (first
  | (go_at_call 59;refine pH.mono ?_;rintro e y ⟨a,k,d,rfl,r,A,b⟩;have p:=p.drew.keep b;have o:=o.drew.keep b;have s:=o.cell;have m:=aA m.drew b;have h:=h.drew.keep b;clear b)
  | (go_at_call 58;refine(nDiv h r.a hn (by omega) (by decide)).mono ?_;rintro e z ⟨a1,k1,d1,a2,l,d2,rfl,i,f,q,u,b⟩;have j:=p.keep b;have c1:=j.cell;have f1:=j.free;have t:=j.put (.slice a2 l d2);have i:=i.put j qZ (.slice a2 l d2);have f:=f.put j qZ (.slice a2 l d2);have v:=sY m b (g:=w.heap.size+1) (by omega) (.slice a2 l d2);clear h r b p j m s o))
 all_goals go_wp2
 all_goals refine bodyPost_ret (rr rfl rfl rfl t) rfl ?_
 all_goals exact⟨a1,k1,d1,a2,l,d2,rfl,i,f,q,by omega,v⟩
end
end
end Go.Proofs.YtjejmkcjflhoiaaGreatDoor
