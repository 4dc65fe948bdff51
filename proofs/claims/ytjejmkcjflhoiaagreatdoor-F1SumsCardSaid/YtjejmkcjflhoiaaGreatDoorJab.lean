import Derived.Test.YtjejmkcjflhoiaaGreatDoorJaa
import Derived.Handy
set_option maxRecDepth 100000
set_option maxHeartbeats 8000000
namespace Go.Proofs.YtjejmkcjflhoiaaGreatDoor
section
namespace Fo
open Go.RowKit Lim
section
variable {w:World}{v:Value}{r:List Int}{x y:Int}{ao ao':Option Addr}{n c n' c':Nat}
structure oP(w:World)(B T:Nat)(ao:Option Addr)(n c:Nat)(x:Int):Prop where
 ex:∃ b o l,l.length=n/\n<=c/\IsN l x/\At w ao b o l/\dO w b o n/\(l=[]\/(B<=b/\b < T))
theorem iA(w:World)(B T:Nat):oP w B T none 0 0 0:=⟨0,0,[],rfl,Nat.le_refl _,jR,⟨.inl rfl,fun i hi=>by simp at hi⟩,fun i hi=>by omega,.inl rfl⟩
theorem iu{w':World}(h:dV w w' v r)(f:IsN r x):∃ a c,v=.slice a r.length c/\oP w' w.heap.size w'.heap.size a r.length c x:=by
 obtain⟨i,b,o,c,e,k,g,d,j⟩:=h.is;refine⟨i,c,e,b,o,r,rfl,k,f,d,j,?_⟩;rcases d.lt with e | e
 ·exact .inl e
 ·exact .inr ⟨g,e⟩
def iC(x y:Int):Int:=if y<=x then x - y else 0
def lh(x y:Int):Int:=if y<=x then 0 else 10
theorem fAdd(h:aX w ao n c x)(t:aX w ao' n' c' y)(hn:n<=1099511627776)(g:n'<=1099511627776) :
  Calls Tryz.prog 34 #[.slice ao n c,.slice ao' n' c'] w fun e w'=>∃ a k d,e=.returned (.slice a k d)/\oP w' w.heap.size w'.heap.size a k d (x+y)/\k<=n+n' + 1/\Below w.heap.size w w':=by
 obtain⟨b,o,l,z,q,C,u,rfl⟩:=h.ex;obtain⟨s,D,E,m,i,p,f,rfl⟩:=t.ex;refine(Ei ao n c b o ao' n' c' s D l E w z m q i hn g C p u f).mono ?_
 rintro e w' ⟨v,r,rfl,j,B,hlen,F⟩;obtain⟨a,d,rfl,A⟩:=iu j B;exact⟨a,_,d,rfl,A,hlen,F⟩
theorem fMul(h:aX w ao n c x)(t:aX w ao' n' c' y)(hn:n<=1099511627776)(g:n'<=1099511627776) :
  Calls Tryz.prog 60 #[.slice ao n c,.slice ao' n' c'] w fun e w'=>∃ a k d,e=.returned (.slice a k d)/\oP w' w.heap.size w'.heap.size a k d (x * y)/\k<=n+n'/\Below w.heap.size w w':=by
 obtain⟨b,o,l,z,q,C,u,rfl⟩:=h.ex;obtain⟨s,D,E,m,i,p,f,rfl⟩:=t.ex;refine(p8 ao n c b o ao' n' c' s D l E w z m q i hn g C p u f).mono ?_
 rintro e w' ⟨v,r,rfl,j,B,hlen,F⟩;obtain⟨a,d,rfl,A⟩:=iu j B;exact⟨a,_,d,rfl,A,hlen,F⟩
theorem fSub(h:aX w ao n c x)(E:aX w ao' n' c' y)(hn:n<=1099511627776)(i:n'<=1099511627776) :
  Calls Tryz.prog 63 #[.slice ao n c,.slice ao' n' c'] w fun e w'=>∃ a k d,e=.returned (.tuple #[.slice a k d,.int .i64 (lh x y)])/\oP w' w.heap.size w'.heap.size a k d (iC x y)/\k<=n/\Below w.heap.size w w':=by
 obtain⟨b,o,l,B,u,C,A,rfl⟩:=h.ex;obtain⟨z,D,s,m,j,p,g,rfl⟩:=E.ex;unfold lh iC;by_cases f:val s<=val l
 ·rw[if_pos f,if_pos f];refine(sub_ge ao n c b o ao' n' c' z D l s w B m u j hn i C p A g f).mono ?_
  rintro e w' ⟨v,r,rfl,q,G,hlen,t⟩;obtain⟨a,d,rfl,F⟩:=iu q G;exact⟨a,_,d,rfl,F,hlen,t⟩
 ·rw[if_neg f,if_neg f];refine(sub_lt ao n c b o ao' n' c' z D l s w B m u j hn i C p A g (by omega)).mono ?_
  rintro e w' ⟨rfl,t⟩;exact⟨none,0,0,rfl,iA _ _ _,Nat.zero_le _,t⟩
def rV(x y:Int):Int:=if y=0 then 0 else x % y
def gu(y:Int):Int:=if y=0 then 11 else 0
theorem fDiv(h:aX w ao n c x)(C:aX w ao' n' c' y)(hn:n<=1099511627776)(g:n'<=1099511627776) :
  Calls Tryz.prog 58 #[.slice ao n c,.slice ao' n' c'] w fun e w'=>∃ a k d a' k' d',e=.returned (.tuple #[.slice a k d,.slice a' k' d',.int .i64 (gu y)])/\oP w' w.heap.size w'.heap.size a k d (x / y)/\oP w' w.heap.size w'.heap.size a' k' d' (rV x y)/\k<=n/\k'<=n+n'/\Below w.heap.size w w':=by
 by_cases f:y=0
 ·unfold rV gu;rw[if_pos f,if_pos f,f,Int.ediv_zero];refine(rY C g f).mono ?_
  rintro e w' ⟨rfl,rfl⟩;exact⟨none,0,0,none,0,0,rfl,iA _ _ _,iA _ _ _,Nat.zero_le _,Nat.zero_le _,Below.refl _ _⟩
 ·unfold rV gu;rw[if_neg f,if_neg f];obtain⟨b,o,l,K,D,H,E,rfl⟩:=h.ex;obtain⟨J,M,I,A,i,m,z,rfl⟩:=C.ex;refine(rh ao n c b o ao' n' c' J M l I w K A D i hn g H m E z f).mono ?_
  rintro e w' ⟨v,u,r,s,rfl,j,t,L,G,p,q,N⟩;obtain⟨a,d,rfl,F⟩:=iu j L;obtain⟨a',d',rfl,B⟩:=iu t G;exact⟨a,_,d,a',_,d',rfl,F,B,p,q,N⟩
theorem Dl{ad:Option Addr}{g G:Nat}{z:Int}(h:aX w ao n c x)(L:aX w ao' n' c' y)(hd:aX w ad g G z)(hn:n<=274877906944)(i:n'<=274877906944)(j:g<=274877906944) :
  Calls Tryz.prog 106 #[.slice ao n c,.slice ao' n' c',.slice ad g G] w fun e w'=>∃ a k d a' k' d',e=.returned (.tuple #[.slice a k d,.slice a' k' d',.int .i64 (gu z)])/\oP w' w.heap.size w'.heap.size a k d (x * y / z)/\oP w' w.heap.size w'.heap.size a' k' d' (rV (x * y) z)/\k<=n+n'/\k'<=n+n' + g/\Below w.heap.size w w':=by
 by_cases f:z=0
 ·unfold rV gu;rw[if_pos f,if_pos f]
  have M:x * y / z=0:=by rw[f,Int.ediv_zero]
  rw[M];refine(rL h L hd hn i j f).mono ?_
  rintro e w' ⟨rfl,J⟩;exact⟨none,0,0,none,0,0,rfl,iA _ _ _,iA _ _ _,Nat.zero_le _,Nat.zero_le _,J⟩
 ·unfold rV gu;rw[if_neg f,if_neg f];obtain⟨b,o,l,V,N,R,O,rfl⟩:=h.ex;obtain⟨U,Y,T,H,p,A,E,rfl⟩:=L.ex;obtain⟨W,S,Z,q,m,K,F,rfl⟩:=hd.ex;refine(vE ao n c b o ao' n' c' U Y ad g G W S l T Z w V H q N p m hn i j R A K O E F f).mono ?_
  rintro e w' ⟨v,u,r,s,rfl,t,D,X,Q,B,C,J⟩;obtain⟨a,d,rfl,P⟩:=iu t X;obtain⟨a',d',rfl,I⟩:=iu D Q;exact⟨a,_,d,a',_,d',rfl,P,I,B,C,J⟩
end
end Fo
end
section
open Go.RowKit Lim
section
variable {w:World}{ao ao':Option Addr}{n c:Nat}{x:Int}
theorem dCmp{n' c':Nat}{y:Int}(h:aX w ao n c x)(b:aX w ao' n' c' y)(hn:n<=1099511627776)(f:n'<=1099511627776) :
  Calls Tryz.prog 15 #[.agg #[.slice ao n c],.agg #[.slice ao' n' c']] w fun e w'=>e=.returned (.int .i64 (sgn x y))/\Below w.heap.size w w':=by
 have d:=nU w (.cells #[.slice ao n c] 32) (.cells #[.slice ao' n' c'] 32);have h:=h.keep d
 have b:=b.keep d;go_enter Tryz.func15,Tryz.ntmps15;go_wp2_with fail;refine(nCmp h b hn f).mono ?_
 rintro e i ⟨rfl,g⟩;go_wp2;go_ret;exact⟨rfl,aB d g⟩
theorem Fm(h:aX w ao n c x)(hn:n<=1099511627776) :
  Calls Tryz.prog 22 #[.agg #[.slice ao n c]] w fun e w'=>e=.returned (.bool (decide (x=0)))/\Below w.heap.size w w':=by
 have b:=ae w (.cells #[.slice ao n c] 32);have h:=h.keep b;have t:=nBits h hn;have hm:=rW x h.uP;by_cases hx:x=0
 ·have hm:=hm.2 hx;rw[hm] at t;rw[decide_eq_true hx];clear hm hx h;go_enter Tryz.func22,Tryz.ntmps22;go_wp2_with fail;refine t.mono ?_
  rintro e f ⟨rfl,d⟩;go_wp2;go_ret;exact⟨rfl,aB b d⟩
 ·have hm:bitLen x.toNat≠0:=fun e=>hx (hm.1 e)
  rw[decide_eq_false hx];generalize bitLen x.toNat=m at *;obtain⟨k,rfl⟩:∃ k,m=k+1:=⟨m - 1,by omega⟩
  clear hm hx h;go_enter Tryz.func22,Tryz.ntmps22;go_wp2_with fail;refine t.mono ?_
  rintro e f ⟨rfl,d⟩;go_wp2;go_ret;refine⟨?_,aB b d⟩;congr 2
theorem zi(n:Nat)(hn:n<=4096) :
  Calls Tryz.prog 93 #[.int .i64 n] w fun e w'=>∃ a k d,e=.returned (.slice a k d)/\et w' a k d (10 ^ n)/\k<=n+2/\Below w.heap.size w w':=by
 go_enter Tryz.func93,Tryz.ntmps93;go_wp2_with fail;refine(nPow n hn).mono ?_
 rintro e g ⟨a,k,d,rfl,f,b,c⟩;go_wp2;go_ret;exact⟨a,k,d,rfl,f,b,c⟩
def U36:Int:=10 ^ 36
theorem C9:0 < U36:=by decide
theorem px:Calls Tryz.prog 59 #[] w fun e w'=>∃ a k d,e=.returned (.slice a k d)/\et w' a k d U36/\k<=38/\Below w.heap.size w w':=by
 go_enter Tryz.func59,Tryz.ntmps59;go_wp2_with fail;refine(zi 36 (by decide)).mono ?_
 rintro e g ⟨a,k,d,rfl,f,b,c⟩;go_wp2;go_ret;exact⟨a,k,d,rfl,f,b,c⟩
theorem dOfNat(h:aX w ao n c x)(hn:n<=1099511627776) :
  Calls Tryz.prog 45 #[.slice ao n c] w fun e w'=>∃ a k d,e=.returned (.agg #[.slice a k d])/\et w' a k d (x * U36)/\k<=n+38/\Below w.heap.size w w':=by
 have f:=ae w (.cells #[.slice none 0 0] 32);have l:=fg w (.slice none 0 0) 32;have h:=h.keep f;go_enter Tryz.func45,Tryz.ntmps45;go_wp2_with fail;refine px.mono ?_
 rintro e v ⟨a,k,d,rfl,r,y,b⟩;have h:=h.keep b;have l:=l.keep b;have f:=aB f b;clear b;go_wp2_with fail;refine(nMul h r.a hn (by omega)).mono ?_
 rintro e z ⟨m,o,p,rfl,i,s,b⟩;have j:=l.keep b;have c1:=j.cell;have f1:=j.free;have u:=j.put (.slice m o p);have q:=i.put j re (.slice m o p);have t:=rR f b (g:=w.heap.size) (Nat.le_refl _) (.slice m o p);clear h r i b l j f;go_wp2;refine bodyPost_ret (my rfl rfl u) rfl ?_
 exact⟨m,o,p,rfl,q,by omega,t⟩
theorem dTrunc(h:aX w ao n c x)(hn:n<=1099511627776) :
  Calls Tryz.prog 26 #[.agg #[.slice ao n c]] w fun e w'=>∃ a k d a' k' d',e=.returned (.tuple #[.slice a k d,.agg #[.slice a' k' d']])/\et w' a k d (x / U36)/\et w' a' k' d' (x % U36)/\k<=n/\k'<=n+38/\Below w.heap.size w w':=by
 have l:=nU w (.cells #[.slice ao n c] 32) (.cells #[.slice none 0 0] 32);have o:=nQ w (.cells #[.slice ao n c] 32) (.slice none 0 0) 32;have p:=(fg w (.slice ao n c) 32).alloc (.cells #[.slice none 0 0] 32);have h:=h.keep l;go_enter Tryz.func26,Tryz.ntmps26;go_wp2_with fail
 go_region_with (first
  | (go_at_call 59;refine px.mono ?_;rintro e y ⟨a,k,d,rfl,r,z,b⟩;have o:=o.drew.keep b;have p:=p.drew.keep b;have s:=p.cell;have l:=aB l.drew b;have h:=h.drew.keep b;clear b)
  | (go_at_call 58;refine(nDiv h r.a hn (by omega) (by decide)).mono ?_;rintro e A ⟨a1,k1,d1,a2,m,d2,rfl,f,i,q,t,b⟩;have j:=o.keep b;have c1:=j.cell;have f1:=j.free;have v:=j.put (.slice a2 m d2);have f:=f.put j re (.slice a2 m d2);have i:=i.put j re (.slice a2 m d2);have u:=rR l b (g:=w.heap.size+1) (by omega) (.slice a2 m d2);clear h r b o j l s p))
 all_goals go_wp2
 all_goals refine bodyPost_ret (tK rfl rfl rfl v) rfl ?_
 all_goals exact⟨a1,k1,d1,a2,m,d2,rfl,f,i,q,by omega,u⟩
end
end
end Go.Proofs.YtjejmkcjflhoiaaGreatDoor
