import Derived.Test.YtgdohcdlkonhiaaGreatDoorJai
import Derived.Handy
set_option maxRecDepth 100000
set_option maxHeartbeats 8000000
namespace Go.Proofs.YtgdohcdlkonhiaaGreatDoor
section
namespace Fo
open Go.RowKit Lim
section
variable {w:World}{v:Value}{r:List Int}{x y:Int}{ao ao':Option Addr}{n c n' c':Nat}
structure om(w:World)(B T:Nat)(ao:Option Addr)(n c:Nat)(x:Int):Prop where
 ex:∃ b o l,l.length=n/\n<=c/\IsN l x/\At w ao b o l/\dz w b o n/\(l=[]\/(B<=b/\b < T))
theorem im(w:World)(B T:Nat):om w B T none 0 0 0:=⟨0,0,[],rfl,Nat.le_refl _,jL,⟨.inl rfl,fun i hi=>by simp at hi⟩,fun i hi=>by omega,.inl rfl⟩
theorem ig{w':World}(h:dL w w' v r)(f:IsN r x):∃ a c,v=.slice a r.length c/\om w' w.heap.size w'.heap.size a r.length c x:=by
 obtain⟨i,b,o,c,e,k,g,d,j⟩:=h.is;refine⟨i,c,e,b,o,r,rfl,k,f,d,j,?_⟩;rcases d.lt with e | e
 ·exact .inl e
 ·exact .inr ⟨g,e⟩
def ff(x y:Int):Int:=if y<=x then x - y else 0
def kW(x y:Int):Int:=if y<=x then 0 else 10
theorem fAdd(h:aI w ao n c x)(t:aI w ao' n' c' y)(hn:n<=1099511627776)(g:n'<=1099511627776) :
  Calls Tryz.prog 12 #[.slice ao n c,.slice ao' n' c'] w fun e w'=>∃ a k d,e=.returned (.slice a k d)/\om w' w.heap.size w'.heap.size a k d (x+y)/\k<=n+n' + 1/\Below w.heap.size w w':=by
 obtain⟨b,o,l,z,q,C,u,rfl⟩:=h.ex;obtain⟨s,D,E,m,i,p,f,rfl⟩:=t.ex;refine(C0 ao n c b o ao' n' c' s D l E w z m q i hn g C p u f).mono ?_
 rintro e w' ⟨v,r,rfl,j,B,hlen,F⟩;obtain⟨a,d,rfl,A⟩:=ig j B;exact⟨a,_,d,rfl,A,hlen,F⟩
theorem fMul(h:aI w ao n c x)(t:aI w ao' n' c' y)(hn:n<=1099511627776)(g:n'<=1099511627776) :
  Calls Tryz.prog 10 #[.slice ao n c,.slice ao' n' c'] w fun e w'=>∃ a k d,e=.returned (.slice a k d)/\om w' w.heap.size w'.heap.size a k d (x * y)/\k<=n+n'/\Below w.heap.size w w':=by
 obtain⟨b,o,l,z,q,C,u,rfl⟩:=h.ex;obtain⟨s,D,E,m,i,p,f,rfl⟩:=t.ex;refine(pE ao n c b o ao' n' c' s D l E w z m q i hn g C p u f).mono ?_
 rintro e w' ⟨v,r,rfl,j,B,hlen,F⟩;obtain⟨a,d,rfl,A⟩:=ig j B;exact⟨a,_,d,rfl,A,hlen,F⟩
theorem fSub(h:aI w ao n c x)(E:aI w ao' n' c' y)(hn:n<=1099511627776)(i:n'<=1099511627776) :
  Calls Tryz.prog 36 #[.slice ao n c,.slice ao' n' c'] w fun e w'=>∃ a k d,e=.returned (.tuple #[.slice a k d,.int .i64 (kW x y)])/\om w' w.heap.size w'.heap.size a k d (ff x y)/\k<=n/\Below w.heap.size w w':=by
 obtain⟨b,o,l,B,u,C,A,rfl⟩:=h.ex;obtain⟨z,D,s,m,j,p,g,rfl⟩:=E.ex;unfold kW ff;by_cases f:val s<=val l
 ·rw[if_pos f,if_pos f];refine(sub_ge ao n c b o ao' n' c' z D l s w B m u j hn i C p A g f).mono ?_
  rintro e w' ⟨v,r,rfl,q,G,hlen,t⟩;obtain⟨a,d,rfl,F⟩:=ig q G;exact⟨a,_,d,rfl,F,hlen,t⟩
 ·rw[if_neg f,if_neg f];refine(sub_lt ao n c b o ao' n' c' z D l s w B m u j hn i C p A g (by omega)).mono ?_
  rintro e w' ⟨rfl,t⟩;exact⟨none,0,0,rfl,im _ _ _,Nat.zero_le _,t⟩
def rp(x y:Int):Int:=if y=0 then 0 else x % y
def fx(y:Int):Int:=if y=0 then 11 else 0
theorem fDiv(h:aI w ao n c x)(C:aI w ao' n' c' y)(hn:n<=1099511627776)(g:n'<=1099511627776) :
  Calls Tryz.prog 128 #[.slice ao n c,.slice ao' n' c'] w fun e w'=>∃ a k d a' k' d',e=.returned (.tuple #[.slice a k d,.slice a' k' d',.int .i64 (fx y)])/\om w' w.heap.size w'.heap.size a k d (x / y)/\om w' w.heap.size w'.heap.size a' k' d' (rp x y)/\k<=n/\k'<=n+n'/\Below w.heap.size w w':=by
 by_cases f:y=0
 ·unfold rp fx;rw[if_pos f,if_pos f,f,Int.ediv_zero];refine(rA C g f).mono ?_
  rintro e w' ⟨rfl,rfl⟩;exact⟨none,0,0,none,0,0,rfl,im _ _ _,im _ _ _,Nat.zero_le _,Nat.zero_le _,Below.refl _ _⟩
 ·unfold rp fx;rw[if_neg f,if_neg f];obtain⟨b,o,l,K,D,H,E,rfl⟩:=h.ex;obtain⟨J,M,I,A,i,m,z,rfl⟩:=C.ex;refine(qJ ao n c b o ao' n' c' J M l I w K A D i hn g H m E z f).mono ?_
  rintro e w' ⟨v,u,r,s,rfl,j,t,L,G,p,q,N⟩;obtain⟨a,d,rfl,F⟩:=ig j L;obtain⟨a',d',rfl,B⟩:=ig t G;exact⟨a,_,d,a',_,d',rfl,F,B,p,q,N⟩
theorem Ca{ad:Option Addr}{nd F:Nat}{z:Int}(h:aI w ao n c x)(K:aI w ao' n' c' y)(L:aI w ad nd F z)(hn:n<=274877906944)(g:n'<=274877906944)(i:nd<=274877906944) :
  Calls Tryz.prog 223 #[.slice ao n c,.slice ao' n' c',.slice ad nd F] w fun e w'=>∃ a k d a' k' d',e=.returned (.tuple #[.slice a k d,.slice a' k' d',.int .i64 (fx z)])/\om w' w.heap.size w'.heap.size a k d (x * y / z)/\om w' w.heap.size w'.heap.size a' k' d' (rp (x * y) z)/\k<=n+n'/\k'<=n+n' + nd/\Below w.heap.size w w':=by
 by_cases f:z=0
 ·unfold rp fx;rw[if_pos f,if_pos f]
  have M:x * y / z=0:=by rw[f,Int.ediv_zero]
  rw[M];refine(rh h K L hn g i f).mono ?_
  rintro e w' ⟨rfl,I⟩;exact⟨none,0,0,none,0,0,rfl,im _ _ _,im _ _ _,Nat.zero_le _,Nat.zero_le _,I⟩
 ·unfold rp fx;rw[if_neg f,if_neg f];obtain⟨b,o,l,V,N,R,O,rfl⟩:=h.ex;obtain⟨U,Y,T,G,m,t,D,rfl⟩:=K.ex;obtain⟨W,S,Z,p,j,J,E,rfl⟩:=L.ex;refine(uE ao n c b o ao' n' c' U Y ad nd F W S l T Z w V G p N m j hn g i R t J O D E f).mono ?_
  rintro e w' ⟨v,u,r,s,rfl,q,C,X,Q,A,B,I⟩;obtain⟨a,d,rfl,P⟩:=ig q X;obtain⟨a',d',rfl,H⟩:=ig C Q;exact⟨a,_,d,a',_,d',rfl,P,H,A,B,I⟩
end
end Fo
end
section
open Go.RowKit Lim
section
variable {w:World}{ao ao':Option Addr}{n c:Nat}{x:Int}
theorem dCmp{n' c':Nat}{y:Int}(h:aI w ao n c x)(b:aI w ao' n' c' y)(hn:n<=1099511627776)(f:n'<=1099511627776) :
  Calls Tryz.prog 7 #[.agg #[.slice ao n c],.agg #[.slice ao' n' c']] w fun e w'=>e=.returned (.int .i64 (sgn x y))/\Below w.heap.size w w':=by
 have d:=nC w (.cells #[.slice ao n c] 26) (.cells #[.slice ao' n' c'] 26);have h:=h.keep d
 have b:=b.keep d;go_enter Tryz.func7,Tryz.ntmps7;go_wp2_with fail;refine(nCmp h b hn f).mono ?_
 rintro e i ⟨rfl,g⟩;go_wp2;go_ret;exact⟨rfl,aj d g⟩
theorem Ec(h:aI w ao n c x)(hn:n<=1099511627776) :
  Calls Tryz.prog 72 #[.agg #[.slice ao n c]] w fun e w'=>e=.returned (.bool (decide (x=0)))/\Below w.heap.size w w':=by
 have b:=ai w (.cells #[.slice ao n c] 26);have h:=h.keep b;have t:=nBits h hn;have hm:=rv x h.ql;by_cases hx:x=0
 ·have hm:=hm.2 hx;rw[hm] at t;rw[decide_eq_true hx];clear hm hx h;go_enter Tryz.func72,Tryz.ntmps72;go_wp2_with fail;refine t.mono ?_
  rintro e f ⟨rfl,d⟩;go_wp2;go_ret;exact⟨rfl,aj b d⟩
 ·have hm:bitLen x.toNat≠0:=fun e=>hx (hm.1 e)
  rw[decide_eq_false hx];generalize bitLen x.toNat=m at *;obtain⟨k,rfl⟩:∃ k,m=k+1:=⟨m - 1,by omega⟩
  clear hm hx h;go_enter Tryz.func72,Tryz.ntmps72;go_wp2_with fail;refine t.mono ?_
  rintro e f ⟨rfl,d⟩;go_wp2;go_ret;refine⟨?_,aj b d⟩;congr 2
theorem yd(n:Nat)(hn:n<=4096) :
  Calls Tryz.prog 139 #[.int .i64 n] w fun e w'=>∃ a k d,e=.returned (.slice a k d)/\ed w' a k d (10 ^ n)/\k<=n+2/\Below w.heap.size w w':=by
 go_enter Tryz.func139,Tryz.ntmps139;go_wp2_with fail;refine(nPow n hn).mono ?_
 rintro e f ⟨a,k,d,rfl,c,hk,b⟩;go_wp2;go_ret;exact⟨a,k,d,rfl,c,hk,b⟩
def U36:Int:=10 ^ 36
theorem BI:0 < U36:=by decide
theorem mV:Calls Tryz.prog 116 #[] w fun e w'=>∃ a k d,e=.returned (.slice a k d)/\ed w' a k d U36/\k<=38/\Below w.heap.size w w':=by
 go_enter Tryz.func116,Tryz.ntmps116;go_wp2_with fail;refine(yd 36 (by decide)).mono ?_
 rintro e f ⟨a,k,d,rfl,c,hk,b⟩;go_wp2;go_ret;exact⟨a,k,d,rfl,c,hk,b⟩
theorem dOfNat(h:aI w ao n c x)(hn:n<=1099511627776) :
  Calls Tryz.prog 58 #[.slice ao n c] w fun e w'=>∃ a k d,e=.returned (.agg #[.slice a k d])/\ed w' a k d (x * U36)/\k<=n+38/\Below w.heap.size w w':=by
 have f:=ai w (.cells #[.slice none 0 0] 26);have l:=eX w (.slice none 0 0) 26;have h:=h.keep f;go_enter Tryz.func58,Tryz.ntmps58;go_wp2_with fail;refine mV.mono ?_
 rintro e v ⟨a,k,d,rfl,r,hk,b⟩;have h:=h.keep b;have l:=l.keep b;have f:=aj f b;clear b;go_wp2_with fail;refine(nMul h r.a hn (by omega)).mono ?_
 rintro e y ⟨m,o,p,rfl,i,s,b⟩;have j:=l.keep b;have c1:=j.cell;have f1:=j.free;have u:=j.put (.slice m o p);have q:=i.put j qH (.slice m o p);have t:=rm f b (g:=w.heap.size) (Nat.le_refl _) (.slice m o p);clear h r i b l j f;go_wp2;refine bodyPost_ret (l9 rfl rfl u) rfl ?_
 exact⟨m,o,p,rfl,q,by omega,t⟩
theorem dTrunc(h:aI w ao n c x)(hn:n<=1099511627776) :
  Calls Tryz.prog 70 #[.agg #[.slice ao n c]] w fun e w'=>∃ a k d a' k' d',e=.returned (.tuple #[.slice a k d,.agg #[.slice a' k' d']])/\ed w' a k d (x / U36)/\ed w' a' k' d' (x % U36)/\k<=n/\k'<=n+38/\Below w.heap.size w w':=by
 have l:=nC w (.cells #[.slice ao n c] 26) (.cells #[.slice none 0 0] 26);have m:=nu w (.cells #[.slice ao n c] 26) (.slice none 0 0) 26;have o:=(eX w (.slice ao n c) 26).alloc (.cells #[.slice none 0 0] 26);have h:=h.keep l;go_enter Tryz.func70,Tryz.ntmps70;go_wp2_with fail
 go_region_with (first
  | (go_at_call 116;refine mV.mono ?_;rintro e v ⟨a,k,d,rfl,q,hk,b⟩;have m:=m.drew.keep b;have o:=o.drew.keep b;have r:=o.cell;have l:=aj l.drew b;have h:=h.drew.keep b;clear b)
  | (go_at_call 128;refine(nDiv h q.a hn (by omega) (by decide)).mono ?_;rintro e y ⟨a1,k1,d1,a2,k2,d2,rfl,f,i,p,s,b⟩;have j:=m.keep b;have c1:=j.cell;have f1:=j.free;have u:=j.put (.slice a2 k2 d2);have f:=f.put j qH (.slice a2 k2 d2);have i:=i.put j qH (.slice a2 k2 d2);have t:=rm l b (g:=w.heap.size+1) (by omega) (.slice a2 k2 d2);clear h q b m j l r o))
 all_goals go_wp2
 all_goals refine bodyPost_ret (sE rfl rfl rfl u) rfl ?_
 all_goals exact⟨a1,k1,d1,a2,k2,d2,rfl,f,i,p,by omega,t⟩
end
end
end Go.Proofs.YtgdohcdlkonhiaaGreatDoor
