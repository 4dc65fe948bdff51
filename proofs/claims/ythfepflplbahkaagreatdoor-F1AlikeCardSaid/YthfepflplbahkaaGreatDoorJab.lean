import Derived.Test.YthfepflplbahkaaGreatDoorJaa
import Derived.Handy
set_option maxRecDepth 100000
set_option maxHeartbeats 8000000
namespace Go.Proofs.YthfepflplbahkaaGreatDoor
section
namespace Fo
open Go.RowKit Lim
section
variable {w:World}{v:Value}{r:List Int}{x y:Int}{ao ao':Option Addr}{n c n' c':Nat}
structure rW(w:World)(B T:Nat)(ao:Option Addr)(n c:Nat)(x:Int):Prop where
 ex:∃ b o l,l.length=n/\n<=c/\IsN l x/\At w ao b o l/\dE w b o n/\(l=[]\/(B<=b/\b < T))
theorem l4(w:World)(B T:Nat):rW w B T none 0 0 0:=⟨0,0,[],rfl,Nat.le_refl _,jo,⟨.inl rfl,fun i hi=>by simp at hi⟩,fun i hi=>by omega,.inl rfl⟩
theorem ky{w':World}(h:dI w w' v r)(g:IsN r x):∃ a c,v=.slice a r.length c/\rW w' w.heap.size w'.heap.size a r.length c x:=by
 obtain⟨f,b,o,c,e,j,i,d,k⟩:=h.is;refine⟨f,c,e,b,o,r,rfl,j,g,d,k,?_⟩;rcases d.lt with e | e
 ·exact .inl e
 ·exact .inr ⟨i,e⟩
def fW(x y:Int):Int:=if y<=x then x - y else 0
def ki(x y:Int):Int:=if y<=x then 0 else 10
theorem fAdd(h:aU w ao n c x)(z:aU w ao' n' c' y)(hn:n<=1099511627776)(i:n'<=1099511627776) :
  Calls Tryz.prog 23 #[.slice ao n c,.slice ao' n' c'] w fun e w'=>∃ a k d,e=.returned (.slice a k d)/\rW w' w.heap.size w'.heap.size a k d (x+y)/\k<=n+n' + 1/\Below w.heap.size w w':=by
 obtain⟨b,o,l,t,B,E,u,rfl⟩:=h.ex;obtain⟨s,F,D,f,m,j,p,rfl⟩:=z.ex;refine(CM ao n c b o ao' n' c' s F l D w t f B m hn i E j u p).mono ?_
 rintro e w' ⟨v,r,rfl,g,q,hlen,C⟩;obtain⟨a,d,rfl,A⟩:=ky g q;exact⟨a,_,d,rfl,A,hlen,C⟩
theorem fMul(h:aU w ao n c x)(z:aU w ao' n' c' y)(hn:n<=1099511627776)(i:n'<=1099511627776) :
  Calls Tryz.prog 24 #[.slice ao n c,.slice ao' n' c'] w fun e w'=>∃ a k d,e=.returned (.slice a k d)/\rW w' w.heap.size w'.heap.size a k d (x * y)/\k<=n+n'/\Below w.heap.size w w':=by
 obtain⟨b,o,l,t,B,E,u,rfl⟩:=h.ex;obtain⟨s,F,D,f,m,j,p,rfl⟩:=z.ex;refine(qc ao n c b o ao' n' c' s F l D w t f B m hn i E j u p).mono ?_
 rintro e w' ⟨v,r,rfl,g,q,hlen,C⟩;obtain⟨a,d,rfl,A⟩:=ky g q;exact⟨a,_,d,rfl,A,hlen,C⟩
theorem fSub(h:aU w ao n c x)(F:aU w ao' n' c' y)(hn:n<=1099511627776)(i:n'<=1099511627776) :
  Calls Tryz.prog 72 #[.slice ao n c,.slice ao' n' c'] w fun e w'=>∃ a k d,e=.returned (.tuple #[.slice a k d,.int .i64 (ki x y)])/\rW w' w.heap.size w'.heap.size a k d (fW x y)/\k<=n/\Below w.heap.size w w':=by
 obtain⟨b,o,l,z,B,C,A,rfl⟩:=h.ex;obtain⟨u,D,t,g,m,j,p,rfl⟩:=F.ex;unfold ki fW;by_cases f:val t<=val l
 ·rw[if_pos f,if_pos f];refine(sub_ge ao n c b o ao' n' c' u D l t w z g B m hn i C j A p f).mono ?_
  rintro e w' ⟨v,r,rfl,q,E,hlen,s⟩;obtain⟨a,d,rfl,G⟩:=ky q E;exact⟨a,_,d,rfl,G,hlen,s⟩
 ·rw[if_neg f,if_neg f];refine(sub_lt ao n c b o ao' n' c' u D l t w z g B m hn i C j A p (by omega)).mono ?_
  rintro e w' ⟨rfl,s⟩;exact⟨none,0,0,rfl,l4 _ _ _,Nat.zero_le _,s⟩
def Da(x y:Int):Int:=if y=0 then 0 else x % y
def jH(y:Int):Int:=if y=0 then 11 else 0
theorem CR{ad:Option Addr}{i p:Nat}{z:Int}(h:aU w ao n c x)(L:aU w ao' n' c' y)(M:aU w ad i p z)(hn:n<=274877906944)(j:n'<=274877906944)(g:i<=274877906944) :
  Calls Tryz.prog 93 #[.slice ao n c,.slice ao' n' c',.slice ad i p] w fun e w'=>∃ a k d a' k' d',e=.returned (.tuple #[.slice a k d,.slice a' k' d',.int .i64 (jH z)])/\rW w' w.heap.size w'.heap.size a k d (x * y / z)/\rW w' w.heap.size w'.heap.size a' k' d' (Da (x * y) z)/\k<=n+n'/\k'<=n+n' + i/\Below w.heap.size w w':=by
 by_cases f:z=0
 ·unfold Da jH;rw[if_pos f,if_pos f]
  have Z:x * y / z=0:=by rw[f,Int.ediv_zero]
  rw[Z];refine(qY h L M hn j g f).mono ?_
  rintro e w' ⟨rfl,B⟩;exact⟨none,0,0,none,0,0,rfl,l4 _ _ _,l4 _ _ _,Nat.zero_le _,Nat.zero_le _,B⟩
 ·unfold Da jH;rw[if_neg f,if_neg f];obtain⟨b,o,l,U,O,Q,N,rfl⟩:=h.ex;obtain⟨S,o',P,G,J,A,C,rfl⟩:=L.ex;obtain⟨W,T,V,D,q,K,H,rfl⟩:=M.ex;refine(sk ao n c b o ao' n' c' S o' ad i p W T l P V w U G D O J q hn j g Q A K N C H f).mono ?_
  rintro e w' ⟨v,u,r,s,rfl,F,E,R,Y,m,t,B⟩;obtain⟨a,d,rfl,X⟩:=ky F R;obtain⟨a',d',rfl,I⟩:=ky E Y;exact⟨a,_,d,a',_,d',rfl,X,I,m,t,B⟩
end
end Fo
end
section
open Go.RowKit Lim
section
variable {w:World}{ao ao':Option Addr}{n c:Nat}{x:Int}
theorem dCmp{n' c':Nat}{y:Int}(h:aU w ao n c x)(b:aU w ao' n' c' y)(hn:n<=1099511627776)(d:n'<=1099511627776) :
  Calls Tryz.prog 28 #[.agg #[.slice ao n c],.agg #[.slice ao' n' c']] w fun e w'=>e=.returned (.int .i64 (sgn x y))/\Below w.heap.size w w':=by
 have f:=lO w (.cells #[.slice ao n c] 32) (.cells #[.slice ao' n' c'] 32);have h:=h.keep f
 have b:=b.keep f;go_enter Tryz.func28,Tryz.ntmps28;go_wp2_with fail;refine(nCmp h b hn d).mono ?_
 rintro e i ⟨rfl,g⟩;go_wp2;go_ret;exact⟨rfl,ax f g⟩
theorem D1(h:aU w ao n c x)(hn:n<=1099511627776) :
  Calls Tryz.prog 21 #[.agg #[.slice ao n c]] w fun e w'=>e=.returned (.bool (decide (x=0)))/\Below w.heap.size w w':=by
 have d:=ae w (.cells #[.slice ao n c] 32);have h:=h.keep d;have t:=nBits h hn;have hm:=r5 x h.pZ;by_cases hx:x=0
 ·have hm:=hm.2 hx;rw[hm] at t;rw[decide_eq_true hx];clear hm hx h;go_enter Tryz.func21,Tryz.ntmps21;go_wp2_with fail;refine t.mono ?_
  rintro e f ⟨rfl,b⟩;go_wp2;go_ret;exact⟨rfl,ax d b⟩
 ·have hm:bitLen x.toNat≠0:=fun e=>hx (hm.1 e)
  rw[decide_eq_false hx];generalize bitLen x.toNat=m at *;obtain⟨k,rfl⟩:∃ k,m=k+1:=⟨m - 1,by omega⟩
  clear hm hx h;go_enter Tryz.func21,Tryz.ntmps21;go_wp2_with fail;refine t.mono ?_
  rintro e f ⟨rfl,b⟩;go_wp2;go_ret;refine⟨?_,ax d b⟩;congr 2
theorem xN(n:Nat)(hn:n<=4096) :
  Calls Tryz.prog 111 #[.int .i64 n] w fun e w'=>∃ a k d,e=.returned (.slice a k d)/\dY w' a k d (10 ^ n)/\k<=n+2/\Below w.heap.size w w':=by
 go_enter Tryz.func111,Tryz.ntmps111;go_wp2_with fail;refine(nPow n hn).mono ?_
 rintro e g ⟨a,k,d,rfl,c,b,f⟩;go_wp2;go_ret;exact⟨a,k,d,rfl,c,b,f⟩
def U36:Int:=10 ^ 36
theorem DK:0 < U36:=by decide
theorem rT:Calls Tryz.prog 71 #[] w fun e w'=>∃ a k d,e=.returned (.slice a k d)/\dY w' a k d U36/\k<=38/\Below w.heap.size w w':=by
 go_enter Tryz.func71,Tryz.ntmps71;go_wp2_with fail;refine(xN 36 (by decide)).mono ?_
 rintro e g ⟨a,k,d,rfl,c,b,f⟩;go_wp2;go_ret;exact⟨a,k,d,rfl,c,b,f⟩
theorem dOfNat(h:aU w ao n c x)(hn:n<=1099511627776) :
  Calls Tryz.prog 46 #[.slice ao n c] w fun e w'=>∃ a k d,e=.returned (.agg #[.slice a k d])/\dY w' a k d (x * U36)/\k<=n+38/\Below w.heap.size w w':=by
 have i:=ae w (.cells #[.slice none 0 0] 32);have m:=eR w (.slice none 0 0) 32;have h:=h.keep i;go_enter Tryz.func46,Tryz.ntmps46;go_wp2_with fail;refine rT.mono ?_
 rintro e v ⟨a,k,d,rfl,r,y,b⟩;have h:=h.keep b;have m:=m.keep b;have i:=ax i b;clear b;go_wp2_with fail;refine(nMul h r.a hn (by omega)).mono ?_
 rintro e z ⟨p,l,o,rfl,f,s,b⟩;have j:=m.keep b;have c1:=j.cell;have f1:=j.free;have u:=j.put (.slice p l o);have q:=f.put j o9 (.slice p l o);have t:=qA i b (g:=w.heap.size) (Nat.le_refl _) (.slice p l o);clear h r f b m j i;go_wp2;refine bodyPost_ret (lI rfl rfl u) rfl ?_
 exact⟨p,l,o,rfl,q,by omega,t⟩
theorem dTrunc(h:aU w ao n c x)(hn:n<=1099511627776) :
  Calls Tryz.prog 37 #[.agg #[.slice ao n c]] w fun e w'=>∃ a k d a' k' d',e=.returned (.tuple #[.slice a k d,.agg #[.slice a' k' d']])/\dY w' a k d (x / U36)/\dY w' a' k' d' (x % U36)/\k<=n/\k'<=n+38/\Below w.heap.size w w':=by
 have l:=lO w (.cells #[.slice ao n c] 32) (.cells #[.slice none 0 0] 32);have o:=l8 w (.cells #[.slice ao n c] 32) (.slice none 0 0) 32;have m:=(eR w (.slice ao n c) 32).alloc (.cells #[.slice none 0 0] 32);have h:=h.keep l;go_enter Tryz.func37,Tryz.ntmps37;go_wp2_with fail
 go_region_with (first
  | (go_at_call 71;refine rT.mono ?_;rintro e v ⟨a,k,d,rfl,q,y,b⟩;have o:=o.drew.keep b;have m:=m.drew.keep b;have u:=m.cell;have l:=ax l.drew b;have h:=h.drew.keep b;clear b)
  | (go_at_call 70;refine(nDiv h q.a hn (by omega) (by decide)).mono ?_;rintro e z ⟨a1,k1,d1,a2,k2,d2,rfl,f,i,p,t,b⟩;have j:=o.keep b;have c1:=j.cell;have f1:=j.free;have s:=j.put (.slice a2 k2 d2);have f:=f.put j o9 (.slice a2 k2 d2);have i:=i.put j o9 (.slice a2 k2 d2);have r:=qA l b (g:=w.heap.size+1) (by omega) (.slice a2 k2 d2);clear h q b o j l u m))
 all_goals go_wp2
 all_goals refine bodyPost_ret (rM rfl rfl rfl s) rfl ?_
 all_goals exact⟨a1,k1,d1,a2,k2,d2,rfl,f,i,p,by omega,r⟩
end
end
end Go.Proofs.YthfepflplbahkaaGreatDoor
