import Derived.Test.YtjejmkcjflhoiaaGreatDoorJaa
import Derived.Handy
set_option maxRecDepth 100000
set_option maxHeartbeats 8000000
namespace Go.Proofs.YtjejmkcjflhoiaaGreatDoor
section
namespace Fo
open Go.RowKit Lim
section
variable {w:World}{v:Value}{r:List Int}{x y:Int}{ao ao':Option Addr}{n c n' c':Nat}
structure om(w:World)(B T:Nat)(ao:Option Addr)(n c:Nat)(x:Int):Prop where
 ex:∃ b o l,l.length=n/\n<=c/\IsN l x/\At w ao b o l/\dI w b o n/\(l=[]\/(B<=b/\b < T))
theorem iD(w:World)(B T:Nat):om w B T none 0 0 0:=⟨0,0,[],rfl,Nat.le_refl _,jM,⟨.inl rfl,fun i hi=>by simp at hi⟩,fun i hi=>by omega,.inl rfl⟩
theorem iz{w':World}(h:dK w w' v r)(g:IsN r x):∃ a c,v=.slice a r.length c/\om w' w.heap.size w'.heap.size a r.length c x:=by
 obtain⟨j,b,o,c,e,f,i,d,k⟩:=h.is;refine⟨j,c,e,b,o,r,rfl,f,g,d,k,?_⟩;rcases d.lt with e | e
 ·exact .inl e
 ·exact .inr ⟨i,e⟩
def ky(x y:Int):Int:=if y<=x then x - y else 0
def kI(x y:Int):Int:=if y<=x then 0 else 10
theorem fAdd(h:aY w ao n c x)(z:aY w ao' n' c' y)(hn:n<=1099511627776)(j:n'<=1099511627776) :
  Calls Tryz.prog 34 #[.slice ao n c,.slice ao' n' c'] w fun e w'=>∃ a k d,e=.returned (.slice a k d)/\om w' w.heap.size w'.heap.size a k d (x+y)/\k<=n+n' + 1/\Below w.heap.size w w':=by
 obtain⟨b,o,l,s,C,D,u,rfl⟩:=h.ex;obtain⟨q,t,A,g,f,i,p,rfl⟩:=z.ex;refine(CW ao n c b o ao' n' c' q t l A w s g C f hn j D i u p).mono ?_
 rintro e w' ⟨v,r,rfl,m,B,hlen,E⟩;obtain⟨a,d,rfl,F⟩:=iz m B;exact⟨a,_,d,rfl,F,hlen,E⟩
theorem fMul(h:aY w ao n c x)(z:aY w ao' n' c' y)(hn:n<=1099511627776)(j:n'<=1099511627776) :
  Calls Tryz.prog 60 #[.slice ao n c,.slice ao' n' c'] w fun e w'=>∃ a k d,e=.returned (.slice a k d)/\om w' w.heap.size w'.heap.size a k d (x * y)/\k<=n+n'/\Below w.heap.size w w':=by
 obtain⟨b,o,l,s,C,D,u,rfl⟩:=h.ex;obtain⟨q,t,A,g,f,i,p,rfl⟩:=z.ex;refine(pM ao n c b o ao' n' c' q t l A w s g C f hn j D i u p).mono ?_
 rintro e w' ⟨v,r,rfl,m,B,hlen,E⟩;obtain⟨a,d,rfl,F⟩:=iz m B;exact⟨a,_,d,rfl,F,hlen,E⟩
theorem fSub(h:aY w ao n c x)(E:aY w ao' n' c' y)(hn:n<=1099511627776)(m:n'<=1099511627776) :
  Calls Tryz.prog 63 #[.slice ao n c,.slice ao' n' c'] w fun e w'=>∃ a k d,e=.returned (.tuple #[.slice a k d,.int .i64 (kI x y)])/\om w' w.heap.size w'.heap.size a k d (ky x y)/\k<=n/\Below w.heap.size w w':=by
 obtain⟨b,o,l,z,C,D,B,rfl⟩:=h.ex;obtain⟨u,A,q,i,g,j,p,rfl⟩:=E.ex;unfold kI ky;by_cases f:val q<=val l
 ·rw[if_pos f,if_pos f];refine(sub_ge ao n c b o ao' n' c' u A l q w z i C g hn m D j B p f).mono ?_
  rintro e w' ⟨v,r,rfl,s,F,hlen,t⟩;obtain⟨a,d,rfl,G⟩:=iz s F;exact⟨a,_,d,rfl,G,hlen,t⟩
 ·rw[if_neg f,if_neg f];refine(sub_lt ao n c b o ao' n' c' u A l q w z i C g hn m D j B p (by omega)).mono ?_
  rintro e w' ⟨rfl,t⟩;exact⟨none,0,0,rfl,iD _ _ _,Nat.zero_le _,t⟩
def rA(x y:Int):Int:=if y=0 then 0 else x % y
def gm(y:Int):Int:=if y=0 then 11 else 0
theorem fDiv(h:aY w ao n c x)(C:aY w ao' n' c' y)(hn:n<=1099511627776)(g:n'<=1099511627776) :
  Calls Tryz.prog 58 #[.slice ao n c,.slice ao' n' c'] w fun e w'=>∃ a k d a' k' d',e=.returned (.tuple #[.slice a k d,.slice a' k' d',.int .i64 (gm y)])/\om w' w.heap.size w'.heap.size a k d (x / y)/\om w' w.heap.size w'.heap.size a' k' d' (rA x y)/\k<=n/\k'<=n+n'/\Below w.heap.size w w':=by
 by_cases f:y=0
 ·unfold rA gm;rw[if_pos f,if_pos f,f,Int.ediv_zero];refine(rV C g f).mono ?_
  rintro e w' ⟨rfl,rfl⟩;exact⟨none,0,0,none,0,0,rfl,iD _ _ _,iD _ _ _,Nat.zero_le _,Nat.zero_le _,Below.refl _ _⟩
 ·unfold rA gm;rw[if_neg f,if_neg f];obtain⟨b,o,l,I,E,F,K,rfl⟩:=h.ex;obtain⟨H,D,L,j,q,z,B,rfl⟩:=C.ex;refine(pZ ao n c b o ao' n' c' H D l L w I j E q hn g F z K B f).mono ?_
  rintro e w' ⟨v,u,r,s,rfl,m,t,M,J,A,p,N⟩;obtain⟨a,d,rfl,G⟩:=iz m M;obtain⟨a',d',rfl,i⟩:=iz t J;exact⟨a,_,d,a',_,d',rfl,G,i,A,p,N⟩
theorem D1{ad:Option Addr}{g t:Nat}{z:Int}(h:aY w ao n c x)(L:aY w ao' n' c' y)(hd:aY w ad g t z)(hn:n<=274877906944)(j:n'<=274877906944)(i:g<=274877906944) :
  Calls Tryz.prog 106 #[.slice ao n c,.slice ao' n' c',.slice ad g t] w fun e w'=>∃ a k d a' k' d',e=.returned (.tuple #[.slice a k d,.slice a' k' d',.int .i64 (gm z)])/\om w' w.heap.size w'.heap.size a k d (x * y / z)/\om w' w.heap.size w'.heap.size a' k' d' (rA (x * y) z)/\k<=n+n'/\k'<=n+n' + g/\Below w.heap.size w w':=by
 by_cases f:z=0
 ·unfold rA gm;rw[if_pos f,if_pos f]
  have X:x * y / z=0:=by rw[f,Int.ediv_zero]
  rw[X];refine(re h L hd hn j i f).mono ?_
  rintro e w' ⟨rfl,J⟩;exact⟨none,0,0,none,0,0,rfl,iD _ _ _,iD _ _ _,Nat.zero_le _,Nat.zero_le _,J⟩
 ·unfold rA gm;rw[if_neg f,if_neg f];obtain⟨b,o,l,T,O,P,W,rfl⟩:=h.ex;obtain⟨S,M,Y,q,D,H,K,rfl⟩:=L.ex;obtain⟨R,N,U,F,G,B,m,rfl⟩:=hd.ex;refine(uP ao n c b o ao' n' c' S M ad g t R N l Y U w T q F O D G hn j i P H B W K m f).mono ?_
  rintro e w' ⟨v,u,r,s,rfl,A,E,Z,V,I,C,J⟩;obtain⟨a,d,rfl,Q⟩:=iz A Z;obtain⟨a',d',rfl,p⟩:=iz E V;exact⟨a,_,d,a',_,d',rfl,Q,p,I,C,J⟩
end
end Fo
end
section
open Go.RowKit Lim
section
variable {w:World}{ao:Option Addr}{n c:Nat}{x:Int}
theorem E3(h:aY w ao n c x)(hn:n<=1099511627776) :
  Calls Tryz.prog 22 #[.agg #[.slice ao n c]] w fun e w'=>e=.returned (.bool (decide (x=0)))/\Below w.heap.size w w':=by
 have b:=ae w (.cells #[.slice ao n c] 32);have h:=h.keep b;have t:=nBits h hn;have hm:=ri x h.vx;by_cases hx:x=0
 ·have hm:=hm.2 hx;rw[hm] at t;rw[decide_eq_true hx];clear hm hx h;go_enter Tryz.func22,Tryz.ntmps22;go_wp2_with fail;refine t.mono ?_
  rintro e f ⟨rfl,d⟩;go_wp2;go_ret;exact⟨rfl,aA b d⟩
 ·have hm:bitLen x.toNat≠0:=fun e=>hx (hm.1 e)
  rw[decide_eq_false hx];generalize bitLen x.toNat=m at *;obtain⟨k,rfl⟩:∃ k,m=k+1:=⟨m - 1,by omega⟩
  clear hm hx h;go_enter Tryz.func22,Tryz.ntmps22;go_wp2_with fail;refine t.mono ?_
  rintro e f ⟨rfl,d⟩;go_wp2;go_ret;refine⟨?_,aA b d⟩;congr 2
theorem BU(n:Nat)(hn:n<=4096) :
  Calls Tryz.prog 93 #[.int .i64 n] w fun e w'=>∃ a k d,e=.returned (.slice a k d)/\eh w' a k d (10 ^ n)/\k<=n+2/\Below w.heap.size w w':=by
 go_enter Tryz.func93,Tryz.ntmps93;go_wp2_with fail;refine(nPow n hn).mono ?_
 rintro e g ⟨a,k,d,rfl,f,b,c⟩;go_wp2;go_ret;exact⟨a,k,d,rfl,f,b,c⟩
def U36:Int:=10 ^ 36
theorem Dn:0 < U36:=by decide
theorem oN:Calls Tryz.prog 59 #[] w fun e w'=>∃ a k d,e=.returned (.slice a k d)/\eh w' a k d U36/\k<=38/\Below w.heap.size w w':=by
 go_enter Tryz.func59,Tryz.ntmps59;go_wp2_with fail;refine(BU 36 (by decide)).mono ?_
 rintro e g ⟨a,k,d,rfl,f,b,c⟩;go_wp2;go_ret;exact⟨a,k,d,rfl,f,b,c⟩
theorem dOfNat(h:aY w ao n c x)(hn:n<=1099511627776) :
  Calls Tryz.prog 45 #[.slice ao n c] w fun e w'=>∃ a k d,e=.returned (.agg #[.slice a k d])/\eh w' a k d (x * U36)/\k<=n+38/\Below w.heap.size w w':=by
 have i:=ae w (.cells #[.slice none 0 0] 32);have m:=ff w (.slice none 0 0) 32;have h:=h.keep i;go_enter Tryz.func45,Tryz.ntmps45;go_wp2_with fail;refine oN.mono ?_
 rintro e z ⟨a,k,d,rfl,r,v,b⟩;have h:=h.keep b;have m:=m.keep b;have i:=aA i b;clear b;go_wp2_with fail;refine(nMul h r.a hn (by omega)).mono ?_
 rintro e y ⟨l,p,o,rfl,f,t,b⟩;have j:=m.keep b;have c1:=j.cell;have f1:=j.free;have s:=j.put (.slice l p o);have q:=f.put j q9 (.slice l p o);have u:=sG i b (g:=w.heap.size) (Nat.le_refl _) (.slice l p o);clear h r f b m j i;go_wp2;refine bodyPost_ret (lW rfl rfl s) rfl ?_
 exact⟨l,p,o,rfl,q,by omega,u⟩
theorem dTrunc(h:aY w ao n c x)(hn:n<=1099511627776) :
  Calls Tryz.prog 26 #[.agg #[.slice ao n c]] w fun e w'=>∃ a k d a' k' d',e=.returned (.tuple #[.slice a k d,.agg #[.slice a' k' d']])/\eh w' a k d (x / U36)/\eh w' a' k' d' (x % U36)/\k<=n/\k'<=n+38/\Below w.heap.size w w':=by
 have m:=qy w (.cells #[.slice ao n c] 32) (.cells #[.slice none 0 0] 32);have p:=nm w (.cells #[.slice ao n c] 32) (.slice none 0 0) 32;have o:=(ff w (.slice ao n c) 32).alloc (.cells #[.slice none 0 0] 32);have h:=h.keep m;go_enter Tryz.func26,Tryz.ntmps26;go_wp2_with fail
 go_region_with (first
  | (go_at_call 59;refine oN.mono ?_;rintro e y ⟨a,k,d,rfl,r,z,b⟩;have p:=p.drew.keep b;have o:=o.drew.keep b;have t:=o.cell;have m:=aA m.drew b;have h:=h.drew.keep b;clear b)
  | (go_at_call 58;refine(nDiv h r.a hn (by omega) (by decide)).mono ?_;rintro e A ⟨a1,k1,d1,a2,l,d2,rfl,i,f,q,s,b⟩;have j:=p.keep b;have c1:=j.cell;have f1:=j.free;have u:=j.put (.slice a2 l d2);have i:=i.put j q9 (.slice a2 l d2);have f:=f.put j q9 (.slice a2 l d2);have v:=sG m b (g:=w.heap.size+1) (by omega) (.slice a2 l d2);clear h r b p j m t o))
 all_goals go_wp2
 all_goals refine bodyPost_ret (rN rfl rfl rfl u) rfl ?_
 all_goals exact⟨a1,k1,d1,a2,l,d2,rfl,i,f,q,by omega,v⟩
end
end
end Go.Proofs.YtjejmkcjflhoiaaGreatDoor
