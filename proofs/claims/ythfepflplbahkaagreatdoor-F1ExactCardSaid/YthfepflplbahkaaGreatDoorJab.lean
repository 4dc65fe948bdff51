/- Several texts, joined: FoF, Dec1. -/
import Derived.Test.YthfepflplbahkaaGreatDoorJaa
import Derived.Handy
set_option maxRecDepth 100000
set_option maxHeartbeats 8000000
namespace Go.Proofs.YthfepflplbahkaaGreatDoor
section
namespace Fo
open Go.RowKit Lim
section
variable {w:World}{v:Value}{r:List Int}{x y:Int}{ao ao':Option Addr}{n c n' c':Nat}
structure rJ(w:World)(B T:Nat)(ao:Option Addr)(n c:Nat)(x:Int):Prop where
 ex:∃ b o l,l.length=n/\n<=c/\IsN l x/\At w ao b o l/\dD w b o n/\(l=[]\/(B<=b/\b < T))
theorem lP(w:World)(B T:Nat):rJ w B T none 0 0 0:=⟨0,0,[],rfl,Nat.le_refl _,jR,⟨.inl rfl,fun i hi=>by simp at hi⟩,fun i hi=>by omega,.inl rfl⟩
theorem j5{w':World}(h:dH w w' v r)(k:IsN r x):∃ a c,v=.slice a r.length c/\rJ w' w.heap.size w'.heap.size a r.length c x:=by
 obtain⟨j,b,o,c,e,i,f,d,g⟩:=h.is;refine⟨j,c,e,b,o,r,rfl,i,k,d,g,?_⟩;rcases d.lt with e | e
 ·exact .inl e
 ·exact .inr ⟨f,e⟩
def iP(x y:Int):Int:=if y<=x then x - y else 0
def kE(x y:Int):Int:=if y<=x then 0 else 10
theorem fAdd(h:aQ w ao n c x)(t:aQ w ao' n' c' y)(hn:n<=1099511627776)(p:n'<=1099511627776) :
  Calls Tryz.prog 23 #[.slice ao n c,.slice ao' n' c'] w fun e w'=>∃ a k d,e=.returned (.slice a k d)/\rJ w' w.heap.size w'.heap.size a k d (x + y)/\k<=n + n' + 1/\Below w.heap.size w w':=by
 obtain⟨b,o,l,E,q,A,B,rfl⟩:=h.ex;obtain⟨C,D,u,f,m,i,g,rfl⟩:=t.ex;refine(B9 ao n c b o ao' n' c' C D l u w E f q m hn p A i B g).mono ?_
 rintro e w' ⟨v,r,rfl,j,z,hlen,s⟩;obtain⟨a,d,rfl,F⟩:=j5 j z;exact⟨a,_,d,rfl,F,hlen,s⟩
theorem fMul(h:aQ w ao n c x)(t:aQ w ao' n' c' y)(hn:n<=1099511627776)(p:n'<=1099511627776) :
  Calls Tryz.prog 24 #[.slice ao n c,.slice ao' n' c'] w fun e w'=>∃ a k d,e=.returned (.slice a k d)/\rJ w' w.heap.size w'.heap.size a k d (x * y)/\k<=n + n'/\Below w.heap.size w w':=by
 obtain⟨b,o,l,E,q,A,B,rfl⟩:=h.ex;obtain⟨C,D,u,f,m,i,g,rfl⟩:=t.ex;refine(qk ao n c b o ao' n' c' C D l u w E f q m hn p A i B g).mono ?_
 rintro e w' ⟨v,r,rfl,j,z,hlen,s⟩;obtain⟨a,d,rfl,F⟩:=j5 j z;exact⟨a,_,d,rfl,F,hlen,s⟩
theorem fSub(h:aQ w ao n c x)(E:aQ w ao' n' c' y)(hn:n<=1099511627776)(p:n'<=1099511627776) :
  Calls Tryz.prog 72 #[.slice ao n c,.slice ao' n' c'] w fun e w'=>∃ a k d,e=.returned (.tuple #[.slice a k d,.int .i64 (kE x y)])/\rJ w' w.heap.size w'.heap.size a k d (iP x y)/\k<=n/\Below w.heap.size w w':=by
 obtain⟨b,o,l,D,u,z,A,rfl⟩:=h.ex;obtain⟨B,C,s,g,m,j,i,rfl⟩:=E.ex;unfold kE iP;by_cases f:val s<=val l
 ·rw[if_pos f,if_pos f];refine(sub_ge ao n c b o ao' n' c' B C l s w D g u m hn p z j A i f).mono ?_
  rintro e w' ⟨v,r,rfl,t,F,hlen,q⟩;obtain⟨a,d,rfl,G⟩:=j5 t F;exact⟨a,_,d,rfl,G,hlen,q⟩
 ·rw[if_neg f,if_neg f];refine(sub_lt ao n c b o ao' n' c' B C l s w D g u m hn p z j A i (by omega)).mono ?_
  rintro e w' ⟨rfl,q⟩;exact⟨none,0,0,rfl,lP _ _ _,Nat.zero_le _,q⟩
def Ca(x y:Int):Int:=if y=0 then 0 else x % y
def jg(y:Int):Int:=if y=0 then 11 else 0
theorem BO{ad:Option Addr}{g H:Nat}{z:Int}(h:aQ w ao n c x)(L:aQ w ao' n' c' y)(M:aQ w ad g H z)(hn:n<=274877906944)(j:n'<=274877906944)(i:g<=274877906944) :
  Calls Tryz.prog 93 #[.slice ao n c,.slice ao' n' c',.slice ad g H] w fun e w'=>∃ a k d a' k' d',e=.returned (.tuple #[.slice a k d,.slice a' k' d',.int .i64 (jg z)])/\rJ w' w.heap.size w'.heap.size a k d (x * y / z)/\rJ w' w.heap.size w'.heap.size a' k' d' (Ca (x * y) z)/\k<=n + n'/\k'<=n + n' + g/\Below w.heap.size w w':=by
 by_cases f:z=0
 ·unfold Ca jg;rw[if_pos f,if_pos f]
  have R:x * y / z=0:=by rw[f,Int.ediv_zero]
  rw[R];refine(rL h L M hn j i f).mono ?_
  rintro e w' ⟨rfl,D⟩;exact⟨none,0,0,none,0,0,rfl,lP _ _ _,lP _ _ _,Nat.zero_le _,Nat.zero_le _,D⟩
 ·unfold Ca jg;rw[if_neg f,if_neg f];obtain⟨b,o,l,T,V,X,Q,rfl⟩:=h.ex;obtain⟨S,o',N,A,G,F,B,rfl⟩:=L.ex;obtain⟨O,Z,Y,E,J,m,I,rfl⟩:=M.ex;refine(sk ao n c b o ao' n' c' S o' ad g H O Z l N Y w T A E V G J hn j i X F m Q B I f).mono ?_
  rintro e w' ⟨v,u,r,s,rfl,t,K,W,P,p,C,D⟩;obtain⟨a,d,rfl,U⟩:=j5 t W;obtain⟨a',d',rfl,q⟩:=j5 K P;exact⟨a,_,d,a',_,d',rfl,U,q,p,C,D⟩
end
end Fo
end
section
open Go.RowKit Lim
section
variable {w:World}{ao:Option Addr}{n c:Nat}{x:Int}
theorem DV(h:aQ w ao n c x)(hn:n<=1099511627776) :
  Calls Tryz.prog 21 #[.agg #[.slice ao n c]] w fun e w'=>e=.returned (.bool (decide (x=0)))/\Below w.heap.size w w':=by
 have b:=ae w (.cells #[.slice ao n c] 32);have h:=h.keep b;have t:=nBits h hn;have hm:=rR x h.my;by_cases hx:x=0
 ·have hm:=hm.2 hx;rw[hm] at t;rw[decide_eq_true hx];clear hm hx h;go_enter Tryz.func21,Tryz.ntmps21;go_wp2_with fail;refine t.mono ?_
  rintro e d ⟨rfl,a⟩;go_wp2;go_ret;exact⟨rfl,aj b a⟩
 ·have hm:bitLen x.toNat≠0:=fun e=>hx (hm.1 e)
  rw[decide_eq_false hx];generalize bitLen x.toNat=m at *;obtain⟨k,rfl⟩:∃ k,m=k + 1:=⟨m - 1,by omega⟩
  clear hm hx h;go_enter Tryz.func21,Tryz.ntmps21;go_wp2_with fail;refine t.mono ?_
  rintro e d ⟨rfl,a⟩;go_wp2;go_ret;refine⟨?_,aj b a⟩;congr 2
theorem xM(n:Nat)(hn:n<=4096) :
  Calls Tryz.prog 111 #[.int .i64 n] w fun e w'=>∃ a k d,e=.returned (.slice a k d)/\ec w' a k d (10 ^ n)/\k<=n + 2/\Below w.heap.size w w':=by
 go_enter Tryz.func111,Tryz.ntmps111;go_wp2_with fail;refine(nPow n hn).mono ?_
 rintro e g ⟨a,k,d,rfl,c,f,b⟩;go_wp2;go_ret;exact⟨a,k,d,rfl,c,f,b⟩
def U36:Int:=10 ^ 36
theorem pD:0 < U36:=by decide
theorem rA:Calls Tryz.prog 71 #[] w fun e w'=>∃ a k d,e=.returned (.slice a k d)/\ec w' a k d U36/\k<=38/\Below w.heap.size w w':=by
 go_enter Tryz.func71,Tryz.ntmps71;go_wp2_with fail;refine(xM 36 (by decide)).mono ?_
 rintro e g ⟨a,k,d,rfl,c,f,b⟩;go_wp2;go_ret;exact⟨a,k,d,rfl,c,f,b⟩
theorem dOfNat(h:aQ w ao n c x)(hn:n<=1099511627776) :
  Calls Tryz.prog 46 #[.slice ao n c] w fun e w'=>∃ a k d,e=.returned (.agg #[.slice a k d])/\ec w' a k d (x * U36)/\k<=n + 38/\Below w.heap.size w w':=by
 have j:=ae w (.cells #[.slice none 0 0] 32);have o:=eH w (.slice none 0 0) 32;have h:=h.keep j;go_enter Tryz.func46,Tryz.ntmps46;go_wp2_with fail;refine rA.mono ?_
 rintro e y ⟨a,k,d,rfl,r,z,b⟩;have h:=h.keep b;have o:=o.keep b;have j:=aj j b;clear b;go_wp2_with fail;refine(nMul h r.a hn (by omega)).mono ?_
 rintro e v ⟨m,l,p,rfl,f,t,b⟩;have i:=o.keep b;have c1:=i.cell;have f1:=i.free;have u:=i.put (.slice m l p);have q:=f.put i pW (.slice m l p);have s:=rD j b (g:=w.heap.size) (Nat.le_refl _) (.slice m l p);clear h r f b o i j;go_wp2;refine bodyPost_ret (lB rfl rfl u) rfl ?_
 exact⟨m,l,p,rfl,q,by omega,s⟩
theorem dTrunc(h:aQ w ao n c x)(hn:n<=1099511627776) :
  Calls Tryz.prog 37 #[.agg #[.slice ao n c]] w fun e w'=>∃ a k d a' k' d',e=.returned (.tuple #[.slice a k d,.agg #[.slice a' k' d']])/\ec w' a k d (x / U36)/\ec w' a' k' d' (x % U36)/\k<=n/\k'<=n + 38/\Below w.heap.size w w':=by
 have l:=oK w (.cells #[.slice ao n c] 32) (.cells #[.slice none 0 0] 32);have m:=mz w (.cells #[.slice ao n c] 32) (.slice none 0 0) 32;have o:=(eH w (.slice ao n c) 32).alloc (.cells #[.slice none 0 0] 32);have h:=h.keep l;go_enter Tryz.func37,Tryz.ntmps37;go_wp2_with fail;go_region_with (first
  | (go_at_call 71; refine rA.mono ?_; rintro e y ⟨a,k,d,rfl,q,z,b⟩; have m:=m.drew.keep b; have o:=o.drew.keep b; have s:=o.cell; have l:=aj l.drew b; have h:=h.drew.keep b; clear b)
  | (go_at_call 70; refine(nDiv h q.a hn (by omega) (by decide)).mono ?_; rintro e v ⟨a1,k1,d1,a2,k2,d2,rfl,i,f,p,t,b⟩; have j:=m.keep b; have c1:=j.cell; have f1:=j.free; have u:=j.put (.slice a2 k2 d2); have i:=i.put j pW (.slice a2 k2 d2); have f:=f.put j pW (.slice a2 k2 d2); have r:=rD l b (g:=w.heap.size + 1) (by omega) (.slice a2 k2 d2); clear h q b m j l s o))
 all_goals go_wp2
 all_goals refine bodyPost_ret (qu rfl rfl rfl u) rfl ?_
 all_goals exact⟨a1,k1,d1,a2,k2,d2,rfl,i,f,p,by omega,r⟩
end
end
end Go.Proofs.YthfepflplbahkaaGreatDoor
