import Derived.Test.YthfepflplbahkaaGreatDoorJaa
import Derived.Handy
set_option maxRecDepth 100000
set_option maxHeartbeats 8000000
namespace Go.Proofs.YthfepflplbahkaaGreatDoor
section
namespace Fo
open Go.RowKit Lim
section
variable {w:World}{v:Value}{r:List Int}{x y:Int}{ao ao':Option Addr}{n c n' c':Nat}
structure qU(w:World)(B T:Nat)(ao:Option Addr)(n c:Nat)(x:Int):Prop where
 ex:∃ b o l,l.length=n/\n<=c/\IsN l x/\At w ao b o l/\dD w b o n/\(l=[]\/(B<=b/\b < T))
theorem mD(w:World)(B T:Nat):qU w B T none 0 0 0:=⟨0,0,[],rfl,Nat.le_refl _,jz,⟨.inl rfl,fun i hi=>by simp at hi⟩,fun i hi=>by omega,.inl rfl⟩
theorem ko{w':World}(h:dI w w' v r)(g:IsN r x):∃ a c,v=.slice a r.length c/\qU w' w.heap.size w'.heap.size a r.length c x:=by
 obtain⟨j,b,o,c,e,f,k,d,i⟩:=h.is;refine⟨j,c,e,b,o,r,rfl,f,g,d,i,?_⟩;rcases d.lt with e | e
 ·exact .inl e
 ·exact .inr ⟨k,e⟩
def iO(x y:Int):Int:=if y<=x then x - y else 0
def j1(x y:Int):Int:=if y<=x then 0 else 10
theorem fAdd(h:aT w ao n c x)(E:aT w ao' n' c' y)(hn:n<=1099511627776)(m:n'<=1099511627776) :
  Calls Tryz.prog 23 #[.slice ao n c,.slice ao' n' c'] w fun e w'=>∃ a k d,e=.returned (.slice a k d)/\qU w' w.heap.size w'.heap.size a k d (x + y)/\k<=n + n' + 1/\Below w.heap.size w w':=by
 obtain⟨b,o,l,C,F,A,u,rfl⟩:=h.ex;obtain⟨D,z,B,g,i,p,f,rfl⟩:=E.ex;refine(Bw ao n c b o ao' n' c' D z l B w C g F i hn m A p u f).mono ?_
 rintro e w' ⟨v,r,rfl,j,s,hlen,t⟩;obtain⟨a,d,rfl,q⟩:=ko j s;exact⟨a,_,d,rfl,q,hlen,t⟩
theorem fMul(h:aT w ao n c x)(E:aT w ao' n' c' y)(hn:n<=1099511627776)(m:n'<=1099511627776) :
  Calls Tryz.prog 24 #[.slice ao n c,.slice ao' n' c'] w fun e w'=>∃ a k d,e=.returned (.slice a k d)/\qU w' w.heap.size w'.heap.size a k d (x * y)/\k<=n + n'/\Below w.heap.size w w':=by
 obtain⟨b,o,l,C,F,A,u,rfl⟩:=h.ex;obtain⟨D,z,B,g,i,p,f,rfl⟩:=E.ex;refine(oL ao n c b o ao' n' c' D z l B w C g F i hn m A p u f).mono ?_
 rintro e w' ⟨v,r,rfl,j,s,hlen,t⟩;obtain⟨a,d,rfl,q⟩:=ko j s;exact⟨a,_,d,rfl,q,hlen,t⟩
theorem fSub(h:aT w ao n c x)(G:aT w ao' n' c' y)(hn:n<=1099511627776)(m:n'<=1099511627776) :
  Calls Tryz.prog 72 #[.slice ao n c,.slice ao' n' c'] w fun e w'=>∃ a k d,e=.returned (.tuple #[.slice a k d,.int .i64 (j1 x y)])/\qU w' w.heap.size w'.heap.size a k d (iO x y)/\k<=n/\Below w.heap.size w w':=by
 obtain⟨b,o,l,B,D,A,u,rfl⟩:=h.ex;obtain⟨C,z,s,i,j,p,g,rfl⟩:=G.ex;unfold j1 iO;by_cases f:val s<=val l
 ·rw[if_pos f,if_pos f];refine(sub_ge ao n c b o ao' n' c' C z l s w B i D j hn m A p u g f).mono ?_
  rintro e w' ⟨v,r,rfl,t,F,hlen,q⟩;obtain⟨a,d,rfl,E⟩:=ko t F;exact⟨a,_,d,rfl,E,hlen,q⟩
 ·rw[if_neg f,if_neg f];refine(sub_lt ao n c b o ao' n' c' C z l s w B i D j hn m A p u g (by omega)).mono ?_
  rintro e w' ⟨rfl,q⟩;exact⟨none,0,0,rfl,mD _ _ _,Nat.zero_le _,q⟩
def Cm(x y:Int):Int:=if y=0 then 0 else x % y
def jF(y:Int):Int:=if y=0 then 11 else 0
theorem DD{ad:Option Addr}{g E:Nat}{z:Int}(h:aT w ao n c x)(L:aT w ao' n' c' y)(M:aT w ad g E z)(hn:n<=274877906944)(j:n'<=274877906944)(i:g<=274877906944) :
  Calls Tryz.prog 93 #[.slice ao n c,.slice ao' n' c',.slice ad g E] w fun e w'=>∃ a k d a' k' d',e=.returned (.tuple #[.slice a k d,.slice a' k' d',.int .i64 (jF z)])/\qU w' w.heap.size w'.heap.size a k d (x * y / z)/\qU w' w.heap.size w'.heap.size a' k' d' (Cm (x * y) z)/\k<=n + n'/\k'<=n + n' + g/\Below w.heap.size w w':=by
 by_cases f:z=0
 ·unfold Cm jF;rw[if_pos f,if_pos f]
  have R:x * y / z=0:=by rw[f,Int.ediv_zero]
  rw[R];refine(rC h L M hn j i f).mono ?_
  rintro e w' ⟨rfl,m⟩;exact⟨none,0,0,none,0,0,rfl,mD _ _ _,mD _ _ _,Nat.zero_le _,Nat.zero_le _,m⟩
 ·unfold Cm jF;rw[if_neg f,if_neg f];obtain⟨b,o,l,T,h2,X,Q,rfl⟩:=h.ex;obtain⟨U,W,S,F,G,B,C,rfl⟩:=L.ex;obtain⟨Y,N,Z,q,t,H,p,rfl⟩:=M.ex;refine(sf ao n c b o ao' n' c' U W ad g E Y N l S Z w T F q h2 G t hn j i X B H Q C p f).mono ?_
  rintro e w' ⟨v,u,r,s,rfl,A,K,O,P,D,J,m⟩;obtain⟨a,d,rfl,V⟩:=ko A O;obtain⟨a',d',rfl,I⟩:=ko K P;exact⟨a,_,d,a',_,d',rfl,V,I,D,J,m⟩
end
end Fo
end
section
open Go.RowKit Lim
section
variable {w:World}{ao:Option Addr}{n c:Nat}{x:Int}
theorem DI(h:aT w ao n c x)(hn:n<=1099511627776) :
  Calls Tryz.prog 21 #[.agg #[.slice ao n c]] w fun e w'=>e=.returned (.bool (decide (x=0)))/\Below w.heap.size w w':=by
 have d:=ae w (.cells #[.slice ao n c] 32);have h:=h.keep d;have t:=nBits h hn;have hm:=qP x h.mU;by_cases hx:x=0
 ·have hm:=hm.2 hx;rw[hm] at t;rw[decide_eq_true hx];clear hm hx h;go_enter Tryz.func21,Tryz.ntmps21;go_wp2_with fail;refine t.mono ?_
  rintro e f ⟨rfl,b⟩;go_wp2;go_ret;exact⟨rfl,aj d b⟩
 ·have hm:bitLen x.toNat≠0:=fun e=>hx (hm.1 e)
  rw[decide_eq_false hx];generalize bitLen x.toNat=m at *;obtain⟨k,rfl⟩:∃ k,m=k + 1:=⟨m - 1,by omega⟩
  clear hm hx h;go_enter Tryz.func21,Tryz.ntmps21;go_wp2_with fail;refine t.mono ?_
  rintro e f ⟨rfl,b⟩;go_wp2;go_ret;refine⟨?_,aj d b⟩;congr 2
theorem yr(n:Nat)(hn:n<=4096) :
  Calls Tryz.prog 111 #[.int .i64 n] w fun e w'=>∃ a k d,e=.returned (.slice a k d)/\dY w' a k d (10 ^ n)/\k<=n + 2/\Below w.heap.size w w':=by
 go_enter Tryz.func111,Tryz.ntmps111;go_wp2_with fail;refine(nPow n hn).mono ?_
 rintro e g ⟨a,k,d,rfl,b,f,c⟩;go_wp2;go_ret;exact⟨a,k,d,rfl,b,f,c⟩
def U36:Int:=10 ^ 36
theorem pJ:0 < U36:=by decide
theorem qC:Calls Tryz.prog 71 #[] w fun e w'=>∃ a k d,e=.returned (.slice a k d)/\dY w' a k d U36/\k<=38/\Below w.heap.size w w':=by
 go_enter Tryz.func71,Tryz.ntmps71;go_wp2_with fail;refine(yr 36 (by decide)).mono ?_
 rintro e g ⟨a,k,d,rfl,b,f,c⟩;go_wp2;go_ret;exact⟨a,k,d,rfl,b,f,c⟩
theorem dOfNat(h:aT w ao n c x)(hn:n<=1099511627776) :
  Calls Tryz.prog 46 #[.slice ao n c] w fun e w'=>∃ a k d,e=.returned (.agg #[.slice a k d])/\dY w' a k d (x * U36)/\k<=n + 38/\Below w.heap.size w w':=by
 have f:=ae w (.cells #[.slice none 0 0] 32);have p:=eP w (.slice none 0 0) 32;have h:=h.keep f;go_enter Tryz.func46,Tryz.ntmps46;go_wp2_with fail;refine qC.mono ?_
 rintro e v ⟨a,k,d,rfl,r,z,b⟩;have h:=h.keep b;have p:=p.keep b;have f:=aj f b;clear b;go_wp2_with fail;refine(nMul h r.a hn (by omega)).mono ?_
 rintro e y ⟨o,m,l,rfl,i,t,b⟩;have j:=p.keep b;have c1:=j.cell;have f1:=j.free;have u:=j.put (.slice o m l);have q:=i.put j pr (.slice o m l);have s:=rF f b (g:=w.heap.size) (Nat.le_refl _) (.slice o m l);clear h r i b p j f;go_wp2;refine bodyPost_ret (lg rfl rfl u) rfl ?_
 exact⟨o,m,l,rfl,q,by omega,s⟩
theorem dTrunc(h:aT w ao n c x)(hn:n<=1099511627776) :
  Calls Tryz.prog 37 #[.agg #[.slice ao n c]] w fun e w'=>∃ a k d a' k' d',e=.returned (.tuple #[.slice a k d,.agg #[.slice a' k' d']])/\dY w' a k d (x / U36)/\dY w' a' k' d' (x % U36)/\k<=n/\k'<=n + 38/\Below w.heap.size w w':=by
 have l:=pG w (.cells #[.slice ao n c] 32) (.cells #[.slice none 0 0] 32);have m:=mE w (.cells #[.slice ao n c] 32) (.slice none 0 0) 32;have o:=(eP w (.slice ao n c) 32).alloc (.cells #[.slice none 0 0] 32);have h:=h.keep l;go_enter Tryz.func37,Tryz.ntmps37;go_wp2_with fail
 go_region_with (first
  | (go_at_call 71; refine qC.mono ?_; rintro e v ⟨a,k,d,rfl,q,z,b⟩; have m:=m.drew.keep b; have o:=o.drew.keep b; have r:=o.cell; have l:=aj l.drew b; have h:=h.drew.keep b; clear b)
  | (go_at_call 70; refine(nDiv h q.a hn (by omega) (by decide)).mono ?_; rintro e y ⟨a1,k1,d1,a2,k2,d2,rfl,i,f,p,u,b⟩; have j:=m.keep b; have c1:=j.cell; have f1:=j.free; have t:=j.put (.slice a2 k2 d2); have i:=i.put j pr (.slice a2 k2 d2); have f:=f.put j pr (.slice a2 k2 d2); have s:=rF l b (g:=w.heap.size + 1) (by omega) (.slice a2 k2 d2); clear h q b m j l r o))
 all_goals go_wp2
 all_goals refine bodyPost_ret (rA rfl rfl rfl t) rfl ?_
 all_goals exact⟨a1,k1,d1,a2,k2,d2,rfl,i,f,p,by omega,s⟩
end
end
end Go.Proofs.YthfepflplbahkaaGreatDoor
