/- Several texts, joined: FoF, Dec1. -/
import Derived.Test.YthfepflplbahkaaGreatDoorJaa
import Derived.Handy
set_option maxRecDepth 100000
set_option maxHeartbeats 8000000
namespace Go.Proofs.YthfepflplbahkaaGreatDoor
section
namespace Fo
open Go.RowKit Lim
section
variable {w:World}{v:Value}{r:List Int}{x y:Int}{ao ao':Option Addr}{n c n' c':Nat}
structure rQ(w:World)(B T:Nat)(ao:Option Addr)(n c:Nat)(x:Int):Prop where
 ex:∃ b o l,l.length=n/\n<=c/\IsN l x/\At w ao b o l/\dB w b o n/\(l=[]\/(B<=b/\b < T))
theorem mG(w:World)(B T:Nat):rQ w B T none 0 0 0:=⟨0,0,[],rfl,Nat.le_refl _,jz,⟨.inl rfl,fun i hi=>by simp at hi⟩,fun i hi=>by omega,.inl rfl⟩
theorem j9{w':World}(h:dF w w' v r)(g:IsN r x):∃ a c,v=.slice a r.length c/\rQ w' w.heap.size w'.heap.size a r.length c x:=by
 obtain⟨i,b,o,c,e,f,k,d,j⟩:=h.is;refine⟨i,c,e,b,o,r,rfl,f,g,d,j,?_⟩;rcases d.lt with e | e
 ·exact .inl e
 ·exact .inr ⟨k,e⟩
def gU(x y:Int):Int:=if y<=x then x - y else 0
def ku(x y:Int):Int:=if y<=x then 0 else 10
theorem fAdd(h:aV w ao n c x)(E:aV w ao' n' c' y)(hn:n<=1099511627776)(g:n'<=1099511627776) :
  Calls Tryz.prog 23 #[.slice ao n c,.slice ao' n' c'] w fun e w'=>∃ a k d,e=.returned (.slice a k d)/\rQ w' w.heap.size w'.heap.size a k d (x + y)/\k<=n + n' + 1/\Below w.heap.size w w':=by
 obtain⟨b,o,l,A,z,q,C,rfl⟩:=h.ex;obtain⟨F,s,D,p,i,m,j,rfl⟩:=E.ex;refine(Ct ao n c b o ao' n' c' F s l D w A p z i hn g q m C j).mono ?_
 rintro e w' ⟨v,r,rfl,f,t,hlen,B⟩;obtain⟨a,d,rfl,u⟩:=j9 f t;exact⟨a,_,d,rfl,u,hlen,B⟩
theorem fMul(h:aV w ao n c x)(E:aV w ao' n' c' y)(hn:n<=1099511627776)(g:n'<=1099511627776) :
  Calls Tryz.prog 24 #[.slice ao n c,.slice ao' n' c'] w fun e w'=>∃ a k d,e=.returned (.slice a k d)/\rQ w' w.heap.size w'.heap.size a k d (x * y)/\k<=n + n'/\Below w.heap.size w w':=by
 obtain⟨b,o,l,A,z,q,C,rfl⟩:=h.ex;obtain⟨F,s,D,p,i,m,j,rfl⟩:=E.ex;refine(qk ao n c b o ao' n' c' F s l D w A p z i hn g q m C j).mono ?_
 rintro e w' ⟨v,r,rfl,f,t,hlen,B⟩;obtain⟨a,d,rfl,u⟩:=j9 f t;exact⟨a,_,d,rfl,u,hlen,B⟩
theorem fSub(h:aV w ao n c x)(G:aV w ao' n' c' y)(hn:n<=1099511627776)(F:n'<=1099511627776) :
  Calls Tryz.prog 72 #[.slice ao n c,.slice ao' n' c'] w fun e w'=>∃ a k d,e=.returned (.tuple #[.slice a k d,.int .i64 (ku x y)])/\rQ w' w.heap.size w'.heap.size a k d (gU x y)/\k<=n/\Below w.heap.size w w':=by
 obtain⟨b,o,l,t,u,z,A,rfl⟩:=h.ex;obtain⟨B,C,p,g,i,j,m,rfl⟩:=G.ex;unfold ku gU;by_cases f:val p<=val l
 ·rw[if_pos f,if_pos f];refine(sub_ge ao n c b o ao' n' c' B C l p w t g u i hn F z j A m f).mono ?_
  rintro e w' ⟨v,r,rfl,q,D,hlen,s⟩;obtain⟨a,d,rfl,E⟩:=j9 q D;exact⟨a,_,d,rfl,E,hlen,s⟩
 ·rw[if_neg f,if_neg f];refine(sub_lt ao n c b o ao' n' c' B C l p w t g u i hn F z j A m (by omega)).mono ?_
  rintro e w' ⟨rfl,s⟩;exact⟨none,0,0,rfl,mG _ _ _,Nat.zero_le _,s⟩
def Cq(x y:Int):Int:=if y=0 then 0 else x % y
def jD(y:Int):Int:=if y=0 then 11 else 0
theorem Co{ad:Option Addr}{X Y:Nat}{z:Int}(h:aV w ao n c x)(h':aV w ao' n' c' y)(Z:aV w ad X Y z)(hn:n<=274877906944)(V:n'<=274877906944)(W:X<=274877906944) :
  Calls Tryz.prog 93 #[.slice ao n c,.slice ao' n' c',.slice ad X Y] w fun e w'=>∃ a k d a' k' d',e=.returned (.tuple #[.slice a k d,.slice a' k' d',.int .i64 (jD z)])/\rQ w' w.heap.size w'.heap.size a k d (x * y / z)/\rQ w' w.heap.size w'.heap.size a' k' d' (Cq (x * y) z)/\k<=n + n'/\k'<=n + n' + X/\Below w.heap.size w w':=by
 by_cases f:z=0
 ·unfold Cq jD;rw[if_pos f,if_pos f]
  have H:x * y / z=0:=by rw[f,Int.ediv_zero]
  rw[H];refine(rm h h' Z hn V W f).mono ?_
  rintro e w' ⟨rfl,g⟩;exact⟨none,0,0,none,0,0,rfl,mG _ _ _,mG _ _ _,Nat.zero_le _,Nat.zero_le _,g⟩
 ·unfold Cq jD;rw[if_neg f,if_neg f];obtain⟨b,o,l,I,J,K,L,rfl⟩:=h.ex;obtain⟨M,N,O,i,j,m,p,rfl⟩:=h'.ex;obtain⟨P,Q,R,q,t,A,B,rfl⟩:=Z.ex;refine(r8 ao n c b o ao' n' c' M N ad X Y P Q l O R w I i q J j t hn V W K m A L p B f).mono ?_
  rintro e w' ⟨v,u,r,s,rfl,C,D,S,T,E,F,g⟩;obtain⟨a,d,rfl,U⟩:=j9 C S;obtain⟨a',d',rfl,G⟩:=j9 D T;exact⟨a,_,d,a',_,d',rfl,U,G,E,F,g⟩
end
end Fo
end
section
open Go.RowKit Lim
section
variable {w:World}{ao ao':Option Addr}{n c:Nat}{x:Int}
theorem dCmp{n' c':Nat}{y:Int}(h:aV w ao n c x)(d:aV w ao' n' c' y)(hn:n<=1099511627776)(a:n'<=1099511627776) :
  Calls Tryz.prog 28 #[.agg #[.slice ao n c],.agg #[.slice ao' n' c']] w fun e w'=>e=.returned (.int .i64 (sgn x y))/\Below w.heap.size w w':=by
 have b:=mN w (.cells #[.slice ao n c] 32) (.cells #[.slice ao' n' c'] 32);have h:=h.keep b
 have d:=d.keep b;go_enter Tryz.func28,Tryz.ntmps28;go_wp2_with fail;refine(nCmp h d hn a).mono ?_
 rintro e g ⟨rfl,f⟩;go_wp2;go_ret;exact⟨rfl,aj b f⟩
theorem DX(h:aV w ao n c x)(hn:n<=1099511627776) :
  Calls Tryz.prog 21 #[.agg #[.slice ao n c]] w fun e w'=>e=.returned (.bool (decide (x=0)))/\Below w.heap.size w w':=by
 have a:=ae w (.cells #[.slice ao n c] 32);have h:=h.keep a;have t:=nBits h hn;have hm:=rS x h.pT;by_cases hx:x=0
 ·have hm:=hm.2 hx;rw[hm] at t;rw[decide_eq_true hx];clear hm hx h;go_enter Tryz.func21,Tryz.ntmps21;go_wp2_with fail;refine t.mono ?_
  rintro e d ⟨rfl,b⟩;go_wp2;go_ret;exact⟨rfl,aj a b⟩
 ·have hm:bitLen x.toNat≠0:=fun e=>hx (hm.1 e)
  rw[decide_eq_false hx];generalize bitLen x.toNat=m at *;obtain⟨k,rfl⟩:∃ k,m=k + 1:=⟨m - 1,by omega⟩
  clear hm hx h;go_enter Tryz.func21,Tryz.ntmps21;go_wp2_with fail;refine t.mono ?_
  rintro e d ⟨rfl,b⟩;go_wp2;go_ret;refine⟨?_,aj a b⟩;congr 2
theorem xY(n:Nat)(hn:n<=4096) :
  Calls Tryz.prog 111 #[.int .i64 n] w fun e w'=>∃ a k d,e=.returned (.slice a k d)/\dX w' a k d (10 ^ n)/\k<=n + 2/\Below w.heap.size w w':=by
 go_enter Tryz.func111,Tryz.ntmps111;go_wp2_with fail;refine(nPow n hn).mono ?_
 rintro e g ⟨a,k,d,rfl,f,b,c⟩;go_wp2;go_ret;exact⟨a,k,d,rfl,f,b,c⟩
def U36:Int:=10 ^ 36
theorem CU:0 < U36:=by decide
theorem qC:Calls Tryz.prog 71 #[] w fun e w'=>∃ a k d,e=.returned (.slice a k d)/\dX w' a k d U36/\k<=38/\Below w.heap.size w w':=by
 go_enter Tryz.func71,Tryz.ntmps71;go_wp2_with fail;refine(xY 36 (by decide)).mono ?_
 rintro e g ⟨a,k,d,rfl,f,b,c⟩;go_wp2;go_ret;exact⟨a,k,d,rfl,f,b,c⟩
theorem dOfNat(h:aV w ao n c x)(hn:n<=1099511627776) :
  Calls Tryz.prog 46 #[.slice ao n c] w fun e w'=>∃ a k d,e=.returned (.agg #[.slice a k d])/\dX w' a k d (x * U36)/\k<=n + 38/\Below w.heap.size w w':=by
 have f:=ae w (.cells #[.slice none 0 0] 32);have l:=eJ w (.slice none 0 0) 32;have h:=h.keep f;go_enter Tryz.func46,Tryz.ntmps46;go_wp2_with fail;refine qC.mono ?_
 rintro e v ⟨a,k,d,rfl,r,y,b⟩;have h:=h.keep b;have l:=l.keep b;have f:=aj f b;clear b;go_wp2_with fail;refine(nMul h r.a hn (by omega)).mono ?_
 rintro e z ⟨m,o,p,rfl,i,s,b⟩;have j:=l.keep b;have c1:=j.cell;have f1:=j.free;have t:=j.put (.slice m o p);have q:=i.put j pQ (.slice m o p);have u:=rn f b (g:=w.heap.size) (Nat.le_refl _) (.slice m o p);clear h r i b l j f;go_wp2;refine bodyPost_ret (lE rfl rfl t) rfl ?_
 exact⟨m,o,p,rfl,q,by omega,u⟩
theorem dTrunc(h:aV w ao n c x)(hn:n<=1099511627776) :
  Calls Tryz.prog 37 #[.agg #[.slice ao n c]] w fun e w'=>∃ a k d a' k' d',e=.returned (.tuple #[.slice a k d,.agg #[.slice a' k' d']])/\dX w' a k d (x / U36)/\dX w' a' k' d' (x % U36)/\k<=n/\k'<=n + 38/\Below w.heap.size w w':=by
 have l:=mN w (.cells #[.slice ao n c] 32) (.cells #[.slice none 0 0] 32);have m:=lZ w (.cells #[.slice ao n c] 32) (.slice none 0 0) 32;have o:=(eJ w (.slice ao n c) 32).alloc (.cells #[.slice none 0 0] 32);have h:=h.keep l;go_enter Tryz.func37,Tryz.ntmps37;go_wp2_with fail;go_region_with (first
  | (go_at_call 71; refine qC.mono ?_; rintro e v ⟨a,k,d,rfl,q,y,b⟩; have m:=m.drew.keep b; have o:=o.drew.keep b; have r:=o.cell; have l:=aj l.drew b; have h:=h.drew.keep b; clear b)
  | (go_at_call 70; refine(nDiv h q.a hn (by omega) (by decide)).mono ?_; rintro e z ⟨a1,k1,d1,a2,k2,d2,rfl,f,i,p,s,b⟩; have j:=m.keep b; have c1:=j.cell; have f1:=j.free; have t:=j.put (.slice a2 k2 d2); have f:=f.put j pQ (.slice a2 k2 d2); have i:=i.put j pQ (.slice a2 k2 d2); have u:=rn l b (g:=w.heap.size + 1) (by omega) (.slice a2 k2 d2); clear h q b m j l r o))
 all_goals go_wp2
 all_goals refine bodyPost_ret (rD rfl rfl rfl t) rfl ?_
 all_goals exact⟨a1,k1,d1,a2,k2,d2,rfl,f,i,p,by omega,u⟩
end
end
end Go.Proofs.YthfepflplbahkaaGreatDoor
