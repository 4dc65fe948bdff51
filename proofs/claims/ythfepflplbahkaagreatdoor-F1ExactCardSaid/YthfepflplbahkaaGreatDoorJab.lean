import Derived.Test.YthfepflplbahkaaGreatDoorJaa
import Derived.Handy
set_option maxRecDepth 100000
set_option maxHeartbeats 8000000
namespace Go.Proofs.YthfepflplbahkaaGreatDoor
section
namespace Fo
open Go.RowKit Lim
section
variable {w:World}{v:Value}{r:List Int}{x y:Int}{ao ao':Option Addr}{n c n' c':Nat}
structure rR(w:World)(B T:Nat)(ao:Option Addr)(n c:Nat)(x:Int):Prop where
 ex:∃ b o l,l.length=n/\n<=c/\IsN l x/\At w ao b o l/\dD w b o n/\(l=[]\/(B<=b/\b < T))
theorem mP(w:World)(B T:Nat):rR w B T none 0 0 0:=⟨0,0,[],rfl,Nat.le_refl _,jE,⟨.inl rfl,fun i hi=>by simp at hi⟩,fun i hi=>by omega,.inl rfl⟩
theorem j6{w':World}(h:dF w w' v r)(k:IsN r x):∃ a c,v=.slice a r.length c/\rR w' w.heap.size w'.heap.size a r.length c x:=by
 obtain⟨g,b,o,c,e,j,f,d,i⟩:=h.is;refine⟨g,c,e,b,o,r,rfl,j,k,d,i,?_⟩;rcases d.lt with e | e
 ·exact .inl e
 ·exact .inr ⟨f,e⟩
def jc(x y:Int):Int:=if y<=x then x - y else 0
def kE(x y:Int):Int:=if y<=x then 0 else 10
theorem fAdd(h:aT w ao n c x)(A:aT w ao' n' c' y)(hn:n<=1099511627776)(j:n'<=1099511627776) :
  Calls Tryz.prog 23 #[.slice ao n c,.slice ao' n' c'] w fun e w'=>∃ a k d,e=.returned (.slice a k d)/\rR w' w.heap.size w'.heap.size a k d (x + y)/\k<=n + n' + 1/\Below w.heap.size w w':=by
 obtain⟨b,o,l,u,q,F,C,rfl⟩:=h.ex;obtain⟨s,B,t,g,i,f,m,rfl⟩:=A.ex;refine(CY ao n c b o ao' n' c' s B l t w u g q i hn j F f C m).mono ?_
 rintro e w' ⟨v,r,rfl,p,z,hlen,E⟩;obtain⟨a,d,rfl,D⟩:=j6 p z;exact⟨a,_,d,rfl,D,hlen,E⟩
theorem fMul(h:aT w ao n c x)(A:aT w ao' n' c' y)(hn:n<=1099511627776)(m:n'<=1099511627776) :
  Calls Tryz.prog 24 #[.slice ao n c,.slice ao' n' c'] w fun e w'=>∃ a k d,e=.returned (.slice a k d)/\rR w' w.heap.size w'.heap.size a k d (x * y)/\k<=n + n'/\Below w.heap.size w w':=by
 obtain⟨b,o,l,u,q,F,C,rfl⟩:=h.ex;obtain⟨s,B,t,i,j,g,p,rfl⟩:=A.ex;refine(oL ao n c b o ao' n' c' s B l t w u i q j hn m F g C p).mono ?_
 rintro e w' ⟨v,r,rfl,f,z,hlen,E⟩;obtain⟨a,d,rfl,D⟩:=j6 f z;exact⟨a,_,d,rfl,D,hlen,E⟩
theorem fSub(h:aT w ao n c x)(E:aT w ao' n' c' y)(hn:n<=1099511627776)(m:n'<=1099511627776) :
  Calls Tryz.prog 72 #[.slice ao n c,.slice ao' n' c'] w fun e w'=>∃ a k d,e=.returned (.tuple #[.slice a k d,.int .i64 (kE x y)])/\rR w' w.heap.size w'.heap.size a k d (jc x y)/\k<=n/\Below w.heap.size w w':=by
 obtain⟨b,o,l,A,u,D,C,rfl⟩:=h.ex;obtain⟨z,B,q,i,j,g,p,rfl⟩:=E.ex;unfold kE jc;by_cases f:val q<=val l
 ·rw[if_pos f,if_pos f];refine(sub_ge ao n c b o ao' n' c' z B l q w A i u j hn m D g C p f).mono ?_
  rintro e w' ⟨v,r,rfl,t,F,hlen,s⟩;obtain⟨a,d,rfl,G⟩:=j6 t F;exact⟨a,_,d,rfl,G,hlen,s⟩
 ·rw[if_neg f,if_neg f];refine(sub_lt ao n c b o ao' n' c' z B l q w A i u j hn m D g C p (by omega)).mono ?_
  rintro e w' ⟨rfl,s⟩;exact⟨none,0,0,rfl,mP _ _ _,Nat.zero_le _,s⟩
def BT(x y:Int):Int:=if y=0 then 0 else x % y
def jf(y:Int):Int:=if y=0 then 11 else 0
theorem Bc{ad:Option Addr}{j p:Nat}{z:Int}(h:aT w ao n c x)(L:aT w ao' n' c' y)(M:aT w ad j p z)(hn:n<=274877906944)(g:n'<=274877906944)(i:j<=274877906944) :
  Calls Tryz.prog 93 #[.slice ao n c,.slice ao' n' c',.slice ad j p] w fun e w'=>∃ a k d a' k' d',e=.returned (.tuple #[.slice a k d,.slice a' k' d',.int .i64 (jf z)])/\rR w' w.heap.size w'.heap.size a k d (x * y / z)/\rR w' w.heap.size w'.heap.size a' k' d' (BT (x * y) z)/\k<=n + n'/\k'<=n + n' + j/\Below w.heap.size w w':=by
 by_cases f:z=0
 ·unfold BT jf;rw[if_pos f,if_pos f]
  have Y:x * y / z=0:=by rw[f,Int.ediv_zero]
  rw[Y];refine(qE h L M hn g i f).mono ?_
  rintro e w' ⟨rfl,J⟩;exact⟨none,0,0,none,0,0,rfl,mP _ _ _,mP _ _ _,Nat.zero_le _,Nat.zero_le _,J⟩
 ·unfold BT jf;rw[if_neg f,if_neg f];obtain⟨b,o,l,O,R,h3,W,rfl⟩:=h.ex;obtain⟨T,P,U,D,q,C,I,rfl⟩:=L.ex;obtain⟨X,Z,N,G,K,H,t,rfl⟩:=M.ex;refine(tK ao n c b o ao' n' c' T P ad j p X Z l U N w O D G R q K hn g i h3 C H W I t f).mono ?_
  rintro e w' ⟨v,u,r,s,rfl,B,m,V,S,E,A,J⟩;obtain⟨a,d,rfl,Q⟩:=j6 B V;obtain⟨a',d',rfl,F⟩:=j6 m S;exact⟨a,_,d,a',_,d',rfl,Q,F,E,A,J⟩
end
end Fo
end
section
open Go.RowKit Lim
section
variable {w:World}{ao:Option Addr}{n c:Nat}{x:Int}
theorem DR(h:aT w ao n c x)(hn:n<=1099511627776) :
  Calls Tryz.prog 21 #[.agg #[.slice ao n c]] w fun e w'=>e=.returned (.bool (decide (x=0)))/\Below w.heap.size w w':=by
 have b:=ae w (.cells #[.slice ao n c] 32);have h:=h.keep b;have t:=nBits h hn;have hm:=qC x h.mL;by_cases hx:x=0
 ·have hm:=hm.2 hx;rw[hm] at t;rw[decide_eq_true hx];clear hm hx h;go_enter Tryz.func21,Tryz.ntmps21;go_wp2_with fail;refine t.mono ?_
  rintro e f ⟨rfl,d⟩;go_wp2;go_ret;exact⟨rfl,aj b d⟩
 ·have hm:bitLen x.toNat≠0:=fun e=>hx (hm.1 e)
  rw[decide_eq_false hx];generalize bitLen x.toNat=m at *;obtain⟨k,rfl⟩:∃ k,m=k + 1:=⟨m - 1,by omega⟩
  clear hm hx h;go_enter Tryz.func21,Tryz.ntmps21;go_wp2_with fail;refine t.mono ?_
  rintro e f ⟨rfl,d⟩;go_wp2;go_ret;refine⟨?_,aj b d⟩;congr 2
theorem xQ(n:Nat)(hn:n<=4096) :
  Calls Tryz.prog 111 #[.int .i64 n] w fun e w'=>∃ a k d,e=.returned (.slice a k d)/\eb w' a k d (10 ^ n)/\k<=n + 2/\Below w.heap.size w w':=by
 go_enter Tryz.func111,Tryz.ntmps111;go_wp2_with fail;refine(nPow n hn).mono ?_
 rintro e g ⟨a,k,d,rfl,b,f,c⟩;go_wp2;go_ret;exact⟨a,k,d,rfl,b,f,c⟩
def U36:Int:=10 ^ 36
theorem qh:0 < U36:=by decide
theorem rQ:Calls Tryz.prog 71 #[] w fun e w'=>∃ a k d,e=.returned (.slice a k d)/\eb w' a k d U36/\k<=38/\Below w.heap.size w w':=by
 go_enter Tryz.func71,Tryz.ntmps71;go_wp2_with fail;refine(xQ 36 (by decide)).mono ?_
 rintro e g ⟨a,k,d,rfl,b,f,c⟩;go_wp2;go_ret;exact⟨a,k,d,rfl,b,f,c⟩
theorem dOfNat(h:aT w ao n c x)(hn:n<=1099511627776) :
  Calls Tryz.prog 46 #[.slice ao n c] w fun e w'=>∃ a k d,e=.returned (.agg #[.slice a k d])/\eb w' a k d (x * U36)/\k<=n + 38/\Below w.heap.size w w':=by
 have f:=ae w (.cells #[.slice none 0 0] 32);have l:=eH w (.slice none 0 0) 32;have h:=h.keep f;go_enter Tryz.func46,Tryz.ntmps46;go_wp2_with fail;refine rQ.mono ?_
 rintro e y ⟨a,k,d,rfl,r,v,b⟩;have h:=h.keep b;have l:=l.keep b;have f:=aj f b;clear b;go_wp2_with fail;refine(nMul h r.a hn (by omega)).mono ?_
 rintro e z ⟨m,p,o,rfl,i,u,b⟩;have j:=l.keep b;have c1:=j.cell;have f1:=j.free;have t:=j.put (.slice m p o);have q:=i.put j oR (.slice m p o);have s:=rC f b (g:=w.heap.size) (Nat.le_refl _) (.slice m p o);clear h r i b l j f;go_wp2;refine bodyPost_ret (ll rfl rfl t) rfl ?_
 exact⟨m,p,o,rfl,q,by omega,s⟩
theorem dTrunc(h:aT w ao n c x)(hn:n<=1099511627776) :
  Calls Tryz.prog 37 #[.agg #[.slice ao n c]] w fun e w'=>∃ a k d a' k' d',e=.returned (.tuple #[.slice a k d,.agg #[.slice a' k' d']])/\eb w' a k d (x / U36)/\eb w' a' k' d' (x % U36)/\k<=n/\k'<=n + 38/\Below w.heap.size w w':=by
 have l:=pG w (.cells #[.slice ao n c] 32) (.cells #[.slice none 0 0] 32);have o:=mK w (.cells #[.slice ao n c] 32) (.slice none 0 0) 32;have m:=(eH w (.slice ao n c) 32).alloc (.cells #[.slice none 0 0] 32);have h:=h.keep l;go_enter Tryz.func37,Tryz.ntmps37;go_wp2_with fail
 go_region_with (first
  | (go_at_call 71; refine rQ.mono ?_; rintro e z ⟨a,k,d,rfl,q,y,b⟩; have o:=o.drew.keep b; have m:=m.drew.keep b; have t:=m.cell; have l:=aj l.drew b; have h:=h.drew.keep b; clear b)
  | (go_at_call 70; refine(nDiv h q.a hn (by omega) (by decide)).mono ?_; rintro e v ⟨a1,k1,d1,a2,k2,d2,rfl,f,i,p,s,b⟩; have j:=o.keep b; have c1:=j.cell; have f1:=j.free; have r:=j.put (.slice a2 k2 d2); have f:=f.put j oR (.slice a2 k2 d2); have i:=i.put j oR (.slice a2 k2 d2); have u:=rC l b (g:=w.heap.size + 1) (by omega) (.slice a2 k2 d2); clear h q b o j l t m))
 all_goals go_wp2
 all_goals refine bodyPost_ret (qU rfl rfl rfl r) rfl ?_
 all_goals exact⟨a1,k1,d1,a2,k2,d2,rfl,f,i,p,by omega,u⟩
end
end
end Go.Proofs.YthfepflplbahkaaGreatDoor
