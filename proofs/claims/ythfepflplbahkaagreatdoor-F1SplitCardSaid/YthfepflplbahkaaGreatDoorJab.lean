import Derived.Test.YthfepflplbahkaaGreatDoorJaa
import Derived.Handy
set_option maxRecDepth 100000
set_option maxHeartbeats 8000000
namespace Go.Proofs.YthfepflplbahkaaGreatDoor
section
namespace Fo
open Go.RowKit Lim
section
variable {w:World}{v:Value}{r:List Int}{x y:Int}{ao ao':Option Addr}{n c n' c':Nat}
structure qC(w:World)(B T:Nat)(ao:Option Addr)(n c:Nat)(x:Int):Prop where
 ex:∃ b o l,l.length=n/\n<=c/\IsN l x/\At w ao b o l/\dB w b o n/\(l=[]\/(B<=b/\b < T))
theorem nh(w:World)(B T:Nat):qC w B T none 0 0 0:=⟨0,0,[],rfl,Nat.le_refl _,je,⟨.inl rfl,fun i hi=>by simp at hi⟩,fun i hi=>by omega,.inl rfl⟩
theorem jY{w':World}(h:dE w w' v r)(i:IsN r x):∃ a c,v=.slice a r.length c/\qC w' w.heap.size w'.heap.size a r.length c x:=by
 obtain⟨j,b,o,c,e,f,k,d,g⟩:=h.is;refine⟨j,c,e,b,o,r,rfl,f,i,d,g,?_⟩;rcases d.lt with e | e
 ·exact .inl e
 ·exact .inr ⟨k,e⟩
def gS(x y:Int):Int:=if y<=x then x - y else 0
def kt(x y:Int):Int:=if y<=x then 0 else 10
theorem fAdd(h:aV w ao n c x)(q:aV w ao' n' c' y)(hn:n<=1099511627776)(j:n'<=1099511627776) :
  Calls Tryz.prog 23 #[.slice ao n c,.slice ao' n' c'] w fun e w'=>∃ a k d,e=.returned (.slice a k d)/\qC w' w.heap.size w'.heap.size a k d (x + y)/\k<=n + n' + 1/\Below w.heap.size w w':=by
 obtain⟨b,o,l,t,A,u,z,rfl⟩:=h.ex;obtain⟨B,C,F,g,p,i,m,rfl⟩:=q.ex;refine(CP ao n c b o ao' n' c' B C l F w t g A p hn j u i z m).mono ?_
 rintro e w' ⟨v,r,rfl,f,E,hlen,D⟩;obtain⟨a,d,rfl,s⟩:=jY f E;exact⟨a,_,d,rfl,s,hlen,D⟩
theorem fMul(h:aV w ao n c x)(q:aV w ao' n' c' y)(hn:n<=1099511627776)(j:n'<=1099511627776) :
  Calls Tryz.prog 24 #[.slice ao n c,.slice ao' n' c'] w fun e w'=>∃ a k d,e=.returned (.slice a k d)/\qC w' w.heap.size w'.heap.size a k d (x * y)/\k<=n + n'/\Below w.heap.size w w':=by
 obtain⟨b,o,l,t,A,u,z,rfl⟩:=h.ex;obtain⟨B,C,F,g,p,i,m,rfl⟩:=q.ex;refine(pT ao n c b o ao' n' c' B C l F w t g A p hn j u i z m).mono ?_
 rintro e w' ⟨v,r,rfl,f,E,hlen,D⟩;obtain⟨a,d,rfl,s⟩:=jY f E;exact⟨a,_,d,rfl,s,hlen,D⟩
theorem fSub(h:aV w ao n c x)(E:aV w ao' n' c' y)(hn:n<=1099511627776)(j:n'<=1099511627776) :
  Calls Tryz.prog 72 #[.slice ao n c,.slice ao' n' c'] w fun e w'=>∃ a k d,e=.returned (.tuple #[.slice a k d,.int .i64 (kt x y)])/\qC w' w.heap.size w'.heap.size a k d (gS x y)/\k<=n/\Below w.heap.size w w':=by
 obtain⟨b,o,l,u,B,z,A,rfl⟩:=h.ex;obtain⟨C,D,t,g,p,i,m,rfl⟩:=E.ex;unfold kt gS;by_cases f:val t<=val l
 ·rw[if_pos f,if_pos f];refine(sub_ge ao n c b o ao' n' c' C D l t w u g B p hn j z i A m f).mono ?_
  rintro e w' ⟨v,r,rfl,q,G,hlen,s⟩;obtain⟨a,d,rfl,F⟩:=jY q G;exact⟨a,_,d,rfl,F,hlen,s⟩
 ·rw[if_neg f,if_neg f];refine(sub_lt ao n c b o ao' n' c' C D l t w u g B p hn j z i A m (by omega)).mono ?_
  rintro e w' ⟨rfl,s⟩;exact⟨none,0,0,rfl,nh _ _ _,Nat.zero_le _,s⟩
def DF(x y:Int):Int:=if y=0 then 0 else x % y
def jw(y:Int):Int:=if y=0 then 11 else 0
theorem Cx{ad:Option Addr}{g A:Nat}{z:Int}(h:aV w ao n c x)(L:aV w ao' n' c' y)(M:aV w ad g A z)(hn:n<=274877906944)(i:n'<=274877906944)(j:g<=274877906944) :
  Calls Tryz.prog 93 #[.slice ao n c,.slice ao' n' c',.slice ad g A] w fun e w'=>∃ a k d a' k' d',e=.returned (.tuple #[.slice a k d,.slice a' k' d',.int .i64 (jw z)])/\qC w' w.heap.size w'.heap.size a k d (x * y / z)/\qC w' w.heap.size w'.heap.size a' k' d' (DF (x * y) z)/\k<=n + n'/\k'<=n + n' + g/\Below w.heap.size w w':=by
 by_cases f:z=0
 ·unfold DF jw;rw[if_pos f,if_pos f]
  have e0:x * y / z=0:=by rw[f,Int.ediv_zero]
  rw[e0];refine(rL h L M hn i j f).mono ?_
  rintro e w' ⟨rfl,C⟩;exact⟨none,0,0,none,0,0,rfl,nh _ _ _,nh _ _ _,Nat.zero_le _,Nat.zero_le _,C⟩
 ·unfold DF jw;rw[if_neg f,if_neg f];obtain⟨b,o,l,P,R,Q,V,rfl⟩:=h.ex;obtain⟨Y,X,Z,m,F,t,I,rfl⟩:=L.ex;obtain⟨U,W,N,H,B,q,E,rfl⟩:=M.ex;refine(r7 ao n c b o ao' n' c' Y X ad g A U W l Z N w P m H R F B hn i j Q t q V I E f).mono ?_
  rintro e w' ⟨v,u,r,s,rfl,G,D,S,T,p,J,C⟩;obtain⟨a,d,rfl,O⟩:=jY G S;obtain⟨a',d',rfl,K⟩:=jY D T;exact⟨a,_,d,a',_,d',rfl,O,K,p,J,C⟩
end
end Fo
end
section
open Go.RowKit Lim
section
variable {w:World}{ao ao':Option Addr}{n c:Nat}{x:Int}
theorem dCmp{n' c':Nat}{y:Int}(h:aV w ao n c x)(b:aV w ao' n' c' y)(hn:n<=1099511627776)(d:n'<=1099511627776) :
  Calls Tryz.prog 28 #[.agg #[.slice ao n c],.agg #[.slice ao' n' c']] w fun e w'=>e=.returned (.int .i64 (sgn x y))/\Below w.heap.size w w':=by
 have f:=mh w (.cells #[.slice ao n c] 32) (.cells #[.slice ao' n' c'] 32);have h:=h.keep f
 have b:=b.keep f;go_enter Tryz.func28,Tryz.ntmps28;go_wp2_with fail;refine(nCmp h b hn d).mono ?_
 rintro e i ⟨rfl,g⟩;go_wp2;go_ret;exact⟨rfl,aj f g⟩
theorem DT(h:aV w ao n c x)(hn:n<=1099511627776) :
  Calls Tryz.prog 21 #[.agg #[.slice ao n c]] w fun e w'=>e=.returned (.bool (decide (x=0)))/\Below w.heap.size w w':=by
 have d:=ae w (.cells #[.slice ao n c] 32);have h:=h.keep d;have t:=nBits h hn;have hm:=rB x h.px;by_cases hx:x=0
 ·have hm:=hm.2 hx;rw[hm] at t;rw[decide_eq_true hx];clear hm hx h;go_enter Tryz.func21,Tryz.ntmps21;go_wp2_with fail;refine t.mono ?_
  rintro e f ⟨rfl,b⟩;go_wp2;go_ret;exact⟨rfl,aj d b⟩
 ·have hm:bitLen x.toNat≠0:=fun e=>hx (hm.1 e)
  rw[decide_eq_false hx];generalize bitLen x.toNat=m at *;obtain⟨k,rfl⟩:∃ k,m=k + 1:=⟨m - 1,by omega⟩
  clear hm hx h;go_enter Tryz.func21,Tryz.ntmps21;go_wp2_with fail;refine t.mono ?_
  rintro e f ⟨rfl,b⟩;go_wp2;go_ret;refine⟨?_,aj d b⟩;congr 2
theorem xT(n:Nat)(hn:n<=4096) :
  Calls Tryz.prog 111 #[.int .i64 n] w fun e w'=>∃ a k d,e=.returned (.slice a k d)/\dW w' a k d (10 ^ n)/\k<=n + 2/\Below w.heap.size w w':=by
 go_enter Tryz.func111,Tryz.ntmps111;go_wp2_with fail;refine(nPow n hn).mono ?_
 rintro e g ⟨a,k,d,rfl,b,f,c⟩;go_wp2;go_ret;exact⟨a,k,d,rfl,b,f,c⟩
def U36:Int:=10 ^ 36
theorem Bv:0 < U36:=by decide
theorem rD:Calls Tryz.prog 71 #[] w fun e w'=>∃ a k d,e=.returned (.slice a k d)/\dW w' a k d U36/\k<=38/\Below w.heap.size w w':=by
 go_enter Tryz.func71,Tryz.ntmps71;go_wp2_with fail;refine(xT 36 (by decide)).mono ?_
 rintro e g ⟨a,k,d,rfl,b,f,c⟩;go_wp2;go_ret;exact⟨a,k,d,rfl,b,f,c⟩
theorem dOfNat(h:aV w ao n c x)(hn:n<=1099511627776) :
  Calls Tryz.prog 46 #[.slice ao n c] w fun e w'=>∃ a k d,e=.returned (.agg #[.slice a k d])/\dW w' a k d (x * U36)/\k<=n + 38/\Below w.heap.size w w':=by
 have j:=ae w (.cells #[.slice none 0 0] 32);have o:=eJ w (.slice none 0 0) 32;have h:=h.keep j;go_enter Tryz.func46,Tryz.ntmps46;go_wp2_with fail;refine rD.mono ?_
 rintro e y ⟨a,k,d,rfl,r,z,b⟩;have h:=h.keep b;have o:=o.keep b;have j:=aj j b;clear b;go_wp2_with fail;refine(nMul h r.a hn (by omega)).mono ?_
 rintro e v ⟨l,m,p,rfl,f,t,b⟩;have i:=o.keep b;have c1:=i.cell;have f1:=i.free;have s:=i.put (.slice l m p);have q:=f.put i pE (.slice l m p);have u:=qP j b (g:=w.heap.size) (Nat.le_refl _) (.slice l m p);clear h r f b o i j;go_wp2;refine bodyPost_ret (ly rfl rfl s) rfl ?_
 exact⟨l,m,p,rfl,q,by omega,u⟩
theorem dTrunc(h:aV w ao n c x)(hn:n<=1099511627776) :
  Calls Tryz.prog 37 #[.agg #[.slice ao n c]] w fun e w'=>∃ a k d a' k' d',e=.returned (.tuple #[.slice a k d,.agg #[.slice a' k' d']])/\dW w' a k d (x / U36)/\dW w' a' k' d' (x % U36)/\k<=n/\k'<=n + 38/\Below w.heap.size w w':=by
 have l:=mh w (.cells #[.slice ao n c] 32) (.cells #[.slice none 0 0] 32);have o:=lV w (.cells #[.slice ao n c] 32) (.slice none 0 0) 32;have m:=(eJ w (.slice ao n c) 32).alloc (.cells #[.slice none 0 0] 32);have h:=h.keep l;go_enter Tryz.func37,Tryz.ntmps37;go_wp2_with fail
 go_region_with (first
  | (go_at_call 71; refine rD.mono ?_; rintro e z ⟨a,k,d,rfl,q,y,b⟩; have o:=o.drew.keep b; have m:=m.drew.keep b; have t:=m.cell; have l:=aj l.drew b; have h:=h.drew.keep b; clear b)
  | (go_at_call 70; refine(nDiv h q.a hn (by omega) (by decide)).mono ?_; rintro e v ⟨a1,k1,d1,a2,k2,d2,rfl,i,f,p,s,b⟩; have j:=o.keep b; have c1:=j.cell; have f1:=j.free; have r:=j.put (.slice a2 k2 d2); have i:=i.put j pE (.slice a2 k2 d2); have f:=f.put j pE (.slice a2 k2 d2); have u:=qP l b (g:=w.heap.size + 1) (by omega) (.slice a2 k2 d2); clear h q b o j l t m))
 all_goals go_wp2
 all_goals refine bodyPost_ret (qw rfl rfl rfl r) rfl ?_
 all_goals exact⟨a1,k1,d1,a2,k2,d2,rfl,i,f,p,by omega,u⟩
end
end
end Go.Proofs.YthfepflplbahkaaGreatDoor
