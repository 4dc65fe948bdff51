/- Several texts, joined: FoF. -/
import Derived.Test.YthfepflplbahkaaGreatDoorJaa
set_option maxRecDepth 100000
set_option maxHeartbeats 8000000
namespace Go.Proofs.YthfepflplbahkaaGreatDoor
namespace Fo
open Go.RowKit Lim
section
variable {w:World}{v:Value}{r:List Int}{x y:Int}{ao ao':Option Addr}{n c n' c':Nat}
structure rL(w:World)(B T:Nat)(ao:Option Addr)(n c:Nat)(x:Int):Prop where
 ex:∃ b o l,l.length=n/\n<=c/\IsN l x/\At w ao b o l/\dK w b o n/\(l=[]\/(B<=b/\b < T))
theorem lY(w:World)(B T:Nat):rL w B T none 0 0 0:=⟨0,0,[],rfl,Nat.le_refl _,jG,⟨.inl rfl,fun i hi=>by simp at hi⟩,fun i hi=>by omega,.inl rfl⟩
theorem ko{w':World}(h:dM w w' v r)(hI:IsN r x):∃ a c,v=.slice a r.length c/\rL w' w.heap.size w'.heap.size a r.length c x:=by
 obtain⟨ao,b,o,c,e,h1,h2,h3,h4⟩:=h.is;refine⟨ao,c,e,b,o,r,rfl,h1,hI,h3,h4,?_⟩;rcases h3.lt with e | e
 ·exact .inl e
 ·exact .inr ⟨h2,e⟩
def jd(x y:Int):Int:=if y<=x then x - y else 0
def kE(x y:Int):Int:=if y<=x then 0 else 10
theorem fAdd(h:aX w ao n c x)(h':aX w ao' n' c' y)(hn:n<=1099511627776)(hn':n'<=1099511627776) :
  Calls Tryz.prog 23 #[.slice ao n c,.slice ao' n' c'] w fun e w'=>∃ a k d,e=.returned (.slice a k d)/\rL w' w.heap.size w'.heap.size a k d (x + y)/\k<=n + n' + 1/\Below w.heap.size w w':=by
 obtain⟨b,o,l,h1,h2,h3,h4,rfl⟩:=h.ex;obtain⟨b',o',l',h1',h2',h3',h4',rfl⟩:=h'.ex;refine(BV ao n c b o ao' n' c' b' o' l l' w h1 h1' h2 h2' hn hn' h3 h3' h4 h4').mono ?_
 rintro e w' ⟨v,r,rfl,hnw,hI,hlen,hB⟩;obtain⟨a,d,rfl,hO⟩:=ko hnw hI;exact⟨a,_,d,rfl,hO,hlen,hB⟩
theorem fMul(h:aX w ao n c x)(h':aX w ao' n' c' y)(hn:n<=1099511627776)(hn':n'<=1099511627776) :
  Calls Tryz.prog 24 #[.slice ao n c,.slice ao' n' c'] w fun e w'=>∃ a k d,e=.returned (.slice a k d)/\rL w' w.heap.size w'.heap.size a k d (x * y)/\k<=n + n'/\Below w.heap.size w w':=by
 obtain⟨b,o,l,h1,h2,h3,h4,rfl⟩:=h.ex;obtain⟨b',o',l',h1',h2',h3',h4',rfl⟩:=h'.ex;refine(pL ao n c b o ao' n' c' b' o' l l' w h1 h1' h2 h2' hn hn' h3 h3' h4 h4').mono ?_
 rintro e w' ⟨v,r,rfl,hnw,hI,hlen,hB⟩;obtain⟨a,d,rfl,hO⟩:=ko hnw hI;exact⟨a,_,d,rfl,hO,hlen,hB⟩
theorem fSub(h:aX w ao n c x)(h':aX w ao' n' c' y)(hn:n<=1099511627776)(hn':n'<=1099511627776) :
  Calls Tryz.prog 72 #[.slice ao n c,.slice ao' n' c'] w fun e w'=>∃ a k d,e=.returned (.tuple #[.slice a k d,.int .i64 (kE x y)])/\rL w' w.heap.size w'.heap.size a k d (jd x y)/\k<=n/\Below w.heap.size w w':=by
 obtain⟨b,o,l,h1,h2,h3,h4,rfl⟩:=h.ex;obtain⟨b',o',l',h1',h2',h3',h4',rfl⟩:=h'.ex;unfold kE jd;by_cases hge:val l'<=val l
 ·rw[if_pos hge,if_pos hge];refine(sub_ge ao n c b o ao' n' c' b' o' l l' w h1 h1' h2 h2' hn hn' h3 h3' h4 h4' hge).mono ?_
  rintro e w' ⟨v,r,rfl,hnw,hI,hlen,hB⟩;obtain⟨a,d,rfl,hO⟩:=ko hnw hI;exact⟨a,_,d,rfl,hO,hlen,hB⟩
 ·rw[if_neg hge,if_neg hge];refine(sub_lt ao n c b o ao' n' c' b' o' l l' w h1 h1' h2 h2' hn hn' h3 h3' h4 h4' (by omega)).mono ?_
  rintro e w' ⟨rfl,hB⟩;exact⟨none,0,0,rfl,lY _ _ _,Nat.zero_le _,hB⟩
def Cz(x y:Int):Int:=if y=0 then 0 else x % y
def jQ(y:Int):Int:=if y=0 then 11 else 0
theorem Co{ad:Option Addr}{nd cd:Nat}{z:Int}(h:aX w ao n c x)(h':aX w ao' n' c' y)(hd:aX w ad nd cd z)(hn:n<=274877906944)(hn':n'<=274877906944)(hnd:nd<=274877906944) :
  Calls Tryz.prog 93 #[.slice ao n c,.slice ao' n' c',.slice ad nd cd] w fun e w'=>∃ a k d a' k' d',e=.returned (.tuple #[.slice a k d,.slice a' k' d',.int .i64 (jQ z)])/\rL w' w.heap.size w'.heap.size a k d (x * y / z)/\rL w' w.heap.size w'.heap.size a' k' d' (Cz (x * y) z)/\k<=n + n'/\k'<=n + n' + nd/\Below w.heap.size w w':=by
 by_cases hz:z=0
 ·unfold Cz jQ;rw[if_pos hz,if_pos hz]
  have e0:x * y / z=0:=by rw[hz,Int.ediv_zero]
  rw[e0];refine(qL h h' hd hn hn' hnd hz).mono ?_
  rintro e w' ⟨rfl,hB⟩;exact⟨none,0,0,none,0,0,rfl,lY _ _ _,lY _ _ _,Nat.zero_le _,Nat.zero_le _,hB⟩
 ·unfold Cz jQ;rw[if_neg hz,if_neg hz];obtain⟨b,o,l,h1,h2,h3,h4,rfl⟩:=h.ex;obtain⟨b',o',l',h1',h2',h3',h4',rfl⟩:=h'.ex;obtain⟨bd,od,ld,h1d,h2d,h3d,h4d,rfl⟩:=hd.ex;refine(r6 ao n c b o ao' n' c' b' o' ad nd cd bd od l l' ld w h1 h1' h1d h2 h2' h2d hn hn' hnd h3 h3' h3d h4 h4' h4d hz).mono ?_
  rintro e w' ⟨v,u,r,s,rfl,hnw,hnu,hI,hJ,hlr,hls,hB⟩;obtain⟨a,d,rfl,hO⟩:=ko hnw hI;obtain⟨a',d',rfl,hO'⟩:=ko hnu hJ;exact⟨a,_,d,a',_,d',rfl,hO,hO',hlr,hls,hB⟩
end
end Fo
end Go.Proofs.YthfepflplbahkaaGreatDoor
