import Derived.Test.YtjejmkcjflhoiaaGreatDoorJaB
set_option maxRecDepth 100000
set_option maxHeartbeats 8000000
namespace Go.Proofs.YtjejmkcjflhoiaaGreatDoor
namespace Fo
open Go.RowKit Go.Lib Pg Lim Gl Kv Bk Pw
set_option linter.unusedVariables false
set_option linter.unusedSimpArgs false
def St.tr (s:St) (i:Nat):Int × Int × Int:=(aft s.C (s.pe i)).foldl (cmS s.R) (0,s.st i,s.R (s.pe i))
def St.pot (s:St) (i:Nat):Int:=(s.tr i).1 * U36+(s.tr i).2.1 * (s.R s.la - (s.tr i).2.2)
structure Iw (T:Int) (s:St):Prop where
 per:∀ i,s.hd i=true->0<=s.pe i/\s.pe i<=s.la
 il:∀ c∈s.C,c.1<=s.la
 tr:∀ i,s.hd i=true->0<=(s.tr i).2.1/\(s.tr i).2.1 * T<=s.sh i * (s.tk * U36)/\(s.tr i).2.2<=s.R s.la
 sum:U36 * (s.all+s.cur)+cV s.hd s.pot<=U36 * s.giv
section
variable {T:Int} {s s':St} {m i:Nat}
section
variable {h:Nat->Bool}{f g:Nat->Int}
theorem St.wZ(I:Iw T s)(h:s.hd i=true):cmV s.R (aft s.C (s.pe i)) (s.pe i) s.la (s.st i) * U36<=s.pot i:=by
 have a:=(I.tr i h).2.2;unfold cmV St.pot
 show ((s.tr i).1+(s.tr i).2.1 * iC (s.R s.la) (s.tr i).2.2 / U36) * U36<=_
 unfold iC;rw[if_pos a,Int.add_mul];have:=Int.ediv_mul_le ((s.tr i).2.1 * (s.R s.la - (s.tr i).2.2)) (show U36≠0 by decide);omega
theorem ml(e:∀ i,h i=true->f i<=g i):cV h f<=cV h g:=by
 have k:∀ i,(if h i then f i else 0)<=(if h i then g i else 0):=fun i=>by
  split
  ·rename_i c;exact e i c
  ·exact Int.le_refl _
 have k0:=k 0;have k1:=k 1;have a:=k 2;have b:=k 3;unfold cV;omega
theorem zI:cV h (fun i=>f i+g i)=cV h f+cV h g:=by
 unfold cV
 cases h 0<;>cases h 1<;>cases h 2<;>cases h 3<;>simp<;>omega
theorem j5{a:Int}:cV h (fun i=>f i * a)=cV h f * a:=by
 unfold cV
 cases h 0<;>cases h 1<;>cases h 2<;>cases h 3<;>simp[Int.add_mul]
theorem Bg{b:Bool}(hi:i < 4)(e:∀ j,j≠i->f j=g j)(hb:b=true->f i=0)(hh:h i=true->g i=0):cV (up h i b) f=cV h g:=by
 unfold cV up;rcases four hi with rfl | rfl | rfl | rfl<;>cases b<;>simp_all
theorem BG{R a:Int->Int}:∀ {D:List (Int × Int × Int)} {x:Int × Int × Int},(∀ c∈D,a c.1=R c.1)->D.foldl (cmS a) x=D.foldl (cmS R) x
 | [],_,_=>rfl
 | c :: D,x,h=>by
  rw[List.foldl_cons,List.foldl_cons]
  have e:cmS a x c=cmS R x c:=by unfold cmS;rw[h c List.mem_cons_self]
  rw[e];exact BG fun d hd=>h d (List.mem_cons_of_mem _ hd)
theorem Iw.trc(I:Iw T s)(h:s.hd i=true):s.clo.tr i=s.tr i:=by
 have a:=I.per i h
 have b:∀ p,p<=s.la->s.clo.R p=s.R p:=fun p a=>if_neg (by omega)
 show (aft s.C (s.pe i)).foldl (cmS s.clo.R) (0,s.st i,s.clo.R (s.pe i))=_
 rw[b _ a.2];exact BG fun c hc=>b _ (I.il c (List.mem_filter.1 hc).1)
theorem Iw.clo(I:Iw T s)(V:Iv T s m)(i:0 < T):Iw T s.clo:=by
 have g:s.clo.R s.clo.la=s.R s.la+s.cur / s.tk:=if_pos rfl;have hd:=V.div;refine⟨fun j a=>?_,fun c hc=>?_,fun j a=>?_,?_⟩
 ·have:=I.per j a;exact⟨this.1,by show s.pe j<=s.la+1;omega⟩
 ·have:=I.il c hc
  show c.1<=s.la+1
  omega
 ·rw[I.trc a,g];obtain⟨d,b,f⟩:=I.tr j a;exact⟨d,b,by omega⟩
 ·have d:cV s.clo.hd s.clo.pot<=cV s.hd (fun j=>s.pot j + (s.tr j).2.1 * (s.cur / s.tk)):=ml fun j a=>by
   unfold St.pot;rw[I.trc a,g,Int.add_assoc,<- Int.mul_add];have:s.R s.la+s.cur / s.tk - (s.tr j).2.2=s.R s.la - (s.tr j).2.2+s.cur / s.tk:=by omega
   rw[this];exact Int.le_refl _
  rw[zI,j5] at d
  have b:cV s.hd (fun j=>(s.tr j).2.1 * T)<=cV s.hd (fun j=>s.sh j * (s.tk * U36)):=ml fun j a=>(I.tr j a).2.1
  rw[j5,j5] at b
  have f:cV s.hd s.sh<=T:=by have:=V.fre;have:=V.sh.1;omega
  have h:0<=s.tk * U36:=Int.mul_nonneg (by have:=V.tk;omega) (by decide);have e:=Int.mul_le_mul_of_nonneg_right f h
  have l:cV s.hd (fun j=>(s.tr j).2.1)<=s.tk * U36:=by
   rw[Int.mul_comm T] at e;exact Int.le_of_mul_le_mul_right (Int.le_trans b e) i
  have h7:=Int.mul_le_mul_of_nonneg_right l hd.1
  have h8:s.tk * U36 * (s.cur / s.tk)<=U36 * s.cur:=by
   have:=Int.mul_ediv_self_le (x:=s.cur) (k:=s.tk) (by have:=V.tk;omega);rw[Int.mul_comm s.tk,Int.mul_assoc];exact Int.mul_le_mul_of_nonneg_left this (by decide)
  have n:=I.sum;rw[Int.mul_add] at n
  show U36 * (s.all+0)+cV s.clo.hd s.clo.pot<=U36 * s.giv
  rw[Int.add_zero];omega
theorem EJ{C:List (Int × Int × Int)}{c:Int × Int × Int}{fr:Int}(h:fr < c.1):aft (C ++ [c]) fr=aft C fr ++ [c]:=by
 unfold aft;rw[List.filter_append,List.filter_cons_of_pos (by simpa using h)];rfl
theorem mK.iw(h:mK T s s')(I:Iw T s)(V:Iv T s m)(x:0 < T):Iw T s':=by
 have c:=I.clo V x;have vc:=V.clo
 cases h using mK.cs with
 | give r hr =>
  refine⟨I.per,I.il,I.tr,?_⟩;have:=I.sum
  show U36 * (s.all+(s.cur+r))+cV s.hd s.pot<=U36 * (s.giv+r)
  rw[Int.mul_add] at this ⊢;rw[Int.mul_add,Int.mul_add];omega
 | clo=>exact c
 | leave i hi hh =>
  have k:s.clo.hd i=true:=hh
  have sub:∀ j,up s.clo.hd i false j=true->s.clo.hd j=true:=fun j f=>by
   unfold up at f;split at f
   ·cases f
   ·exact f
  refine⟨fun j f=>c.per j (sub j f),c.il,fun j f=>c.tr j (sub j f),?_⟩;have n:=c.sum;have l:=St.wZ c k
  show U36 * (s.clo.all+cmV s.clo.R (aft s.clo.C (s.clo.pe i)) (s.clo.pe i) s.clo.la (s.clo.st i)+s.clo.cur)+cV (up s.clo.hd i false) s.clo.pot<=U36 * s.clo.giv
  rw[mW hi k];generalize cmV s.clo.R (aft s.clo.C (s.clo.pe i)) (s.clo.pe i) s.clo.la (s.clo.st i)=v at l ⊢;rw[Int.mul_comm] at l;rw[Int.mul_add] at n ⊢;rw[Int.mul_add];omega
 | join i z hi hh hz =>
  have k:s.clo.hd i=false:=hh
  have g:∀ j,j≠i->(s.clo.join T i z).tr j=s.clo.tr j:=fun j f=>by
   unfold St.tr St.join up;simp only[if_neg f]
  have u:aft s.clo.C s.clo.la=[]:=List.filter_eq_nil_iff.2 fun d hd=>by have:=c.il d hd;simpa using this
  have o:(s.clo.join T i z).tr i=(0,z * (s.clo.tk * U36) / T,s.clo.R s.clo.la):=by
   show (aft s.clo.C (up s.clo.pe i s.clo.la i)).foldl (cmS s.clo.R) (0,up s.clo.st i (z * (s.clo.tk * U36) / T) i,s.clo.R (up s.clo.pe i s.clo.la i))=_
   simp only[up,if_true];rw[u];rfl
  have old:∀ j,j≠i->up s.clo.hd i true j=true->s.clo.hd j=true:=fun j f h=>by
   unfold up at h;rwa [if_neg f] at h
  have pos:0<=z * (s.clo.tk * U36):=Int.mul_nonneg hz.1 (Int.mul_nonneg (by have:=V.tk;show 0<=s.tk;omega) (by decide));refine⟨fun j f=>?_,c.il,fun j f=>?_,?_⟩
  ·show 0<=up s.clo.pe i s.clo.la j/\up s.clo.pe i s.clo.la j<=s.clo.la
   by_cases e:j=i
   ·unfold up;rw[if_pos e];exact⟨vc.la.1,Int.le_refl _⟩
   ·have:=c.per j (old j e f);unfold up;rw[if_neg e];exact this
  ·by_cases e:j=i
   ·subst e;rw[o];refine⟨Int.ediv_nonneg pos (by omega),?_,Int.le_refl _⟩
    show z * (s.clo.tk * U36) / T * T<=up s.clo.sh j z j * (s.clo.tk * U36)
    simp only[up,if_true];exact Int.ediv_mul_le _ (by omega)
   ·rw[g j e];have:=c.tr j (old j e f);refine⟨this.1,?_,this.2.2⟩
    show (s.clo.tr j).2.1 * T<=up s.clo.sh i z j * (s.clo.tk * U36)
    unfold up;rw[if_neg e];exact this.2.1
  ·have n:=c.sum
   have e:cV (up s.clo.hd i true) (s.clo.join T i z).pot=cV s.clo.hd s.clo.pot:=Bg hi (fun j f=>by unfold St.pot; rw[g j f]; rfl) (fun _=>by
    unfold St.pot;rw[o]
    show 0 * U36+z * (s.clo.tk * U36) / T * (s.clo.R s.clo.la - s.clo.R s.clo.la)=0
    rw[Int.sub_self,Int.mul_zero,Int.zero_mul]
    rfl) (fun h=>by rw[k] at h;cases h)
   show U36 * (s.clo.all+s.clo.cur)+cV (up s.clo.hd i true) (s.clo.join T i z).pot<=U36 * s.clo.giv
   rw[e];exact n
 | cut t ht =>
  have g:∀ j,s.hd j=true->(s.clo.cut t).tr j=cmS s.clo.R (s.clo.tr j) (s.clo.la,s.clo.tk,t):=fun j f=>by
   have y:=I.per j f
   show (aft (s.clo.C ++ [(s.clo.la,s.clo.tk,t)]) (s.clo.pe j)).foldl (cmS s.clo.R) _=_
   rw[EJ (by show s.pe j < s.la+1;omega),List.foldl_append];rfl
  have q:0 < s.clo.tk:=by have:=V.tk;show 0 < s.tk;omega
  refine⟨c.per,fun d hd=>?_,fun j f=>?_,?_⟩
  ·rcases List.mem_append.1 hd with h | h
   ·exact c.il d h
   ·rw[List.mem_singleton.1 h];exact Int.le_refl _
  ·rw[g j f];obtain⟨n,l,w⟩:=c.tr j f
   have p1:0<=t * U36:=Int.mul_nonneg (by omega) (by decide)
   have p:0 < s.clo.tk * U36:=Int.mul_pos q (by decide);refine⟨Int.ediv_nonneg (Int.mul_nonneg n p1) (Int.le_of_lt p),?_,Int.le_refl _⟩
   show (s.clo.tr j).2.1 * (t * U36) / (s.clo.tk * U36) * T<=s.clo.sh j * (t * U36)
   generalize (s.clo.tr j).2.1=S at n l;generalize s.clo.sh j=h at l;generalize t * U36=a at p1;generalize s.clo.tk * U36=b at p l
   have d1:S * a / b * b<=S * a:=Int.ediv_mul_le _ (by omega);have d2:=Int.mul_le_mul_of_nonneg_right d1 (Int.le_of_lt x);have d3:=Int.mul_le_mul_of_nonneg_right l p1;refine Int.le_of_mul_le_mul_right (a:=b) ?_ p
   have e1:S * a / b * T * b=S * a / b * b * T:=by rw[Int.mul_assoc,Int.mul_comm T,<- Int.mul_assoc]
   have e2:S * a * T=S * T * a:=by rw[Int.mul_assoc,Int.mul_comm a,<- Int.mul_assoc]
   have e3:h * a * b=h * b * a:=by rw[Int.mul_assoc,Int.mul_comm a,<- Int.mul_assoc]
   omega
  ·have n:cV s.clo.hd (s.clo.cut t).pot<=cV s.clo.hd s.clo.pot:=ml fun j f=>by
    have w:=(c.tr j f).2.2;unfold St.pot;rw[g j f]
    show ((s.clo.tr j).1+(s.clo.tr j).2.1 * iC (s.clo.R s.clo.la) (s.clo.tr j).2.2 / U36) * U36+_ * (s.clo.R s.clo.la - s.clo.R s.clo.la)<=_
    unfold iC;rw[if_pos w,Int.sub_self,Int.mul_zero,Int.add_mul];have:=Int.ediv_mul_le ((s.clo.tr j).2.1 * (s.clo.R s.clo.la - (s.clo.tr j).2.2)) (show U36≠0 by decide);omega
   have:=c.sum
   show U36 * (s.clo.all+s.clo.cur)+cV s.clo.hd (s.clo.cut t).pot<=U36 * s.clo.giv
   omega
 | skip=>exact I
end
end
end Fo
end Go.Proofs.YtjejmkcjflhoiaaGreatDoor
