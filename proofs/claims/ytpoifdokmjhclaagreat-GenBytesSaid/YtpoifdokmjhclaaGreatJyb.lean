import Derived.Test.YtpoifdokmjhclaaGreatJya
import Derived.OpenShut
import Derived.Laws.AppendOwnNone
import Derived.Great.FillDense
import Derived.Lib.SlBytesConst
set_option maxRecDepth 100000
set_option maxHeartbeats 8000000
namespace Go.Proofs.YtpoifdokmjhclaaGreat
section
open Go.RowKit Lim
section
variable {w:World}{b n c k g:Nat}{ao:Option Addr}{l:List Int}{u v:Value}
structure ByA(w:World)(b:Nat)(ao:Option Addr)(n c:Nat)(l:List Int):Prop where
 ex:∃ o,l.length=n/\n<=c/\(c<=9223372036854775807/\(ao=none->c=0))/\aJ l/\AtB w ao b o l
theorem ByA.keep{w':World}(h:ByA w b ao n c l)(hb:BW w w'):ByA w' b ao n c l:=by
 obtain⟨o,h1,h2,h3,h4,h5⟩:=h.ex;exact⟨o,h1,h2,h3,h4,h5.keep hb⟩
theorem bZ(b o n:Nat):(⟨b,o,none⟩:Addr).add n=⟨b,o+n,none⟩:=by
 unfold Addr.add;split
 ·subst n;rfl
 rfl
def cN(ao:Option Addr)(c n:Nat):Option Addr:=if c=n then ao else ao.map (·.add n)
theorem so(h:cN ao c k=none):ao=none:=by
 unfold cN at h;split at h
 ·exact h
 cases ao with
 | none=>rfl
 | some a=>cases h
theorem ByA.rest(h:ByA w b ao n c l)(hk:k<=n):ByA w b (cN ao c k) (n - k) (c - k) (l.drop k):=by
 obtain⟨o,d,m,a,g,f⟩:=h.ex;by_cases hn:n=k
 ·have e:l.drop k=[]:=List.drop_eq_nil_of_le (by omega);rw[e];exact⟨0,by rw[hn];simp,by omega,⟨by have:=a.1;omega,λe=>by have:=a.2 (so e);omega⟩,λx hx=>by simp at hx,.inl rfl,λi hi=>by simp at hi⟩
 have j:l≠[]:=λe=>by rw[e] at d; simp at d; omega
 obtain rfl:ao=some ⟨b,o,none⟩:=by
  rcases f.loc with e | e
  ·exact absurd e j
  exact e
 have e:cN (some ⟨b,o,none⟩) c k=some ⟨b,o+k,none⟩:=by
  unfold cN;rw[if_neg (by omega)];exact congrArg some (bZ b o k)
 rw[e];refine⟨o+k,by rw[List.length_drop];omega,by omega,⟨by have:=a.1;omega,λe=>by cases e⟩,λx hx=>g x (List.mem_of_mem_drop hx),.inr rfl,λi hi=>?_⟩;rw[List.length_drop] at hi;have:=f.cell (k+i) (by omega);rw[show o+k+i=o+(k+i) by omega,this,dI]
theorem ByA.front(h:ByA w b ao n c l)(hk:k<=n):ByA w b ao k k (l.take k):=by
 obtain⟨o,j,g,a,f,d⟩:=h.ex;refine⟨o,by rw[List.length_take];omega,Nat.le_refl _,⟨by have:=a.1;omega,λe=>by have:=a.2 e;omega⟩,λx hx=>f x (List.mem_of_mem_take hx),?_,λi hi=>?_⟩
 ·rcases d.loc with e | e
  ·exact .inl (by rw[e];simp)
  exact .inr e
 rw[List.length_take] at hi;rw[d.cell i (by omega),df]
theorem Box.two{t:TypeId}(h:Box w g [u,v] t):w.cell? ⟨g,0,none⟩=some u/\w.cell? ⟨g,1,none⟩=some v/\w.frozen? ⟨g,0,none⟩=false/\w.frozen? ⟨g,1,none⟩=false:=by
 have:=h.blk;simp[World.cell?,World.frozen?,this]
theorem fM{err:Int}{t:TypeId}(X:Box w g [.int .i64 err,v] t) :
  Calls Tryz.prog 54 #[.pointer (some ⟨g,0,none⟩)] w λe w'=>e=.returned (.bool (err == 0))/\w'=w:=by
 obtain⟨c1,c2,c3,b⟩:=X.two;go_enter Tryz.func54,Tryz.ntmps54;go_wp2;go_ret;exact⟨rfl,rfl⟩
theorem pT{e0:Int}{t:TypeId}(X:Box w g [.int .i64 0,v] t) :
  Calls Tryz.prog 81 #[.pointer (some ⟨g,0,none⟩),.int .i64 e0] w λe w'=>e=.returned (.tuple #[])/\w'=w.setCell ⟨g,0,none⟩ (.int .i64 e0):=by
 obtain⟨c1,c2,c3,b⟩:=X.two;go_enter Tryz.func81,Tryz.ntmps81;go_wp2_with fail;refine(fM X).mono ?_
 rintro e w' ⟨rfl,rfl⟩;go_wp2;go_end0;exact⟨rfl,rfl⟩
theorem vW{m:Int}{t:TypeId}(X:Box w g [u,.slice ao n c] t)(hn:n<=9223372036854775807)(hm:(n:Int) < m) :
  Calls Tryz.prog 157 #[.pointer (some ⟨g,0,none⟩),.int .u64 m] w λe w'=>e=.returned (.tuple #[.slice none 0 0,.int .i64 40])/\w'=w:=by
 obtain⟨c1,c2,c3,b⟩:=X.two;go_enter Tryz.func157,Tryz.ntmps157;go_wp2;go_ret2;exact⟨rfl,rfl⟩
theorem Dc{m:Nat}{t:TypeId}(X:Box w g [u,.slice ao n c] t)(hc:n<=c)(hn:c<=9223372036854775807)(hm:m<=n) :
  Calls Tryz.prog 157 #[.pointer (some ⟨g,0,none⟩),.int .u64 m] w λe w'=>e=.returned (.tuple #[.slice ao m m,.int .i64 0])/\w'=w.setCell ⟨g,1,none⟩ (.slice (cN ao c m) (n - m) (c - m)):=by
 obtain⟨c1,c2,c3,f⟩:=X.two
 have b:(m:Int)<=n:=by omega
 have d:(m:Int)<=c:=by omega
 go_enter Tryz.func157,Tryz.ntmps157;go_wp2
 ·go_ret2;exact⟨rfl,by unfold cN;rw[if_pos rfl]⟩
 go_ret2;exact⟨rfl,by unfold cN;rw[if_neg (by assumption)]⟩
end
section
variable {w w':World}{ao:Option Addr}{b g n c:Nat}{l:List Int}{cs:List Value}
theorem or8(a b:Int)(h0:0<=a)(h1:a < 72057594037927936)(h2:0<=b)(h3:b < 256):bits .or .u64 (a * 256) b=a * 256+b:=qm (a * 256) b 8 a (by rw[show (2:Int) ^ 8=256 by decide]) h0 h2 (by omega)
theorem nT(l:List Int)(x:Int):bJ (l ++ [x])=bJ l * 256+x:=by
 induction l with
 | nil=>simp[bJ]
 | cons y l ih =>
  rw[List.cons_append,bJ,bJ,ih,List.length_append,List.length_singleton,Int.pow_succ];grind
theorem AtB.box{o:Nat}(k:AtB w ao b o l){t:TypeId}(s:Box w g cs t)(hv:∀ v∈cs,∀ x,v≠.int .u8 x)(hw:∀ k,k≠g->w'.heap[k]?=w.heap[k]?):AtB w' ao b o l :=
 ⟨k.loc,λi hi=>by
  have hc:=k.cell i hi;by_cases e:b=g
  ·subst e;simp only[World.cell?,s.blk] at hc
   have a:cs.toArray[o+i]?=some (.int .u8 (nth l i)):=by simpa using hc
   rw[List.getElem?_toArray] at a;exact absurd rfl (hv _ (List.mem_of_getElem? a) _)
  rw[World.cell?_of_block (w:=w) (hw b e)];exact hc⟩
theorem ByA.box(h:ByA w b ao n c l){t:TypeId}(s:Box w g cs t)(hv:∀ v∈cs,∀ x,v≠.int .u8 x)(hw:∀ k,k≠g->w'.heap[k]?=w.heap[k]?):ByA w' b ao n c l:=by
 obtain⟨o,e,a,i,d,f⟩:=h.ex;exact⟨o,e,a,i,d,f.box s hv hw⟩
theorem lV(err:Int)(ao:Option Addr)(n c:Nat):∀ v∈[Value.int .i64 err,Value.slice ao n c],∀ x,v≠.int .u8 x:=λv hv x e=>by
 rcases List.mem_cons.1 hv with h | h
 ·subst h;cases e
 rw[List.mem_singleton] at h;subst h;cases e
theorem rdNum{m:Nat}{err:Int}{t:TypeId}(X:Box w g [.int .i64 err,.slice ao n c] t)(h:ByA w b ao n c l)(hm:m<=n)(K:m<=8) :
  Calls Tryz.prog 123 #[.pointer (some ⟨g,0,none⟩),.int .u64 m] w λe w'=>e=.returned (.tuple #[.int .u64 (bJ (l.take m)),.int .i64 0])/\w'=w.setCell ⟨g,1,none⟩ (.slice (cN ao c m) (n - m) (c - m)):=by
 obtain⟨o,L,z,⟨B,-⟩,s,F⟩:=h.ex
 have hA:ByA (w.setCell ⟨g,1,none⟩ (.slice (cN ao c m) (n - m) (c - m))) b ao n c l:=h.box X (lV _ _ _ _) λk hk=>Below.heap_setCell _ _ _ k hk
 have t:=Dc (m:=m) X z B hm;obtain⟨I,-,-,-,-,f⟩:=hA.ex;clear hA F h X
 have y:Hid (aJ l):=s;clear s;go_enter Tryz.func123,Tryz.ntmps123;go_wp2_with fail;refine t.mono ?_
 rintro e w' ⟨rfl,rfl⟩;clear t;generalize hWW:w.setCell ⟨g,1,none⟩ (.slice (cN ao c m) (n - m) (c - m))=W at *;have i:=(show Hid _ from hWW)
 clear hWW;go_wp2_with fail;go_loop [8,10,19] (λJ td r=>∃ k:Nat,k<=m/\r=.int .i64 k/\J=.int .u64 (bJ (l.take k))) (λ_ _ r=>m - (intOf r).toNat)
 case atStart=>exact⟨0,Nat.zero_le _,rfl,rfl⟩
 case round =>
  obtain⟨k,hk,rfl,rfl⟩:=hrel;by_cases C:k < m
  ·have d:k < l.length:=by omega
   have p:=f.cell k d;obtain rfl:ao=some ⟨b,I,none⟩:=by
    rcases f.loc with e | e
    ·rw[e] at d;simp at d
    exact e
   have E:(k:Int) < m:=by omega
   have u:=y.out.nth k;have v:=bL (l:=l.take k) (λx hx=>y.out x (List.mem_of_mem_take hx))
   have G:(256:Int) ^ (l.take k).length<=256 ^ 7:=fU (by rw[List.length_take];omega)
   have q:bJ (l.take k) < 72057594037927936:=by
    have e7:(256:Int) ^ 7=72057594037927936:=by decide
    omega
   have j:=v.1;have H:=or8 (bJ (l.take k)) (nth l k) j q u.1 u.2
   have A:Hid (bJ (l.take (k+1))=bJ (l.take k) * 256+nth l k):=by show _=_;rw[dw d,nT]
   clear v G;generalize bJ (l.take k)=V at *;generalize nth l k=D at *;go_wp2;go_round
   case rel=>exact⟨k+1,by omega,by go_num,by rw[A.out]⟩
   case measure=>simp[intOf];omega
  obtain rfl:k=m:=by omega
  go_wp2;go_ret2;exact⟨rfl,i.out.symm⟩
end
section
variable {g n c gr gs:Nat}{w w':World}{a b v fv:Value}{m err x e0:Int}{ao:Option Addr}{Q:World→Prop}{l:List Int}
structure But(g:Nat)(w w':World):Prop where
 os:w'.os=w.os
 tape:w'.tape=w.tape
 output:w'.output=w.output
 size:w.heap.size<=w'.heap.size
 block:∀ k,k < w.heap.size->k≠g->w'.heap[k]?=w.heap[k]?
theorem But.below{B:Nat}{a:World}(h:But g w w')(b:Below B a w)(c:B<=g)(hs:B<=a.heap.size):Below B a w' :=
 ⟨h.os.trans b.os,h.tape.trans b.tape,h.output.trans b.output,Nat.le_trans b.size h.size,λk hk=>(h.block k (Nat.lt_of_lt_of_le (Nat.lt_of_lt_of_le hk hs) b.size) (by omega)).trans (b.block k hk)⟩
theorem xV{w1 a c:World}(b:BW w w1)(h:∀ k,k≠g->a.heap[k]?=w1.heap[k]?)(ho:a.os=w1.os)(ht:a.tape=w1.tape)(hp:a.output=w1.output)(hs:a.heap.size=w1.heap.size)(e:c=a):But g w c:=by
 subst e;exact⟨ho.trans b.os,ht.trans b.tape,hp.trans b.output,by rw[hs];exact b.size,λk hk d=>(h k d).trans (b.block k hk)⟩
theorem dr{t:TypeId}(h:Box w g [a,b] t)(v:Value):Box (w.setCell ⟨g,1,none⟩ v) g [a,v] t:=⟨by
 have:=h.blk;simp only[World.setCell,Array.getElem?_modify,if_true,this]
 simp⟩
theorem ix{t:TypeId}(h:Box w g [a,b] t)(v:Value):Box (w.setCell ⟨g,0,none⟩ v) g [v,b] t:=⟨by
 have:=h.blk;simp only[World.setCell,Array.getElem?_modify,if_true,this]
 simp⟩
theorem BG{t:TypeId}(X:Box w g [.int .i64 err,.slice ao n c] t)(hm:(n:Int) < m)(hn:n≤9223372036854775807:=by omega) :
    Calls Tryz.prog 123 #[.pointer (some ⟨g,0,none⟩),.int .u64 m] w λe w'=>e=.returned (.tuple #[.int .u64 0,.int .i64 40])∧w'=w:=by
  have t:=vW X hn hm;clear hm;go_enter Tryz.func123,Tryz.ntmps123;go_wp2_with fail;refine t.mono ?_
  rintro e w' ⟨rfl,rfl⟩;clear t;go_wp2_with fail;go_loop [8,10,19] (λd td b=>d=.int .u64 0∧b=.int .i64 0) (λ_ _ _=>0)
  case atStart=>exact⟨rfl,rfl⟩
  case round =>
    obtain⟨rfl,rfl⟩:= hrel;go_wp2;go_ret2;exact⟨rfl,rfl⟩
theorem zX(hr:w.cell? ⟨gr,0,none⟩=some (.pointer (some ⟨g,0,none⟩)))(hs:w.cell? ⟨gs,0,none⟩=some (.int .u64 m))(b:Calls Tryz.prog 123 #[.pointer (some ⟨g,0,none⟩),.int .u64 m] w λe w'=>e=.returned (.tuple #[.int .u64 x,.int .i64 e0])∧Q w') :
    Calls Tryz.prog 122 #[.pointer (some ⟨gr,0,none⟩),.pointer (some ⟨gs,0,none⟩)] w λe w'=>e=.returned (.tuple #[.int .u64 x,.int .i64 e0])∧Q w':=by
  go_enter Tryz.func122,Tryz.ntmps122;go_wp2_with fail;refine b.mono ?_
  rintro e w' ⟨rfl,c⟩;clear b;go_wp2;go_ret2;exact⟨rfl,c⟩
theorem enBad{t:TypeId}(X:Box w g [.int .i64 err,v] t)(he:err≠0) :
  Calls Tryz.prog 121 #[.pointer (some ⟨g,0,none⟩),fv] w λe w'=>e=.returned (.int .u64 0)/\w'=w:=by
 have hb:(err == 0)=false:=beq_eq_false_iff_ne.2 he;have t:=fM X;rw[hb] at t;clear he hb;go_enter Tryz.func121,Tryz.ntmps121;go_wp2_with fail;refine t.mono ?_
 rintro e w' ⟨rfl,rfl⟩;clear t;go_wp2;go_ret;exact⟨rfl,rfl⟩
theorem enOk{t:TypeId}{Q:World->Prop}(X:Box w g [.int .i64 0,.slice ao n c] t)(b:Calls Tryz.prog 122 #[.pointer (some ⟨gr,0,none⟩),.pointer (some ⟨gs,0,none⟩)] w λe w'=>e=.returned (.tuple #[.int .u64 x,.int .i64 0])/\Q w') :
  Calls Tryz.prog 121 #[.pointer (some ⟨g,0,none⟩),.func (.func 122) #[] #[.pointer (some ⟨gr,0,none⟩),.pointer (some ⟨gs,0,none⟩)]] w λe w'=>e=.returned (.int .u64 x)/\Q w':=by
 obtain⟨c1,c2,c3,i⟩:=X.two;have t:=fM X;go_enter Tryz.func121,Tryz.ntmps121;go_wp2_with fail;refine t.mono ?_
 rintro e w' ⟨rfl,rfl⟩;clear t;go_wp2_with fail;refine b.mono ?_
 rintro e f ⟨rfl,d⟩;clear b;go_wp2;go_ret;exact⟨rfl,d⟩
theorem enErr{t:TypeId}(he:e0≠0)(X:Box w g [.int .i64 0,.slice ao n c] t)(b:Calls Tryz.prog 122 #[.pointer (some ⟨gr,0,none⟩),.pointer (some ⟨gs,0,none⟩)] w λe w'=>e=.returned (.tuple #[.int .u64 x,.int .i64 e0])/\w'=w) :
  Calls Tryz.prog 121 #[.pointer (some ⟨g,0,none⟩),.func (.func 122) #[] #[.pointer (some ⟨gr,0,none⟩),.pointer (some ⟨gs,0,none⟩)]] w λe w'=>e=.returned (.int .u64 0)/\w'=(w.setCell ⟨g,1,none⟩ (.slice ao n c)).setCell ⟨g,0,none⟩ (.int .i64 e0):=by
 obtain⟨c1,c2,c3,l⟩:=X.two
 have f:Box (w.setCell ⟨g,1,none⟩ (.slice ao n c)) g [.int .i64 0,.slice ao n c] t:=dr X _;have d:=fM X
 have hb:(e0 == 0)=false:=beq_eq_false_iff_ne.2 he;clear he;go_enter Tryz.func121,Tryz.ntmps121;go_wp2_with fail;refine d.mono ?_
 rintro e w' ⟨rfl,rfl⟩;clear d;go_wp2_with fail;refine b.mono ?_
 rintro e i ⟨rfl,rfl⟩;clear b;go_wp2_with fail;refine(pT f).mono ?_
 rintro e j ⟨rfl,rfl⟩;go_wp2;go_ret;exact⟨rfl,rfl⟩
structure RdA(w:World)(g b:Nat)(err:Int)(l:List Int):Prop where
 ex:∃ ao n c,Box w g [.int .i64 err,.slice ao n c] 161/\ByA w b ao n c l
theorem RdA.keep{b:Nat}(h:RdA w g b err l)(hb:BW w w'):RdA w' g b err l:=by
 obtain⟨ao,n,c,h1,h2⟩:=h.ex;exact⟨ao,n,c,h1.keep hb,h2.keep hb⟩
def qF(m:Nat)(err:Int)(l:List Int):Int:=if err=0/\m<=l.length then bJ (l.take m) else 0
def qN(m:Nat)(err:Int)(l:List Int):Int:=if err=0 then (if m<=l.length then 0 else 40) else err
def rC(m:Nat)(err:Int)(l:List Int):List Int:=if err=0/\m<=l.length then l.drop m else l
theorem size_set(w:World)(p:Addr)(v:Value):(w.setCell p v).heap.size=w.heap.size:=by simp[World.setCell]
theorem wS{b m:Nat}(h:RdA w g b err l)(G:m≤8:=by decide) :
    Calls Tryz.prog 79 #[.pointer (some ⟨g,0,none⟩),.int .u64 m] w λe w'=>e=.returned (.int .u64 (qF m err l))∧RdA w' g b (qN m err l) (rC m err l)∧But g w w':=by
  have d:=below2 w (.cells #[.pointer (some ⟨g,0,none⟩)] 105) (.cells #[.int .u64 m] 22);have x:=(mM w (.pointer (some ⟨g,0,none⟩)) 105).alloc (.cells #[.int .u64 m] 22);have y:=uZ w (.cells #[.pointer (some ⟨g,0,none⟩)] 105) (.int .u64 (m:Int)) 22;have H:=h.ex;obtain⟨E,n,c,r,i⟩:= H;have C:=r.lt;have X:=r.keep d;have hA:=i.keep d;obtain⟨o,D,z,⟨B,-⟩,A,I⟩:= hA.ex;have q1:=x.cell;have s:=y.cell;clear I;by_cases he:err=0
  · subst he
    by_cases hm:m≤n
    · have t:=enOk X (zX q1 s (rdNum X hA hm G))
      have v:Hid (qF m 0 l=bJ (l.take m)):=by show _=_;unfold qF;rw[if_pos ⟨rfl,by omega⟩]
      have p:Hid (∀ f,f=(((w.alloc (.cells #[.pointer (some ⟨g,0,none⟩)] 105)).alloc (.cells #[.int .u64 m] 22)).setCell ⟨g,1,none⟩ (.slice (cN E c m) (n - m) (c - m)))→RdA f g b (qN m 0 l) (rC m 0 l)∧But g w f):=by
        intro f e;subst e;refine⟨?_,?_⟩
        · unfold qN rC
          rw[if_pos rfl,if_pos (by omega),if_pos ⟨rfl,by omega⟩];exact⟨_,_,_,dr X _,(hA.rest hm).box X (lV _ _ _ _) λk hk=>Below.heap_setCell _ _ _ k hk⟩
        · exact xV d (λk hk=>Below.heap_setCell _ _ _ k hk) rfl rfl rfl (size_set _ _ _) rfl
      clear r i X hA x y h D z B A q1 s d;go_enter Tryz.func79,Tryz.ntmps79;go_wp2_with fail;refine t.mono ?_
      rintro e F ⟨rfl,j⟩;have q:=(show Hid _ from p.out _ j);clear t j p;go_wp2;go_ret;exact⟨by rw[v.out];rfl,q.out⟩
    · have t:=enErr (by decide) X (zX q1 s (BG X (by omega:(n:Int) < m)))
      have v:Hid (qF m 0 l=0):=by show _=_;unfold qF;rw[if_neg (λu=>hm (by omega))]
      have p:Hid (∀ f,f=((((w.alloc (.cells #[.pointer (some ⟨g,0,none⟩)] 105)).alloc (.cells #[.int .u64 m] 22)).setCell ⟨g,1,none⟩ (.slice E n c)).setCell ⟨g,0,none⟩ (.int .i64 40))→RdA f g b (qN m 0 l) (rC m 0 l)∧But g w f):=by
        intro f e;subst e;refine⟨?_,?_⟩
        · unfold qN rC
          rw[if_pos rfl,if_neg (by omega),if_neg (λu=>hm (by omega))];exact⟨_,_,_,ix (dr X _) _,hA.box X (lV _ _ _ _) λk hk=>by rw[Below.heap_setCell _ _ _ k hk,Below.heap_setCell _ _ _ k hk]⟩
        · exact⟨d.os,d.tape,d.output,by rw[size_set,size_set];exact d.size,λk hk C=>by rw[Below.heap_setCell _ _ _ k C,Below.heap_setCell _ _ _ k C];exact d.block k hk⟩
      clear r i X hA x y h D z B A q1 s d hm;go_enter Tryz.func79,Tryz.ntmps79;go_wp2_with fail;refine t.mono ?_
      rintro e F ⟨rfl,j⟩;have q:=(show Hid _ from p.out _ j);clear t j p;go_wp2;go_ret;exact⟨by rw[v.out];rfl,q.out⟩
  · have t := λfv => enBad (fv := fv) X he
    have v:Hid (qF m err l=0):=by show _=_;unfold qF;rw[if_neg (λu=>he u.1)]
    have p:Hid (∀ f,f=((w.alloc (.cells #[.pointer (some ⟨g,0,none⟩)] 105)).alloc (.cells #[.int .u64 m] 22))→RdA f g b (qN m err l) (rC m err l)∧But g w f):=by
      intro f e;subst e;refine⟨?_,?_⟩
      · unfold qN rC
        rw[if_neg he,if_neg (λu=>he u.1)];exact⟨_,_,_,X,hA⟩
      · exact⟨d.os,d.tape,d.output,d.size,λk hk _=>d.block k hk⟩
    clear r i X hA x y h D z B A q1 s d he;go_enter Tryz.func79,Tryz.ntmps79;go_wp2_with fail;refine(t _).mono ?_
    rintro e F ⟨rfl,j⟩;have q:=(show Hid _ from p.out _ j);clear t j p;go_wp2;go_ret;exact⟨by rw[v.out];rfl,q.out⟩
end
def cy (w:World) (B:Nat) (v:Value) (l:List Int):Prop:=w.ownsRow B 5 1 v l.length (l.map (Value.int .u8))
theorem Dv {w:World} {B:Nat} {e:TypeId} {v:Value} {n:Nat} {xs:List Value} (h:w.ownsRow B e 1 v n xs):∀ g,v.ownBlock=some g->B<=g:=by
 intro g a;rcases h.2 with⟨rfl,_⟩ | ⟨g',cap,cur,rfl,hB,_⟩
 ·simp[Value.ownBlock] at a
 simp[Value.ownBlock] at a;omega
def halves:List Int->List Int
 | []=>[]
 | x :: l=>x % 4294967296 :: x / 4294967296 :: halves l
theorem oA (ao:Option Addr) (n c b o:Nat) (l:List Int) (w:World) (t:l.length=n) (hbig:n≤1099511627776) (m:ao=none→c=0) (y:AtB w ao b o l) :
    Calls Tryz.prog 7 #[.slice ao n c] w λe w'=>∃ v,e=.returned v∧cy w' w.heap.size v l∧BW w w':=by
  obtain⟨i0,hi,A,B,s⟩:= info_parts gT
  have d:w.ownsRow w.heap.size 5 1 (.slice none 0 0) 0 []:=World.ownsRow_nil _ _ _ _;have z:=Dv d
  cases ao with
  | none =>
    have D : l = [] := by rcases y.loc with e | e
                          · exact e
                          · simp at e
    subst D
    have C:n=0:=t.symm;subst C;have r:=m rfl;subst r;go_enter Tryz.func7,Tryz.ntmps7;go_wp2_with (at_builtin;refine wpList_append_own_none rfl _ _ 29 rfl w.heap.size 5 i0 1 cJ hi _ _ _ rfl d rfl ?_);go_ret;exact⟨_,rfl,d,Below.refl _ _⟩
  | some x =>
    have q:∀ j u,(l.map (Value.int .u8))[j]?=some u→w.cell? (x.add j)=some u:=by
      intro j u hu;rw[List.getElem?_map] at hu
      have f:j < l.length:=by
        rcases Nat.lt_or_ge j l.length with f | f
        · exact f
        · rw[List.getElem?_eq_none f] at hu;simp at hu
      rw[List.getElem?_eq_getElem f] at hu;simp at hu;subst hu
      have hx:x=⟨b,o,none⟩:= by
        rcases y.loc with e | e
        · subst e;simp at f
        · simpa using e
      subst hx;have:=y.cell j f;rw[cF f] at this;rw[← this];by_cases p:j=0
      · subst p;exact congrArg w.cell? (by simp[Addr.add])
      · exact congrArg w.cell? (by simp[Addr.add,p])
    go_enter Tryz.func7,Tryz.ntmps7;go_wp2_with (at_builtin;refine wpList_append_own _ rfl _ _ 29 rfl w.heap.size 5 i0 (.int .u8 0) 1 1 cJ hi A B s rfl (by decide) _ _ _ rfl d x n c (l.map (Value.int .u8)) rfl (by simp[t]) ?c1 ?c2 ?c3 ?c4 ?c5 ?_)
    case c1=>exact q
    case c2=>exact ints_oneCell _ _
    case c3=>unfold maxLen;omega
    case c4=>omega
    case c5=>exact Nat.le_refl _
    intro E F g i _;go_wp2;go_ret;refine⟨E,rfl,?_,(Below.refl _ _).grown i (Nat.le_refl _) z⟩;unfold cy;rw[t];simpa using g
section
variable {w:World}{g n c:Nat}{err e0:Int}{v fv:Value}{ao:Option Addr}{Q:Value->World->Prop}
theorem DE{t:TypeId}(X:Box w g [.int .i64 err,v] t)(he:err≠0) :
  Calls Tryz.prog 154 #[.pointer (some ⟨g,0,none⟩),fv] w λe w'=>e=.returned (.bool false)/\w'=w:=by
 have hb:(err == 0)=false:=beq_eq_false_iff_ne.2 he;have t:=fM X;rw[hb] at t;clear he hb;go_enter Tryz.func154,Tryz.ntmps154;go_wp2_with fail;refine t.mono ?_
 rintro e w' ⟨rfl,rfl⟩;clear t;go_wp2;go_ret;exact⟨rfl,rfl⟩
theorem enBoOk{t:TypeId}(X:Box w g [.int .i64 0,.slice ao n c] t)(b:Calls Tryz.prog 155 #[.pointer (some ⟨g,0,none⟩)] w λe w'=>∃ v,e=.returned (.tuple #[v,.int .i64 0])/\Q v w') :
  Calls Tryz.prog 154 #[.pointer (some ⟨g,0,none⟩),.func (.func 155) #[.pointer (some ⟨g,0,none⟩)] #[]] w λe w'=>∃ v,e=.returned v/\Q v w':=by
 obtain⟨c1,c2,c3,j⟩:=X.two;have t:=fM X;go_enter Tryz.func154,Tryz.ntmps154;go_wp2_with fail;refine t.mono ?_
 rintro e w' ⟨rfl,rfl⟩;clear t;go_wp2_with fail;refine b.mono ?_
 rintro e i ⟨v,rfl,d⟩;have f:=(show Hid _ from d)
 clear b d;go_wp2;go_ret;exact⟨v,rfl,f.out⟩
theorem Eb{t:TypeId}(he:e0≠0)(X:Box w g [.int .i64 0,.slice ao n c] t)(hQ:∀ v w1,Q v w1->∃ y,Box w1 g [.int .i64 0,y] t)(j:Calls Tryz.prog 155 #[.pointer (some ⟨g,0,none⟩)] w λe w'=>∃ v,e=.returned (.tuple #[v,.int .i64 e0])/\Q v w') :
  Calls Tryz.prog 154 #[.pointer (some ⟨g,0,none⟩),.func (.func 155) #[.pointer (some ⟨g,0,none⟩)] #[]] w λe w'=>e=.returned (.bool false)/\∃ v w1,Q v w1/\w'=(w1.setCell ⟨g,1,none⟩ (.slice ao n c)).setCell ⟨g,0,none⟩ (.int .i64 e0):=by
 obtain⟨c1,c2,c3,q⟩:=X.two;have l:=fM X
 have hb:(e0 != 0)=true:=bne_iff_ne.2 he;have o:=(show Hid _ from hQ)
 clear he hQ;go_enter Tryz.func154,Tryz.ntmps154;go_wp2_with fail;refine l.mono ?_
 rintro e w' ⟨rfl,rfl⟩;clear l;go_wp2_with fail;refine j.mono ?_
 rintro e w1 ⟨v,rfl,b⟩;obtain⟨y,i⟩:=o.out v w1 b;have p:=(show Hid _ from b)
 have m:Box (w1.setCell ⟨g,1,none⟩ (.slice ao n c)) g [.int .i64 0,.slice ao n c] t:=dr i _;obtain⟨d1,d2,d3,d4⟩:=i.two;have t3:=pT (e0:=e0) m;clear j b o X i m c1 c2 c3 q d1 d3;go_wp2_with fail;refine t3.mono ?_
 rintro e r ⟨rfl,d⟩;have f:=(show Hid _ from d)
 clear t3 d;go_wp2;go_ret;exact⟨rfl,v,w1,p.out,f.out⟩
theorem EV{t:TypeId}(X:Box w g [.int .i64 err,v] t)(he:err≠0) :
  Calls Tryz.prog 203 #[.pointer (some ⟨g,0,none⟩),fv] w λe w'=>e=.returned (.slice none 0 0)/\w'=w:=by
 have hb:(err == 0)=false:=beq_eq_false_iff_ne.2 he;have t:=fM X;rw[hb] at t;clear he hb;go_enter Tryz.func203,Tryz.ntmps203;go_wp2_with fail;refine t.mono ?_
 rintro e w' ⟨rfl,rfl⟩;clear t;go_wp2;go_ret;exact⟨rfl,rfl⟩
theorem enNaOk{t:TypeId}(X:Box w g [.int .i64 0,.slice ao n c] t)(b:Calls Tryz.prog 204 #[.pointer (some ⟨g,0,none⟩)] w λe w'=>∃ v,e=.returned (.tuple #[v,.int .i64 0])/\Q v w') :
  Calls Tryz.prog 203 #[.pointer (some ⟨g,0,none⟩),.func (.func 204) #[.pointer (some ⟨g,0,none⟩)] #[]] w λe w'=>∃ v,e=.returned v/\Q v w':=by
 obtain⟨c1,c2,c3,j⟩:=X.two;have t:=fM X;go_enter Tryz.func203,Tryz.ntmps203;go_wp2_with fail;refine t.mono ?_
 rintro e w' ⟨rfl,rfl⟩;clear t;go_wp2_with fail;refine b.mono ?_
 rintro e i ⟨v,rfl,d⟩;have f:=(show Hid _ from d)
 clear b d;go_wp2;go_ret;exact⟨v,rfl,f.out⟩
theorem EH{t:TypeId}(he:e0≠0)(X:Box w g [.int .i64 0,.slice ao n c] t)(hQ:∀ v w1,Q v w1->∃ y,Box w1 g [.int .i64 0,y] t)(j:Calls Tryz.prog 204 #[.pointer (some ⟨g,0,none⟩)] w λe w'=>∃ v,e=.returned (.tuple #[v,.int .i64 e0])/\Q v w') :
  Calls Tryz.prog 203 #[.pointer (some ⟨g,0,none⟩),.func (.func 204) #[.pointer (some ⟨g,0,none⟩)] #[]] w λe w'=>e=.returned (.slice none 0 0)/\∃ v w1,Q v w1/\w'=(w1.setCell ⟨g,1,none⟩ (.slice ao n c)).setCell ⟨g,0,none⟩ (.int .i64 e0):=by
 obtain⟨c1,c2,c3,q⟩:=X.two;have l:=fM X
 have hb:(e0 != 0)=true:=bne_iff_ne.2 he;have o:=(show Hid _ from hQ)
 clear he hQ;go_enter Tryz.func203,Tryz.ntmps203;go_wp2_with fail;refine l.mono ?_
 rintro e w' ⟨rfl,rfl⟩;clear l;go_wp2_with fail;refine j.mono ?_
 rintro e w1 ⟨v,rfl,b⟩;obtain⟨y,i⟩:=o.out v w1 b;have p:=(show Hid _ from b)
 have m:Box (w1.setCell ⟨g,1,none⟩ (.slice ao n c)) g [.int .i64 0,.slice ao n c] t:=dr i _;obtain⟨d1,d2,d3,d4⟩:=i.two;have t3:=pT (e0:=e0) m;clear j b o X i m c1 c2 c3 q d1 d3;go_wp2_with fail;refine t3.mono ?_
 rintro e r ⟨rfl,d⟩;have f:=(show Hid _ from d)
 clear t3 d;go_wp2;go_ret;exact⟨rfl,v,w1,p.out,f.out⟩
end
section
variable {w w' w1:World}{g:Nat}{err aw u e0:Int}{p q:Option Addr}{lat l:List Int}{a:Act}{o:Oper}{v:Value}{cs:Array Value}
def dF(err:Int)(p:Option Addr)(aw:Int)(lat:List Int)(u:Int):List Value:=.int .i64 err :: .pointer p :: .int .i64 aw :: (lat.map (Value.int .u8) ++ [.int .i64 u])
structure cV(w:World)(g:Nat)(err:Int)(p:Option Addr)(aw:Int)(lat:List Int)(u:Int):Prop where
 len:lat.length=256
 blk:∃ T,(T≠124/\T≠5)/\w.heap[g]?=some (.cells (dF err p aw lat u).toArray T (0,0))
theorem cV.box(h:cV w g err p aw lat u):∃ T,T≠124/\Box w g (dF err p aw lat u) T:=h.blk.imp λ_ h=>⟨h.1.1,⟨h.2⟩⟩
theorem cV.lt(h:cV w g err p aw lat u):g < w.heap.size:=h.box.elim λ_ h=>h.2.lt
theorem cV.keep(h:cV w g err p aw lat u)(hb:BW w w'):cV w' g err p aw lat u:=⟨h.len,h.blk.imp λ_ h=>⟨h.1,(Box.keep ⟨h.2⟩ hb).blk⟩⟩
theorem cV.off{g':Nat}(h:cV w g err p aw lat u)(hne:g≠g')(hw:∀ k,k≠g'->w'.heap[k]?=w.heap[k]?):cV w' g err p aw lat u:=⟨h.len,by rw[hw g hne];exact h.blk⟩
theorem cV.free(h:cV w g err p aw lat u)(k:Nat):w.frozen? ⟨g,k,none⟩=false:=by
 obtain⟨T,hT,this⟩:=h.blk;simp[World.frozen?,this]
theorem cV.c0(h:cV w g err p aw lat u):w.cell? ⟨g,0,none⟩=some (.int .i64 err):=by
 obtain⟨T,hT,this⟩:=h.blk;simp[World.cell?,this,dF]
theorem cV.c1(h:cV w g err p aw lat u):w.cell? ⟨g,1,none⟩=some (.pointer p):=by
 obtain⟨T,hT,this⟩:=h.blk;simp[World.cell?,this,dF]
theorem cV.c2(h:cV w g err p aw lat u):w.cell? ⟨g,2,none⟩=some (.int .i64 aw):=by
 obtain⟨T,hT,this⟩:=h.blk;simp[World.cell?,this,dF]
theorem cV.cl(h:cV w g err p aw lat u)(i:Nat)(hi:i < 256):w.cell? ⟨g,3+i,none⟩=some (.int .u8 (nth lat i)):=by
 obtain⟨T,b,hb⟩:=h.blk;have a:=h.len;simp only[World.cell?,hb,dF];rw[show 3+i=i+1+1+1 by omega];simp[List.getElem?_append_left,a,hi,cF (l:=lat) (show i < lat.length by omega)]
theorem cV.cu(h:cV w g err p aw lat u):w.cell? ⟨g,259,none⟩=some (.int .i64 u):=by
 obtain⟨T,hT,hb⟩:=h.blk;have hl:=h.len;simp only[World.cell?,hb,dF];simp[hl]
theorem cV.set0(h:cV w g err p aw lat u)(x:Int):cV (w.setCell ⟨g,0,none⟩ (.int .i64 x)) g x p aw lat u:=⟨h.len,by
 obtain⟨T,a,this⟩:=h.blk;refine⟨T,a,?_⟩;simp only[World.setCell,Array.getElem?_modify,if_true,this]
 simp[dF]⟩
theorem cV.set1(h:cV w g err p aw lat u)(x:Option Addr):cV (w.setCell ⟨g,1,none⟩ (.pointer x)) g err x aw lat u:=⟨h.len,by
 obtain⟨T,a,this⟩:=h.blk;refine⟨T,a,?_⟩;simp only[World.setCell,Array.getElem?_modify,if_true,this]
 simp[dF]⟩
theorem cV.set2(h:cV w g err p aw lat u)(x:Int):cV (w.setCell ⟨g,2,none⟩ (.int .i64 x)) g err p x lat u:=⟨h.len,by
 obtain⟨T,a,this⟩:=h.blk;refine⟨T,a,?_⟩;simp only[World.setCell,Array.getElem?_modify,if_true,this]
 simp[dF]⟩
theorem cV.setu(h:cV w g err p aw lat u)(x:Int):cV (w.setCell ⟨g,259,none⟩ (.int .i64 x)) g err p aw lat x:=⟨h.len,by
 obtain⟨T,b,hb⟩:=h.blk;have a:=h.len;refine⟨T,b,?_⟩;simp only[World.setCell,Array.getElem?_modify,if_true,hb]
 simp[dF,List.set_append_right,a]⟩
theorem lD(c1:w.cell? ⟨g,0,none⟩=some (.int .i64 err)) :
  Calls Tryz.prog 54 #[.pointer (some ⟨g,0,none⟩)] w λe w'=>e=.returned (.bool (err == 0))/\w'=w:=by
 go_enter Tryz.func54,Tryz.ntmps54;go_wp2;go_ret;exact⟨rfl,rfl⟩
theorem stMeet(c1:w.cell? ⟨g,0,none⟩=some (.int .i64 0))(c2:w.frozen? ⟨g,0,none⟩=false) :
  Calls Tryz.prog 81 #[.pointer (some ⟨g,0,none⟩),.int .i64 e0] w λe w'=>e=.returned (.tuple #[])/\w'=w.setCell ⟨g,0,none⟩ (.int .i64 e0):=by
 go_enter Tryz.func81,Tryz.ntmps81;go_wp2_with fail;refine(lD c1).mono ?_
 rintro e w' ⟨rfl,rfl⟩;go_wp2;go_end0;exact⟨rfl,rfl⟩
theorem EZ(c1:w.cell? ⟨g,0,none⟩=some (.int .i64 err))(he:(err == 0)=false) :
  Calls Tryz.prog 81 #[.pointer (some ⟨g,0,none⟩),.int .i64 e0] w λe w'=>e=.returned (.tuple #[])/\w'=w:=by
 have t:=lD c1;rw[he] at t;clear he;go_enter Tryz.func81,Tryz.ntmps81;go_wp2_with fail;refine t.mono ?_
 rintro e w' ⟨rfl,rfl⟩;go_wp2;go_end0;exact⟨rfl,rfl⟩
theorem qO{T:TypeId}(k:Nat){off:Nat}(b:(loadVar T ⟨g,off,none⟩).run Tryz.prog w=.ok v w)(ho:o.op=.load T (.tmp k):=by kernel_rfl)(hp:a.eval (.tmp k)=.pointer (some ⟨g,off,none⟩):=by kernel_rfl):(execOp a.eval o).run Tryz.prog w=.ok (.value v) w:=by
 simp only[execOp,ho,hp];simp[Instr.loadAt,Instr.sureAddr,Result.andThen,b]
theorem pM{T:TypeId}(k q:Nat){off:Nat}(ho:o.op=.store T (.tmp k) (.tmp q))(hp:a.eval (.tmp k)=.pointer (some ⟨g,off,none⟩))(hq:a.eval (.tmp q)=v)(b:(storeVar T ⟨g,off,none⟩ v).run Tryz.prog w=.ok () w1):(execOp a.eval o).run Tryz.prog w=.ok .skip w1:=by
 simp only[execOp,ho,hp,hq];simp[Instr.storeAt,Instr.sureAddr,Result.andThen,b]
theorem wG(c:w.cell? ⟨g,1,none⟩=some (.pointer p)):(loadVar 77 ⟨g,1,none⟩).run Tryz.prog w=.ok (.pointer p) w:=by
 go_simp
theorem vV(c:w.cell? ⟨g,1,none⟩=some (.pointer p))(f:w.frozen? ⟨g,1,none⟩=false):(storeVar 77 ⟨g,1,none⟩ (.pointer q)).run Tryz.prog w=.ok () (w.setCell ⟨g,1,none⟩ (.pointer q)):=by
 go_simp
theorem vH:Tryz.prog.underlying 78=some (.array 256 5):=by kernel_rfl
theorem pB:(Tryz.prog.info? 78).map (·.size)=some 256:=by kernel_rfl
theorem xn{o:Nat}(d:l.length=256)(c:∀ i,i < 256->w.cell? ⟨g,o+i,none⟩=some (.int .u8 (nth l i))):(loadVar 78 ⟨g,o,none⟩).run Tryz.prog w=.ok (.agg (l.map (Value.int .u8)).toArray) w:=by
 have h:=run_loadCells_list (P:=Tryz.prog) w ⟨g,o,none⟩ (l.map (Value.int .u8)) (λj v hv=>by
  obtain⟨a,e⟩:=List.getElem?_eq_some_iff.1 hv;rw[List.length_map] at a
  rw[bZ,c j (by omega),<- e,List.getElem_map,cF a])
 rw[List.length_map,d] at h
 cases hi:Tryz.prog.info? 78 with
 | none=>have:=pB;simp[hi] at this
 | some i =>
  have b:i.size=256:=by have:=pB;simpa[hi] using this
  simp[loadVar,isAgg,run_underlying vH,sizeOf,typeInfo,hi,b,h]
def placesOf(P:Program)(d:Option TypeDesc):Option (List (Nat × Nat)):=match d with
 | some (.struct fs)=>fs.toList.mapM (λf=>(P.info? f.type).map λi=>(f.offset,i.size))
 | _=>none
theorem yL:placesOf Tryz.prog (Tryz.prog.underlying 124)=some [(0,1),(1,256)]:=by kernel_rfl
theorem El:((Tryz.prog.info? 124).bind (·.zero)).map (·.cells.size)=some 257:=by kernel_rfl
theorem zZ(p:Option Addr)(A:List Value)(hA:A.length=256):Tryz.prog.built 124 [(0,.pointer p),(1,.agg A.toArray)]=some (Value.pointer p :: A).toArray:=by
 have hu:=yL;have b:=El;unfold Program.built;generalize Tryz.prog.info? 124=I at *;generalize Tryz.prog.underlying 124=U at *
 cases I with
 | none=>simp at b
 | some it =>
  cases h2:it.zero with
  | none=>simp[h2] at b
  | some z =>
   have a:z.cells.size=257:=by simpa[h2] using b
   cases U with
   | none=>simp[placesOf] at hu
   | some d =>
    cases d<;>try (simp[placesOf] at hu;done)
    case struct fs =>
     simp only[placesOf] at hu;simp only[hu,h2]
     have hc:(Value.pointer p).cells=#[.pointer p]:=rfl
     have c:(Value.agg A.toArray).cells=A.toArray:=rfl;simp only[Instr.fill,hc,c];obtain⟨g1,e⟩:=Great.foldl_set 1 A 0 (z.cells.setIfInBounds 0 (.pointer p));simp[hA,a];apply Array.ext_getElem?;intro k;have hk:=e k;simp only[Array.size_setIfInBounds,a,hA] at hk;rw[Nat.add_zero] at hk;rw[hk]
     cases k with
     | zero=>rw[if_neg (by omega)];simp[a]
     | succ k =>
      by_cases f:k < 256
      ·rw[if_pos (by omega)];simp
      rw[if_neg (by omega),Array.getElem?_eq_none (by simp[a];omega),Array.getElem?_eq_none (by simp[hA];omega)]
theorem CJ{T:TypeId}(ps:Array (Nat × Operand)){L:List (Nat × Value)}(ho:o.op=.build T ps)(hp:(ps.map fun(i,x)=>(i,a.eval x)).toList=L)(hb:Tryz.prog.built T L=some cs):(execOp a.eval o).run Tryz.prog w=.ok (.value (.agg cs)) w:=by
 subst hp;simp only[execOp,ho];simp only[Sem.run_bind,run_build w T _ cs hb,Result.andThen_ok];rfl
theorem wrPut(X:cV w g err p aw lat u)(t:0<=aw)(hb:aw<=4611686018427387904) :
  Calls Tryz.prog 124 #[.pointer (some ⟨g,0,none⟩)] w λe w'=>e=.returned (.tuple #[])/\cV w' g err (some ⟨w.heap.size,0,none⟩) (aw+256) lat 0/\Box w' w.heap.size (.pointer p :: lat.map (Value.int .u8)) 124/\But g w w':=by
 have Y:=X;have s:=X.lt;have c1:=X.c1;have f1:=X.free 1;have f:=wG X.c1;have d:=xn X.len X.cl;have j:=zZ p (lat.map (Value.int .u8)) (by rw[List.length_map];exact X.len);go_enter Tryz.func124,Tryz.ntmps124;go_wp2_with fail;refine cZ (S:=λ_=>True) (by kernel_rfl) trivial ?_
 refine aI 0 2 (.pointer (some ⟨g,0,none⟩)) trivial ?_
 refine aI 1 3 (.pointer (some ⟨g,0,none⟩)) trivial ?_
 refine aI 2 4 (.pointer (some ⟨g,0,none⟩)) trivial ?_
 refine aI 3 5 (.pointer (some ⟨g,1,none⟩)) trivial ?_
 refine aI 5 7 (.pointer (some ⟨g,0,none⟩)) trivial ?_
 refine aI 6 8 (.pointer (some ⟨g,0,none⟩)) trivial ?_
 refine aI 7 9 (.pointer (some ⟨g,3,none⟩)) trivial ?_
 refine aQ [4,8] ?_
 have X:cV w.drew g err p aw lat u:=⟨Y.len,Y.blk⟩
 have f:=wG X.c1;have d:=xn X.len X.cl;refine bU 4 (some 6) (.pointer p) _ (qO 5 f) trivial ?_ (bU 8 (some 10) (.agg (lat.map (Value.int .u8)).toArray) _ (qO 9 d) trivial ?_ aY)
 ·refine aQ [8] ?_
  refine bU 8 (some 10) (.agg (lat.map (Value.int .u8)).toArray) _ (qO 9 d) trivial ?_ aY;refine aQ [9] ?_
  refine bU 9 (some 11) (.agg (Value.pointer p :: lat.map (Value.int .u8)).toArray) _ (CJ #[(0,.tmp 6),(1,.tmp 10)] (by kernel_rfl) (by kernel_rfl) j) trivial ?_ aY;refine aQ [10] ?_
  refine tY 10 (some 12) 124 (Value.pointer p :: lat.map (Value.int .u8)) (by kernel_rfl) (by kernel_rfl) ?_ aY;intro V l b;refine⟨trivial,?_⟩;replace X:=X.keep b;replace b:BW w V:=(Below.refl w.heap.size w).drew.trans b;refine aI 11 13 (.pointer (some ⟨g,0,none⟩)) trivial ?_
  refine aI 12 14 (.pointer (some ⟨g,1,none⟩)) trivial ?_
  refine aQ [13] ?_
  refine dy 13 (V.setCell ⟨g,1,none⟩ (.pointer (some ⟨w.heap.size,0,none⟩))) (pM 14 12 (v:=.pointer (some ⟨w.heap.size,0,none⟩)) (by kernel_rfl) (by kernel_rfl) (by kernel_rfl) (vV X.c1 (X.free 1))) trivial ?_ aY;refine cn ?_
  try simp only[Act.put,List.setIfInBounds_toArray,List.set_cons_zero,List.set_cons_succ]
  replace X:=X.set1 (some ⟨w.heap.size,0,none⟩)
  have i:Hid (But g w (V.setCell ⟨g,1,none⟩ (.pointer (some ⟨w.heap.size,0,none⟩)))):=⟨b.os,b.tape,b.output,by rw[size_set];exact b.size,λk m c=>by rw[Below.heap_setCell _ _ _ k c];exact b.block k m⟩
  replace l:Box (V.setCell ⟨g,1,none⟩ (.pointer (some ⟨w.heap.size,0,none⟩))) w.heap.size _ _:=l.off (g':=g) (by show w.heap.size≠g;omega) (λk hk=>Below.heap_setCell _ _ _ k hk);clear b;generalize V.setCell ⟨g,1,none⟩ (.pointer (some ⟨w.heap.size,0,none⟩))=W at *;have c2:=X.c2;have f2:=X.free 2;have cu:=X.cu;have r:=X.free 259;clear f d j c1 f1;have q:=(X.set2 (aw+256)).setu 0
  have n:Hid (But g w ((W.setCell ⟨g,2,none⟩ (.int .i64 (aw+256))).setCell ⟨g,259,none⟩ (.int .i64 0))):=⟨i.out.os,i.out.tape,i.out.output,by rw[size_set,size_set];exact i.out.size,λk m c=>by rw[Below.heap_setCell _ _ _ k c,Below.heap_setCell _ _ _ k c];exact i.out.block k m c⟩
  have o:Hid (Box ((W.setCell ⟨g,2,none⟩ (.int .i64 (aw+256))).setCell ⟨g,259,none⟩ (.int .i64 0)) w.heap.size (Value.pointer p :: lat.map (Value.int .u8)) 124):=(l.off (g':=g) (by omega) (λk hk=>Below.heap_setCell _ _ _ k hk)).off (g':=g) (by omega) (λk hk=>Below.heap_setCell _ _ _ k hk);go_wp2;go_end0;exact⟨rfl,q,o.out,n.out⟩
 refine aQ [4] ?_
 refine bU 4 (some 6) (.pointer p) _ (qO 5 f) trivial ?_ aY;refine aQ [9] ?_
 refine bU 9 (some 11) (.agg (Value.pointer p :: lat.map (Value.int .u8)).toArray) _ (CJ #[(0,.tmp 6),(1,.tmp 10)] (by kernel_rfl) (by kernel_rfl) j) trivial ?_ aY;refine aQ [10] ?_
 refine tY 10 (some 12) 124 (Value.pointer p :: lat.map (Value.int .u8)) (by kernel_rfl) (by kernel_rfl) ?_ aY;intro V l b;refine⟨trivial,?_⟩;replace X:=X.keep b;replace b:BW w V:=(Below.refl w.heap.size w).drew.trans b;refine aI 11 13 (.pointer (some ⟨g,0,none⟩)) trivial ?_
 refine aI 12 14 (.pointer (some ⟨g,1,none⟩)) trivial ?_
 refine aQ [13] ?_
 refine dy 13 (V.setCell ⟨g,1,none⟩ (.pointer (some ⟨w.heap.size,0,none⟩))) (pM 14 12 (v:=.pointer (some ⟨w.heap.size,0,none⟩)) (by kernel_rfl) (by kernel_rfl) (by kernel_rfl) (vV X.c1 (X.free 1))) trivial ?_ aY;refine cn ?_
 try simp only[Act.put,List.setIfInBounds_toArray,List.set_cons_zero,List.set_cons_succ]
 replace X:=X.set1 (some ⟨w.heap.size,0,none⟩)
 have i:Hid (But g w (V.setCell ⟨g,1,none⟩ (.pointer (some ⟨w.heap.size,0,none⟩)))):=⟨b.os,b.tape,b.output,by rw[size_set];exact b.size,λk m c=>by rw[Below.heap_setCell _ _ _ k c];exact b.block k m⟩
 replace l:Box (V.setCell ⟨g,1,none⟩ (.pointer (some ⟨w.heap.size,0,none⟩))) w.heap.size _ _:=l.off (g':=g) (by show w.heap.size≠g;omega) (λk hk=>Below.heap_setCell _ _ _ k hk);clear b;generalize V.setCell ⟨g,1,none⟩ (.pointer (some ⟨w.heap.size,0,none⟩))=W at *;have c2:=X.c2;have f2:=X.free 2;have cu:=X.cu;have r:=X.free 259;clear f d j c1 f1;have q:=(X.set2 (aw+256)).setu 0
 have n:Hid (But g w ((W.setCell ⟨g,2,none⟩ (.int .i64 (aw+256))).setCell ⟨g,259,none⟩ (.int .i64 0))):=⟨i.out.os,i.out.tape,i.out.output,by rw[size_set,size_set];exact i.out.size,λk m c=>by rw[Below.heap_setCell _ _ _ k c,Below.heap_setCell _ _ _ k c];exact i.out.block k m c⟩
 have o:Hid (Box ((W.setCell ⟨g,2,none⟩ (.int .i64 (aw+256))).setCell ⟨g,259,none⟩ (.int .i64 0)) w.heap.size (Value.pointer p :: lat.map (Value.int .u8)) 124):=(l.off (g':=g) (by omega) (λk hk=>Below.heap_setCell _ _ _ k hk)).off (g':=g) (by omega) (λk hk=>Below.heap_setCell _ _ _ k hk);go_wp2;go_end0;exact⟨rfl,q,o.out,n.out⟩
end
section
variable {w w' w1:World}{b g o:Nat}{p ao:Option Addr}{ps l:List Int}{cs:List Value}{err:Int}{v:Value}{ops:Array Oper}{K:Act->World->Prop}
def PcL(w:World):List (Nat×List Int)->Option Addr->List Int->Prop
 | [],p,l=>p=none/\l=[]
 | x::r,p,l=>∃ q s,p=some ⟨x.1,0,none⟩/\l=s ++ x.2/\Box w x.1 (.pointer q::x.2.map (Value.int .u8)) 124/\x.2.length=256/\PcL w r q s
structure Pc(w:World)(p:Option Addr)(l:List Int):Prop where
 ex:∃ L,PcL w L p l
theorem Pc.nil:Pc w none []:=⟨[],rfl,rfl⟩
theorem Pc.cons{bs:List Int}(hb:Box w b (.pointer p::bs.map (Value.int .u8)) 124)(hl:bs.length=256)(h:Pc w p ps):Pc w (some ⟨b,0,none⟩) (ps ++ bs):=h.ex.elim λL h=>⟨(b,bs)::L,p,ps,rfl,rfl,hb,hl,h⟩
theorem Pc.ind{M:(p:Option Addr)->(l:List Int)->Pc w p l->Prop}(nil:M none [] Pc.nil)(cons:∀ {b p ps bs} (hb:Box w b (.pointer p::bs.map (Value.int .u8)) 124) (hl:bs.length=256) (h:Pc w p ps),M p ps h->M (some ⟨b,0,none⟩) (ps ++ bs) (.cons hb hl h))(h:Pc w p l):M p l h:=by
 obtain⟨L,e⟩:=h.ex
 induction L generalizing p l with
 | nil=>
  obtain⟨rfl,rfl⟩:=e;exact nil
 | cons x r ih=>
  obtain⟨q,s,rfl,rfl,a,b,c⟩:=e;exact cons a b ⟨r,c⟩ (ih ⟨r,c⟩ c)
theorem Pc.off(h:Pc w p ps)(X:∃ T,T≠124/\Box w g cs T)(hw:∀ k,k < w.heap.size->k≠g->w'.heap[k]?=w.heap[k]?):Pc w' p ps:=by
 obtain⟨T,b,X⟩:=X
 induction h using Pc.ind with
 | nil=>exact .nil
 | cons hb hl _ ih =>
  refine .cons ⟨?_⟩ hl ih
  rw[hw _ hb.lt (λe=>by
   subst e;have a:=hb.blk;rw[X.blk] at a;simp at a
   exact b a.2)]
  exact hb.blk
theorem Pc.keep(h:Pc w p ps)(hB:BW w w'):Pc w' p ps:=by
 induction h using Pc.ind with
 | nil=>exact .nil
 | cons hb hl _ ih=>exact .cons (hb.keep hB) hl ih
structure WrA(w:World)(g:Nat)(err:Int)(l:List Int):Prop where
 ex:∃ p ps lat,∃ u:Nat,cV w g err p (ps.length:Int) lat (u:Int)/\Pc w p ps/\u < 256/\l=ps ++ lat.take u
theorem WrA.lt(h:WrA w g err l):g < w.heap.size:=by
 obtain⟨p,ps,lat,u,X,_⟩:=h.ex;exact X.lt
theorem WrA.keep(h:WrA w g err l)(hB:BW w w'):WrA w' g err l:=by
 obtain⟨p,ps,lat,u,X,P,hu,e⟩:=h.ex;exact⟨p,ps,lat,u,X.keep hB,P.keep hB,hu,e⟩
theorem But.refl(g:Nat)(w:World):But g w w:=⟨rfl,rfl,rfl,Nat.le_refl _,λ_ _ _=>rfl⟩
theorem But.trans{d:World}(h:But g w w1)(a:But g w1 d):But g w d:=⟨a.os.trans h.os,a.tape.trans h.tape,a.output.trans h.output,Nat.le_trans h.size a.size,λk c b=>(a.block k (Nat.lt_of_lt_of_le c h.size) b).trans (h.block k c b)⟩
theorem But.drew(h:But g w w1):But g w w1.drew:=⟨h.os,h.tape,h.output,h.size,h.block⟩
theorem But.cell(h:But g w w1)(hc:w.cell? ⟨b,o,none⟩=some v)(hb:b≠g):w1.cell? ⟨b,o,none⟩=some v:=by
 rw[World.cell?_of_block (w:=w) (h.block b (aC hc) hb)];exact hc
theorem Dd(err:Int)(p:Option Addr)(aw:Int)(lat ms:List Int)(x:Int)(u:Nat)(h:u+ms.length<=lat.length) :
  splice (dF err p aw lat x) (3+u) (ms.map (Value.int .u8))=dF err p aw (lat.take u ++ ms ++ lat.drop (u+ms.length)) x:=by
 unfold splice dF;rw[show 3+u=u+1+1+1 by omega,List.length_map,show u+1+1+1+ms.length=u+ms.length+1+1+1 by omega];simp only[List.take_succ_cons,List.drop_succ_cons,List.cons_append];rw[List.take_append_of_le_length (by rw[List.length_map];omega),List.drop_append_of_le_length (by rw[List.length_map];omega)];simp
theorem vo{P:Program}{o:Oper}{a:Act}{Q:Exit->Act->World->Prop}{E:Prop}(i:o.guard=none)(d s:Operand)(l n:TypeId)(ho:o.op=.call { callee:=.builtin .copy,args:=#[d,s],argTypes:=#[l,n] })(elem:TypeId)(hu:P.underlying l=some (.slice elem))(k:(P.info? elem).map (·.size)=some 1)(g off dLen dCap:Nat)(ad:Addr)(sLen sCap:Nat)(q:a.eval d=.slice (some ⟨g,off,none⟩) dLen dCap)(hs:a.eval s=.slice (some ad) sLen sCap)(cur:List Value)(t:TypeId)(p:w.heap[g]?=some (.cells cur.toArray t (0,0)))(cs:List Value)(m:Nat)(hm:cs.length=m)(hn:m=Nat.min sLen dLen)(f:∀ j v,cs[j]?=some v->w.cell? (ad.add j)=some v)(c:off+m<=cur.length)(h1:∀ v∈cs,v.oneCell'=true)(h:∀ w',Hid (w'.heap[g]?=some (.cells (splice cur off cs).toArray t (0,0)))->Hid (∀ b,b≠g->w'.heap[b]?=w.heap[b]?)->Hid (w'.os=w.os/\w'.tape=w.tape/\w'.output=w.output/\w'.heap.size=w.heap.size)->K (a.put o.dst (.int .i64 (m:Int))) w') :
  if Region.wanted o (yielded ops a.tmps)=true then Oper.wp P o a w K Q else E:=by
 subst hm
 have hw:Region.wanted o (yielded ops a.tmps)=true:=by simp[Region.wanted,i]
 rw[if_pos hw];have e:=run_copy_row (P:=P) w l n o.type elem g off dLen dCap ad sLen sCap cur.toArray t cs hu k p hn f (by simpa using c) h1;unfold Oper.wp;simp[execOp,ho,resolve,invoke,builtin,q,hs,e,Result.andThen];exact h _ (show _=_ by simpa[splice] using setRow_heap w g _ _ t _ p) (λb hb=>setRow_other w g b _ hb) ⟨rfl,rfl,rfl,by simp[World.setRow]⟩
theorem wO:(Tryz.prog.info? 5).map (·.size)=some 1:=by kernel_rfl
theorem yF(g u:Nat)(h:u < 256)(W:World):(Instr.sliceAt 78 (.pointer (some ⟨g,3,none⟩)) (some (.int .i64 (u:Int))) none none).run Tryz.prog W=.ok (.slice (some ⟨g,3+u,none⟩) (256 - u) (256 - u)) W:=by
 have a:Tryz.prog.arrayLen 78=256:=by kernel_rfl
 have b:Tryz.prog.elem 78=5:=by kernel_rfl
 have hu:Tryz.prog.underlying 78=some (.array (Tryz.prog.arrayLen 78) (Tryz.prog.elem 78)):=by kernel_rfl
 have c:(sizeOf 5).run Tryz.prog W=.ok 1 W:=by kernel_rfl
 rw[run_sliceAt_array_l W 78 ⟨g,3,none⟩ hu .i64 (u:Int) (by omega) (by rw[a];omega),b,c,a];simp only[Result.andThen,slicedAt,Int.toNat_natCast,Nat.mul_one];rw[if_neg (by omega)];congr 3
 exact bZ g 3 u
theorem sliceB(ao:Option Addr)(n c m:Nat)(W:World)(hm:m<=n)(hn:n<=c):(Instr.sliceAt 29 (.slice ao n c) (some (.int .i64 (m:Int))) none none).run Tryz.prog W=.ok (.slice (cN ao c m) (n - m) (c - m)) W:=by
 have d:(m:Int)<=n:=by omega
 have b:(m:Int)<=c:=by omega
 unfold cN;split
 ·go_simp
 go_simp
def lenV(v:Value):Nat:=match v with
 | .slice _ n _=>n
 | _=>0
theorem wrLay{n c:Nat}{L:List Int}(X:WrA w g 0 L)(ha:AtB w ao b o l)(hl:l.length=n)(hc:n<=c)(hb:b≠g)(hbig:L.length+n<=4611686018427387904) :
  Calls Tryz.prog 82 #[.pointer (some ⟨g,0,none⟩),.slice ao n c] w λe w'=>e=.returned (.tuple #[])/\WrA w' g 0 (L ++ l)/\But g w w':=by
 have HX:Hid (WrA w g 0 L):=X
 have HA:Hid (AtB w ao b o l):=ha;clear X ha;go_enter Tryz.func82,Tryz.ntmps82;go_wp2_with fail;go_loopw [1] (λtb wr=>∃ k r a' D,Hid (k+r=n)/\tb=.slice a' r D/\r<=D/\Hid (0 < r->a'=some ⟨b,o+k,none⟩)/\WrA wr g 0 (L ++ l.take k)/\But g w wr) (λtb _=>lenV tb)
 case atStart=>exact⟨0,n,ao,c,Nat.zero_add n,rfl,hc,λh=>by
  rcases HA.out.loc with e | e
  ·rw[e] at hl;simp at hl;omega
  rw[e];rfl,by simpa using HX.out,But.refl _ _⟩
 case round =>
  obtain⟨k,r,a',D,hk,rfl,hkc,A,Y,y⟩:=hrel;obtain⟨p,ps,d,u,z,P0,hu,hL⟩:=Y.ex;have HL:=(show Hid _ from hL)
  have hps:(ps.length:Int)<=4611686018427387904:=by have i:=congrArg List.length hL;simp at i;have:=hk.out;omega
  have HP:=(show Hid _ from P0)
  have P:=(show Hid _ from y)
  have t:=lD z.c0
  have HY:Hid (WrA wr g 0 (L ++ l.take k)):=Y;clear hL P0 y Y;go_wp2_with fail;refine t.mono ?_
  rintro e w1 ⟨rfl,rfl⟩;clear t;by_cases H:0 < r
  ·obtain rfl:=A.out H
   have hlt':(0:Int) < r:=by omega
   obtain⟨m,hm⟩:∃ m,m=Nat.min r (256 - u):=⟨_,rfl⟩
   have hm1:m<=r:=by rw[hm];exact Nat.min_le_left _ _
   have hm2:m<=256 - u:=by rw[hm];exact Nat.min_le_right _ _
   have hm3:1<=m:=by rw[hm];exact Nat.le_min.2 ⟨H,by omega⟩
   have HM:=(show Hid _ from hm)
   clear hm;obtain⟨ms,x⟩:∃ ms,ms=(l.drop k).take m:=⟨_,rfl⟩
   have I:ms.length=m:=by rw[x,List.length_take,List.length_drop];have:=hk.out;omega
   have E:=z.len;have q:=(show Hid _ from I)
   have K:=(show Hid _ from x)
   have HS:Hid (∀ W,But g w W->∀ j v,(ms.map (Value.int .u8))[j]? = some v->W.cell? ((⟨b,o + k,none⟩:Addr).add j)=some v):=λW hW j v Z=>by
    obtain⟨i,B⟩:=List.getElem?_eq_some_iff.1 Z;rw[List.length_map] at i;rw[List.getElem_map] at B;have hh:=hk.out;rw[bZ];refine hW.cell ?_ hb;rw[<- B,show o+k+j=o+(k+j) by omega,HA.out.cell (k+j) (by omega),<- cF i,x,df,dI]
   have J:=Dd 0 p (ps.length:Int) d ms (u:Int) u (by omega);have V:=(show Hid _ from J)
   have s:=(show Hid _ from E)
   clear J I x E;have cu:=z.cu;have hsl:=yF g u hu
   have HC:Hid (∀ W,(Instr.sliceAt 29 (.slice (some ⟨b,o+k,none⟩) r D) (some (.int .i64 (m:Int))) none none).run Tryz.prog W=.ok (.slice (cN (some ⟨b,o+k,none⟩) D m) (r - m) (D - m)) W):=λW=>sliceB _ _ _ _ W hm1 hkc
   go_wp2_with fail;obtain⟨TW,hTW,U⟩:=z.blk;go_region_law (refine vo rfl (.tmp 21) (.tmp 22) 29 29 rfl 5 cJ wO g (3+u) (256 - u) (256 - u) ⟨b,o+k,none⟩ r D (by rfl) (by rfl) _ TW U (ms.map (Value.int .u8)) m (by rw[List.length_map];exact q.out) HM.out (λj v Z=>HS.out _ P.out.drew j v Z) (by simp[dF,s.out];omega) (by simp[Value.oneCell']) ?_;intro w4 M N f)
   have F:cV w4 g 0 p (ps.length:Int) (d.take u ++ ms ++ d.drop (u+ms.length)) (u:Int):=⟨by have:=q.out;have:=s.out;simp;omega,⟨TW,hTW,by rw[<- V.out];exact M.out⟩⟩
   have O:=F.setu ((u:Int)+(m:Int))
   have R:Hid (But g w1 (w4.setCell ⟨g,259,none⟩ (.int .i64 ((u:Int)+(m:Int))))):=⟨f.out.1,f.out.2.1,f.out.2.2.1,by rw[size_set,f.out.2.2.2];exact Nat.le_refl _,λj i B=>by rw[Below.heap_setCell _ _ _ j B,N.out j B];rfl⟩
   have T:=F.cu;have fu4:=F.free 259;have cu5:=O.cu;have G:=HC.out;clear cu hsl M N f;by_cases hf:u+m=256
   ·have hq:(((u:Int) + (m:Int)) == 256)=true:=by rw[beq_iff_eq]; omega
    have HF:=(show Hid _ from hf)
    clear hf;go_wp2_with fail;refine(wrPut O (by omega) hps).mono ?_
    rintro e w6 ⟨rfl,Q,XB,C⟩
    have S:Hid (WrA w6 g 0 (L ++ l.take (k+m))):=by
     have i:=q.out;have B:=s.out;have h3:=HF.out
     have e1:d.drop (u+ms.length)=[]:=List.drop_eq_nil_of_le (by omega)
     have e2:L ++ l.take (k+m)=ps ++ (d.take u ++ ms ++ d.drop (u+ms.length)):=by
      rw[List.take_add,<- List.append_assoc,HL.out,<- K.out,e1,List.append_nil,List.append_assoc]
     refine⟨some ⟨_,0,none⟩,ps ++ (d.take u ++ ms ++ d.drop (u+ms.length)),d.take u ++ ms ++ d.drop (u+ms.length),0,?_,.cons XB Q.len (HP.out.off z.box (R.out.trans C).block),by omega,?_⟩
     ·have e3:(((ps ++ (d.take u ++ ms ++ d.drop (u + ms.length))).length:Nat):Int)=(ps.length:Int) + 256:=by rw[List.length_append,Q.len]; rfl
      rw[e3];exact Q
     rw[e2];simp
    have H7:Hid (But g w w6):=P.out.trans (R.out.trans C);clear Q XB C F O T cu5 fu4 hq z G;go_wp2;go_roundw
    case rel=>exact⟨k + m,r - m,_,_,by show _=_; have:=hk.out; omega,rfl,by omega,λh=>by
     unfold cN;rw[if_neg (by omega)];show some ((⟨b,o+k,none⟩:Addr).add m)=_;rw[bZ,Nat.add_assoc],S.out,H7.out⟩
    case measure=>simp[lenV];omega
   have hq:(((u:Int) + (m:Int)) == 256)=false:=by rw[beq_eq_false_iff_ne]; omega
   have S:Hid (WrA (w4.setCell ⟨g,259,none⟩ (.int .i64 ((u:Int)+(m:Int)))) g 0 (L ++ l.take (k+m))):=by
    have i:=q.out;have B:=s.out;refine⟨p,ps,_,u+m,O,HP.out.off z.box R.out.block,by omega,?_⟩
    have e4:(d.take u ++ ms ++ d.drop (u+ms.length)).take (u+m)=d.take u ++ ms:=by
     rw[List.take_append_of_le_length (by simp;omega)];exact List.take_of_length_le (by simp;omega)
    rw[e4,List.take_add,<- List.append_assoc,HL.out,<- K.out,List.append_assoc]
   have H7:=(show Hid _ from P.out.trans R.out)
   have HF:=(show Hid _ from hf)
   clear hf F O z;go_wp2;go_roundw
   case rel=>exact⟨k + m,r - m,_,_,by show _=_; have:=hk.out; omega,rfl,by omega,λh=>by
    unfold cN;rw[if_neg (by omega)];show some ((⟨b,o+k,none⟩:Addr).add m)=_;rw[bZ,Nat.add_assoc],S.out,H7.out⟩
   case measure=>simp[lenV];omega
  obtain rfl:r=0:=by omega
  have HE:Hid (WrA w1 g 0 (L ++ l)):=by
   have i:=HY.out;rw[List.take_of_length_le (by have:=hk.out;omega)] at i;exact i
  go_wp2;go_end0;exact⟨rfl,HE.out,P.out⟩
end
section
variable {x err:Int}{w:World}{g n c b o k m:Nat}{ao:Option Addr}{L l ds:List Int}{cs:List Value}
def be:Nat->Int->List Int
 | 0,_=>[]
 | m+1,x=>x / 256 ^ m % 256 :: be m x
theorem ax(m:Nat)(x:Int):(be m x).length=m:=by
 induction m with
 | zero=>rfl
 | succ m ih=>rw[be,List.length_cons,ih]
theorem vE(m:Nat)(x:Int):∀ i,i < m->nth (be m x) i=x / 256 ^ (m - 1 - i) % 256:=by
 induction m with
 | zero=>intro i hi;omega
 | succ m ih =>
  intro i hi
  cases i with
  | zero=>rfl
  | succ i =>
   rw[be,dV,ih i (by omega),show m - 1 - i=m+1 - 1 - (i+1) by omega]
theorem fZ(m:Nat)(x:Int):aJ (be m x):=by
 induction m with
 | zero=>intro y hy;simp[be] at hy
 | succ m ih =>
  intro y hy;rw[be] at hy;rcases List.mem_cons.1 hy with e | e
  ·subst e;exact⟨Int.emod_nonneg _ (by decide),Int.emod_lt_of_pos _ (by decide)⟩
  exact ih y e
theorem kR(m:Nat)(hx:0<=x):bJ (be m x)=x % 256 ^ m:=by
 induction m with
 | zero=>simp[be,bJ]
 | succ m ih=>rw[be,bJ,ax,ih,<- nK x hx m]
def wrote(err:Int)(L l:List Int):List Int:=if err=0 then L ++ l else L
theorem wrLayE(X:WrA w g err L)(he:err≠0) :
  Calls Tryz.prog 82 #[.pointer (some ⟨g,0,none⟩),.slice ao n c] w λe w'=>e=.returned (.tuple #[])/\w'=w:=by
 obtain⟨p,ps,f,u,b,_⟩:=X.ex;have t:=lD b.c0;rw[beq_eq_false_iff_ne.2 he] at t;clear X b he;go_enter Tryz.func82,Tryz.ntmps82;go_wp2_with fail;go_loopw [1] (λd wr=>d=.slice ao n c/\wr=w) (λ_ _=>0)
 case atStart=>exact⟨rfl,rfl⟩
 case round =>
  obtain⟨rfl,rfl⟩:=hrel;go_wp2_with fail;refine t.mono ?_
  rintro e i ⟨rfl,rfl⟩;clear t;go_wp2;go_end0;exact⟨rfl,rfl⟩
theorem Ch(X:WrA w g err L)(f:AtB w ao b o l)(a:l.length=n)(hc:n<=c)(hb:b≠g)(hbig:L.length+n<=4611686018427387904) :
  CP 82 #[.pointer (some ⟨g,0,none⟩),.slice ao n c] w λe w'=>e=.returned (.tuple #[])/\WrA w' g err (wrote err L l)/\But g w w':=by
 unfold wrote;by_cases he:err=0
 ·subst he;rw[if_pos rfl];exact wrLay X f a hc hb hbig
 rw[if_neg he];refine(wrLayE X he).mono ?_
 rintro e w' ⟨h,d⟩;subst d;exact⟨h,X,But.refl _ _⟩
theorem slice8(g m:Nat)(h:m<=8)(W:World):(Instr.sliceAt 164 (.pointer (some ⟨g,0,none⟩)) none (some (.int .i64 (m:Int))) none).run Tryz.prog W=.ok (.slice (some ⟨g,0,none⟩) m 8) W:=by
 have b:(m:Int)<=8:=by omega
 go_simp
theorem BE{v:Int}(hk:k < ds.length):(ds.set k v).take (k+1)=ds.take k ++ [v]:=by
 rw[dw (by rw[List.length_set];exact hk),dB (hk:=hk),if_pos rfl,List.take_set_of_le (Nat.le_refl _)]
theorem Box.bytes{t:TypeId}(h:Box w g (ds.map (Value.int .u8)) t){i:Nat}(hi:i < ds.length):w.cell? ⟨g,i,none⟩=some (.int .u8 (nth ds i)):=by
 simp[World.cell?,h.blk,hi,cF hi]
theorem Box.thaw{t:TypeId}(h:Box w g cs t)(i:Nat):w.frozen? ⟨g,i,none⟩=false:=by simp[World.frozen?,h.blk]
theorem Box.setB{t:TypeId}(h:Box w g (ds.map (Value.int .u8)) t)(i:Nat)(x:Int):Box (w.setCell ⟨g,i,none⟩ (.int .u8 x)) g ((ds.set i x).map (Value.int .u8)) t:=⟨by
 have hb:=h.blk;simp only[World.setCell,Array.getElem?_modify,if_true,hb]
 simp⟩
theorem vS(X:WrA w g err L)(hbig:L.length+8≤4611686018427387904)(hm:m≤8:=by decide) :
    Calls Tryz.prog 52 #[.pointer (some ⟨g,0,none⟩),.int .u64 x,.int .i64 m] w λe w'=>e=.returned (.tuple #[])∧WrA w' g err (wrote err L (be m x))∧But g w w':=by
  have K:Hid (WrA w g err L):=X;have M:=X.lt;have N:=fV w ((List.replicate 8 (0:Int)).map (Value.int .u8)) 164;have B:=aa w (.cells #[.int .u8 0,.int .u8 0,.int .u8 0,.int .u8 0,.int .u8 0,.int .u8 0,.int .u8 0,.int .u8 0] 164);have E:=(show Hid _ from N);have u:=(show Hid _ from B);clear X N B;go_enter Tryz.func52,Tryz.ntmps52;go_wp2_with fail;go_loopw [9] (λv wr=>∃ (k:Nat) (o:List Int),k≤m∧v=.int .i64 k∧o.length=8∧Hid (o.take k=(be m x).take k)∧Box wr w.heap.size (o.map (Value.int .u8)) 164∧BW w wr) (λv _=>m - (intOf v).toNat)
  case atStart=>exact⟨0,List.replicate 8 0,Nat.zero_le _,rfl,rfl,rfl,E.out,u.out⟩
  case round =>
    obtain⟨k,o,hk,rfl,hlen,f,d,b⟩:= hrel;by_cases j:k < m
    · obtain⟨h,O⟩:∃ h:Nat,(m:Int) - 1 - k=h:=⟨m - 1 - k,by omega⟩
      have q:m - 1 - k=h:=by omega
      have J:Hid ((o.set k (x / 2 ^ (8 * h) % 256)).take (k+1)=(be m x).take (k+1)):=by
        have e1:(256:Int) ^ h=2 ^ (8 * h):=by rw[Int.pow_mul];rfl
        show _=_
        rw[BE (by omega),f.out,dw (by rw[ax];exact j),vE m x k j,q,e1]
      have D:(k:Int) < 8:=by omega
      have H:h < 8:=by omega
      have c1:=d.bytes (i:=k) (by omega);have f1:=d.thaw k;have C:=(show Hid _ from d.setB k (x / 2 ^ (8 * h) % 256));have y:=(show Hid _ from b);have r:=(show Hid _ from hlen);clear q d b f hlen;go_wp2_with fail;refine⟨⟨k+1,_,by omega,by go_num,by rw[List.length_set];exact r.out,J.out,C.out,y.out.setCell (p:=⟨w.heap.size,k,none⟩) (Nat.le_refl _) _⟩,by simp[intOf];omega⟩
    · obtain rfl : k = m := by omega
      have A : AtB wr (some ⟨w.heap.size, 0, none⟩) w.heap.size 0 (be k x) := ⟨.inr rfl, λi hi => by
        rw[ax] at hi;have e:=f.out;rw[List.take_of_length_le (l:=be k x) (by rw[ax];exact Nat.le_refl _)] at e
        rw[Nat.zero_add,d.bytes (by omega),← e,df (h:=hi)]⟩
      have t:=Ch (n:=k) (c:=8) (K.out.keep b) A (ax k x) hm (by omega) (by omega);have I:=slice8 w.heap.size k hm
      have y:Hid (∀ w',But g wr w'→But g w w'):=λw' hb=>(⟨b.os,b.tape,b.output,b.size,λk s _=>b.block k s⟩:But g w wr).trans hb
      clear A d b f;go_wp2_with fail;refine t.mono ?_
      rintro e G ⟨rfl,s,z⟩;have F:=(show Hid _ from y.out G z);clear t z;go_wp2;go_end0;exact⟨rfl,s,F.out⟩
theorem zu(h:n < 256 ^ k):(n:Int) / 2 ^ (8 * k)=0:=by
 have e:(2:Int) ^ (8 * k)=((256 ^ k:Nat):Int):=by rw[Int.pow_mul,Int.natCast_pow];rfl
 rw[e];exact Int.ediv_eq_zero_of_lt (by omega) (by omega)
def fP(m:Nat)(l:List Int):List Int:=be m l.length ++ l
theorem yM(err:Int)(L l r:List Int):wrote err (wrote err L l) r=wrote err L (l ++ r):=by
 unfold wrote;by_cases h:err=0
 ·rw[if_pos h,if_pos h,if_pos h,List.append_assoc]
 rw[if_neg h,if_neg h,if_neg h]
theorem yf(err:Int)(L l:List Int):(wrote err L l).length<=L.length+l.length:=by
 unfold wrote;split
 ·rw[List.length_append];exact Nat.le_refl _
 exact Nat.le_add_right _ _
theorem But.at{w':World}(h:But g w w')(k:AtB w ao b o l)(hb:b≠g):AtB w' ao b o l:=⟨k.loc,λi hi=>h.cell (k.cell i hi) hb⟩
theorem wrCnt(X:WrA w g err L)(q:AtB w ao b o l)(p:l.length=n)(hc:n<=c)(hb:b≠g)(hm:m=1\/m=4)(hn:n < 256 ^ m)(hbig:L.length+n+16<=4611686018427387904) :
  Calls Tryz.prog 256 #[.pointer (some ⟨g,0,none⟩),.slice ao n c,.int .i64 m] w λe w'=>e=.returned (.tuple #[])/\WrA w' g err (wrote err L (fP m l))/\But g w w':=by
 have t:=vS (m:=m) (x:=(n:Int)) X (by omega) (hm:=by omega);have A:=zu hn
 have s:m<=4:=by omega
 have z:=(show Hid _ from hm)
 have B:=(show Hid _ from hn)
 clear X hm hn;go_enter Tryz.func256,Tryz.ntmps256;go_wp2_with fail;refine t.mono ?_
 rintro e y ⟨rfl,r,d⟩;have t2:=Ch r (d.at q hb) p hc hb (by have:=yf err L (be m n);rw[ax] at this;omega);rw[yM] at t2
 have u:Hid (be m n ++ l=fP m l):=by show _=_;unfold fP;rw[p]
 have i:=(show Hid _ from d)
 clear t r d q;go_wp2_with fail;refine t2.mono ?_
 rintro e C ⟨rfl,v,f⟩;have j:=(show Hid _ from i.out.trans f)
 clear t2 f;go_wp2;go_end0;exact⟨rfl,by rw[<- u.out];exact v,j.out⟩
theorem F8(h:256 ^ k<=n):((n:Int) / 2 ^ (8 * k) != 0)=true:=by
 have e:(2:Int) ^ (8 * k)=((256 ^ k:Nat):Int):=by rw[Int.pow_mul,Int.natCast_pow];rfl
 rw[e,bne_iff_ne]
 have b:0 < n / 256 ^ k:=Nat.div_pos h (Nat.pow_pos (by decide))
 have a:(n:Int) / ((256 ^ k:Nat):Int)=((n / 256 ^ k:Nat):Int):=rfl;omega
def long(err:Int):Int:=if err=0 then 42 else err
theorem Fm{e0:Int}(X:WrA w g err L) :
  CP 81 #[.pointer (some ⟨g,0,none⟩),.int .i64 e0] w λe w'=>e=.returned (.tuple #[])/\WrA w' g (if err=0 then e0 else err) L/\But g w w':=by
 obtain⟨p,ps,c,u,a,i,hu,h⟩:=X.ex;by_cases he:err=0
 ·subst he;rw[if_pos rfl];refine(stMeet a.c0 (a.free 0)).mono ?_
  rintro e w' ⟨b,rfl⟩
  have d:But g w (w.setCell ⟨g,0,none⟩ (.int .i64 e0)):=⟨rfl,rfl,rfl,by rw[size_set];exact Nat.le_refl _,λk _ f=>Below.heap_setCell _ _ _ k f⟩
  exact⟨b,⟨p,ps,c,u,a.set0 e0,i.off a.box d.block,hu,h⟩,d⟩
 rw[if_neg he];refine(EZ a.c0 (beq_eq_false_iff_ne.2 he)).mono ?_
 rintro e w' ⟨b,rfl⟩;exact⟨b,X,But.refl _ _⟩
theorem yr(X:WrA w g err L)(hc:n<=9223372036854775807)(hm:m<=4)(hn:256 ^ m<=n) :
  Calls Tryz.prog 256 #[.pointer (some ⟨g,0,none⟩),.slice ao n c,.int .i64 m] w λe w'=>e=.returned (.tuple #[])/\WrA w' g (long err) L/\But g w w':=by
 have t:=Fm (e0:=42) X;have l:=F8 hn;have o:=(show Hid _ from hn)
 clear X hn;go_enter Tryz.func256,Tryz.ntmps256;go_wp2_with fail;refine t.mono ?_
 rintro e j ⟨rfl,f,b⟩;have i:=(show Hid _ from f)
 have d:=(show Hid _ from b)
 clear t f b;go_wp2;(try simp only[Exit.inBlock,Exit.then])
 refine bodyPost_ret (results_none rfl _ _ _) rfl ?_
 exact⟨rfl,i.out,d.out⟩
theorem wrU8(X:WrA w g err L)(hbig:L.length+8≤4611686018427387904)(c:0≤x:=by decide)(hx:x < 256:=by decide) :
    Calls Tryz.prog 209 #[.pointer (some ⟨g,0,none⟩),.int .u8 x] w λe w'=>e=.returned (.tuple #[])∧WrA w' g err (wrote err L (be 1 x))∧But g w w':=by
  have t:=vS (m:=1) (x:=x) X hbig;clear X;go_enter Tryz.func209,Tryz.ntmps209;go_wp2_with fail;refine t.mono ?_
  rintro e f ⟨rfl,d,b⟩;clear t;go_wp2;go_end0;exact⟨rfl,d,b⟩
theorem wrU32(X:WrA w g err L)(c:0<=x)(hx:x < 4294967296)(hbig:L.length+8<=4611686018427387904) :
  Calls Tryz.prog 28 #[.pointer (some ⟨g,0,none⟩),.int .u32 x] w λe w'=>e=.returned (.tuple #[])/\WrA w' g err (wrote err L (be 4 x))/\But g w w':=by
 have t:=vS (m:=4) (x:=x) X hbig;clear X;go_enter Tryz.func28,Tryz.ntmps28;go_wp2_with fail;refine t.mono ?_
 rintro e f ⟨rfl,d,b⟩;clear t;go_wp2;go_end0;exact⟨rfl,d,b⟩
theorem GV(X:WrA w g err L)(hbig:L.length+8≤4611686018427387904:=by omega) :
    Calls Tryz.prog 53 #[.pointer (some ⟨g,0,none⟩),.int .u64 x] w λe w'=>e=.returned (.tuple #[])∧WrA w' g err (wrote err L (be 8 x))∧But g w w':=by
  have t:=vS (m:=8) (x:=x) X hbig;clear X;go_enter Tryz.func53,Tryz.ntmps53;go_wp2_with fail;refine t.mono ?_
  rintro e d ⟨rfl,c,b⟩;clear t;go_wp2;go_end0;exact⟨rfl,c,b⟩
theorem wrBool{x:Bool}(X:WrA w g err L)(hbig:L.length+8<=4611686018427387904) :
  Calls Tryz.prog 164 #[.pointer (some ⟨g,0,none⟩),.bool x] w λe w'=>e=.returned (.tuple #[])/\WrA w' g err (wrote err L (be 1 (if x then 1 else 0)))/\But g w w':=by
 cases x
 ·have t:=wrU8 (x:=0) X hbig;clear X;go_enter Tryz.func164,Tryz.ntmps164;go_wp2_with fail;refine t.mono ?_
  rintro e d ⟨rfl,c,b⟩;clear t;go_wp2;go_end0;exact⟨rfl,c,b⟩
 have t:=wrU8 (x:=1) X hbig;clear X;go_enter Tryz.func164,Tryz.ntmps164;go_wp2_with fail;refine t.mono ?_
 rintro e d ⟨rfl,c,b⟩;clear t;go_wp2;go_end0;exact⟨rfl,c,b⟩
end
section
variable {V err:Int}{g n c:Nat}{w:World}{ao:Option Addr}{L:List Int}
def eb(V:Int):List Int:=be ((bitLen V.toNat+7) / 8) V
theorem pV(b:0<=V):IsB (eb V) V:=by
 obtain⟨c,f⟩:=oS b;unfold eb;generalize (bitLen V.toNat+7) / 8=k at *;refine⟨fZ k V,λa=>?_,by rw[kR k b,Int.emod_eq_of_lt b c]⟩
 have hk:k≠0:=λe=>a (by rw[e];rfl)
 rw[vE k V 0 (by omega),show k - 1 - 0=k - 1 by omega]
 have d:(0:Int) < 256 ^ (k - 1):=Int.pow_pos (by decide)
 have q1:1<=V / 256 ^ (k - 1):=by rw[Int.le_ediv_iff_mul_le d];have:=f hk;omega
 have g:V / 256 ^ (k - 1) < 256:=by
  rw[Int.ediv_lt_iff_lt_mul d,Int.mul_comm,<- Int.pow_succ,show (k - 1).succ=k from by omega];exact c
 rw[Int.emod_eq_of_lt (by omega) g];omega
theorem AM(V:Int):aJ (eb V):=fZ _ _
def iR(V err:Int):Int:=if (eb V).length < 256 then err else long err
def j7(V err:Int)(L:List Int):List Int:=if (eb V).length < 256 then wrote err L (fP 1 (eb V)) else L
theorem But.of{w':World}(h:BW w w'):But g w w':=⟨h.os,h.tape,h.output,h.size,λk h1 _=>h.block k h1⟩
theorem wrNat(X:WrA w g err L)(h:aW w ao n c V)(hn:n<=1099511627776)(hbig:L.length+8 * n+16<=4611686018427387904) :
  Calls Tryz.prog 210 #[.pointer (some ⟨g,0,none⟩),.slice ao n c] w λe w'=>e=.returned (.tuple #[])/\WrA w' g (iR V err) (j7 V err L)/\But g w w':=by
 obtain⟨b,o,l,D,A,p,B,x⟩:=h.ex;have t:=xA ao n c b o l w D A hn p B;rw[x] at t
 have G:0<=V:=by rw[<- x];exact aR p
 have P:=X.lt
 have M:Hid (WrA w g err L):=X;clear X h D A p B x;go_enter Tryz.func210,Tryz.ntmps210;go_wp2_with fail;refine t.mono ?_
 rintro e N ⟨v,r,rfl,F,E,-,I,z⟩;obtain⟨y,O,Q,H,rfl,u,J,hA,-⟩:=F.is;obtain rfl:=ni E (pV G);have j:=M.out.keep z;have C:=(show Hid _ from z)
 clear t F E z;by_cases d:(eb V).length < 256
 ·have t2:=wrCnt (m:=1) j hA rfl u (by omega) (.inl rfl) (by simpa using d) (by omega)
  have i:Hid (iR V err=err/\j7 V err L=wrote err L (fP 1 (eb V))):=by
   unfold iR j7;rw[if_pos d,if_pos d];exact⟨rfl,rfl⟩
  clear j hA d;go_wp2_with fail;refine t2.mono ?_
  rintro e K ⟨rfl,s,f⟩;have q:=(show Hid _ from(But.of (g:=g) C.out).trans f)
  clear t2 f;go_wp2;go_end0;exact⟨rfl,by rw[i.out.1,i.out.2];exact s,q.out⟩
 have t2:=yr (ao:=y) (c:=H) (m:=1) (n:=(eb V).length) j (by omega) (by decide) (by omega)
 have i:Hid (iR V err=long err/\j7 V err L=L):=by
  unfold iR j7;rw[if_neg d,if_neg d];exact⟨rfl,rfl⟩
 clear j hA d;go_wp2_with fail;refine t2.mono ?_
 rintro e K ⟨rfl,s,f⟩;have q:=(show Hid _ from(But.of (g:=g) C.out).trans f)
 clear t2 f;go_wp2;go_end0;exact⟨rfl,by rw[i.out.1,i.out.2];exact s,q.out⟩
theorem An(X:WrA w g err L)(h:aW w ao n c V)(hbig:L.length+8 * n+16≤4611686018427387904)(hn:n≤1099511627776:=by omega) :
    Calls Tryz.prog 166 #[.pointer (some ⟨g,0,none⟩),.agg #[.slice ao n c]] w λe w'=>e=.returned (.tuple #[])∧WrA w' g (iR V err) (j7 V err L)∧But g w w':=by
  have d:Hid (BW w (w.alloc (.cells #[.slice ao n c] 55))):=aa w _;have t:=wrNat (X.keep d.out) (h.keep d.out) hn hbig;clear X h;go_enter Tryz.func166,Tryz.ntmps166;go_wp2_with fail;refine t.mono ?_
  rintro e i ⟨rfl,f,b⟩;replace b:=(show Hid _ from(But.of (g:=g) d.out).trans b);clear t d;go_wp2;go_end0;exact⟨rfl,f,b.out⟩
end
section
variable {err:Int}{l:List Int}{w:World}{b g n c m:Nat}{ao:Option Addr}{cs:List Value}{y:Value}
def rdE{α:Type}(r:Int ⊕ α × Nat)(err:Int):Int:=if err=0 then (match r with | .inl e=>e | .inr _=>0) else err
def rdL{α:Type}(r:Int ⊕ α × Nat)(err:Int)(l:List Int):List Int:=if err=0 then (match r with | .inl _=>l | .inr p=>l.drop p.2) else l
def rdV{α:Type}(z:α)(r:Int ⊕ α × Nat)(err:Int):α:=if err=0 then (match r with | .inl _=>z | .inr p=>p.1) else z
def cA(m:Nat)(l:List Int):Int ⊕ Int × Nat:=if m<=l.length then .inr (bJ (l.take m),m) else .inl 40
def bX(l:List Int):Int ⊕ Bool × Nat:=if 1<=l.length then (if 1 < bJ (l.take 1) then .inl 41 else .inr (bJ (l.take 1) == 1,1)) else .inl 40
def cE(m:Nat)(l:List Int):Nat:=(bJ (l.take m)).toNat
def cS(l:List Int):Int ⊕ Int × Nat:=if 1<=l.length then (if 1+cE 1 l<=l.length then (if 0 < cE 1 l/\nth (l.drop 1) 0=0 then .inl 41 else .inr (bJ ((l.drop 1).take (cE 1 l)),1+cE 1 l)) else .inl 40) else .inl 40
theorem jT{α:Type}{r:Int ⊕ α × Nat}(h:err≠0):rdE r err=err:=by unfold rdE;rw[if_neg h]
theorem mi{α:Type}{r:Int ⊕ α × Nat}(h:err≠0):rdL r err l=l:=by unfold rdL;rw[if_neg h]
theorem mr{α:Type}{z:α}{r:Int ⊕ α × Nat}(h:err≠0):rdV z r err=z:=by unfold rdV;rw[if_neg h]
theorem xc(m:Nat)(err:Int)(l:List Int):qF m err l=rdV 0 (cA m l) err:=by
 unfold qF rdV cA;by_cases h1:err=0<;>by_cases h2:m<=l.length<;>simp[h1,h2]
theorem wE(m:Nat)(err:Int)(l:List Int):qN m err l=rdE (cA m l) err:=by
 unfold qN rdE cA;by_cases h1:err=0<;>by_cases h2:m<=l.length<;>simp[h1,h2]
theorem xm(m:Nat)(err:Int)(l:List Int):rC m err l=rdL (cA m l) err l:=by
 unfold rC rdL cA;by_cases h1:err=0<;>by_cases h2:m<=l.length<;>simp[h1,h2]
theorem ByA.but{w':World}(h:ByA w b ao n c l){t:TypeId}(s:Box w g cs t)(hv:∀ v∈cs,∀ x,v≠.int .u8 x)(p:But g w w'):ByA w' b ao n c l:=by
 obtain⟨o,k,f,m,j,a⟩:=h.ex;refine⟨o,k,f,m,j,a.loc,λi hi=>?_⟩;have hc:=a.cell i hi;refine p.cell hc (λe=>?_);subst e;simp only[World.cell?,s.blk] at hc
 have d:cs.toArray[o+i]?=some (.int .u8 (nth l i)):=by simpa using hc
 rw[List.getElem?_toArray] at d;exact absurd rfl (hv _ (List.mem_of_getElem? d) _)
theorem RdA.back{w1:World}(e0:Int)(X:Box w g [.int .i64 0,.slice ao n c] 161)(A:ByA w b ao n c l)(a:But g w w1)(Y:Box w1 g [.int .i64 0,y] 161) :
  RdA ((w1.setCell ⟨g,1,none⟩ (.slice ao n c)).setCell ⟨g,0,none⟩ (.int .i64 e0)) g b e0 l/\But g w ((w1.setCell ⟨g,1,none⟩ (.slice ao n c)).setCell ⟨g,0,none⟩ (.int .i64 e0)):=by
 have H:But g w ((w1.setCell ⟨g,1,none⟩ (.slice ao n c)).setCell ⟨g,0,none⟩ (.int .i64 e0)):=⟨a.os,a.tape,a.output,by rw[size_set,size_set];exact a.size,λk e d=>by rw[Below.heap_setCell _ _ _ k d,Below.heap_setCell _ _ _ k d];exact a.block k e d⟩
 exact⟨⟨ao,n,c,ix (dr Y _) _,A.but X (lV _ _ _ _) H⟩,H⟩
theorem RdA.lt(h:RdA w g b err l):g < w.heap.size:=by
 obtain⟨_,_,_,X,_⟩:=h.ex;exact X.lt
theorem GM(h:RdA w g b 0 l)(hm:m≤l.length)(i:m≤8:=by decide) :
    CP 123 #[.pointer (some ⟨g,0,none⟩),.int .u64 m] w λe w'=>e=.returned (.tuple #[.int .u64 (bJ (l.take m)),.int .i64 0])∧RdA w' g b 0 (l.drop m)∧But g w w':=by
  obtain⟨d,n,c,X,A⟩:= h.ex;obtain⟨o,j,a,⟨p,-⟩,-,-⟩:= A.ex;refine(rdNum X A (by omega:m≤n) i).mono ?_
  rintro e w' ⟨f,rfl⟩
  have H:But g w (w.setCell ⟨g,1,none⟩ (.slice (cN d c m) (n - m) (c - m))):=⟨rfl,rfl,rfl,by rw[size_set];exact Nat.le_refl _,λk _ a=>Below.heap_setCell _ _ _ k a⟩;exact⟨f,⟨_,_,_,dr X _,(A.rest (by omega)).but X (lV _ _ _ _) H⟩,H⟩
theorem AG(h:RdA w g b 0 l)(hm:l.length < m:=by omega) :
    CP 123 #[.pointer (some ⟨g,0,none⟩),.int .u64 m] w λe w'=>e=.returned (.tuple #[.int .u64 0,.int .i64 40])∧w'=w:=by
  obtain⟨a,n,c,X,A⟩:= h.ex;obtain⟨o,f,d,⟨i,-⟩,-,-⟩:= A.ex;exact BG X (by omega)
theorem CK(h:RdA w g b 0 l)(hm:m<=l.length) :
  CP 157 #[.pointer (some ⟨g,0,none⟩),.int .u64 m] w λe w'=>∃ ao,e=.returned (.tuple #[.slice ao m m,.int .i64 0])/\ByA w' b ao m m (l.take m)/\RdA w' g b 0 (l.drop m)/\But g w w':=by
 obtain⟨ao,n,c,X,A⟩:=h.ex;obtain⟨o,i,a,⟨f,-⟩,-,-⟩:=A.ex;refine(Dc X a f (by omega:m<=n)).mono ?_
 rintro e w' ⟨d,rfl⟩
 have H:But g w (w.setCell ⟨g,1,none⟩ (.slice (cN ao c m) (n - m) (c - m))):=⟨rfl,rfl,rfl,by rw[size_set];exact Nat.le_refl _,λk _ a=>Below.heap_setCell _ _ _ k a⟩
 exact⟨ao,d,(A.front (by omega)).but X (lV _ _ _ _) H,⟨_,_,_,dr X _,(A.rest (by omega)).but X (lV _ _ _ _) H⟩,H⟩
theorem Gv(h:RdA w g b 0 l)(hm:l.length < m) :
  CP 157 #[.pointer (some ⟨g,0,none⟩),.int .u64 m] w λe w'=>e=.returned (.tuple #[.slice none 0 0,.int .i64 40])/\w'=w:=by
 obtain⟨a,n,c,X,A⟩:=h.ex;obtain⟨o,f,d,⟨i,-⟩,-,-⟩:=A.ex;exact vW X (by omega) (by omega)
theorem RdA.oct(h:RdA w g b err l):aJ l:=by
 obtain⟨_,_,_,_,A⟩:=h.ex;obtain⟨o,_,_,_,h4,_⟩:=A.ex;exact h4
theorem sw(h:RdA w g b err l):((cE m l:Nat):Int)=bJ (l.take m):=by
 unfold cE;rw[Int.toNat_of_nonneg (bL (λx hx=>h.oct x (List.mem_of_mem_take hx))).1]
theorem Fs(h:RdA w g b 0 l) :
  Calls Tryz.prog 155 #[.pointer (some ⟨g,0,none⟩)] w λe w'=>∃ v,e=.returned (.tuple #[v,.int .i64 (rdE (bX l) 0)])/\∃ l1,RdA w' g b 0 l1/\But g w w'/\∀ x k,bX l=.inr (x,k)->l1=l.drop k/\v=.bool x:=by
 by_cases i:1<=l.length
 ·have t:=GM (m:=1) h i;by_cases hx:1 < bJ (l.take 1)
  ·have c:bX l=.inl 41:=by unfold bX; rw[if_pos i,if_pos hx]
   have f:Hid (rdE (bX l) 0=41):=by show _=_;rw[c];rfl
   have d:=(show Hid _ from c)
   clear c h
   have j:(bJ (l.take 1) == 1)=false:=by rw[beq_eq_false_iff_ne];omega
   generalize bJ (l.take 1)=X at *;go_enter Tryz.func155,Tryz.ntmps155;go_wp2_with fail;refine t.mono ?_
   rintro e p ⟨rfl,o,n⟩;clear t;go_wp2;go_ret2;exact⟨_,by rw[f.out];rfl,_,o,n,λx k e=>by rw[d.out] at e;cases e⟩
  have c:bX l=.inr (bJ (l.take 1) == 1,1):=by unfold bX; rw[if_pos i,if_neg hx]
  have f:Hid (rdE (bX l) 0=0):=by show _=_;rw[c];rfl
  have d:=(show Hid _ from c)
  clear c h;generalize bJ (l.take 1)=X at *
  have j:X<=1:=by omega
  clear hx;go_enter Tryz.func155,Tryz.ntmps155;go_wp2_with fail;refine t.mono ?_
  rintro e p ⟨rfl,o,n⟩;clear t;go_wp2;go_ret2;exact⟨_,by rw[f.out];rfl,_,o,n,λx k e=>by rw[d.out] at e;cases e;exact⟨rfl,rfl⟩⟩
 have t:=AG (m:=1) h
 have c:bX l=.inl 40:=by unfold bX;rw[if_neg i]
 have f:Hid (rdE (bX l) 0=40):=by show _=_;rw[c];rfl
 have d:=(show Hid _ from c)
 have q:=(show Hid _ from h)
 clear c h i;go_enter Tryz.func155,Tryz.ntmps155;go_wp2_with fail;refine t.mono ?_
 rintro e p ⟨rfl,rfl⟩;clear t;go_wp2;go_ret2;exact⟨_,by rw[f.out];rfl,_,q.out,⟨rfl,rfl,rfl,Nat.le_refl _,λ_ _ _=>rfl⟩,λx k e=>by rw[d.out] at e;cases e⟩
end
theorem cW (ao:Option Addr) (n c b o:Nat) (l:List Int) (w:World) (s:l.length=n) (hbig:n≤1099511627776) (m:ao=none→c=0) (t:AtB w ao b o l) :
    Calls Tryz.prog 78 #[.slice ao n c] w λe w'=>∃ v,e=.returned v∧cy w' w.heap.size v l∧BW w w':=by
  obtain⟨i0,hi,A,C,r⟩:= info_parts gT
  have H:∀ (w:World) (a:Option Addr) (n c y z:Nat),(binOp .eql 29 (.slice a n c) (.slice none y z)).run Tryz.prog w=.ok (.bool a.isNone) w:=λw a n c y z=>Lib.run_eql_slice_nil w _ _ a n c y z cJ
  cases ao with
  | none =>
    have F : l = [] := by rcases t.loc with e | e
                          · exact e
                          · simp at e
    subst F
    have D:n=0:=s.symm;subst D;have q:=m rfl;subst q
    have d:w.ownsRow w.heap.size 5 1 (.slice none 0 0) 0 []:=World.ownsRow_nil _ _ _ _;go_enter Tryz.func78,Tryz.ntmps78;go_wp2;go_ret;exact⟨_,rfl,d,Below.refl _ _⟩
  | some x =>
    have E:=aa w (.cells #[] 5)
    have d:(w.alloc (.cells #[] 5)).ownsRow w.heap.size 5 1 (.slice (some ⟨w.heap.size,0,none⟩) 0 0) 0 []:=⟨rfl,.inr ⟨w.heap.size,0,#[],rfl,Nat.le_refl _,(fV w [] 5).blk,Nat.le_refl _,by decide,rfl,rfl⟩⟩
    have p:∀ j u,(l.map (Value.int .u8))[j]?=some u→(w.alloc (.cells #[] 5)).cell? (x.add j)=some u:=by
      intro j u hu;rw[List.getElem?_map] at hu
      have f:j < l.length:=by
        rcases Nat.lt_or_ge j l.length with f | f
        · exact f
        · rw[List.getElem?_eq_none f] at hu;simp at hu
      rw[List.getElem?_eq_getElem f] at hu;simp at hu;subst hu
      have hx:x=⟨b,o,none⟩:= by
        rcases t.loc with e | e
        · subst e;simp at f
        · simpa using e
      subst hx;have:=(t.keep E).cell j f;rw[cF f] at this;rw[bZ];exact this
    have B:=(show Hid _ from E);clear E;go_enter Tryz.func78,Tryz.ntmps78;go_wp2_with (at_builtin;refine wpList_append_own _ rfl _ _ 29 rfl w.heap.size 5 i0 (.int .u8 0) 1 1 cJ hi A C r rfl (by decide) _ _ _ rfl d x n c (l.map (Value.int .u8)) rfl (by simp[s]) ?c1 ?c2 ?c3 ?c4 ?c5 ?_)
    case c1=>exact p
    case c2=>exact ints_oneCell _ _
    case c3=>unfold maxLen;omega
    case c4=>omega
    case c5=>exact B.out.size
    intro G I g i _;go_wp2;go_ret;refine⟨G,rfl,?_,B.out.grown i B.out.size (Dv d)⟩;unfold cy;rw[s];simpa using g
theorem CW {w:World} {g b m:Nat} {err:Int} {l:List Int} (h:RdA w g b err l) (hm:m<=l.length):((cE m l:Nat):Int) < 256 ^ m:=by
 have:=(bL (l:=l.take m) (λx hx=>h.oct x (List.mem_of_mem_take hx))).2;rw[List.length_take,Nat.min_eq_left hm] at this;rw[sw h];exact this
theorem gF {w w':World} {B:Nat} {v:Value} {l:List Int} (h:cy w B v l) (hb:BW w w'):cy w' B v l:=by
 obtain⟨f,a⟩:=h;refine⟨f,?_⟩;rcases a with a | ⟨g,cap,cur,c,e,b,d⟩
 ·exact .inl a
 refine .inr ⟨g,cap,cur,c,e,?_,d⟩
 rw[hb.block g (by
  rcases Nat.lt_or_ge g w.heap.size with h | h
  ·exact h
  rw[Array.getElem?_eq_none h] at b;cases b)]
 exact b
section
variable {l:List Int}{e0 err:Int}{w w':World}{g b G:Nat}{v:Value}
theorem Aq(h:bX l=.inl e0):e0≠0:=by
 unfold bX at h
 repeat' split at h
 all_goals (cases h;try decide)
theorem FQ(h:cS l=.inl e0):e0≠0:=by
 unfold cS at h
 repeat' split at h
 all_goals (cases h;try decide)
theorem enBo{α:Type}{z:α}{p:Int ⊕ α × Nat}{V:α->Value->World->Prop}(h:RdA w g b err l)(hp:∀ e0,p=.inl e0->e0≠0)(j:∀ w',V z (.bool false) w')(t:err=0->CP 155 #[.pointer (some ⟨g,0,none⟩)] w λe w'=>∃ v,e=.returned (.tuple #[v,.int .i64 (rdE p 0)])/\∃ l1,RdA w' g b 0 l1/\But g w w'/\∀ x k,p=.inr (x,k)->l1=l.drop k/\V x v w') :
  CP 154 #[.pointer (some ⟨g,0,none⟩),.func (.func 155) #[.pointer (some ⟨g,0,none⟩)] #[]] w λe w'=>∃ v,e=.returned v/\V (rdV z p err) v w'/\RdA w' g b (rdE p err) (rdL p err l)/\But g w w':=by
 obtain⟨u,n,c,X,A⟩:=h.ex;by_cases he:err=0
 ·subst he
  match hq:p with
  | .inl e0 =>
   have i:e0≠0:=hp e0 rfl
   have f:Calls Tryz.prog 155 #[.pointer (some ⟨g,0,none⟩)] w λe w'=>∃ v,e=.returned (.tuple #[v,.int .i64 e0])/\∃ l1,RdA w' g b 0 l1/\But g w w':=(t rfl).mono (by
    rintro e w' ⟨v,e1,l1,a,d,-⟩
    exact⟨v,e1,l1,a,d⟩)
   refine(Eb i X (λv m o=>by
    obtain⟨l1,a,-⟩:=o;obtain⟨_,_,_,Y,_⟩:=a.ex
    exact⟨_,Y⟩) f).mono ?_
   rintro e w' ⟨e1,v,m,⟨l1,a,d⟩,rfl⟩;obtain⟨_,_,_,Y,_⟩:=a.ex;have H:=RdA.back e0 X A d Y;exact⟨_,e1,j _,H.1,H.2⟩
  | .inr (x,k) =>
   have f:Calls Tryz.prog 155 #[.pointer (some ⟨g,0,none⟩)] w λe w'=>∃ v,e=.returned (.tuple #[v,.int .i64 0])/\(V x v w'/\RdA w' g b 0 (l.drop k)/\But g w w'):=(t rfl).mono (by
    rintro e w' ⟨v,e1,l1,a,d,s⟩;obtain⟨q,r⟩:=s x k rfl;subst q
    exact⟨v,e1,r,a,d⟩)
   exact enBoOk X f
 refine(DE X he).mono ?_
 rintro e w' ⟨rfl,rfl⟩;rw[mr he,jT he,mi he];exact⟨_,rfl,j _,h,But.refl _ _⟩
theorem enNa{α:Type}{z:α}{p:Int ⊕ α × Nat}{V:α->Value->World->Prop}(h:RdA w g b err l)(hp:∀ e0,p=.inl e0->e0≠0)(j:∀ w',V z (.slice none 0 0) w')(t:err=0->CP 204 #[.pointer (some ⟨g,0,none⟩)] w λe w'=>∃ v,e=.returned (.tuple #[v,.int .i64 (rdE p 0)])/\∃ l1,RdA w' g b 0 l1/\But g w w'/\∀ x k,p=.inr (x,k)->l1=l.drop k/\V x v w') :
  CP 203 #[.pointer (some ⟨g,0,none⟩),.func (.func 204) #[.pointer (some ⟨g,0,none⟩)] #[]] w λe w'=>∃ v,e=.returned v/\V (rdV z p err) v w'/\RdA w' g b (rdE p err) (rdL p err l)/\But g w w':=by
 obtain⟨u,n,c,X,A⟩:=h.ex;by_cases he:err=0
 ·subst he
  match hq:p with
  | .inl e0 =>
   have i:e0≠0:=hp e0 rfl
   have f:Calls Tryz.prog 204 #[.pointer (some ⟨g,0,none⟩)] w λe w'=>∃ v,e=.returned (.tuple #[v,.int .i64 e0])/\∃ l1,RdA w' g b 0 l1/\But g w w':=(t rfl).mono (by
    rintro e w' ⟨v,e1,l1,a,d,-⟩
    exact⟨v,e1,l1,a,d⟩)
   refine(EH i X (λv m o=>by
    obtain⟨l1,a,-⟩:=o;obtain⟨_,_,_,Y,_⟩:=a.ex
    exact⟨_,Y⟩) f).mono ?_
   rintro e w' ⟨e1,v,m,⟨l1,a,d⟩,rfl⟩;obtain⟨_,_,_,Y,_⟩:=a.ex;have H:=RdA.back e0 X A d Y;exact⟨_,e1,j _,H.1,H.2⟩
  | .inr (x,k) =>
   have f:Calls Tryz.prog 204 #[.pointer (some ⟨g,0,none⟩)] w λe w'=>∃ v,e=.returned (.tuple #[v,.int .i64 0])/\(V x v w'/\RdA w' g b 0 (l.drop k)/\But g w w'):=(t rfl).mono (by
    rintro e w' ⟨v,e1,l1,a,d,s⟩;obtain⟨q,r⟩:=s x k rfl;subst q
    exact⟨v,e1,r,a,d⟩)
   exact enNaOk X f
 refine(EV X he).mono ?_
 rintro e w' ⟨rfl,rfl⟩;rw[mr he,jT he,mi he];exact⟨_,rfl,j _,h,But.refl _ _⟩
theorem BI{m:Nat}(h:RdA w g b err l):0<=rdV 0 (cA m l) err/\rdV 0 (cA m l) err < 256 ^ m:=by
 have c:(0:Int) < 256 ^ m:=Int.pow_pos (by decide);unfold rdV cA;split
 ·split
  ·exact⟨Int.le_refl _,c⟩
  rename_i a;split at a
  ·cases a;have:=bL (l:=l.take m) (λx hx=>h.oct x (List.mem_of_mem_take hx));rw[List.length_take,Nat.min_eq_left (by assumption)] at this;exact this
  cases a
 exact⟨Int.le_refl _,c⟩
theorem rdU32(h:RdA w g b err l) :
  Calls Tryz.prog 46 #[.pointer (some ⟨g,0,none⟩)] w λe w'=>e=.returned (.int .u32 (rdV 0 (cA 4 l) err))/\RdA w' g b (rdE (cA 4 l) err) (rdL (cA 4 l) err l)/\But g w w':=by
 have t:=wS (m:=4) h;obtain⟨f,c⟩:=BI (m:=4) h;rw[show (256:Int) ^ 4=4294967296 by decide] at c;rw[xc,wE,xm] at t;clear h;generalize rdV 0 (cA 4 l) err=V at *;generalize rdE (cA 4 l) err=E at *;generalize rdL (cA 4 l) err l=R at *;go_enter Tryz.func46,Tryz.ntmps46;go_wp2_with fail;refine t.mono ?_
 rintro e d ⟨rfl,k1,k2⟩;clear t;go_wp2;go_ret;exact⟨rfl,k1,k2⟩
theorem GJ(h:RdA w g b err l) :
  Calls Tryz.prog 48 #[.pointer (some ⟨g,0,none⟩)] w λe w'=>e=.returned (.int .u64 (rdV 0 (cA 8 l) err))/\RdA w' g b (rdE (cA 8 l) err) (rdL (cA 8 l) err l)/\But g w w':=by
 have t:=wS (m:=8) h;obtain⟨f,c⟩:=BI (m:=8) h;rw[show (256:Int) ^ 8=18446744073709551616 by decide] at c;rw[xc,wE,xm] at t;clear h;generalize rdV 0 (cA 8 l) err=V at *;generalize rdE (cA 8 l) err=E at *;generalize rdL (cA 8 l) err l=R at *;go_enter Tryz.func48,Tryz.ntmps48;go_wp2_with fail;refine t.mono ?_
 rintro e d ⟨rfl,k1,k2⟩;clear t;go_wp2;go_ret;exact⟨rfl,k1,k2⟩
theorem rdBool(h:RdA w g b err l) :
  Calls Tryz.prog 113 #[.pointer (some ⟨g,0,none⟩)] w λe w'=>e=.returned (.bool (rdV false (bX l) err))/\RdA w' g b (rdE (bX l) err) (rdL (bX l) err l)/\But g w w':=by
 have t:=enBo (z:=false) (p:=bX l) (V:=λx v _=>v=.bool x) h (λ_=>Aq) (λ_=>rfl) (λe=>by subst e;exact Fs h);clear h;generalize rdV false (bX l) err=V at *;generalize rdE (bX l) err=E at *;generalize rdL (bX l) err l=R at *;go_enter Tryz.func113,Tryz.ntmps113;go_wp2_with fail;refine t.mono ?_
 rintro e c ⟨v,rfl,rfl,k1,k2⟩;clear t;go_wp2;go_ret;exact⟨rfl,k1,k2⟩
theorem Slot.bx{t:TypeId}(s:Slot w g v t):Box w g [v] t:=⟨s.blk⟩
theorem RdA.put(h:RdA w g b err l){u:Value}{t:TypeId}(s:Slot w G v t)(d:G≠g)(hv:∀ x,v≠.int .u8 x):RdA (w.setCell ⟨G,0,none⟩ u) g b err l:=by
 obtain⟨e,n,c,X,A⟩:=h.ex;refine⟨e,n,c,⟨?_⟩,A.box s.bx (λf a=>by rw[List.mem_singleton] at a;subst a;exact hv) λk hk=>Below.heap_setCell _ _ _ k hk⟩;rw[Below.heap_setCell _ _ _ g d.symm];exact X.blk
theorem Slot.but{t:TypeId}(s:Slot w G v t)(h:But g w w')(hG:G≠g):Slot w' G v t:=⟨by
 rw[h.block G s.bx.lt hG]
 exact s.blk⟩
theorem But.put(h:But g w w')(c:w.heap.size<=G)(u:Value):But g w (w'.setCell ⟨G,0,none⟩ u):=⟨h.os,h.tape,h.output,by rw[size_set];exact h.size,λk b a=>by rw[Below.heap_setCell _ _ _ k (by show k≠G;omega)];exact h.block k b a⟩
theorem rdLeft(h:RdA w g b err l) :
  Calls Tryz.prog 80 #[.pointer (some ⟨g,0,none⟩)] w λe w'=>e=.returned (.int .i64 l.length)/\w'=w:=by
 obtain⟨f,n,c,X,A⟩:=h.ex;obtain⟨o,d,-⟩:=A.ex;subst d;obtain⟨c1,c2,c3,i⟩:=X.two;clear X A h;go_enter Tryz.func80,Tryz.ntmps80;go_wp2;go_ret;exact⟨rfl,rfl⟩
end
section
variable {w:World}{g b:Nat}{err:Int}{v:Value}{l:List Int}{ao:Option Addr}
theorem xp{e0:Int}{t:TypeId}(he:err≠0)(X:Box w g [.int .i64 err,v] t) :
  Calls Tryz.prog 81 #[.pointer (some ⟨g,0,none⟩),.int .i64 e0] w λe w'=>e=.returned (.tuple #[])/\w'=w:=by
 have hb:(err == 0)=false:=beq_eq_false_iff_ne.2 he;have t:=fM X;rw[hb] at t;clear he hb X;go_enter Tryz.func81,Tryz.ntmps81;go_wp2_with fail;refine t.mono ?_
 rintro e w' ⟨rfl,rfl⟩;clear t;go_wp2;go_end0;exact⟨rfl,rfl⟩
def bS(err:Int)(l:List Int):Int:=if err=0 then (if l.length=0 then 0 else 43) else err
theorem pb(h:RdA w g b err l)(hbig:l.length<=9223372036854775807) :
  Calls Tryz.prog 49 #[.pointer (some ⟨g,0,none⟩)] w λe w'=>e=.returned (.int .i64 (bS err l))/\RdA w' g b (bS err l) l/\But g w w':=by
 have d:=rdLeft h;obtain⟨q,n,c,X,A⟩:=h.ex;obtain⟨c1,c2,c3,t⟩:=X.two;by_cases f:l.length=0
 ·have m:Hid (bS err l=err):=by
   show _=_
   unfold bS;by_cases he:err=0
   ·rw[if_pos he,if_pos f,he]
   rw[if_neg he]
  have j:=(show Hid _ from h)
  rw[f] at d;clear X A h f;go_enter Tryz.func49,Tryz.ntmps49;go_wp2_with fail;refine d.mono ?_
  rintro e w' ⟨rfl,rfl⟩;clear d;go_wp2;go_ret;rw[m.out];exact⟨rfl,j.out,But.refl _ _⟩
 have o:(0:Int) < l.length:=by omega
 by_cases he:err=0
 ·subst he
  have m:Hid (bS 0 l=43):=by show _=_;unfold bS;rw[if_pos rfl,if_neg f]
  have j:Hid (RdA (w.setCell ⟨g,0,none⟩ (.int .i64 43)) g b 43 l):=⟨q,n,c,ix X _,A.box X (lV _ _ _ _) λk hk=>Below.heap_setCell _ _ _ k hk⟩
  have d1:=(ix X (.int .i64 43)).two.1
  have s:Hid (But g w (w.setCell ⟨g,0,none⟩ (.int .i64 43))):=⟨rfl,rfl,rfl,by rw[size_set];exact Nat.le_refl _,λk _ p=>Below.heap_setCell _ _ _ k p⟩
  have i:=pT (e0:=43) X;clear X A h f;generalize l.length=L at *;go_enter Tryz.func49,Tryz.ntmps49;go_wp2_with fail;refine d.mono ?_
  rintro e w' ⟨rfl,rfl⟩;clear d;go_wp2_with fail;refine i.mono ?_
  rintro e r ⟨rfl,rfl⟩;clear i;go_wp2;go_ret;rw[m.out];exact⟨rfl,j.out,s.out⟩
 have m:Hid (bS err l=err):=by show _=_; unfold bS; rw[if_neg he]
 have i:=xp (e0:=43) he X;have j:=(show Hid _ from h)
 clear X A h f he;generalize l.length=L at *;go_enter Tryz.func49,Tryz.ntmps49;go_wp2_with fail;refine d.mono ?_
 rintro e w' ⟨rfl,rfl⟩;clear d;go_wp2_with fail;refine i.mono ?_
 rintro e r ⟨rfl,rfl⟩;clear i;go_wp2;go_ret;rw[m.out];exact⟨rfl,j.out,But.refl _ _⟩
theorem cy.bya{B:Nat}(h:cy w B v l)(ho:aJ l):∃ b ao c,v=.slice ao l.length c/\B<=b/\ByA w b ao l.length c l:=by
 obtain⟨_,d⟩:=h;rcases d with⟨rfl,h0⟩ | ⟨g,cap,cur,rfl,hB,hh,hle,hmx,hsz,htk⟩
 ·have e:l=[]:=List.eq_nil_of_length_eq_zero h0;subst e;exact⟨B,none,0,rfl,Nat.le_refl _,0,rfl,Nat.le_refl _,⟨by decide,λ_=>rfl⟩,ho,.inl rfl,λi hi=>by simp at hi⟩
 refine⟨g,_,_,rfl,hB,0,rfl,hle,⟨by unfold maxLen at hmx;omega,λe=>by cases e⟩,ho,.inr rfl,λi hi=>?_⟩;simp only[World.cell?,hh]
 have e:cur[0+i]?=some (.int .u8 (nth l i)):=by
  have a:(cur.toList.take (l.length * 1))[i]?=some (.int .u8 (nth l i)):=by
   rw[htk,List.getElem?_map,List.getElem?_eq_getElem hi,cF hi];rfl
  rw[List.getElem?_take] at a;split at a
  ·rw[Nat.zero_add,<- Array.getElem?_toList];exact a
  cases a
 simpa using e
theorem rdNew{n c:Nat}(A:ByA w b ao n c l)(hbig:n<=1099511627776) :
  Calls Tryz.prog 44 #[.slice ao n c] w λe w'=>∃ g b',e=.returned (.pointer (some ⟨g,0,none⟩))/\w.heap.size<=g/\w.heap.size<=b'/\RdA w' g b' 0 l/\BW w w':=by
 obtain⟨o,s,z,x,r,u⟩:=A.ex;have t:=cW ao n c b o l w s hbig x.2 u;have C:=(show Hid _ from r)
 clear s z x r u A;go_enter Tryz.func44,Tryz.ntmps44;go_wp2_with fail;refine t.mono ?_
 rintro e j ⟨v,rfl,p,y⟩;obtain⟨b',f,m,rfl,d,hA⟩:=p.bya C.out;have B:=(show Hid _ from hA)
 have q:=(show Hid _ from y)
 have i:=(show Hid _ from d)
 clear t p y hA d;go_wp2;go_ret;exact⟨j.heap.size,b',rfl,q.out.size,i.out,⟨f,_,m,fV j [.int .i64 0,.slice f l.length m] _,B.out.keep (aa _ _)⟩,ae q.out (aa _ _)⟩
end
section
variable {w:World}{g:Nat}{L:List Int}{o:Oper}{a:Act}{X:Int}{v:Value}{lo' hi':Option Value}{cur:List Value}
theorem wrOutE{err:Int}(X:WrA w g err L)(he:err≠0) :
  Calls Tryz.prog 34 #[.pointer (some ⟨g,0,none⟩)] w λe w'=>e=.returned (.tuple #[.slice none 0 0,.int .i64 err])/\BW w w':=by
 obtain⟨p,ps,c,u,b,-⟩:=X.ex;have t:=lD b.c0;have c0:=b.c0;rw[beq_eq_false_iff_ne.2 he] at t;clear X b he;go_enter Tryz.func34,Tryz.ntmps34;go_wp2_with fail;refine t.mono ?_
 rintro e d ⟨rfl,rfl⟩;clear t;go_wp2_with fail;go_quiet (fail);go_wp2;go_ret2;exact⟨rfl,below_drewN (Below.refl _ _) _⟩
theorem iq{o:Nat}{x:Int}(c:w.cell? ⟨g,o,none⟩=some (.int .i64 x)):(loadVar 3 ⟨g,o,none⟩).run Tryz.prog w=.ok (.int .i64 x) w:=by
 go_simp
theorem Bn(x y:Nat){Y:Int}(ho:o.op=.binOp .add 3 (.tmp x) (.tmp y) 3)(hx:a.eval (.tmp x)=.int .i64 X)(hy:a.eval (.tmp y)=.int .i64 Y)(h0:0<=X+Y)(h1:X+Y<=9223372036854775807):(execOp a.eval o).run Tryz.prog w=.ok (.value (.int .i64 (X+Y))) w:=by
 simp only[execOp,ho,hx,hy];go_simp;simp[IntKind.wrap,IntKind.bits,IntKind.signed];omega
theorem FT{x N:Nat}(ho:o.op=.makeSlice 29 (.tmp x) (.tmp x))(hx:a.eval (.tmp x)=.int .i64 X)(hX:X=(N:Int))(e:N<=17592186044416):(execOp a.eval o).run Tryz.prog w=.ok (.value (.slice (some ⟨w.heap.size,0,none⟩) N N)) (w.alloc (.cells ((List.replicate N 0).map (Value.int .u8)).toArray 5)):=by
 subst hX;obtain⟨i,hi,d,c,hb⟩:=info_parts gT;have b:=run_make (P:=Tryz.prog) w 29 5 i (.int .u8 0) cJ hi d .i64 .i64 (N:Int) (N:Int) (by omega) (by omega) (by rw[hb];omega) (by omega);simp only[execOp,ho,hx];simp[b,Result.andThen,c,wX]
theorem sE(g u:Nat)(h:u<=256)(W:World):(Instr.sliceAt 78 (.pointer (some ⟨g,3,none⟩)) none (some (.int .i64 (u:Int))) none).run Tryz.prog W=.ok (.slice (some ⟨g,3,none⟩) u 256) W:=by
 have b:(u:Int)<=256:=by omega
 go_simp
theorem rj(g:Nat)(W:World):(Instr.sliceAt 78 (.pointer (some ⟨g,1,none⟩)) none none none).run Tryz.prog W=.ok (.slice (some ⟨g,1,none⟩) 256 256) W:=by
 go_simp
theorem ry{T:TypeId}(x:Operand)(lo hi:Option Operand){X:Value}(h:(Instr.sliceAt T X lo' hi' none).run Tryz.prog w=.ok v w)(ho:o.op=.slice T x lo hi none:=by kernel_rfl)(hx:a.eval x=X:=by kernel_rfl)(b:lo.map a.eval=lo':=by kernel_rfl)(c:hi.map a.eval=hi':=by kernel_rfl):(execOp a.eval o).run Tryz.prog w=.ok (.value v) w:=by
 subst hx;subst b;subst c;simp only[execOp,ho,Option.map_none];simp[h,Result.andThen]
theorem ze(d s:Nat)(ho:o.op=.call { callee:=.builtin .copy,args:=#[.tmp d,.tmp s],argTypes:=#[29,29] }){off dLen dCap sLen sCap:Nat}{ad:Addr}(f:a.eval (.tmp d)=.slice (some ⟨g,off,none⟩) dLen dCap)(hs:a.eval (.tmp s)=.slice (some ad) sLen sCap){t:TypeId}(h:Box w g cur t)(cs:List Value)(m:Nat)(hm:cs.length=m)(hn:m=Nat.min sLen dLen)(e:∀ j v,cs[j]?=some v->w.cell? (ad.add j)=some v)(b:off+m<=cur.length)(h1:∀ v∈cs,v.oneCell'=true) :
  (execOp a.eval o).run Tryz.prog w=.ok (.value (.int .i64 (m:Int))) (w.setRow g (splice cur off cs).toArray):=by
 subst hm;have c:=run_copy_row (P:=Tryz.prog) w 29 29 o.type 5 g off dLen dCap ad sLen sCap cur.toArray t cs cJ wO h.blk hn e (by simpa using b) h1;simp[execOp,ho,resolve,invoke,builtin,f,hs,c,Result.andThen,splice,goInt]
theorem kG(X:WrA w g 0 L)(hbig:L.length<=17592186044416) :
  Calls Tryz.prog 34 #[.pointer (some ⟨g,0,none⟩)] w λe w'=>e=.returned (.tuple #[.slice (some ⟨w.heap.size,0,none⟩) L.length L.length,.int .i64 0])/\Box w' w.heap.size (L.map (Value.int .u8)) 5/\BW w w':=by
 obtain⟨p,ps,f,u,C,P0,hu,hL⟩:=X.ex;have t:=lD C.c0
 have hlen:L.length=ps.length+u:=by rw[hL,List.length_append,List.length_take,C.len];omega
 obtain⟨N,E⟩:∃ N,N=L.length:=⟨_,rfl⟩
 rw[<- E] at hlen hbig ⊢;have HL:=(show Hid _ from hL)
 have HP:=(show Hid _ from P0)
 have HN:=(show Hid _ from E)
 have P:=(show Hid _ from hlen)
 have hps:ps.length<=17592186044416:=by omega
 clear X hL P0 E hlen;go_enter Tryz.func34,Tryz.ntmps34;go_wp2_with fail;refine t.mono ?_
 rintro e d ⟨rfl,rfl⟩;clear t;go_wp2_with fail
 have r:cV d.drew g 0 p (ps.length:Int) f (u:Int):=⟨C.len,C.blk⟩
 refine cZ (S:=λw'=>cV w' g 0 p (ps.length:Int) f (u:Int)) (by kernel_rfl) r ?_
 refine aI 0 17 (.pointer (some ⟨g,0,none⟩)) r ?_
 refine aI 1 18 (.pointer (some ⟨g,0,none⟩)) r ?_
 refine aI 2 19 (.pointer (some ⟨g,2,none⟩)) r ?_
 refine aV 3 (some 20) (.int .i64 (ps.length:Int)) 3 19 g 2 (λw' h=>iq h.c2) r ?_
 refine aI 4 21 (.pointer (some ⟨g,0,none⟩)) r ?_
 refine aI 5 22 (.pointer (some ⟨g,0,none⟩)) r ?_
 refine aI 6 23 (.pointer (some ⟨g,259,none⟩)) r ?_
 refine aV 7 (some 24) (.int .i64 (u:Int)) 3 23 g 259 (λw' h=>iq h.cu) r ?_
 refine aI 8 25 (.int .i64 ((ps.length:Int)+(u:Int))) r ?_ (hy:=λ_ _=>Bn 20 24 (by kernel_rfl) (by kernel_rfl) (by kernel_rfl) (by omega) (by omega));refine aQ [9] ?_
 have z:cV (d.drew.alloc (.cells ((List.replicate N 0).map (Value.int .u8)).toArray 5)) g 0 p (ps.length:Int) f (u:Int):=r.keep (aa _ _);refine bU 9 (some 26) (.slice (some ⟨d.heap.size,0,none⟩) N N) (d.drew.alloc (.cells ((List.replicate N 0).map (Value.int .u8)).toArray 5)) (FT (x:=25) (N:=N) (X:=(ps.length:Int)+(u:Int)) (by kernel_rfl) (by kernel_rfl) (by have:=P.out;omega) hbig) z ?_ aY;refine aI 10 4 (.slice (some ⟨d.heap.size,0,none⟩) N N) z ?_
 refine cn ?_
 try simp only[Act.put,List.setIfInBounds_toArray,List.set_cons_zero,List.set_cons_succ]
 have hg:=C.lt
 have Q:Box (d.drew.alloc (.cells ((List.replicate N 0).map (Value.int .u8)).toArray 5)) d.heap.size ((List.replicate N 0).map (Value.int .u8)) 5:=fV d.drew _ _
 have Z:Hid (BW d (d.drew.alloc (.cells ((List.replicate N 0).map (Value.int .u8)).toArray 5))):=(Below.refl d.heap.size d).drew.trans (aa d.drew _);clear r;generalize d.drew.alloc (.cells ((List.replicate N 0).map (Value.int .u8)).toArray 5)=V at *;have HW0:=(show Hid _ from C)
 clear C;have c2:=z.c2;have cu:=z.cu;obtain⟨off,n⟩:∃ off,off=if u=0 then 0 else ps.length:=⟨_,rfl⟩
 have y:∀ W,(Instr.sliceAt 29 (.slice (some ⟨d.heap.size,0,none⟩) N N) (some (.int .i64 (ps.length:Int))) none none).run Tryz.prog W=.ok (.slice (some ⟨d.heap.size,off,none⟩) u u) W:=λW=>by
  have hh:=P.out;rw[sliceB _ N N ps.length W (by omega) (Nat.le_refl _),show N - ps.length=u by omega,n];unfold cN;by_cases o:u=0
  ·rw[if_pos (by omega),if_pos o]
  rw[if_neg (by omega),if_neg o]
  show Result.ok (Value.slice (some ((⟨d.heap.size,0,none⟩:Addr).add ps.length)) u u) W=_
  rw[bZ,Nat.zero_add]
 have s:=sE g u (by omega)
 have F:Hid (splice ((List.replicate N (0:Int)).map (Value.int .u8)) off ((f.take u).map (Value.int .u8))=(List.replicate ps.length 0 ++ f.take u).map (Value.int .u8)):=by
  have hh:=P.out;have hl:=z.len
  show _=_
  unfold splice;by_cases o:u=0
  ·rw[n,if_pos o];subst o;simp;omega
  rw[n,if_neg o,List.length_map,List.length_take,hl];rw[List.drop_eq_nil_of_le (by simp;omega)];simp;omega
 have G:=(show Hid _ from n)
 have ab:=(show Hid _ from z.len)
 clear n;go_wp2_with fail
 have m:cV V.drew g 0 p (ps.length:Int) f (u:Int):=⟨z.len,z.blk⟩
 refine cZ (S:=λw'=>cV w' g 0 p (ps.length:Int) f (u:Int)) (by kernel_rfl) m ?_
 refine aI 0 27 (.slice (some ⟨d.heap.size,0,none⟩) N N) m ?_
 refine aI 1 28 (.pointer (some ⟨g,0,none⟩)) m ?_
 refine aI 2 29 (.pointer (some ⟨g,0,none⟩)) m ?_
 refine aI 3 30 (.pointer (some ⟨g,2,none⟩)) m ?_
 refine aV 4 (some 31) (.int .i64 (ps.length:Int)) 3 30 g 2 (λw' h=>iq h.c2) m ?_
 refine aI 5 32 (.slice (some ⟨d.heap.size,off,none⟩) u u) m ?_ (hy:=λw' _=>ry (.tmp 27) (some (.tmp 31)) none (y w'));refine aI 6 33 (.pointer (some ⟨g,0,none⟩)) m ?_
 refine aI 7 34 (.pointer (some ⟨g,0,none⟩)) m ?_
 refine aI 8 35 (.pointer (some ⟨g,3,none⟩)) m ?_
 refine aI 9 36 (.pointer (some ⟨g,0,none⟩)) m ?_
 refine aI 10 37 (.pointer (some ⟨g,0,none⟩)) m ?_
 refine aI 11 38 (.pointer (some ⟨g,259,none⟩)) m ?_
 refine aV 12 (some 39) (.int .i64 (u:Int)) 3 38 g 259 (λw' h=>iq h.cu) m ?_
 refine aI 13 40 (.slice (some ⟨g,3,none⟩) u 256) m ?_ (hy:=λw' _=>ry (.tmp 35) none (some (.tmp 39)) (s w'));refine aQ [14] ?_
 have O:cV (V.drew.setRow d.heap.size (splice ((List.replicate N (0:Int)).map (Value.int .u8)) off ((f.take u).map (Value.int .u8))).toArray) g 0 p (ps.length:Int) f (u:Int):=m.off (g':=d.heap.size) (by omega) (λk hk=>setRow_other _ _ k _ hk)
 refine bU 14 (some 41) (.int .i64 (u:Int)) (V.drew.setRow d.heap.size (splice ((List.replicate N (0:Int)).map (Value.int .u8)) off ((f.take u).map (Value.int .u8))).toArray) (ze 32 40 (by kernel_rfl) (g:=d.heap.size) (off:=off) (dLen:=u) (dCap:=u) (sLen:=u) (sCap:=256) (ad:=⟨g,3,none⟩) (by kernel_rfl) (by kernel_rfl) Q.drew ((f.take u).map (Value.int .u8)) u (by have:=ab.out; simp; omega) (Nat.min_self u).symm (λj v M=>by
  obtain⟨h1,h2⟩:=List.getElem?_eq_some_iff.1 M;rw[List.length_map,List.length_take] at h1;rw[bZ,<- h2,List.getElem_map,List.getElem_take,<- cF (l:=f) (by omega)]
  exact m.cl j (by omega)) (by have:=P.out;have:=G.out;rw[List.length_map,List.length_replicate,this];split<;>omega) (ints_oneCell _ _)) O ?_ aY
 refine cn ?_
 try simp only[Act.put,List.setIfInBounds_toArray,List.set_cons_zero,List.set_cons_succ]
 have B4:Box (V.drew.setRow d.heap.size (splice ((List.replicate N (0:Int)).map (Value.int .u8)) off ((f.take u).map (Value.int .u8))).toArray) d.heap.size ((List.replicate ps.length 0 ++ f.take u).map (Value.int .u8)) 5:=by
  have:=Q.drew.row (ds:=splice ((List.replicate N (0:Int)).map (Value.int .u8)) off ((f.take u).map (Value.int .u8)));rw[F.out] at this ⊢;exact this
 have I:Hid (BW d (V.drew.setRow d.heap.size (splice ((List.replicate N (0:Int)).map (Value.int .u8)) off ((f.take u).map (Value.int .u8))).toArray)):=oP Z.out.drew (Nat.le_refl _) _;generalize V.drew.setRow d.heap.size (splice ((List.replicate N (0:Int)).map (Value.int .u8)) off ((f.take u).map (Value.int .u8))).toArray=w4 at *;have J:=(show Hid _ from B4)
 clear c2 cu y s Q z m B4;have c2:=O.c2;have c1:=O.c1;go_wp2_with fail;go_loopw [5,6] (λta tp wr=>∃ q rest fin,tp=.pointer q/\Hid (Pc d q rest)/\Hid (L=rest ++ fin)/\ta=.int .i64 (rest.length:Int)/\Hid (Box wr d.heap.size ((List.replicate rest.length 0 ++ fin).map (Value.int .u8)) 5)/\Hid (BW d wr)) (λta _ _=>(intOf ta).toNat)
 case atStart=>exact⟨p,ps,f.take u,rfl,HP.out,HL.out,rfl,J.out,I.out⟩
 case round =>
  clear c2 c1 O J I HW0 F G;obtain⟨q,rest,fin,rfl,hP,U,rfl,Y,B⟩:=hrel
  have hP':=hP.out
  induction hP' using Pc.ind with
  | nil =>
   have HF:Hid (Box wr d.heap.size (L.map (Value.int .u8)) 5):=by rw[U.out];exact Y.out
   go_wp2;go_ret2;exact⟨rfl,HF.out,B.out⟩
  | cons hb hbl hp2 ih0=>
   clear ih0;rename_i b p' c i;have D:=hb.keep (B.out.mono (Nat.le_refl _))
   have A:(((c ++ i).length:Nat):Int)=(c.length:Int)+256:=by rw[List.length_append,hbl];rfl
   have E:c.length+256+fin.length=N:=by rw[HN.out,U.out,List.length_append,List.length_append,hbl]
   rw[A]
   have y:∀ W,(Instr.sliceAt 29 (.slice (some ⟨d.heap.size,0,none⟩) N N) (some (.int .i64 (c.length:Int))) none none).run Tryz.prog W=.ok (.slice (some ⟨d.heap.size,c.length,none⟩) (N - c.length) (N - c.length)) W:=λW=>by
    rw[sliceB _ N N c.length W (by omega) (Nat.le_refl _)];unfold cN;rw[if_neg (by omega)]
    show Result.ok (Value.slice (some ((⟨d.heap.size,0,none⟩:Addr).add c.length)) _ _) W=_
    rw[bZ,Nat.zero_add]
   have s:=rj b
   have H:Hid (splice ((List.replicate (c ++ i).length (0:Int) ++ fin).map (Value.int .u8)) c.length (i.map (Value.int .u8))=(List.replicate c.length 0 ++ (i ++ fin)).map (Value.int .u8)):=by
    show _=_
    unfold splice;rw[List.length_map,hbl,List.length_append,hbl,<- List.map_take,<- List.map_drop,List.take_append_of_le_length (by simp),List.drop_append_of_le_length (by simp),List.drop_eq_nil_of_le (by simp),List.take_replicate,Nat.min_eq_left (by omega)];simp
   have HLE:Hid (L=c ++ (i ++ fin)):=by show _=_;rw[U.out,List.append_assoc]
   have K:=(show Hid _ from E)
   have Hb:=(show Hid _ from hbl)
   clear E hbl A
   have hpl:c.length<=17592186044416:=by have:=K.out;omega
   go_wp2_with fail;refine cZ (S:=λ_=>True) (by kernel_rfl) trivial ?_
   refine aI 0 58 (.slice (some ⟨d.heap.size,0,none⟩) N N) trivial ?_
   refine aI 1 59 (.int .i64 (c.length:Int)) trivial ?_
   refine aI 2 60 (.slice (some ⟨d.heap.size,c.length,none⟩) (N - c.length) (N - c.length)) trivial ?_ (hy:=λw' _=>ry (.tmp 58) (some (.tmp 59)) none (y w'));refine aI 3 61 (.pointer (some ⟨b,0,none⟩)) trivial ?_
   refine aI 4 62 (.pointer (some ⟨b,0,none⟩)) trivial ?_
   refine aI 5 63 (.pointer (some ⟨b,1,none⟩)) trivial ?_
   refine aI 6 64 (.slice (some ⟨b,1,none⟩) 256 256) trivial ?_ (hy:=λw' _=>ry (.tmp 63) none none (s w'));refine aQ [7] ?_
   have R:b≠d.heap.size:=by have:=hb.lt;omega
   refine bU 7 (some 65) (.int .i64 ((256:Nat):Int)) (wr.drew.setRow d.heap.size (splice ((List.replicate (c ++ i).length (0:Int) ++ fin).map (Value.int .u8)) c.length (i.map (Value.int .u8))).toArray) (ze 60 64 (by kernel_rfl) (g:=d.heap.size) (off:=c.length) (dLen:=N - c.length) (dCap:=N - c.length) (sLen:=256) (sCap:=256) (ad:=⟨b,1,none⟩) (by kernel_rfl) (by kernel_rfl) Y.out.drew (i.map (Value.int .u8)) 256 (by rw[List.length_map]; exact Hb.out) (Nat.min_eq_left (by have:=K.out; omega)).symm (λj v M=>by
    obtain⟨h1,h2⟩:=List.getElem?_eq_some_iff.1 M;have h3:=D.drew.blk;rw[bZ,Nat.add_comm 1 j];simp only[World.cell?,h3]
    simpa using M) (by have:=Hb.out;simp;omega) (ints_oneCell _ _)) trivial ?_ aY
   refine cn ?_
   try simp only[Act.put,List.setIfInBounds_toArray,List.set_cons_zero,List.set_cons_succ]
   have B5:Hid (Box (wr.drew.setRow d.heap.size (splice ((List.replicate (c ++ i).length (0:Int) ++ fin).map (Value.int .u8)) c.length (i.map (Value.int .u8))).toArray) d.heap.size ((List.replicate c.length 0 ++ (i ++ fin)).map (Value.int .u8)) 5):=by
    have:=Y.out.drew.row (ds:=splice ((List.replicate (c ++ i).length (0:Int) ++ fin).map (Value.int .u8)) c.length (i.map (Value.int .u8)));rw[H.out] at this ⊢;exact this
   have HB5:Hid (BW d (wr.drew.setRow d.heap.size (splice ((List.replicate (c ++ i).length (0:Int) ++ fin).map (Value.int .u8)) c.length (i.map (Value.int .u8))).toArray)):=oP B.out.drew (Nat.le_refl _) _;have X5:=D.drew.off (g':=d.heap.size) R (λk hk=>setRow_other wr.drew d.heap.size k (splice ((List.replicate (c ++ i).length (0:Int) ++ fin).map (Value.int .u8)) c.length (i.map (Value.int .u8))).toArray hk);clear y s D H;generalize (wr.drew.setRow d.heap.size (splice ((List.replicate (c ++ i).length (0:Int) ++ fin).map (Value.int .u8)) c.length (i.map (Value.int .u8))).toArray)=w5 at *
   have cb:w5.cell? ⟨b,0,none⟩=some (.pointer p'):=by
    have:=X5.blk;simp[World.cell?,this]
   have T:=(show Hid _ from hp2)
   clear X5 hb hp2;go_wp2;go_roundw
   case rel=>exact⟨p',c,i ++ fin,rfl,T.out,HLE.out,rfl,B5.out,HB5.out⟩
   case measure=>simp[intOf];omega
end
section
variable {w w':World}{g b n c:Nat}{l ps:List Int}{ao p a0 a1:Option Addr}{cs:List Value}
theorem rR:Tryz.zeroCells80=(dF 0 none 0 (List.replicate 256 0) 0).toArray:=by kernel_rfl
theorem GQ(w:World):WrA (w.alloc (.cells Tryz.zeroCells80 80)) w.heap.size 0 []:=by
 rw[rR];exact⟨none,[],List.replicate 256 0,0,⟨by rw[List.length_replicate],⟨_,by decide,(fV w _ _).blk⟩⟩,.nil,by decide,by simp⟩
theorem Box.atB{t:TypeId}(h:Box w g (l.map (Value.int .u8)) t):AtB w (some ⟨g,0,none⟩) g 0 l:=⟨.inr rfl,λi hi=>by rw[Nat.zero_add];exact h.bytes hi⟩
theorem ByA.butN(h:ByA w b ao n c l)(hb:b≠g)(hB:But g w w'):ByA w' b ao n c l:=by
 obtain⟨o,h1,h2,h3,h4,h5⟩:=h.ex;exact⟨o,h1,h2,h3,h4,h5.loc,λi hi=>hB.cell (h5.cell i hi) hb⟩
theorem RdA.offW{g':Nat}{err:Int}(h:RdA w g b err l)(a:g≠g')(hb:b≠g')(d:But g' w w'):RdA w' g b err l:=by
 obtain⟨e,n,c,X,A⟩:=h.ex;exact⟨e,n,c,⟨by rw[d.block g X.lt a];exact X.blk⟩,A.butN hb d⟩
theorem Pc.DL(h:Pc w p ps){t:TypeId}(ht:t≠124)(X:Box w g cs t)(hw:∀ k,k < w.heap.size->k≠g->w'.heap[k]?=w.heap[k]?):Pc w' p ps:=by
 induction h using Pc.ind with
 | nil=>exact .nil
 | cons hb hl _ ih =>
  refine .cons ⟨?_⟩ hl ih
  rw[hw _ hb.lt (λe=>by
   subst e;have a:=hb.blk;rw[X.blk] at a;simp at a
   exact ht a.2)]
  exact hb.blk
theorem lZ{V:Int}(hV:0<=V)(h:IsB l V):eb V=l:=ni (pV hV) h
theorem natB_0:eb 0=[]:=lZ (by decide) ⟨λx hx=>by simp at hx,λh=>absurd rfl h,rfl⟩
theorem G9{b0 b1 n0 c0 a c1:Nat}{c:List Int}(h0:ByA w b0 a0 n0 c0 l)(h1:ByA w b1 a1 a c1 c)(d:n0≤4398046511104)(b:a≤4398046511104:=by omega) :
    CP 10 #[.slice a0 n0 c0,.slice a1 a c1] w λe w'=>e=.returned (.bool (eqB l c))∧BW w w':=by
  obtain⟨h,f,_,_,_,i⟩:= h0.ex;obtain⟨j,e1,_,_,_,g⟩:= h1.ex;exact yG a0 n0 c0 b0 h a1 a c1 b1 j l c w f e1 d b i g
theorem kW(A:ByA w b ao n c l)(hbig:n≤1099511627776:=by omega) :
    CP 44 #[.slice ao n c] w λe w'=>∃ g b',e=.returned (.pointer (some ⟨g,0,none⟩))∧(w.heap.size≤g∧w.heap.size≤b'∧b' < w'.heap.size)∧RdA w' g b' 0 l∧BW w w':=by
  refine(rdNew A hbig).mono ?_
  rintro e w' ⟨g,b',e1,a,j,R,f⟩;obtain⟨d,h,k,X,p⟩:= R.ex;obtain⟨o,k1,k2,k3,q,m⟩:= p.ex;rcases m.lt with e | e
  · subst e
    exact⟨g,g,e1,⟨a,a,X.lt⟩,⟨d,h,k,X,o,k1,k2,k3,q,.inl rfl,λi hi=>by simp at hi⟩,f⟩
  · exact⟨g,b',e1,⟨a,j,e⟩,R,f⟩
end
structure Stp where
 what:Int
 num:Int
 na:Option Addr
 nn:Nat
 nc:Nat
 V:Int
 ba:Option Addr
 bn:Nat
 bc:Nat
 bb:Nat
 bl:List Int
 most:Int
section
variable {l L:List Int}{m:Nat}{w:World}{ao:Option Addr}
theorem Gk(h:aJ l):be l.length (bJ l)=l:=by
 refine mS (fZ _ _) h (ax _ _) ?_
 have hb:=bL h;rw[kR _ hb.1,Int.emod_eq_of_lt hb.1 hb.2]
theorem fS(h:aJ l)(hm:m<=l.length):be m (bJ (l.take m))=l.take m:=by
 have:=Gk (l:=l.take m) (λx hx=>h x (List.mem_of_mem_take hx));rwa [List.length_take,Nat.min_eq_left hm] at this
def One(err':Int)(L L':List Int)(laid:List Int->Prop):Prop:=(err'≠0/\L'=L)\/(err'=0/\∃ k,k<=L.length/\laid (L.take k)/\L'=L.drop k)
theorem Ew(h:aJ L)(m:Nat):One (rdE (cA m L) 0) L (rdL (cA m L) 0 L) (λt=>be m (rdV 0 (cA m L) 0)=t):=by
 by_cases hm:m<=L.length
 ·have e:cA m L=.inr (bJ (L.take m),m):=by unfold cA; rw[if_pos hm]
  rw[e];exact .inr ⟨rfl,m,hm,fS h hm,rfl⟩
 have e:cA m L=.inl 40:=by unfold cA; rw[if_neg hm]
 rw[e];exact .inl ⟨by decide,rfl⟩
theorem Dj(h:aJ L):One (rdE (bX L) 0) L (rdL (bX L) 0 L) (λt=>be 1 (if rdV false (bX L) 0 then 1 else 0)=t):=by
 by_cases hm:1<=L.length
 ·by_cases hx:1 < bJ (L.take 1)
  ·have e:bX L=.inl 41:=by unfold bX; rw[if_pos hm,if_pos hx]
   rw[e];exact .inl ⟨by decide,rfl⟩
  have e:bX L=.inr (bJ (L.take 1) == 1,1):=by unfold bX; rw[if_pos hm,if_neg hx]
  rw[e];refine .inr ⟨rfl,1,hm,?_,rfl⟩;have a:=fS h hm;have c:=(bL (l:=L.take 1) (λx hx=>h x (List.mem_of_mem_take hx))).1
  show be 1 (if (bJ (L.take 1) == 1)=true then 1 else 0)=L.take 1
  generalize L.take 1=M at *;by_cases b:bJ M=1
  ·rw[b] at a ⊢;exact a
  rw[show bJ M=0 by omega] at a ⊢;exact a
 have e:bX L=.inl 40:=by unfold bX; rw[if_neg hm]
 rw[e];exact .inl ⟨by decide,rfl⟩
theorem su(h:aJ L):((cE m L:Nat):Int)=bJ (L.take m):=by
 unfold cE;rw[Int.toNat_of_nonneg (bL (λx hx=>h x (List.mem_of_mem_take hx))).1]
theorem Ey(h:aJ L)(hm:m<=L.length)(hc:m+cE m L<=L.length):fP m ((L.drop m).take (cE m L))=L.take (m+cE m L):=by
 unfold fP
 have e:(((L.drop m).take (cE m L)).length:Int)=bJ (L.take m):=by
  rw[List.length_take,List.length_drop,Nat.min_eq_left (by omega)];exact su h
 rw[e,fS h hm,List.take_add]
theorem Ft(h:aJ L):One (rdE (cS L) 0) L (rdL (cS L) 0 L) (λt=>iR (rdV 0 (cS L) 0) 0=0/\∀ K,j7 (rdV 0 (cS L) 0) 0 K=K ++ t):=by
 by_cases hm:1<=L.length
 ·by_cases hc:1+cE 1 L<=L.length
  ·by_cases f:0 < cE 1 L/\nth (L.drop 1) 0=0
   ·have e:cS L=.inl 41:=by unfold cS; rw[if_pos hm,if_pos hc,if_pos f]
    rw[e];exact .inl ⟨by decide,rfl⟩
   have e:cS L=.inr (bJ ((L.drop 1).take (cE 1 L)),1 + cE 1 L):=by unfold cS; rw[if_pos hm,if_pos hc,if_neg f]
   have g:=Ey h hm hc
   have i:((cE 1 L:Nat):Int) < 256:=by
    have:=(bL (l:=L.take 1) (λx hx=>h x (List.mem_of_mem_take hx))).2;rw[List.length_take,Nat.min_eq_left hm] at this;rw[su h];simpa using this
   have a:aJ ((L.drop 1).take (cE 1 L)):=λx hx=>h x (List.mem_of_mem_drop (List.mem_of_mem_take hx))
   have hlen:((L.drop 1).take (cE 1 L)).length=cE 1 L:=by rw[List.length_take,List.length_drop];omega
   have j:eb (bJ ((L.drop 1).take (cE 1 L)))=(L.drop 1).take (cE 1 L):=lZ (bL a).1 ⟨a,λd=>by
    have b:0 < cE 1 L:=by
     rcases Nat.eq_zero_or_pos (cE 1 L) with c | c
     ·exact absurd (by rw[c];simp) d
     exact c
    rw[df (h:=b)]
    exact λc=>f ⟨b,c⟩,rfl⟩
   rw[e];refine .inr ⟨rfl,_,hc,?_,rfl⟩
   show iR (bJ ((L.drop 1).take (cE 1 L))) 0=0/\∀ K,j7 (bJ ((L.drop 1).take (cE 1 L))) 0 K=K ++ L.take (1+cE 1 L)
   unfold iR j7;rw[j,if_pos (by omega)];refine⟨rfl,λK=>?_⟩;rw[if_pos (by omega),g];rfl
  have e:cS L=.inl 40:=by unfold cS; rw[if_pos hm,if_neg hc]
  rw[e];exact .inl ⟨by decide,rfl⟩
 have e:cS L=.inl 40:=by unfold cS; rw[if_neg hm]
 rw[e];exact .inl ⟨by decide,rfl⟩
theorem ByA.front2{b:Nat}{n c:Nat}(h:ByA w b ao n c l){k:Nat}(hk:k<=n):ByA w b ao k c (l.take k):=by
 obtain⟨o,j,g,d,f,a⟩:=h.ex;refine⟨o,by rw[List.length_take];omega,by omega,d,λx hx=>f x (List.mem_of_mem_take hx),?_,λi hi=>?_⟩
 ·rcases a.loc with e | e
  ·exact .inl (by rw[e];simp)
  exact .inr e
 rw[List.length_take] at hi;rw[a.cell i (by omega),df]
end
def stB (s:Stp):Option (List Int) :=
 if s.what=0 then some (be 1 (s.num % 256))
 else if s.what=1 then some (be 4 (s.num % 4294967296))
 else if s.what=2 then some (be 8 s.num)
 else if s.what=3 then some (be 1 (if s.num % 2 == 1 then 1 else 0))
 else if s.what=4\/s.what=5 then (if (eb s.V).length < 256 then some (fP 1 (eb s.V)) else none)
 else if s.what=6 then some (fP 4 s.bl)
 else some []
def stO (s:Stp) (o:Option (List Int)):Option (List Int):=o.bind λL=>(stB s).map (L ++ ·)
def laid (ss:List Stp):Option (List Int):=ss.foldl (λo s=>stO s o) (some [])
theorem cy.shape {w:World} {B:Nat} {v:Value} {l:List Int} (h:cy w B v l):∃ ao c,v=.slice ao l.length c:=by
 rcases h.2 with⟨rfl,h0⟩ | ⟨g,cap,cur,rfl,_⟩
 ·exact⟨none,0,by rw[h0]⟩
 exact⟨_,_,rfl⟩
section
variable {B n:Nat}{w w':World}{v:Value}{xs:List Value}{L:List Int}
structure Byt(B:Nat)(w w':World):Prop where
 os:w'.os=w.os
 tape:w'.tape=w.tape
 output:w'.output=w.output
 size:w.heap.size<=w'.heap.size
 low:∀ k:Nat,k < B->k < w.heap.size->w'.heap[k]?=w.heap[k]?
 typ:∀ (k:Nat) (c:Array Value) (t:TypeId) (f:Nat × Nat),w.heap[k]?=some (Obj.cells c t f)->t≠5->w'.heap[k]?=w.heap[k]?
theorem Byt.of(h:BW w w'):Byt B w w':=⟨h.os,h.tape,h.output,h.size,λk _ hk=>h.block k hk,λk _ _ _ hc _=>h.block k (lt_of_block hc)⟩
theorem Byt.trans{w1 e:World}(h:Byt B w w1)(a:Byt B w1 e):Byt B w e:=⟨a.os.trans h.os,a.tape.trans h.tape,a.output.trans h.output,Nat.le_trans h.size a.size,
 λk hk d=>(a.low k hk (Nat.lt_of_lt_of_le d h.size)).trans (h.low k hk d),λk c t f hc b=>(a.typ k c t f (by rw[h.typ k c t f hc b];exact hc) b).trans (h.typ k c t f hc b)⟩
theorem Byt.grown(ho:w.ownsRow B 5 1 v n xs)(h:w.grownBy w' v.ownBlock):Byt B w w':=by
 refine⟨h.os,h.tape,h.output,h.size,λk hk b=>h.block k b λe=>?_,λk c t f hc a=>h.block k (lt_of_block hc) λe=>?_⟩
 ·have:=(ho.lt k e.symm).1;omega
 rcases ho.2 with⟨rfl,_⟩ | ⟨g,cap,cur,rfl,_,hh,_⟩
 ·cases e
 simp[Value.ownBlock] at e;subst e;rw[hh] at hc
 cases hc;exact a rfl
theorem Byt.below{A:Nat}{a:World}(h:Byt B w w')(b:Below A a w)(hA:A<=B)(hs:A<=a.heap.size):Below A a w' :=
 ⟨h.os.trans b.os,h.tape.trans b.tape,h.output.trans b.output,Nat.le_trans b.size h.size,λk hk=>(h.low k (by omega) (Nat.lt_of_lt_of_le (Nat.lt_of_lt_of_le hk hs) b.size)).trans (b.block k hk)⟩
theorem j9{x:Int}(H:cy w B v L)(I:B<=w.heap.size)(hn:n<=8)(hL:L.length<=1099511627776) :
  Calls Tryz.prog 35 #[v,.int .i64 n,.int .u64 x] w λe w'=>∃ v',e=.returned v'/\cy w' B v' (L ++ be n x)/\Byt B w w':=by
 obtain⟨i0,hi,t,y,r⟩:=info_parts gT
 have A:Hid (Tryz.prog.info? 5=some i0/\i0.zero=some (.int .u8 0)/\i0.size=1/\i0.bytes=1):=⟨hi,t,y,r⟩
 have K:=(show Hid _ from H)
 have G:=(show Hid _ from I)
 have Q:(n:Int)<=8:=by omega
 clear hi t y r H I;go_enter Tryz.func35,Tryz.ntmps35;go_wp2_with fail;go_loopw [0,7] (λtv E wr=>∃ j:Nat,j<=n/\E=.int .i64 ((n:Int) - 1 - j)/\cy wr B tv (L ++ (be n x).take j)/\Byt B w wr) (λ_ E _=>(intOf E+1).toNat)
 case atStart=>exact⟨0,Nat.zero_le _,by simp,by rw[List.take_zero,List.append_nil];exact K.out,Byt.of (Below.refl _ _)⟩
 case round =>
  obtain⟨j,V,rfl,c,g⟩:=hrel;by_cases s:j < n
  ·obtain⟨h,R⟩:∃ h:Nat,(n:Int) - 1 - j=h:=⟨n - 1 - j,by omega⟩
   have z:n - 1 - j=h:=by omega
   have P:h < 8:=by omega
   have U:Hid ((be n x).take (j+1)=(be n x).take j ++ [x / 2 ^ (8 * h) % 256]):=by
    have e1:(256:Int) ^ h=2 ^ (8 * h):=by rw[Int.pow_mul];rfl
    show _=_
    rw[dw (by rw[ax];exact s),vE n x j s,z,e1]
   obtain⟨M,l⟩:∃ M,M=L ++ (be n x).take j:=⟨_,rfl⟩
   rw[<- l] at c;obtain⟨q,hq⟩:∃ q,M.length=q:=⟨_,rfl⟩
   have T:q<=1099511627776+8:=by
    have:M.length=L.length+((be n x).take j).length:=by rw[l,List.length_append]
    rw[List.length_take,ax] at this;omega
   have D:=(show Hid _ from l)
   have N:=(show Hid _ from hq)
   obtain⟨S,O,rfl⟩:=c.shape;have i:=aa wr (.cells #[.int .u8 (x / 2 ^ (8 * h) % 256)] 5)
   have b:(wr.alloc (.cells #[.int .u8 (x / 2 ^ (8 * h) % 256)] 5)).ownsRow B 5 1 (.slice S M.length O) M.length (M.map (Value.int .u8)):=gF c i;rw[hq] at b ⊢;have F:=(show Hid _ from g.trans (Byt.of i))
   have C:Hid (B<=(wr.alloc (.cells #[.int .u8 (x / 2 ^ (8 * h) % 256)] 5)).heap.size):=Nat.le_trans G.out (Nat.le_trans g.size i.size)
   have m:∀ q u,[Value.int .u8 (x / 2 ^ (8 * h) % 256)][q]? = some u->(wr.alloc (.cells #[.int .u8 (x / 2 ^ (8 * h) % 256)] 5)).cell? ((⟨wr.heap.size,0,none⟩:Addr).add q)=some u:=λq u hu=>by
    match q,hu with
    | 0,hu =>
     cases hu;have hb:=(fV wr [Value.int .u8 (x / 2 ^ (8 * h) % 256)] 5).blk;simp only[World.cell?,Addr.add,if_true,hb];rfl
    | q+1,hu=>simp at hu
   clear c g i z hq l;rw[R];go_wp2_with (at_builtin;refine wpList_append_own _ rfl _ _ 29 rfl B 5 i0 (.int .u8 0) 1 1 cJ A.out.1 A.out.2.1 A.out.2.2.1 A.out.2.2.2 rfl (by decide) _ _ _ rfl b ⟨wr.heap.size,0,none⟩ 1 1 [Value.int .u8 (x / 2 ^ (8 * h) % 256)] rfl rfl ?c1 ?c2 ?c3 ?c4 ?c5 ?_)
   case c1=>exact m
   case c2=>intro u hu;rw[List.mem_singleton] at hu;subst hu;rfl
   case c3=>unfold maxLen;omega
   case c4=>omega
   case c5=>exact C.out
   intro v' J d f _;have o:=(show Hid _ from F.out.trans (Byt.grown b f))
   have p:Hid (cy J B v' (L ++ (be n x).take (j+1))):=by
    show J.ownsRow _ _ _ _ _ _
    have e:(L ++ (be n x).take (j+1))=M ++ [x / 2 ^ (8 * h) % 256]:=by rw[U.out,D.out,List.append_assoc]
    rw[e,List.length_append,N.out,List.map_append];exact d
   clear b d f m;go_wp2;exact⟨⟨j+1,by omega,by go_num,p.out,o.out⟩,by simp[intOf]⟩
  obtain rfl:j=n:=by omega
  have p:Hid (cy wr B u0 (L ++ be j x)):=by
   have:=c;rw[List.take_of_length_le (by rw[ax];exact Nat.le_refl _)] at this;exact this
  have o:=(show Hid _ from g)
  have e1:(j:Int) - 1 - j=-1:=by omega
  rw[e1];clear c g;go_wp2;go_ret;exact⟨_,rfl,p.out,o.out⟩
end
section
variable {w:World}{g b m:Nat}{err:Int}{l:List Int}
structure RfA(w:World)(g b:Nat)(err:Int)(l:List Int):Prop where
 ex:∃ ao n c,Box w g [.slice ao n c,.int .i64 err] 70/\ByA w b ao n c l
theorem RfA.keep{w':World}(h:RfA w g b err l)(hb:BW w w'):RfA w' g b err l:=by
 obtain⟨ao,n,c,h1,h2⟩:=h.ex;exact⟨ao,n,c,h1.keep hb,h2.keep hb⟩
theorem qe(err:Int)(ao:Option Addr)(n c:Nat):∀ v∈[Value.slice ao n c,Value.int .i64 err],∀ x,v≠.int .u8 x:=λv hv x e=>by
 rcases List.mem_cons.1 hv with h | h
 ·subst h;cases e
 rw[List.mem_singleton] at h;subst h;cases e
theorem RfA.lt(h:RfA w g b err l):g < w.heap.size:=by
 obtain⟨_,_,_,X,_⟩:=h.ex;exact X.lt
theorem RfA.oct(h:RfA w g b err l):aJ l:=by
 obtain⟨_,_,_,_,A⟩:=h.ex;obtain⟨o,_,_,_,h4,_⟩:=A.ex;exact h4
theorem qj(w:World)(g k:Nat)(v:Value):But g w (w.setCell ⟨g,k,none⟩ v):=⟨rfl,rfl,rfl,by rw[size_set];exact Nat.le_refl _,λ_ _ h2=>Below.heap_setCell _ _ _ _ h2⟩
theorem rfTake(h:RfA w g b 0 l)(hm:m<=l.length) :
  Calls Tryz.prog 50 #[.pointer (some ⟨g,0,none⟩),.int .i64 m] w λe w'=>∃ ao c,e=.returned (.slice ao m c)/\ByA w' b ao m c (l.take m)/\RfA w' g b 0 (l.drop m)/\But g w w':=by
 obtain⟨ao,n,c,X,A⟩:=h.ex;obtain⟨o,r,q,⟨s,-⟩,-,-⟩:=A.ex
 have d:m<=n:=by omega
 have H:But g w (w.setCell ⟨g,0,none⟩ (.slice (cN ao c m) (n - m) (c - m))):=qj _ _ _ _
 have f:Hid (∀ w',w'=w.setCell ⟨g,0,none⟩ (.slice (cN ao c m) (n - m) (c - m))->ByA w' b ao m c (l.take m)/\RfA w' g b 0 (l.drop m)/\But g w w'):=λw' e=>by
  subst e;exact⟨(A.front2 d).but X (qe _ _ _ _) H,⟨_,_,_,ix X _,(A.rest d).but X (qe _ _ _ _) H⟩,H⟩
 obtain⟨c1,c2,c3,t⟩:=X.two
 have j:(m:Int)<=n:=by omega
 have p:(m:Int)<=c:=by omega
 have hq:((n:Int) < m)=False:=eq_false (by omega)
 have i:(c:Int)<=9223372036854775807:=by omega
 clear X A h H;go_enter Tryz.func50,Tryz.ntmps50;go_wp2
 ·subst h;go_ret;exact⟨ao,c,rfl,f.out _ (by unfold cN;rw[if_pos rfl,Nat.sub_self])⟩
 go_ret;exact⟨ao,c,rfl,f.out _ (by unfold cN;rw[if_neg (by assumption)])⟩
theorem FN(h:RfA w g b 0 l)(hm:l.length < m) :
  Calls Tryz.prog 50 #[.pointer (some ⟨g,0,none⟩),.int .i64 m] w λe w'=>e=.returned (.slice none 0 0)/\RfA w' g b 40 l/\But g w w':=by
 obtain⟨i,n,c,X,A⟩:=h.ex;obtain⟨o,j,f,⟨p,-⟩,-,-⟩:=A.ex
 have H:But g w (w.setCell ⟨g,1,none⟩ (.int .i64 40)):=qj _ _ _ _
 have d:Hid (RfA (w.setCell ⟨g,1,none⟩ (.int .i64 40)) g b 40 l/\But g w (w.setCell ⟨g,1,none⟩ (.int .i64 40))):=⟨⟨_,_,_,dr X _,A.but X (qe _ _ _ _) H⟩,H⟩
 obtain⟨c1,c2,c3,q⟩:=X.two;have d2:=(dr X (.int .i64 40)).two.2.1
 have hq:((n:Int) < m)=True:=eq_true (by omega);clear X A h H hm;go_enter Tryz.func50,Tryz.ntmps50;go_wp2;go_ret;exact⟨rfl,d.out⟩
theorem DP{m:Int}(h:RfA w g b err l)(he:err≠0) :
  Calls Tryz.prog 50 #[.pointer (some ⟨g,0,none⟩),.int .i64 m] w λe w'=>e=.returned (.slice none 0 0)/\w'=w:=by
 obtain⟨i,n,c,X,A⟩:=h.ex;obtain⟨c1,c2,c3,j⟩:=X.two
 have f:(err == 0)=false:=beq_eq_false_iff_ne.2 he
 have d:(err != 0)=true:=bne_iff_ne.2 he;clear X A h he;go_enter Tryz.func50,Tryz.ntmps50;go_wp2;go_ret;exact⟨rfl,rfl⟩
theorem rfU(h:RfA w g b err l)(R:m≤8:=by decide) :
    Calls Tryz.prog 25 #[.pointer (some ⟨g,0,none⟩),.int .i64 m] w λe w'=>e=.returned (.int .u64 (rdV 0 (cA m l) err))∧RfA w' g b (rdE (cA m l) err) (rdL (cA m l) err l)∧But g w w':=by
  by_cases he:err=0
  · subst he
    by_cases hm:m≤l.length
    · have j : cA m l = .inr (bJ (l.take m), m) := by unfold cA; rw[if_pos hm]
      rw[j]
      show Calls Tryz.prog _ _ w λe w'=>e=.returned (.int .u64 (bJ (l.take m)))∧RfA w' g b 0 (l.drop m)∧But g w w'
      have I:Hid (aJ (l.take m)):=λx hx=>h.oct x (List.mem_of_mem_take hx)
      have N:(l.take m).length=m:=by rw[List.length_take];omega
      have t:=rfTake h hm;clear j h;generalize l.take m=d at *;generalize l.drop m=r at *
      have P:(m:Int)≤8:=by omega
      go_enter Tryz.func25,Tryz.ntmps25;go_wp2_with fail;refine t.mono ?_
      rintro e G ⟨J,c,rfl,E,q,b1⟩;have n:=(show Hid _ from q);have i:=(show Hid _ from b1);obtain⟨o,-,-,-,-,u⟩:= E.ex;have s:=(show Hid _ from u);clear t E q b1 u;go_wp2_with fail;go_loop [6,7] (λv p=>∃ k:Nat,k≤m∧p=.int .i64 k∧v=.int .u64 (bJ (d.take k))) (λ_ p=>m - (intOf p).toNat)
      case atStart=>exact⟨0,Nat.zero_le _,rfl,rfl⟩
      case round =>
        obtain⟨k,hk,rfl,rfl⟩:= hrel;by_cases L:k < m
        · have f : k < d.length := by omega
          have B:=s.out.cell k f;obtain rfl:J=some ⟨b,o,none⟩:= by
            rcases s.out.loc with e | e
            · rw[e] at f;simp at f
            · exact e
          have M:(k:Int) < m:=by omega
          have F:=I.out.nth k;have H:=bL (l:=d.take k) (λx hx=>I.out x (List.mem_of_mem_take hx))
          have j:(256:Int) ^ (d.take k).length≤256 ^ 7:=fU (by rw[List.length_take];omega)
          have C:bJ (d.take k) < 72057594037927936:=by
            have e7:(256:Int) ^ 7=72057594037927936:=by decide
            omega
          have A:=H.1;have O:=or8 (bJ (d.take k)) (nth d k) A C F.1 F.2
          have K:Hid (bJ (d.take (k+1))=bJ (d.take k) * 256+nth d k):=by show _=_;rw[dw f,nT]
          clear H j;generalize bJ (d.take k)=V at *;generalize nth d k=D at *;go_wp2;go_round
          case rel=>exact⟨k+1,by omega,by go_num,by rw[K.out]⟩
          case measure=>simp[intOf];omega
        · obtain rfl : k = m := by omega
          have z:d.take k=d:=List.take_of_length_le (by omega);rw[z];go_wp2;go_ret;exact⟨rfl,n.out,i.out⟩
    · have j : cA m l = .inl 40 := by unfold cA; rw[if_neg hm]
      rw[j]
      show Calls Tryz.prog _ _ w λe w'=>e=.returned (.int .u64 0)∧RfA w' g b 40 l∧But g w w'
      have t:=FN (m:=m) h (by omega);clear j h hm;go_enter Tryz.func25,Tryz.ntmps25;go_wp2_with fail;refine t.mono ?_
      rintro e G ⟨rfl,q,b1⟩;have n:=(show Hid _ from q);have i:=(show Hid _ from b1);clear t q b1;go_wp2_with fail;go_loop [6,7] (λv p=>v=.int .u64 0∧p=.int .i64 0) (λ_ _=>0)
      case atStart=>exact⟨rfl,rfl⟩
      case round =>
        obtain⟨rfl,rfl⟩:= hrel;go_wp2;go_ret;exact⟨rfl,n.out,i.out⟩
  · rw[mr he,jT he,mi he]
    have t:=DP (m:=(m:Int)) h he;have Q:=(show Hid _ from h);clear h he;go_enter Tryz.func25,Tryz.ntmps25;go_wp2_with fail;refine t.mono ?_
    rintro e G ⟨rfl,y⟩;subst y;clear t;go_wp2_with fail;go_loop [6,7] (λv p=>v=.int .u64 0∧p=.int .i64 0) (λ_ _=>0)
    case atStart=>exact⟨rfl,rfl⟩
    case round =>
      obtain⟨rfl,rfl⟩:= hrel;go_wp2;go_ret;exact⟨rfl,Q.out,But.refl _ _⟩
theorem GF(h:RfA w g b err l) :
  Calls Tryz.prog 27 #[.pointer (some ⟨g,0,none⟩)] w λe w'=>e=.returned (.int .i64 (bS err l))/\RfA w' g b (bS err l) l/\But g w w':=by
 obtain⟨p,n,c,X,A⟩:=h.ex;obtain⟨o,q,m,⟨r,-⟩,-,-⟩:=A.ex
 have H:But g w (w.setCell ⟨g,1,none⟩ (.int .i64 43)):=qj _ _ _ _
 have f:Hid (RfA (w.setCell ⟨g,1,none⟩ (.int .i64 43)) g b 43 l/\But g w (w.setCell ⟨g,1,none⟩ (.int .i64 43))):=⟨⟨_,_,_,dr X _,A.but X (qe _ _ _ _) H⟩,H⟩
 obtain⟨c1,c2,c3,s⟩:=X.two;have d2:=(dr X (.int .i64 43)).two.2.1;have i:=(show Hid _ from h)
 by_cases he:err=0
 ·subst he;by_cases d:l.length=0
  ·have e:bS 0 l=0:=by unfold bS; rw[if_pos rfl,if_pos d]
   rw[e]
   have hn:n=0:=by omega
   subst hn;clear X A h H f e d d2;go_enter Tryz.func27,Tryz.ntmps27;go_wp2;go_ret;exact⟨rfl,i.out,But.refl _ _⟩
  have e:bS 0 l=43:=by unfold bS; rw[if_pos rfl,if_neg d]
  rw[e]
  have hn:0 < n:=by omega
  clear X A h H e d i;go_enter Tryz.func27,Tryz.ntmps27;go_wp2;go_ret;exact⟨rfl,f.out⟩
 have e:bS err l=err:=by unfold bS; rw[if_neg he]
 rw[e]
 have j:(err == 0)=false:=beq_eq_false_iff_ne.2 he;clear X A h H f e he d2;go_enter Tryz.func27,Tryz.ntmps27;go_wp2;go_ret;exact⟨rfl,i.out,But.refl _ _⟩
end
end
end Go.Proofs.YtpoifdokmjhclaaGreat
