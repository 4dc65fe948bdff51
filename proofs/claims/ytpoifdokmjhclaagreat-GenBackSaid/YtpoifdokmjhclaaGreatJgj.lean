import Derived.Test.YtpoifdokmjhclaaGreatJgi
import Derived.OpenShut
import Derived.Laws.AppendOwnNone
import Derived.Great.FillDense
set_option maxRecDepth 100000
set_option maxHeartbeats 8000000
namespace Go.Proofs.YtpoifdokmjhclaaGreat
section
open Go.RowKit Lim
section
variable {w:World}{b n c k g:Nat}{ao:Option Addr}{l:List Int}{u v:Value}
structure ByA(w:World)(b:Nat)(ao:Option Addr)(n c:Nat)(l:List Int):Prop where
 ex:∃ o,l.length=n/\n<=c/\(c<=9223372036854775807/\(ao=none->c=0))/\aK l/\AtB w ao b o l
theorem ByA.keep{w':World}(h:ByA w b ao n c l)(hb:Below w.heap.size w w'):ByA w' b ao n c l:=by
 obtain⟨o,h1,h2,h3,h4,h5⟩:=h.ex;exact⟨o,h1,h2,h3,h4,h5.keep hb⟩
theorem bZ(b o n:Nat):(⟨b,o,none⟩:Addr).add n=⟨b,o+n,none⟩:=by
 unfold Addr.add;split
 ·subst n;rfl
 ·rfl
def cW(ao:Option Addr)(c n:Nat):Option Addr:=if c=n then ao else ao.map (·.add n)
theorem rz(h:cW ao c k=none):ao=none:=by
 unfold cW at h;split at h
 ·exact h
 ·cases ao with
  | none=>rfl
  | some a=>cases h
theorem ByA.rest(h:ByA w b ao n c l)(hk:k<=n):ByA w b (cW ao c k) (n - k) (c - k) (l.drop k):=by
 obtain⟨o,d,m,a,g,f⟩:=h.ex;by_cases hn:n=k
 ·have e:l.drop k=[]:=List.drop_eq_nil_of_le (by omega);rw[e];exact⟨0,by rw[hn];simp,by omega,⟨by have:=a.1;omega,fun e=>by have:=a.2 (rz e);omega⟩,fun x hx=>by simp at hx,.inl rfl,fun i hi=>by simp at hi⟩
 ·have j:l≠[]:=fun e=>by rw[e] at d; simp at d; omega
  obtain rfl:ao=some ⟨b,o,none⟩:=by
   rcases f.loc with e | e
   ·exact absurd e j
   ·exact e
  have e:cW (some ⟨b,o,none⟩) c k=some ⟨b,o+k,none⟩:=by
   unfold cW;rw[if_neg (by omega)];exact congrArg some (bZ b o k)
  rw[e];refine⟨o+k,by rw[List.length_drop];omega,by omega,⟨by have:=a.1;omega,fun e=>by cases e⟩,fun x hx=>g x (List.mem_of_mem_drop hx),.inr rfl,fun i hi=>?_⟩;rw[List.length_drop] at hi;have:=f.cell (k+i) (by omega);rw[show o+k+i=o+(k+i) by omega,this,dA]
theorem ByA.front(h:ByA w b ao n c l)(hk:k<=n):ByA w b ao k k (l.take k):=by
 obtain⟨o,j,g,a,f,d⟩:=h.ex;refine⟨o,by rw[List.length_take];omega,Nat.le_refl _,⟨by have:=a.1;omega,fun e=>by have:=a.2 e;omega⟩,fun x hx=>f x (List.mem_of_mem_take hx),?_,fun i hi=>?_⟩
 ·rcases d.loc with e | e
  ·exact .inl (by rw[e];simp)
  ·exact .inr e
 ·rw[List.length_take] at hi;rw[d.cell i (by omega),df (by omega)]
theorem Box.two{t:TypeId}(h:Box w g [u,v] t):w.cell? ⟨g,0,none⟩=some u/\w.cell? ⟨g,1,none⟩=some v/\w.frozen? ⟨g,0,none⟩=false/\w.frozen? ⟨g,1,none⟩=false:=by
 have:=h.blk;simp[World.cell?,World.frozen?,this]
theorem fC{err:Int}{t:TypeId}(X:Box w g [.int .i64 err,v] t) :
  Calls Tryz.prog 54 #[.pointer (some ⟨g,0,none⟩)] w fun e w'=>e=.returned (.bool (err == 0))/\w'=w:=by
 obtain⟨c1,c2,c3,b⟩:=X.two;go_enter Tryz.func54,Tryz.ntmps54;go_wp2;go_ret;exact⟨rfl,rfl⟩
theorem ph{e0:Int}{t:TypeId}(X:Box w g [.int .i64 0,v] t) :
  Calls Tryz.prog 81 #[.pointer (some ⟨g,0,none⟩),.int .i64 e0] w fun e w'=>e=.returned (.tuple #[])/\w'=w.setCell ⟨g,0,none⟩ (.int .i64 e0):=by
 obtain⟨c1,c2,c3,b⟩:=X.two;go_enter Tryz.func81,Tryz.ntmps81;go_wp2_with fail;refine(fC X).mono ?_
 rintro e w' ⟨rfl,rfl⟩;go_wp2;go_end0;exact⟨rfl,rfl⟩
theorem vf{m:Int}{t:TypeId}(X:Box w g [u,.slice ao n c] t)(hn:n<=9223372036854775807)(hm:(n:Int) < m) :
  Calls Tryz.prog 157 #[.pointer (some ⟨g,0,none⟩),.int .u64 m] w fun e w'=>e=.returned (.tuple #[.slice none 0 0,.int .i64 40])/\w'=w:=by
 obtain⟨c1,c2,c3,b⟩:=X.two;go_enter Tryz.func157,Tryz.ntmps157;go_wp2;go_ret2;exact⟨rfl,rfl⟩
theorem Cj{m:Nat}{t:TypeId}(X:Box w g [u,.slice ao n c] t)(hc:n<=c)(hn:c<=9223372036854775807)(hm:m<=n) :
  Calls Tryz.prog 157 #[.pointer (some ⟨g,0,none⟩),.int .u64 m] w fun e w'=>e=.returned (.tuple #[.slice ao m m,.int .i64 0])/\w'=w.setCell ⟨g,1,none⟩ (.slice (cW ao c m) (n - m) (c - m)):=by
 obtain⟨c1,c2,c3,f⟩:=X.two
 have b:(m:Int)<=n:=by omega
 have d:(m:Int)<=c:=by omega
 go_enter Tryz.func157,Tryz.ntmps157;go_wp2
 ·go_ret2;exact⟨rfl,by unfold cW;rw[if_pos rfl]⟩
 ·go_ret2;exact⟨rfl,by unfold cW;rw[if_neg (by assumption)]⟩
end
section
variable {w w':World}{ao:Option Addr}{b g n c:Nat}{l:List Int}{cs:List Value}
theorem or8(a b:Int)(d:0<=a)(h1:a < 72057594037927936)(c:0<=b)(e:b < 256):bits .or .u64 (a * 256) b=a * 256+b:=pL (a * 256) b 8 a (by rw[show (2:Int) ^ 8=256 by decide]) d (by omega) c (by omega) (by omega)
theorem uy(l:List Int)(x:Int):bP (l ++ [x])=bP l * 256+x:=by
 induction l with
 | nil=>simp[bP]
 | cons y l ih =>
  rw[List.cons_append,bP,bP,ih,List.length_append,List.length_singleton,Int.pow_succ];grind
theorem AtB.box{o:Nat}(k:AtB w ao b o l){t:TypeId}(s:Box w g cs t)(hv:∀ v∈cs,∀ x,v≠.int .u8 x)(hw:∀ k,k≠g->w'.heap[k]?=w.heap[k]?):AtB w' ao b o l :=
 ⟨k.loc,fun i hi=>by
  have hc:=k.cell i hi;by_cases e:b=g
  ·subst e;simp only[World.cell?,s.blk] at hc
   have a:cs.toArray[o+i]?=some (.int .u8 (nth l i)):=by simpa using hc
   rw[List.getElem?_toArray] at a;exact absurd rfl (hv _ (List.mem_of_getElem? a) _)
  ·rw[World.cell?_of_block (w:=w) (hw b e)];exact hc⟩
theorem ByA.box(h:ByA w b ao n c l){t:TypeId}(s:Box w g cs t)(hv:∀ v∈cs,∀ x,v≠.int .u8 x)(hw:∀ k,k≠g->w'.heap[k]?=w.heap[k]?):ByA w' b ao n c l:=by
 obtain⟨o,e,a,i,d,f⟩:=h.ex;exact⟨o,e,a,i,d,f.box s hv hw⟩
theorem lA(err:Int)(ao:Option Addr)(n c:Nat):∀ v∈[Value.int .i64 err,Value.slice ao n c],∀ x,v≠.int .u8 x:=fun v hv x e=>by
 rcases List.mem_cons.1 hv with h | h
 ·subst h;cases e
 ·rw[List.mem_singleton] at h;subst h;cases e
theorem rdNum{m:Nat}{err:Int}{t:TypeId}(X:Box w g [.int .i64 err,.slice ao n c] t)(h:ByA w b ao n c l)(hm:m<=n)(K:m<=8) :
  Calls Tryz.prog 123 #[.pointer (some ⟨g,0,none⟩),.int .u64 m] w fun e w'=>e=.returned (.tuple #[.int .u64 (bP (l.take m)),.int .i64 0])/\w'=w.setCell ⟨g,1,none⟩ (.slice (cW ao c m) (n - m) (c - m)):=by
 obtain⟨o,L,z,⟨B,-⟩,s,F⟩:=h.ex
 have hA:ByA (w.setCell ⟨g,1,none⟩ (.slice (cW ao c m) (n - m) (c - m))) b ao n c l:=h.box X (lA _ _ _ _) fun k hk=>Below.heap_setCell _ _ _ k hk
 have t:=Cj (m:=m) X z B hm;obtain⟨I,-,-,-,-,f⟩:=hA.ex;clear hA F h X
 have y:Hid (aK l):=s;clear s;go_enter Tryz.func123,Tryz.ntmps123;go_wp2_with fail;refine t.mono ?_
 rintro e w' ⟨rfl,rfl⟩;clear t;generalize hWW:w.setCell ⟨g,1,none⟩ (.slice (cW ao c m) (n - m) (c - m))=W at *;have i:=(show Hid _ from hWW)
 clear hWW;go_wp2_with fail;go_loop [8,10,19] (fun J td r=>∃ k:Nat,k<=m/\r=.int .i64 k/\J=.int .u64 (bP (l.take k))) (fun _ _ r=>m - (intOf r).toNat)
 case atStart=>exact⟨0,Nat.zero_le _,rfl,rfl⟩
 case round =>
  obtain⟨k,hk,rfl,rfl⟩:=hrel;by_cases C:k < m
  ·have d:k < l.length:=by omega
   have p:=f.cell k d;obtain rfl:ao=some ⟨b,I,none⟩:=by
    rcases f.loc with e | e
    ·rw[e] at d;simp at d
    ·exact e
   have E:(k:Int) < m:=by omega
   have u:=y.out.nth k;have v:=bL (l:=l.take k) (fun x hx=>y.out x (List.mem_of_mem_take hx))
   have G:(256:Int) ^ (l.take k).length<=256 ^ 7:=ik (by rw[List.length_take];omega)
   have q:bP (l.take k) < 72057594037927936:=by
    have e7:(256:Int) ^ 7=72057594037927936:=by decide
    omega
   have j:=v.1;have H:=or8 (bP (l.take k)) (nth l k) j q u.1 u.2
   have A:Hid (bP (l.take (k+1))=bP (l.take k) * 256+nth l k):=by show _=_;rw[eF d,uy]
   clear v G;generalize bP (l.take k)=V at *;generalize nth l k=D at *;go_wp2;go_round
   case rel=>exact⟨k+1,by omega,by go_num,by rw[A.out]⟩
   case measure=>simp[intOf];omega
  ·obtain rfl:k=m:=by omega
   go_wp2;go_ret2;exact⟨rfl,i.out.symm⟩
end
section
variable {g n c gr gs:Nat}{w w':World}{a b v fv:Value}{m err x e0:Int}{ao:Option Addr}{Q:World→Prop}{l:List Int}
structure But(g:Nat)(w w':World):Prop where
 os:w'.os=w.os
 tape:w'.tape=w.tape
 output:w'.output=w.output
 size:w.heap.size<=w'.heap.size
 block:∀ k,k < w.heap.size->k≠g->w'.heap[k]?=w.heap[k]?
theorem But.below{B:Nat}{a:World}(h:But g w w')(b:Below B a w)(d:B<=g)(c:B<=a.heap.size):Below B a w' :=
 ⟨h.os.trans b.os,h.tape.trans b.tape,h.output.trans b.output,Nat.le_trans b.size h.size,fun k hk=>(h.block k (Nat.lt_of_lt_of_le (Nat.lt_of_lt_of_le hk c) b.size) (by omega)).trans (b.block k hk)⟩
theorem xk{w1 a c:World}(b:Below w.heap.size w w1)(h:∀ k,k≠g->a.heap[k]?=w1.heap[k]?)(ho:a.os=w1.os)(ht:a.tape=w1.tape)(hp:a.output=w1.output)(d:a.heap.size=w1.heap.size)(e:c=a):But g w c:=by
 subst e;exact⟨ho.trans b.os,ht.trans b.tape,hp.trans b.output,by rw[d];exact b.size,fun k hk f=>(h k f).trans (b.block k hk)⟩
theorem eO{t:TypeId}(h:Box w g [a,b] t)(v:Value):Box (w.setCell ⟨g,1,none⟩ v) g [a,v] t:=⟨by
 have:=h.blk;simp only[World.setCell,Array.getElem?_modify,if_true,this]
 simp⟩
theorem ko{t:TypeId}(h:Box w g [a,b] t)(v:Value):Box (w.setCell ⟨g,0,none⟩ v) g [v,b] t:=⟨by
 have:=h.blk;simp only[World.setCell,Array.getElem?_modify,if_true,this]
 simp⟩
theorem AH{t:TypeId}(X:Box w g [.int .i64 err,.slice ao n c] t)(hn:n<=9223372036854775807)(hm:(n:Int) < m) :
  Calls Tryz.prog 123 #[.pointer (some ⟨g,0,none⟩),.int .u64 m] w fun e w'=>e=.returned (.tuple #[.int .u64 0,.int .i64 40])/\w'=w:=by
 have t:=vf X hn hm;clear hm;go_enter Tryz.func123,Tryz.ntmps123;go_wp2_with fail;refine t.mono ?_
 rintro e w' ⟨rfl,rfl⟩;clear t;go_wp2_with fail;go_loop [8,10,19] (fun d td b=>d=.int .u64 0/\b=.int .i64 0) (fun _ _ _=>0)
 case atStart=>exact⟨rfl,rfl⟩
 case round =>
  obtain⟨rfl,rfl⟩:=hrel;go_wp2;go_ret2;exact⟨rfl,rfl⟩
theorem yS(hr:w.cell? ⟨gr,0,none⟩=some (.pointer (some ⟨g,0,none⟩)))(d:w.cell? ⟨gs,0,none⟩=some (.int .u64 m))(b:Calls Tryz.prog 123 #[.pointer (some ⟨g,0,none⟩),.int .u64 m] w fun e w'=>e=.returned (.tuple #[.int .u64 x,.int .i64 e0])∧Q w') :
    Calls Tryz.prog 122 #[.pointer (some ⟨gr,0,none⟩),.pointer (some ⟨gs,0,none⟩)] w fun e w'=>e=.returned (.tuple #[.int .u64 x,.int .i64 e0])∧Q w':=by
  go_enter Tryz.func122,Tryz.ntmps122;go_wp2_with fail;refine b.mono ?_
  rintro e w' ⟨rfl,c⟩;clear b;go_wp2;go_ret2;exact⟨rfl,c⟩
theorem enBad{t:TypeId}(X:Box w g [.int .i64 err,v] t)(he:err≠0) :
  Calls Tryz.prog 121 #[.pointer (some ⟨g,0,none⟩),fv] w fun e w'=>e=.returned (.int .u64 0)/\w'=w:=by
 have hb:(err == 0)=false:=beq_eq_false_iff_ne.2 he;have t:=fC X;rw[hb] at t;clear he hb;go_enter Tryz.func121,Tryz.ntmps121;go_wp2_with fail;refine t.mono ?_
 rintro e w' ⟨rfl,rfl⟩;clear t;go_wp2;go_ret;exact⟨rfl,rfl⟩
theorem enOk{t:TypeId}{Q:World->Prop}(X:Box w g [.int .i64 0,.slice ao n c] t)(b:Calls Tryz.prog 122 #[.pointer (some ⟨gr,0,none⟩),.pointer (some ⟨gs,0,none⟩)] w fun e w'=>e=.returned (.tuple #[.int .u64 x,.int .i64 0])/\Q w') :
  Calls Tryz.prog 121 #[.pointer (some ⟨g,0,none⟩),.func (.func 122) #[] #[.pointer (some ⟨gr,0,none⟩),.pointer (some ⟨gs,0,none⟩)]] w fun e w'=>e=.returned (.int .u64 x)/\Q w':=by
 obtain⟨c1,c2,c3,i⟩:=X.two;have t:=fC X;go_enter Tryz.func121,Tryz.ntmps121;go_wp2_with fail;refine t.mono ?_
 rintro e w' ⟨rfl,rfl⟩;clear t;go_wp2_with fail;refine b.mono ?_
 rintro e f ⟨rfl,d⟩;clear b;go_wp2;go_ret;exact⟨rfl,d⟩
theorem enErr{t:TypeId}(he:e0≠0)(X:Box w g [.int .i64 0,.slice ao n c] t)(b:Calls Tryz.prog 122 #[.pointer (some ⟨gr,0,none⟩),.pointer (some ⟨gs,0,none⟩)] w fun e w'=>e=.returned (.tuple #[.int .u64 x,.int .i64 e0])/\w'=w) :
  Calls Tryz.prog 121 #[.pointer (some ⟨g,0,none⟩),.func (.func 122) #[] #[.pointer (some ⟨gr,0,none⟩),.pointer (some ⟨gs,0,none⟩)]] w fun e w'=>e=.returned (.int .u64 0)/\w'=(w.setCell ⟨g,1,none⟩ (.slice ao n c)).setCell ⟨g,0,none⟩ (.int .i64 e0):=by
 obtain⟨c1,c2,c3,l⟩:=X.two
 have f:Box (w.setCell ⟨g,1,none⟩ (.slice ao n c)) g [.int .i64 0,.slice ao n c] t:=eO X _;have d:=fC X
 have hb:(e0 == 0)=false:=beq_eq_false_iff_ne.2 he;clear he;go_enter Tryz.func121,Tryz.ntmps121;go_wp2_with fail;refine d.mono ?_
 rintro e w' ⟨rfl,rfl⟩;clear d;go_wp2_with fail;refine b.mono ?_
 rintro e i ⟨rfl,rfl⟩;clear b;go_wp2_with fail;refine(ph f).mono ?_
 rintro e j ⟨rfl,rfl⟩;go_wp2;go_ret;exact⟨rfl,rfl⟩
structure RdA(w:World)(g b:Nat)(err:Int)(l:List Int):Prop where
 ex:∃ ao n c,Box w g [.int .i64 err,.slice ao n c] 161/\ByA w b ao n c l
theorem RdA.keep{b:Nat}(h:RdA w g b err l)(hb:Below w.heap.size w w'):RdA w' g b err l:=by
 obtain⟨ao,n,c,h1,h2⟩:=h.ex;exact⟨ao,n,c,h1.keep hb,h2.keep hb⟩
def qe(m:Nat)(err:Int)(l:List Int):Int:=if err=0/\m<=l.length then bP (l.take m) else 0
def qn(m:Nat)(err:Int)(l:List Int):Int:=if err=0 then (if m<=l.length then 0 else 40) else err
def qH(m:Nat)(err:Int)(l:List Int):List Int:=if err=0/\m<=l.length then l.drop m else l
theorem size_set(w:World)(p:Addr)(v:Value):(w.setCell p v).heap.size=w.heap.size:=by simp[World.setCell]
theorem vT{b m:Nat}(h:RdA w g b err l)(G:m<=8) :
  Calls Tryz.prog 79 #[.pointer (some ⟨g,0,none⟩),.int .u64 m] w fun e w'=>e=.returned (.int .u64 (qe m err l))/\RdA w' g b (qn m err l) (qH m err l)/\But g w w':=by
 have d:=below2 w (.cells #[.pointer (some ⟨g,0,none⟩)] 105) (.cells #[.int .u64 m] 22);have x:=(l9 w (.pointer (some ⟨g,0,none⟩)) 105).alloc (.cells #[.int .u64 m] 22);have y:=uq w (.cells #[.pointer (some ⟨g,0,none⟩)] 105) (.int .u64 (m:Int)) 22;have H:=h.ex;obtain⟨E,n,c,r,i⟩:=H;have C:=r.lt;have X:=r.keep d;have hA:=i.keep d;obtain⟨o,D,z,⟨B,-⟩,A,I⟩:=hA.ex;have q1:=x.cell;have s:=y.cell;clear I;by_cases he:err=0
 ·subst he;by_cases hm:m<=n
  ·have t:=enOk X (yS q1 s (rdNum X hA hm G))
   have v:Hid (qe m 0 l=bP (l.take m)):=by show _=_;unfold qe;rw[if_pos ⟨rfl,by omega⟩]
   have p:Hid (∀ f,f=(((w.alloc (.cells #[.pointer (some ⟨g,0,none⟩)] 105)).alloc (.cells #[.int .u64 m] 22)).setCell ⟨g,1,none⟩ (.slice (cW E c m) (n - m) (c - m)))->RdA f g b (qn m 0 l) (qH m 0 l)/\But g w f):=by
    intro f e;subst e;refine⟨?_,?_⟩
    ·unfold qn qH;rw[if_pos rfl,if_pos (by omega),if_pos ⟨rfl,by omega⟩];exact⟨_,_,_,eO X _,(hA.rest hm).box X (lA _ _ _ _) fun k hk=>Below.heap_setCell _ _ _ k hk⟩
    ·exact xk d (fun k hk=>Below.heap_setCell _ _ _ k hk) rfl rfl rfl (size_set _ _ _) rfl
   clear r i X hA x y h D z B A q1 s d;go_enter Tryz.func79,Tryz.ntmps79;go_wp2_with fail;refine t.mono ?_
   rintro e F ⟨rfl,j⟩;have q:=(show Hid _ from p.out _ j)
   clear t j p;go_wp2;go_ret;exact⟨by rw[v.out];rfl,q.out⟩
  ·have t:=enErr (by decide) X (yS q1 s (AH X (by omega) (by omega:(n:Int) < m)))
   have v:Hid (qe m 0 l=0):=by show _=_;unfold qe;rw[if_neg (fun u=>hm (by omega))]
   have p:Hid (∀ f,f=((((w.alloc (.cells #[.pointer (some ⟨g,0,none⟩)] 105)).alloc (.cells #[.int .u64 m] 22)).setCell ⟨g,1,none⟩ (.slice E n c)).setCell ⟨g,0,none⟩ (.int .i64 40))->RdA f g b (qn m 0 l) (qH m 0 l)/\But g w f):=by
    intro f e;subst e;refine⟨?_,?_⟩
    ·unfold qn qH;rw[if_pos rfl,if_neg (by omega),if_neg (fun u=>hm (by omega))];exact⟨_,_,_,ko (eO X _) _,hA.box X (lA _ _ _ _) fun k hk=>by rw[Below.heap_setCell _ _ _ k hk,Below.heap_setCell _ _ _ k hk]⟩
    ·exact⟨d.os,d.tape,d.output,by rw[size_set,size_set];exact d.size,fun k hk C=>by rw[Below.heap_setCell _ _ _ k C,Below.heap_setCell _ _ _ k C];exact d.block k hk⟩
   clear r i X hA x y h D z B A q1 s d hm;go_enter Tryz.func79,Tryz.ntmps79;go_wp2_with fail;refine t.mono ?_
   rintro e F ⟨rfl,j⟩;have q:=(show Hid _ from p.out _ j)
   clear t j p;go_wp2;go_ret;exact⟨by rw[v.out];rfl,q.out⟩
 ·have t:=fun fv=>enBad (fv:=fv) X he
  have v:Hid (qe m err l=0):=by show _=_;unfold qe;rw[if_neg (fun u=>he u.1)]
  have p:Hid (∀ f,f=((w.alloc (.cells #[.pointer (some ⟨g,0,none⟩)] 105)).alloc (.cells #[.int .u64 m] 22))->RdA f g b (qn m err l) (qH m err l)/\But g w f):=by
   intro f e;subst e;refine⟨?_,?_⟩
   ·unfold qn qH;rw[if_neg he,if_neg (fun u=>he u.1)];exact⟨_,_,_,X,hA⟩
   ·exact⟨d.os,d.tape,d.output,d.size,fun k hk _=>d.block k hk⟩
  clear r i X hA x y h D z B A q1 s d he;go_enter Tryz.func79,Tryz.ntmps79;go_wp2_with fail;refine(t _).mono ?_
  rintro e F ⟨rfl,j⟩;have q:=(show Hid _ from p.out _ j)
  clear t j p;go_wp2;go_ret;exact⟨by rw[v.out];rfl,q.out⟩
end
def rB (w:World) (B:Nat) (v:Value) (l:List Int):Prop:=w.ownsRow B 5 1 v l.length (l.map (Value.int .u8))
theorem own_ge {w:World} {B:Nat} {e:TypeId} {v:Value} {n:Nat} {xs:List Value} (h:w.ownsRow B e 1 v n xs):∀ g,v.ownBlock=some g->B<=g:=by
 intro g a;rcases h.2 with⟨rfl,_⟩ | ⟨g',cap,cur,rfl,hB,_⟩
 ·simp[Value.ownBlock] at a
 ·simp[Value.ownBlock] at a;omega
def halves:List Int->List Int
 | []=>[]
 | x :: l=>x % 4294967296 :: x / 4294967296 :: halves l
section
variable {w:World}{g n c:Nat}{err e0:Int}{v fv:Value}{ao:Option Addr}{Q:Value->World->Prop}
theorem CD{t:TypeId}(X:Box w g [.int .i64 err,v] t)(he:err≠0) :
  Calls Tryz.prog 154 #[.pointer (some ⟨g,0,none⟩),fv] w fun e w'=>e=.returned (.bool false)/\w'=w:=by
 have hb:(err == 0)=false:=beq_eq_false_iff_ne.2 he;have t:=fC X;rw[hb] at t;clear he hb;go_enter Tryz.func154,Tryz.ntmps154;go_wp2_with fail;refine t.mono ?_
 rintro e w' ⟨rfl,rfl⟩;clear t;go_wp2;go_ret;exact⟨rfl,rfl⟩
theorem enBoOk{t:TypeId}(X:Box w g [.int .i64 0,.slice ao n c] t)(b:Calls Tryz.prog 155 #[.pointer (some ⟨g,0,none⟩)] w fun e w'=>∃ v,e=.returned (.tuple #[v,.int .i64 0])/\Q v w') :
  Calls Tryz.prog 154 #[.pointer (some ⟨g,0,none⟩),.func (.func 155) #[.pointer (some ⟨g,0,none⟩)] #[]] w fun e w'=>∃ v,e=.returned v/\Q v w':=by
 obtain⟨c1,c2,c3,j⟩:=X.two;have t:=fC X;go_enter Tryz.func154,Tryz.ntmps154;go_wp2_with fail;refine t.mono ?_
 rintro e w' ⟨rfl,rfl⟩;clear t;go_wp2_with fail;refine b.mono ?_
 rintro e i ⟨v,rfl,d⟩;have f:=(show Hid _ from d)
 clear b d;go_wp2;go_ret;exact⟨v,rfl,f.out⟩
theorem Db{t:TypeId}(he:e0≠0)(X:Box w g [.int .i64 0,.slice ao n c] t)(hQ:∀ v w1,Q v w1->∃ y,Box w1 g [.int .i64 0,y] t)(j:Calls Tryz.prog 155 #[.pointer (some ⟨g,0,none⟩)] w fun e w'=>∃ v,e=.returned (.tuple #[v,.int .i64 e0])/\Q v w') :
  Calls Tryz.prog 154 #[.pointer (some ⟨g,0,none⟩),.func (.func 155) #[.pointer (some ⟨g,0,none⟩)] #[]] w fun e w'=>e=.returned (.bool false)/\∃ v w1,Q v w1/\w'=(w1.setCell ⟨g,1,none⟩ (.slice ao n c)).setCell ⟨g,0,none⟩ (.int .i64 e0):=by
 obtain⟨c1,c2,c3,q⟩:=X.two;have l:=fC X
 have hb:(e0 != 0)=true:=bne_iff_ne.2 he;have o:=(show Hid _ from hQ)
 clear he hQ;go_enter Tryz.func154,Tryz.ntmps154;go_wp2_with fail;refine l.mono ?_
 rintro e w' ⟨rfl,rfl⟩;clear l;go_wp2_with fail;refine j.mono ?_
 rintro e w1 ⟨v,rfl,b⟩;obtain⟨y,i⟩:=o.out v w1 b;have p:=(show Hid _ from b)
 have m:Box (w1.setCell ⟨g,1,none⟩ (.slice ao n c)) g [.int .i64 0,.slice ao n c] t:=eO i _;obtain⟨d1,d2,d3,d4⟩:=i.two;have t3:=ph (e0:=e0) m;clear j b o X i m c1 c2 c3 q d1 d3;go_wp2_with fail;refine t3.mono ?_
 rintro e r ⟨rfl,d⟩;have f:=(show Hid _ from d)
 clear t3 d;go_wp2;go_ret;exact⟨rfl,v,w1,p.out,f.out⟩
theorem DQ{t:TypeId}(X:Box w g [.int .i64 err,v] t)(he:err≠0) :
  Calls Tryz.prog 203 #[.pointer (some ⟨g,0,none⟩),fv] w fun e w'=>e=.returned (.slice none 0 0)/\w'=w:=by
 have hb:(err == 0)=false:=beq_eq_false_iff_ne.2 he;have t:=fC X;rw[hb] at t;clear he hb;go_enter Tryz.func203,Tryz.ntmps203;go_wp2_with fail;refine t.mono ?_
 rintro e w' ⟨rfl,rfl⟩;clear t;go_wp2;go_ret;exact⟨rfl,rfl⟩
theorem enNaOk{t:TypeId}(X:Box w g [.int .i64 0,.slice ao n c] t)(b:Calls Tryz.prog 204 #[.pointer (some ⟨g,0,none⟩)] w fun e w'=>∃ v,e=.returned (.tuple #[v,.int .i64 0])/\Q v w') :
  Calls Tryz.prog 203 #[.pointer (some ⟨g,0,none⟩),.func (.func 204) #[.pointer (some ⟨g,0,none⟩)] #[]] w fun e w'=>∃ v,e=.returned v/\Q v w':=by
 obtain⟨c1,c2,c3,j⟩:=X.two;have t:=fC X;go_enter Tryz.func203,Tryz.ntmps203;go_wp2_with fail;refine t.mono ?_
 rintro e w' ⟨rfl,rfl⟩;clear t;go_wp2_with fail;refine b.mono ?_
 rintro e i ⟨v,rfl,d⟩;have f:=(show Hid _ from d)
 clear b d;go_wp2;go_ret;exact⟨v,rfl,f.out⟩
theorem DG{t:TypeId}(he:e0≠0)(X:Box w g [.int .i64 0,.slice ao n c] t)(hQ:∀ v w1,Q v w1->∃ y,Box w1 g [.int .i64 0,y] t)(j:Calls Tryz.prog 204 #[.pointer (some ⟨g,0,none⟩)] w fun e w'=>∃ v,e=.returned (.tuple #[v,.int .i64 e0])/\Q v w') :
  Calls Tryz.prog 203 #[.pointer (some ⟨g,0,none⟩),.func (.func 204) #[.pointer (some ⟨g,0,none⟩)] #[]] w fun e w'=>e=.returned (.slice none 0 0)/\∃ v w1,Q v w1/\w'=(w1.setCell ⟨g,1,none⟩ (.slice ao n c)).setCell ⟨g,0,none⟩ (.int .i64 e0):=by
 obtain⟨c1,c2,c3,q⟩:=X.two;have l:=fC X
 have hb:(e0 != 0)=true:=bne_iff_ne.2 he;have o:=(show Hid _ from hQ)
 clear he hQ;go_enter Tryz.func203,Tryz.ntmps203;go_wp2_with fail;refine l.mono ?_
 rintro e w' ⟨rfl,rfl⟩;clear l;go_wp2_with fail;refine j.mono ?_
 rintro e w1 ⟨v,rfl,b⟩;obtain⟨y,i⟩:=o.out v w1 b;have p:=(show Hid _ from b)
 have m:Box (w1.setCell ⟨g,1,none⟩ (.slice ao n c)) g [.int .i64 0,.slice ao n c] t:=eO i _;obtain⟨d1,d2,d3,d4⟩:=i.two;have t3:=ph (e0:=e0) m;clear j b o X i m c1 c2 c3 q d1 d3;go_wp2_with fail;refine t3.mono ?_
 rintro e r ⟨rfl,d⟩;have f:=(show Hid _ from d)
 clear t3 d;go_wp2;go_ret;exact⟨rfl,v,w1,p.out,f.out⟩
end
end
section
open Pg (aD bj bU aG bM cU)
open Go.RowKit Lim
section
variable {w w' w1:World}{g:Nat}{err aw u e0:Int}{p q:Option Addr}{lat l:List Int}{a:Act}{o:Oper}{v:Value}{cs:Array Value}
def dx(err:Int)(p:Option Addr)(aw:Int)(lat:List Int)(u:Int):List Value:=.int .i64 err :: .pointer p :: .int .i64 aw :: (lat.map (Value.int .u8) ++ [.int .i64 u])
structure cS(w:World)(g:Nat)(err:Int)(p:Option Addr)(aw:Int)(lat:List Int)(u:Int):Prop where
 len:lat.length=256
 blk:∃ T,(T≠124/\T≠5)/\w.heap[g]?=some (.cells (dx err p aw lat u).toArray T (0,0))
theorem cS.box(h:cS w g err p aw lat u):∃ T,T≠124/\Box w g (dx err p aw lat u) T:=h.blk.imp fun _ h=>⟨h.1.1,⟨h.2⟩⟩
theorem cS.lt(h:cS w g err p aw lat u):g < w.heap.size:=h.box.elim fun _ h=>h.2.lt
theorem cS.keep(h:cS w g err p aw lat u)(hb:Below w.heap.size w w'):cS w' g err p aw lat u:=⟨h.len,h.blk.imp fun _ h=>⟨h.1,(Box.keep ⟨h.2⟩ hb).blk⟩⟩
theorem cS.off{g':Nat}(h:cS w g err p aw lat u)(hne:g≠g')(hw:∀ k,k≠g'->w'.heap[k]?=w.heap[k]?):cS w' g err p aw lat u:=⟨h.len,by rw[hw g hne];exact h.blk⟩
theorem cS.free(h:cS w g err p aw lat u)(k:Nat):w.frozen? ⟨g,k,none⟩=false:=by
 obtain⟨T,hT,this⟩:=h.blk;simp[World.frozen?,this]
theorem cS.c0(h:cS w g err p aw lat u):w.cell? ⟨g,0,none⟩=some (.int .i64 err):=by
 obtain⟨T,hT,this⟩:=h.blk;simp[World.cell?,this,dx]
theorem cS.c1(h:cS w g err p aw lat u):w.cell? ⟨g,1,none⟩=some (.pointer p):=by
 obtain⟨T,hT,this⟩:=h.blk;simp[World.cell?,this,dx]
theorem cS.c2(h:cS w g err p aw lat u):w.cell? ⟨g,2,none⟩=some (.int .i64 aw):=by
 obtain⟨T,hT,this⟩:=h.blk;simp[World.cell?,this,dx]
theorem cS.cl(h:cS w g err p aw lat u)(i:Nat)(hi:i < 256):w.cell? ⟨g,3+i,none⟩=some (.int .u8 (nth lat i)):=by
 obtain⟨T,b,hb⟩:=h.blk;have a:=h.len;simp only[World.cell?,hb,dx];rw[show 3+i=i+1+1+1 by omega];simp[List.getElem?_append_left,a,hi,cL (l:=lat) (show i < lat.length by omega)]
theorem cS.cu(h:cS w g err p aw lat u):w.cell? ⟨g,259,none⟩=some (.int .i64 u):=by
 obtain⟨T,hT,hb⟩:=h.blk;have hl:=h.len;simp only[World.cell?,hb,dx];simp[hl]
theorem cS.set0(h:cS w g err p aw lat u)(x:Int):cS (w.setCell ⟨g,0,none⟩ (.int .i64 x)) g x p aw lat u:=⟨h.len,by
 obtain⟨T,a,this⟩:=h.blk;refine⟨T,a,?_⟩;simp only[World.setCell,Array.getElem?_modify,if_true,this]
 simp[dx]⟩
theorem cS.set1(h:cS w g err p aw lat u)(x:Option Addr):cS (w.setCell ⟨g,1,none⟩ (.pointer x)) g err x aw lat u:=⟨h.len,by
 obtain⟨T,a,this⟩:=h.blk;refine⟨T,a,?_⟩;simp only[World.setCell,Array.getElem?_modify,if_true,this]
 simp[dx]⟩
theorem cS.set2(h:cS w g err p aw lat u)(x:Int):cS (w.setCell ⟨g,2,none⟩ (.int .i64 x)) g err p x lat u:=⟨h.len,by
 obtain⟨T,a,this⟩:=h.blk;refine⟨T,a,?_⟩;simp only[World.setCell,Array.getElem?_modify,if_true,this]
 simp[dx]⟩
theorem cS.setu(h:cS w g err p aw lat u)(x:Int):cS (w.setCell ⟨g,259,none⟩ (.int .i64 x)) g err p aw lat x:=⟨h.len,by
 obtain⟨T,b,hb⟩:=h.blk;have a:=h.len;refine⟨T,b,?_⟩;simp only[World.setCell,Array.getElem?_modify,if_true,hb]
 simp[dx,List.set_append_right,a]⟩
theorem kN(c1:w.cell? ⟨g,0,none⟩=some (.int .i64 err)) :
  Calls Tryz.prog 54 #[.pointer (some ⟨g,0,none⟩)] w fun e w'=>e=.returned (.bool (err == 0))/\w'=w:=by
 go_enter Tryz.func54,Tryz.ntmps54;go_wp2;go_ret;exact⟨rfl,rfl⟩
theorem stMeet(c1:w.cell? ⟨g,0,none⟩=some (.int .i64 0))(c2:w.frozen? ⟨g,0,none⟩=false) :
  Calls Tryz.prog 81 #[.pointer (some ⟨g,0,none⟩),.int .i64 e0] w fun e w'=>e=.returned (.tuple #[])/\w'=w.setCell ⟨g,0,none⟩ (.int .i64 e0):=by
 go_enter Tryz.func81,Tryz.ntmps81;go_wp2_with fail;refine(kN c1).mono ?_
 rintro e w' ⟨rfl,rfl⟩;go_wp2;go_end0;exact⟨rfl,rfl⟩
theorem DV(c1:w.cell? ⟨g,0,none⟩=some (.int .i64 err))(he:(err == 0)=false) :
  Calls Tryz.prog 81 #[.pointer (some ⟨g,0,none⟩),.int .i64 e0] w fun e w'=>e=.returned (.tuple #[])/\w'=w:=by
 have t:=kN c1;rw[he] at t;clear he;go_enter Tryz.func81,Tryz.ntmps81;go_wp2_with fail;refine t.mono ?_
 rintro e w' ⟨rfl,rfl⟩;go_wp2;go_end0;exact⟨rfl,rfl⟩
theorem qo{T:TypeId}(k:Nat){off:Nat}(b:(loadVar T ⟨g,off,none⟩).run Tryz.prog w=.ok v w)(ho:o.op=.load T (.tmp k):=by kernel_rfl)(hp:a.eval (.tmp k)=.pointer (some ⟨g,off,none⟩):=by kernel_rfl):(execOp a.eval o).run Tryz.prog w=.ok (.value v) w:=by
 simp only[execOp,ho,hp];simp[Instr.loadAt,Instr.sureAddr,Result.andThen,b]
theorem oZ{T:TypeId}(k q:Nat){off:Nat}(ho:o.op=.store T (.tmp k) (.tmp q))(hp:a.eval (.tmp k)=.pointer (some ⟨g,off,none⟩))(hq:a.eval (.tmp q)=v)(b:(storeVar T ⟨g,off,none⟩ v).run Tryz.prog w=.ok () w1):(execOp a.eval o).run Tryz.prog w=.ok .skip w1:=by
 simp only[execOp,ho,hp,hq];simp[Instr.storeAt,Instr.sureAddr,Result.andThen,b]
theorem vG(c:w.cell? ⟨g,1,none⟩=some (.pointer p)):(loadVar 77 ⟨g,1,none⟩).run Tryz.prog w=.ok (.pointer p) w:=by
 go_simp
theorem vd(c:w.cell? ⟨g,1,none⟩=some (.pointer p))(f:w.frozen? ⟨g,1,none⟩=false):(storeVar 77 ⟨g,1,none⟩ (.pointer q)).run Tryz.prog w=.ok () (w.setCell ⟨g,1,none⟩ (.pointer q)):=by
 go_simp
theorem uQ:Tryz.prog.underlying 78=some (.array 256 5):=by kernel_rfl
theorem oP:(Tryz.prog.info? 78).map (·.size)=some 256:=by kernel_rfl
theorem wI{o:Nat}(d:l.length=256)(c:∀ i,i < 256->w.cell? ⟨g,o+i,none⟩=some (.int .u8 (nth l i))):(loadVar 78 ⟨g,o,none⟩).run Tryz.prog w=.ok (.agg (l.map (Value.int .u8)).toArray) w:=by
 have h:=run_loadCells_list (P:=Tryz.prog) w ⟨g,o,none⟩ (l.map (Value.int .u8)) (fun j v hv=>by
  obtain⟨a,e⟩:=List.getElem?_eq_some_iff.1 hv;rw[List.length_map] at a
  rw[bZ,c j (by omega),<- e,List.getElem_map,cL a])
 rw[List.length_map,d] at h
 cases hi:Tryz.prog.info? 78 with
 | none=>have:=oP;simp[hi] at this
 | some i =>
  have b:i.size=256:=by have:=oP;simpa[hi] using this
  simp[loadVar,isAgg,run_underlying uQ,sizeOf,typeInfo,hi,b,h]
def placesOf(P:Program)(d:Option TypeDesc):Option (List (Nat × Nat)):=match d with
 | some (.struct fs)=>fs.toList.mapM (fun f=>(P.info? f.type).map fun i=>(f.offset,i.size))
 | _=>none
theorem xZ:placesOf Tryz.prog (Tryz.prog.underlying 124)=some [(0,1),(1,256)]:=by kernel_rfl
theorem Dm:((Tryz.prog.info? 124).bind (·.zero)).map (·.cells.size)=some 257:=by kernel_rfl
theorem yU(p:Option Addr)(A:List Value)(hA:A.length=256):Tryz.prog.built 124 [(0,.pointer p),(1,.agg A.toArray)]=some (Value.pointer p :: A).toArray:=by
 have hu:=xZ;have b:=Dm;unfold Program.built;generalize Tryz.prog.info? 124=I at *;generalize Tryz.prog.underlying 124=U at *
 cases I with
 | none=>simp at b
 | some it =>
  cases h2:it.zero with
  | none=>simp[h2] at b
  | some z =>
   have a:z.cells.size=257:=by simpa[h2] using b
   cases U with
   | none=>simp[placesOf] at hu
   | some d =>
    cases d<;>try (simp[placesOf] at hu;done)
    case struct fs =>
     simp only[placesOf] at hu;simp only[hu,h2]
     have hc:(Value.pointer p).cells=#[.pointer p]:=rfl
     have c:(Value.agg A.toArray).cells=A.toArray:=rfl;simp only[Instr.fill,hc,c];obtain⟨g1,e⟩:=Great.foldl_set 1 A 0 (z.cells.setIfInBounds 0 (.pointer p));simp[hA,a];apply Array.ext_getElem?;intro k;have hk:=e k;simp only[Array.size_setIfInBounds,a,hA] at hk;rw[Nat.add_zero] at hk;rw[hk]
     cases k with
     | zero=>rw[if_neg (by omega)];simp[a]
     | succ k =>
      by_cases f:k < 256
      ·rw[if_pos (by omega)];simp
      ·rw[if_neg (by omega),Array.getElem?_eq_none (by simp[a];omega),Array.getElem?_eq_none (by simp[hA];omega)]
theorem BN{T:TypeId}(ps:Array (Nat × Operand)){L:List (Nat × Value)}(ho:o.op=.build T ps)(hp:(ps.map fun(i,x)=>(i,a.eval x)).toList=L)(hb:Tryz.prog.built T L=some cs):(execOp a.eval o).run Tryz.prog w=.ok (.value (.agg cs)) w:=by
 subst hp;simp only[execOp,ho];simp only[Sem.run_bind,run_build w T _ cs hb,Result.andThen_ok];rfl
theorem wrPut(X:cS w g err p aw lat u)(t:0<=aw)(hb:aw<=4611686018427387904) :
  Calls Tryz.prog 124 #[.pointer (some ⟨g,0,none⟩)] w fun e w'=>e=.returned (.tuple #[])/\cS w' g err (some ⟨w.heap.size,0,none⟩) (aw+256) lat 0/\Box w' w.heap.size (.pointer p :: lat.map (Value.int .u8)) 124/\But g w w':=by
 have Y:=X;have s:=X.lt;have c1:=X.c1;have f1:=X.free 1;have f:=vG X.c1;have d:=wI X.len X.cl;have j:=yU p (lat.map (Value.int .u8)) (by rw[List.length_map];exact X.len);go_enter Tryz.func124,Tryz.ntmps124;go_wp2_with fail;refine bU (S:=fun _=>True) (by kernel_rfl) trivial ?_
 refine aD 0 2 (.pointer (some ⟨g,0,none⟩)) trivial ?_
 refine aD 1 3 (.pointer (some ⟨g,0,none⟩)) trivial ?_
 refine aD 2 4 (.pointer (some ⟨g,0,none⟩)) trivial ?_
 refine aD 3 5 (.pointer (some ⟨g,1,none⟩)) trivial ?_
 refine aD 5 7 (.pointer (some ⟨g,0,none⟩)) trivial ?_
 refine aD 6 8 (.pointer (some ⟨g,0,none⟩)) trivial ?_
 refine aD 7 9 (.pointer (some ⟨g,3,none⟩)) trivial ?_
 refine aG [4,8] ?_
 have X:cS w.drew g err p aw lat u:=⟨Y.len,Y.blk⟩
 have f:=vG X.c1;have d:=wI X.len X.cl;refine bM 4 (some 6) (.pointer p) _ (qo 5 f) trivial ?_ (bM 8 (some 10) (.agg (lat.map (Value.int .u8)).toArray) _ (qo 9 d) trivial ?_ aW)
 ·refine aG [8] ?_
  refine bM 8 (some 10) (.agg (lat.map (Value.int .u8)).toArray) _ (qo 9 d) trivial ?_ aW;refine aG [9] ?_
  refine bM 9 (some 11) (.agg (Value.pointer p :: lat.map (Value.int .u8)).toArray) _ (BN #[(0,.tmp 6),(1,.tmp 10)] (by kernel_rfl) (by kernel_rfl) j) trivial ?_ aW;refine aG [10] ?_
  refine sw 10 (some 12) 124 (Value.pointer p :: lat.map (Value.int .u8)) (by kernel_rfl) (by kernel_rfl) ?_ aW;intro V l b;refine⟨trivial,?_⟩;replace X:=X.keep b;replace b:Below w.heap.size w V:=(Below.refl w.heap.size w).drew.trans b;refine aD 11 13 (.pointer (some ⟨g,0,none⟩)) trivial ?_
  refine aD 12 14 (.pointer (some ⟨g,1,none⟩)) trivial ?_
  refine aG [13] ?_
  refine cU 13 (V.setCell ⟨g,1,none⟩ (.pointer (some ⟨w.heap.size,0,none⟩))) (oZ 14 12 (v:=.pointer (some ⟨w.heap.size,0,none⟩)) (by kernel_rfl) (by kernel_rfl) (by kernel_rfl) (vd X.c1 (X.free 1))) trivial ?_ aW;refine bj ?_
  try simp only[Act.put,List.setIfInBounds_toArray,List.set_cons_zero,List.set_cons_succ]
  replace X:=X.set1 (some ⟨w.heap.size,0,none⟩)
  have i:Hid (But g w (V.setCell ⟨g,1,none⟩ (.pointer (some ⟨w.heap.size,0,none⟩)))):=⟨b.os,b.tape,b.output,by rw[size_set];exact b.size,fun k m c=>by rw[Below.heap_setCell _ _ _ k c];exact b.block k m⟩
  replace l:Box (V.setCell ⟨g,1,none⟩ (.pointer (some ⟨w.heap.size,0,none⟩))) w.heap.size _ _:=l.off (g':=g) (by show w.heap.size≠g;omega) (fun k hk=>Below.heap_setCell _ _ _ k hk);clear b;generalize V.setCell ⟨g,1,none⟩ (.pointer (some ⟨w.heap.size,0,none⟩))=W at *;have c2:=X.c2;have f2:=X.free 2;have cu:=X.cu;have r:=X.free 259;clear f d j c1 f1;have q:=(X.set2 (aw+256)).setu 0
  have n:Hid (But g w ((W.setCell ⟨g,2,none⟩ (.int .i64 (aw+256))).setCell ⟨g,259,none⟩ (.int .i64 0))):=⟨i.out.os,i.out.tape,i.out.output,by rw[size_set,size_set];exact i.out.size,fun k m c=>by rw[Below.heap_setCell _ _ _ k c,Below.heap_setCell _ _ _ k c];exact i.out.block k m c⟩
  have o:Hid (Box ((W.setCell ⟨g,2,none⟩ (.int .i64 (aw+256))).setCell ⟨g,259,none⟩ (.int .i64 0)) w.heap.size (Value.pointer p :: lat.map (Value.int .u8)) 124):=(l.off (g':=g) (by omega) (fun k hk=>Below.heap_setCell _ _ _ k hk)).off (g':=g) (by omega) (fun k hk=>Below.heap_setCell _ _ _ k hk);go_wp2;go_end0;exact⟨rfl,q,o.out,n.out⟩
 ·refine aG [4] ?_
  refine bM 4 (some 6) (.pointer p) _ (qo 5 f) trivial ?_ aW;refine aG [9] ?_
  refine bM 9 (some 11) (.agg (Value.pointer p :: lat.map (Value.int .u8)).toArray) _ (BN #[(0,.tmp 6),(1,.tmp 10)] (by kernel_rfl) (by kernel_rfl) j) trivial ?_ aW;refine aG [10] ?_
  refine sw 10 (some 12) 124 (Value.pointer p :: lat.map (Value.int .u8)) (by kernel_rfl) (by kernel_rfl) ?_ aW;intro V l b;refine⟨trivial,?_⟩;replace X:=X.keep b;replace b:Below w.heap.size w V:=(Below.refl w.heap.size w).drew.trans b;refine aD 11 13 (.pointer (some ⟨g,0,none⟩)) trivial ?_
  refine aD 12 14 (.pointer (some ⟨g,1,none⟩)) trivial ?_
  refine aG [13] ?_
  refine cU 13 (V.setCell ⟨g,1,none⟩ (.pointer (some ⟨w.heap.size,0,none⟩))) (oZ 14 12 (v:=.pointer (some ⟨w.heap.size,0,none⟩)) (by kernel_rfl) (by kernel_rfl) (by kernel_rfl) (vd X.c1 (X.free 1))) trivial ?_ aW;refine bj ?_
  try simp only[Act.put,List.setIfInBounds_toArray,List.set_cons_zero,List.set_cons_succ]
  replace X:=X.set1 (some ⟨w.heap.size,0,none⟩)
  have i:Hid (But g w (V.setCell ⟨g,1,none⟩ (.pointer (some ⟨w.heap.size,0,none⟩)))):=⟨b.os,b.tape,b.output,by rw[size_set];exact b.size,fun k m c=>by rw[Below.heap_setCell _ _ _ k c];exact b.block k m⟩
  replace l:Box (V.setCell ⟨g,1,none⟩ (.pointer (some ⟨w.heap.size,0,none⟩))) w.heap.size _ _:=l.off (g':=g) (by show w.heap.size≠g;omega) (fun k hk=>Below.heap_setCell _ _ _ k hk);clear b;generalize V.setCell ⟨g,1,none⟩ (.pointer (some ⟨w.heap.size,0,none⟩))=W at *;have c2:=X.c2;have f2:=X.free 2;have cu:=X.cu;have r:=X.free 259;clear f d j c1 f1;have q:=(X.set2 (aw+256)).setu 0
  have n:Hid (But g w ((W.setCell ⟨g,2,none⟩ (.int .i64 (aw+256))).setCell ⟨g,259,none⟩ (.int .i64 0))):=⟨i.out.os,i.out.tape,i.out.output,by rw[size_set,size_set];exact i.out.size,fun k m c=>by rw[Below.heap_setCell _ _ _ k c,Below.heap_setCell _ _ _ k c];exact i.out.block k m c⟩
  have o:Hid (Box ((W.setCell ⟨g,2,none⟩ (.int .i64 (aw+256))).setCell ⟨g,259,none⟩ (.int .i64 0)) w.heap.size (Value.pointer p :: lat.map (Value.int .u8)) 124):=(l.off (g':=g) (by omega) (fun k hk=>Below.heap_setCell _ _ _ k hk)).off (g':=g) (by omega) (fun k hk=>Below.heap_setCell _ _ _ k hk);go_wp2;go_end0;exact⟨rfl,q,o.out,n.out⟩
end
end
section
open Go.RowKit Lim
section
variable {w w' w1:World}{b g o:Nat}{p ao:Option Addr}{ps l:List Int}{cs:List Value}{err:Int}{v:Value}{ops:Array Oper}{K:Act->World->Prop}
def PcL(w:World):List (Nat×List Int)->Option Addr->List Int->Prop
 | [],p,l=>p=none/\l=[]
 | x::r,p,l=>∃ q s,p=some ⟨x.1,0,none⟩/\l=s ++ x.2/\Box w x.1 (.pointer q::x.2.map (Value.int .u8)) 124/\x.2.length=256/\PcL w r q s
structure Pc(w:World)(p:Option Addr)(l:List Int):Prop where
 ex:∃ L,PcL w L p l
theorem Pc.nil:Pc w none []:=⟨[],rfl,rfl⟩
theorem Pc.cons{bs:List Int}(hb:Box w b (.pointer p::bs.map (Value.int .u8)) 124)(hl:bs.length=256)(h:Pc w p ps):Pc w (some ⟨b,0,none⟩) (ps ++ bs):=h.ex.elim fun L h=>⟨(b,bs)::L,p,ps,rfl,rfl,hb,hl,h⟩
theorem Pc.ind{M:(p:Option Addr)->(l:List Int)->Pc w p l->Prop}(nil:M none [] Pc.nil)(cons:∀ {b p ps bs} (hb:Box w b (.pointer p::bs.map (Value.int .u8)) 124) (hl:bs.length=256) (h:Pc w p ps),M p ps h->M (some ⟨b,0,none⟩) (ps ++ bs) (.cons hb hl h))(h:Pc w p l):M p l h:=by
 obtain⟨L,e⟩:=h.ex
 induction L generalizing p l with
 | nil=>
  obtain⟨rfl,rfl⟩:=e;exact nil
 | cons x r ih=>
  obtain⟨q,s,rfl,rfl,a,b,c⟩:=e;exact cons a b ⟨r,c⟩ (ih ⟨r,c⟩ c)
theorem Pc.off(h:Pc w p ps)(X:∃ T,T≠124/\Box w g cs T)(hw:∀ k,k < w.heap.size->k≠g->w'.heap[k]?=w.heap[k]?):Pc w' p ps:=by
 obtain⟨T,b,X⟩:=X
 induction h using Pc.ind with
 | nil=>exact .nil
 | cons hb hl _ ih =>
  refine .cons ⟨?_⟩ hl ih
  rw[hw _ hb.lt (fun e=>by
   subst e;have a:=hb.blk;rw[X.blk] at a;simp at a
   exact b a.2)]
  exact hb.blk
theorem Pc.keep(h:Pc w p ps)(hB:Below w.heap.size w w'):Pc w' p ps:=by
 induction h using Pc.ind with
 | nil=>exact .nil
 | cons hb hl _ ih=>exact .cons (hb.keep hB) hl ih
structure WrA(w:World)(g:Nat)(err:Int)(l:List Int):Prop where
 ex:∃ p ps lat,∃ u:Nat,cS w g err p (ps.length:Int) lat (u:Int)/\Pc w p ps/\u < 256/\l=ps ++ lat.take u
theorem WrA.lt(h:WrA w g err l):g < w.heap.size:=by
 obtain⟨p,ps,lat,u,X,_⟩:=h.ex;exact X.lt
theorem WrA.keep(h:WrA w g err l)(hB:Below w.heap.size w w'):WrA w' g err l:=by
 obtain⟨p,ps,lat,u,X,P,hu,e⟩:=h.ex;exact⟨p,ps,lat,u,X.keep hB,P.keep hB,hu,e⟩
theorem But.refl(g:Nat)(w:World):But g w w:=⟨rfl,rfl,rfl,Nat.le_refl _,fun _ _ _=>rfl⟩
theorem But.trans{d:World}(h:But g w w1)(a:But g w1 d):But g w d:=⟨a.os.trans h.os,a.tape.trans h.tape,a.output.trans h.output,Nat.le_trans h.size a.size,fun k c b=>(a.block k (Nat.lt_of_lt_of_le c h.size) b).trans (h.block k c b)⟩
theorem But.drew(h:But g w w1):But g w w1.drew:=⟨h.os,h.tape,h.output,h.size,h.block⟩
theorem But.cell(h:But g w w1)(hc:w.cell? ⟨b,o,none⟩=some v)(hb:b≠g):w1.cell? ⟨b,o,none⟩=some v:=by
 rw[World.cell?_of_block (w:=w) (h.block b (aE hc) hb)];exact hc
theorem Ck(err:Int)(p:Option Addr)(aw:Int)(lat ms:List Int)(x:Int)(u:Nat)(h:u+ms.length<=lat.length) :
  splice (dx err p aw lat x) (3+u) (ms.map (Value.int .u8))=dx err p aw (lat.take u ++ ms ++ lat.drop (u+ms.length)) x:=by
 unfold splice dx;rw[show 3+u=u+1+1+1 by omega,List.length_map,show u+1+1+1+ms.length=u+ms.length+1+1+1 by omega];simp only[List.take_succ_cons,List.drop_succ_cons,List.cons_append];rw[List.take_append_of_le_length (by rw[List.length_map];omega),List.drop_append_of_le_length (by rw[List.length_map];omega)];simp
theorem uD{P:Program}{o:Oper}{a:Act}{Q:Exit->Act->World->Prop}{E:Prop}(i:o.guard=none)(d s:Operand)(l n:TypeId)(ho:o.op=.call { callee:=.builtin .copy,args:=#[d,s],argTypes:=#[l,n] })(elem:TypeId)(hu:P.underlying l=some (.slice elem))(k:(P.info? elem).map (·.size)=some 1)(g off dLen dCap:Nat)(ad:Addr)(sLen sCap:Nat)(q:a.eval d=.slice (some ⟨g,off,none⟩) dLen dCap)(r:a.eval s=.slice (some ad) sLen sCap)(cur:List Value)(t:TypeId)(p:w.heap[g]?=some (.cells cur.toArray t (0,0)))(cs:List Value)(m:Nat)(hm:cs.length=m)(hn:m=Nat.min sLen dLen)(f:∀ j v,cs[j]?=some v->w.cell? (ad.add j)=some v)(c:off+m<=cur.length)(h1:∀ v∈cs,v.oneCell'=true)(h:∀ w',Hid (w'.heap[g]?=some (.cells (splice cur off cs).toArray t (0,0)))->Hid (∀ b,b≠g->w'.heap[b]?=w.heap[b]?)->Hid (w'.os=w.os/\w'.tape=w.tape/\w'.output=w.output/\w'.heap.size=w.heap.size)->K (a.put o.dst (.int .i64 (m:Int))) w') :
  if Region.wanted o (yielded ops a.tmps)=true then Oper.wp P o a w K Q else E:=by
 subst hm
 have hw:Region.wanted o (yielded ops a.tmps)=true:=by simp[Region.wanted,i]
 rw[if_pos hw];have e:=run_copy_row (P:=P) w l n o.type elem g off dLen dCap ad sLen sCap cur.toArray t cs hu k p hn f (by simpa using c) h1;unfold Oper.wp;simp[execOp,ho,resolve,invoke,builtin,q,r,e,Result.andThen];exact h _ (show _=_ by simpa[splice] using setRow_heap w g _ _ t _ p) (fun b hb=>setRow_other w g b _ hb) ⟨rfl,rfl,rfl,by simp[World.setRow]⟩
theorem vO:(Tryz.prog.info? 5).map (·.size)=some 1:=by kernel_rfl
theorem xR(g u:Nat)(h:u < 256)(W:World):(Instr.sliceAt 78 (.pointer (some ⟨g,3,none⟩)) (some (.int .i64 (u:Int))) none none).run Tryz.prog W=.ok (.slice (some ⟨g,3+u,none⟩) (256 - u) (256 - u)) W:=by
 have a:Tryz.prog.arrayLen 78=256:=by kernel_rfl
 have b:Tryz.prog.elem 78=5:=by kernel_rfl
 have hu:Tryz.prog.underlying 78=some (.array (Tryz.prog.arrayLen 78) (Tryz.prog.elem 78)):=by kernel_rfl
 have c:(sizeOf 5).run Tryz.prog W=.ok 1 W:=by kernel_rfl
 rw[run_sliceAt_array_l W 78 ⟨g,3,none⟩ hu .i64 (u:Int) (by omega) (by rw[a];omega),b,c,a];simp only[Result.andThen,slicedAt,Int.toNat_natCast,Nat.mul_one];rw[if_neg (by omega)];congr 3
 exact bZ g 3 u
theorem sliceB(ao:Option Addr)(n c m:Nat)(W:World)(hm:m<=n)(hn:n<=c):(Instr.sliceAt 29 (.slice ao n c) (some (.int .i64 (m:Int))) none none).run Tryz.prog W=.ok (.slice (cW ao c m) (n - m) (c - m)) W:=by
 have d:(m:Int)<=n:=by omega
 have b:(m:Int)<=c:=by omega
 unfold cW;split
 ·go_simp
 ·go_simp
def lenV(v:Value):Nat:=match v with
 | .slice _ n _=>n
 | _=>0
theorem wrLay{n c:Nat}{L:List Int}(X:WrA w g 0 L)(ha:AtB w ao b o l)(hl:l.length=n)(hc:n<=c)(hb:b≠g)(hbig:L.length+n<=4611686018427387904) :
  Calls Tryz.prog 82 #[.pointer (some ⟨g,0,none⟩),.slice ao n c] w fun e w'=>e=.returned (.tuple #[])/\WrA w' g 0 (L ++ l)/\But g w w':=by
 have HX:Hid (WrA w g 0 L):=X
 have HA:Hid (AtB w ao b o l):=ha;clear X ha;go_enter Tryz.func82,Tryz.ntmps82;go_wp2_with fail;go_loopw [1] (fun tb wr=>∃ k r a' D,Hid (k+r=n)/\tb=.slice a' r D/\r<=D/\Hid (0 < r->a'=some ⟨b,o+k,none⟩)/\WrA wr g 0 (L ++ l.take k)/\But g w wr) (fun tb _=>lenV tb)
 case atStart=>exact⟨0,n,ao,c,Nat.zero_add n,rfl,hc,fun h=>by
  rcases HA.out.loc with e | e
  ·rw[e] at hl;simp at hl;omega
  ·rw[e];rfl,by simpa using HX.out,But.refl _ _⟩
 case round =>
  obtain⟨k,r,a',D,hk,rfl,hkc,A,Y,y⟩:=hrel;obtain⟨p,ps,d,u,z,P0,hu,hL⟩:=Y.ex;have HL:=(show Hid _ from hL)
  have hps:(ps.length:Int)<=4611686018427387904:=by have i:=congrArg List.length hL;simp at i;have:=hk.out;omega
  have HP:=(show Hid _ from P0)
  have P:=(show Hid _ from y)
  have t:=kN z.c0
  have HY:Hid (WrA wr g 0 (L ++ l.take k)):=Y;clear hL P0 y Y;go_wp2_with fail;refine t.mono ?_
  rintro e w1 ⟨rfl,rfl⟩;clear t;by_cases H:0 < r
  ·obtain rfl:=A.out H
   have hlt':(0:Int) < r:=by omega
   obtain⟨m,hm⟩:∃ m,m=Nat.min r (256 - u):=⟨_,rfl⟩
   have hm1:m<=r:=by rw[hm];exact Nat.min_le_left _ _
   have hm2:m<=256 - u:=by rw[hm];exact Nat.min_le_right _ _
   have hm3:1<=m:=by rw[hm];exact Nat.le_min.2 ⟨H,by omega⟩
   have HM:=(show Hid _ from hm)
   clear hm;obtain⟨ms,x⟩:∃ ms,ms=(l.drop k).take m:=⟨_,rfl⟩
   have I:ms.length=m:=by rw[x,List.length_take,List.length_drop];have:=hk.out;omega
   have E:=z.len;have q:=(show Hid _ from I)
   have K:=(show Hid _ from x)
   have HS:Hid (∀ W,But g w W->∀ j v,(ms.map (Value.int .u8))[j]? = some v->W.cell? ((⟨b,o + k,none⟩:Addr).add j)=some v):=fun W hW j v Z=>by
    obtain⟨i,B⟩:=List.getElem?_eq_some_iff.1 Z;rw[List.length_map] at i;rw[List.getElem_map] at B;have hh:=hk.out;rw[bZ];refine hW.cell ?_ hb;rw[<- B,show o+k+j=o+(k+j) by omega,HA.out.cell (k+j) (by omega),<- cL i,x,df (by omega),dA]
   have J:=Ck 0 p (ps.length:Int) d ms (u:Int) u (by omega);have V:=(show Hid _ from J)
   have s:=(show Hid _ from E)
   clear J I x E;have cu:=z.cu;have hsl:=xR g u hu
   have HC:Hid (∀ W,(Instr.sliceAt 29 (.slice (some ⟨b,o+k,none⟩) r D) (some (.int .i64 (m:Int))) none none).run Tryz.prog W=.ok (.slice (cW (some ⟨b,o+k,none⟩) D m) (r - m) (D - m)) W):=fun W=>sliceB _ _ _ _ W hm1 hkc
   go_wp2_with fail;obtain⟨TW,hTW,U⟩:=z.blk;go_region_law (refine uD rfl (.tmp 21) (.tmp 22) 29 29 rfl 5 dr vO g (3+u) (256 - u) (256 - u) ⟨b,o+k,none⟩ r D (by rfl) (by rfl) _ TW U (ms.map (Value.int .u8)) m (by rw[List.length_map];exact q.out) HM.out (fun j v Z=>HS.out _ P.out.drew j v Z) (by simp[dx,s.out];omega) (by simp[Value.oneCell']) ?_;intro w4 M N f)
   have F:cS w4 g 0 p (ps.length:Int) (d.take u ++ ms ++ d.drop (u+ms.length)) (u:Int):=⟨by have:=q.out;have:=s.out;simp;omega,⟨TW,hTW,by rw[<- V.out];exact M.out⟩⟩
   have O:=F.setu ((u:Int)+(m:Int))
   have R:Hid (But g w1 (w4.setCell ⟨g,259,none⟩ (.int .i64 ((u:Int)+(m:Int))))):=⟨f.out.1,f.out.2.1,f.out.2.2.1,by rw[size_set,f.out.2.2.2];exact Nat.le_refl _,fun j i B=>by rw[Below.heap_setCell _ _ _ j B,N.out j B];rfl⟩
   have T:=F.cu;have fu4:=F.free 259;have cu5:=O.cu;have G:=HC.out;clear cu hsl M N f;by_cases hf:u+m=256
   ·have hq:(((u:Int) + (m:Int)) == 256)=true:=by rw[beq_iff_eq]; omega
    have HF:=(show Hid _ from hf)
    clear hf;go_wp2_with fail;refine(wrPut O (by omega) hps).mono ?_
    rintro e w6 ⟨rfl,Q,XB,C⟩
    have S:Hid (WrA w6 g 0 (L ++ l.take (k+m))):=by
     have i:=q.out;have B:=s.out;have h3:=HF.out
     have e1:d.drop (u+ms.length)=[]:=List.drop_eq_nil_of_le (by omega)
     have e2:L ++ l.take (k+m)=ps ++ (d.take u ++ ms ++ d.drop (u+ms.length)):=by
      rw[List.take_add,<- List.append_assoc,HL.out,<- K.out,e1,List.append_nil,List.append_assoc]
     refine⟨some ⟨_,0,none⟩,ps ++ (d.take u ++ ms ++ d.drop (u+ms.length)),d.take u ++ ms ++ d.drop (u+ms.length),0,?_,.cons XB Q.len (HP.out.off z.box (R.out.trans C).block),by omega,?_⟩
     ·have e3:(((ps ++ (d.take u ++ ms ++ d.drop (u + ms.length))).length:Nat):Int)=(ps.length:Int) + 256:=by rw[List.length_append,Q.len]; rfl
      rw[e3];exact Q
     ·rw[e2];simp
    have H7:Hid (But g w w6):=P.out.trans (R.out.trans C);clear Q XB C F O T cu5 fu4 hq z G;go_wp2;go_roundw
    case rel=>exact⟨k + m,r - m,_,_,by show _=_; have:=hk.out; omega,rfl,by omega,fun h=>by
     unfold cW;rw[if_neg (by omega)];show some ((⟨b,o+k,none⟩:Addr).add m)=_;rw[bZ,Nat.add_assoc],S.out,H7.out⟩
    case measure=>simp[lenV];omega
   ·have hq:(((u:Int) + (m:Int)) == 256)=false:=by rw[beq_eq_false_iff_ne]; omega
    have S:Hid (WrA (w4.setCell ⟨g,259,none⟩ (.int .i64 ((u:Int)+(m:Int)))) g 0 (L ++ l.take (k+m))):=by
     have i:=q.out;have B:=s.out;refine⟨p,ps,_,u+m,O,HP.out.off z.box R.out.block,by omega,?_⟩
     have e4:(d.take u ++ ms ++ d.drop (u+ms.length)).take (u+m)=d.take u ++ ms:=by
      rw[List.take_append_of_le_length (by simp;omega)];exact List.take_of_length_le (by simp;omega)
     rw[e4,List.take_add,<- List.append_assoc,HL.out,<- K.out,List.append_assoc]
    have H7:=(show Hid _ from P.out.trans R.out)
    have HF:=(show Hid _ from hf)
    clear hf F O z;go_wp2;go_roundw
    case rel=>exact⟨k + m,r - m,_,_,by show _=_; have:=hk.out; omega,rfl,by omega,fun h=>by
     unfold cW;rw[if_neg (by omega)];show some ((⟨b,o+k,none⟩:Addr).add m)=_;rw[bZ,Nat.add_assoc],S.out,H7.out⟩
    case measure=>simp[lenV];omega
  ·obtain rfl:r=0:=by omega
   have HE:Hid (WrA w1 g 0 (L ++ l)):=by
    have i:=HY.out;rw[List.take_of_length_le (by have:=hk.out;omega)] at i;exact i
   go_wp2;go_end0;exact⟨rfl,HE.out,P.out⟩
end
section
variable {x err:Int}{w:World}{g n c b o k m:Nat}{ao:Option Addr}{L l ds:List Int}{cs:List Value}
def be:Nat->Int->List Int
 | 0,_=>[]
 | m+1,x=>x / 256 ^ m % 256 :: be m x
theorem aI(m:Nat)(x:Int):(be m x).length=m:=by
 induction m with
 | zero=>rfl
 | succ m ih=>rw[be,List.length_cons,ih]
theorem Cr(m:Nat)(x:Int):∀ i,i < m->nth (be m x) i=x / 256 ^ (m - 1 - i) % 256:=by
 induction m with
 | zero=>intro i hi;omega
 | succ m ih =>
  intro i hi
  cases i with
  | zero=>rfl
  | succ i =>
   rw[be,dL,ih i (by omega),show m - 1 - i=m+1 - 1 - (i+1) by omega]
theorem fL(m:Nat)(x:Int):aK (be m x):=by
 induction m with
 | zero=>intro y hy;simp[be] at hy
 | succ m ih =>
  intro y hy;rw[be] at hy;rcases List.mem_cons.1 hy with e | e
  ·subst e;exact⟨Int.emod_nonneg _ (by decide),Int.emod_lt_of_pos _ (by decide)⟩
  ·exact ih y e
theorem po(m:Nat)(hx:0<=x):bP (be m x)=x % 256 ^ m:=by
 induction m with
 | zero=>simp[be,bP]
 | succ m ih=>rw[be,bP,aI,ih,<- mP x hx m]
def wrote(err:Int)(L l:List Int):List Int:=if err=0 then L ++ l else L
theorem wrLayE(X:WrA w g err L)(he:err≠0) :
  Calls Tryz.prog 82 #[.pointer (some ⟨g,0,none⟩),.slice ao n c] w fun e w'=>e=.returned (.tuple #[])/\w'=w:=by
 obtain⟨p,ps,f,u,b,_⟩:=X.ex;have t:=kN b.c0;rw[beq_eq_false_iff_ne.2 he] at t;clear X b he;go_enter Tryz.func82,Tryz.ntmps82;go_wp2_with fail;go_loopw [1] (fun d wr=>d=.slice ao n c/\wr=w) (fun _ _=>0)
 case atStart=>exact⟨rfl,rfl⟩
 case round =>
  obtain⟨rfl,rfl⟩:=hrel;go_wp2_with fail;refine t.mono ?_
  rintro e i ⟨rfl,rfl⟩;clear t;go_wp2;go_end0;exact⟨rfl,rfl⟩
theorem Bg(X:WrA w g err L)(h:AtB w ao b o l)(d:l.length=n)(hc:n<=c)(hb:b≠g)(a:L.length+n<=4611686018427387904) :
  Calls Tryz.prog 82 #[.pointer (some ⟨g,0,none⟩),.slice ao n c] w fun e w'=>e=.returned (.tuple #[])/\WrA w' g err (wrote err L l)/\But g w w':=by
 unfold wrote;by_cases he:err=0
 ·subst he;rw[if_pos rfl];exact wrLay X h d hc hb a
 ·rw[if_neg he];refine(wrLayE X he).mono ?_
  rintro e w' ⟨i,f⟩;subst f;exact⟨i,X,But.refl _ _⟩
theorem slice8(g m:Nat)(h:m<=8)(W:World):(Instr.sliceAt 164 (.pointer (some ⟨g,0,none⟩)) none (some (.int .i64 (m:Int))) none).run Tryz.prog W=.ok (.slice (some ⟨g,0,none⟩) m 8) W:=by
 have b:(m:Int)<=8:=by omega
 go_simp
theorem AF{v:Int}(hk:k < ds.length):(ds.set k v).take (k+1)=ds.take k ++ [v]:=by
 rw[eF (by rw[List.length_set];exact hk),dq hk,if_pos rfl,List.take_set_of_le (Nat.le_refl _)]
theorem Box.bytes{t:TypeId}(h:Box w g (ds.map (Value.int .u8)) t){i:Nat}(hi:i < ds.length):w.cell? ⟨g,i,none⟩=some (.int .u8 (nth ds i)):=by
 simp[World.cell?,h.blk,hi,cL hi]
theorem Box.thaw{t:TypeId}(h:Box w g cs t)(i:Nat):w.frozen? ⟨g,i,none⟩=false:=by simp[World.frozen?,h.blk]
theorem Box.setB{t:TypeId}(h:Box w g (ds.map (Value.int .u8)) t)(i:Nat)(x:Int):Box (w.setCell ⟨g,i,none⟩ (.int .u8 x)) g ((ds.set i x).map (Value.int .u8)) t:=⟨by
 have hb:=h.blk;simp only[World.setCell,Array.getElem?_modify,if_true,hb]
 simp⟩
theorem uZ(X:WrA w g err L)(hm:m<=8)(C:L.length+8<=4611686018427387904) :
  Calls Tryz.prog 52 #[.pointer (some ⟨g,0,none⟩),.int .u64 x,.int .i64 m] w fun e w'=>e=.returned (.tuple #[])/\WrA w' g err (wrote err L (be m x))/\But g w w':=by
 have M:Hid (WrA w g err L):=X;have O:=X.lt;have N:=gO w ((List.replicate 8 (0:Int)).map (Value.int .u8)) 164;have B:=aa w (.cells #[.int .u8 0,.int .u8 0,.int .u8 0,.int .u8 0,.int .u8 0,.int .u8 0,.int .u8 0,.int .u8 0] 164);have F:=(show Hid _ from N)
 have u:=(show Hid _ from B)
 clear X N B;go_enter Tryz.func52,Tryz.ntmps52;go_wp2_with fail;go_loopw [9] (fun v wr=>∃ (k:Nat) (o:List Int),k<=m/\v=.int .i64 k/\o.length=8/\Hid (o.take k=(be m x).take k)/\Box wr w.heap.size (o.map (Value.int .u8)) 164/\Below w.heap.size w wr) (fun v _=>m - (intOf v).toNat)
 case atStart=>exact⟨0,List.replicate 8 0,Nat.zero_le _,rfl,rfl,rfl,F.out,u.out⟩
 case round =>
  obtain⟨k,o,hk,rfl,hlen,f,d,b⟩:=hrel;by_cases j:k < m
  ·obtain⟨h,P⟩:∃ h:Nat,(m:Int) - 1 - k=h:=⟨m - 1 - k,by omega⟩
   have q:m - 1 - k=h:=by omega
   have K:Hid ((o.set k (x / 2 ^ (8 * h) % 256)).take (k+1)=(be m x).take (k+1)):=by
    have e1:(256:Int) ^ h=2 ^ (8 * h):=by rw[Int.pow_mul];rfl
    show _=_
    rw[AF (by omega),f.out,eF (by rw[aI];exact j),Cr m x k j,q,e1]
   have E:(k:Int) < 8:=by omega
   have I:h < 8:=by omega
   have c1:=d.bytes (i:=k) (by omega);have f1:=d.thaw k;have D:=(show Hid _ from d.setB k (x / 2 ^ (8 * h) % 256))
   have y:=(show Hid _ from b)
   have r:=(show Hid _ from hlen)
   clear q d b f hlen;go_wp2_with fail;refine⟨⟨k+1,_,by omega,by go_num,by rw[List.length_set];exact r.out,K.out,D.out,y.out.setCell (p:=⟨w.heap.size,k,none⟩) (Nat.le_refl _) _⟩,by simp[intOf];omega⟩
  ·obtain rfl:k=m:=by omega
   have A:AtB wr (some ⟨w.heap.size,0,none⟩) w.heap.size 0 (be k x):=⟨.inr rfl,fun i hi=>by
    rw[aI] at hi;have e:=f.out;rw[List.take_of_length_le (l:=be k x) (by rw[aI];exact Nat.le_refl _)] at e
    rw[Nat.zero_add,d.bytes (by omega),<- e,df hi]⟩
   have t:=Bg (n:=k) (c:=8) (M.out.keep b) A (aI k x) hm (by omega) (by omega);have J:=slice8 w.heap.size k hm
   have y:Hid (∀ w',But g wr w'->But g w w'):=fun w' hb=>(⟨b.os,b.tape,b.output,b.size,fun k s _=>b.block k s⟩:But g w wr).trans hb
   clear A d b f;go_wp2_with fail;refine t.mono ?_
   rintro e H ⟨rfl,s,z⟩;have G:=(show Hid _ from y.out H z)
   clear t z;go_wp2;go_end0;exact⟨rfl,s,G.out⟩
theorem yD(h:n < 256 ^ k):(n:Int) / 2 ^ (8 * k)=0:=by
 have e:(2:Int) ^ (8 * k)=((256 ^ k:Nat):Int):=by rw[Int.pow_mul,Int.natCast_pow];rfl
 rw[e];exact Int.ediv_eq_zero_of_lt (by omega) (by omega)
def kA(m:Nat)(l:List Int):List Int:=be m l.length ++ l
theorem ya(err:Int)(L l r:List Int):wrote err (wrote err L l) r=wrote err L (l ++ r):=by
 unfold wrote;by_cases h:err=0
 ·rw[if_pos h,if_pos h,if_pos h,List.append_assoc]
 ·rw[if_neg h,if_neg h,if_neg h]
theorem xv(err:Int)(L l:List Int):(wrote err L l).length<=L.length+l.length:=by
 unfold wrote;split
 ·rw[List.length_append];exact Nat.le_refl _
 ·exact Nat.le_add_right _ _
theorem But.at{w':World}(h:But g w w')(k:AtB w ao b o l)(hb:b≠g):AtB w' ao b o l:=⟨k.loc,fun i hi=>h.cell (k.cell i hi) hb⟩
theorem wrCnt(X:WrA w g err L)(r:AtB w ao b o l)(p:l.length=n)(hc:n<=c)(hb:b≠g)(hm:m=1\/m=4)(hn:n < 256 ^ m)(q:L.length+n+16<=4611686018427387904) :
  Calls Tryz.prog 256 #[.pointer (some ⟨g,0,none⟩),.slice ao n c,.int .i64 m] w fun e w'=>e=.returned (.tuple #[])/\WrA w' g err (wrote err L (kA m l))/\But g w w':=by
 have t:=uZ (m:=m) (x:=(n:Int)) X (by omega) (by omega);have B:=yD hn
 have u:m<=4:=by omega
 have A:=(show Hid _ from hm)
 have C:=(show Hid _ from hn)
 clear X hm hn;go_enter Tryz.func256,Tryz.ntmps256;go_wp2_with fail;refine t.mono ?_
 rintro e z ⟨rfl,s,d⟩;have t2:=Bg s (d.at r hb) p hc hb (by have:=xv err L (be m n);rw[aI] at this;omega);rw[ya] at t2
 have v:Hid (be m n ++ l=kA m l):=by show _=_;unfold kA;rw[p]
 have i:=(show Hid _ from d)
 clear t s d r;go_wp2_with fail;refine t2.mono ?_
 rintro e D ⟨rfl,y,f⟩;have j:=(show Hid _ from i.out.trans f)
 clear t2 f;go_wp2;go_end0;exact⟨rfl,by rw[<- v.out];exact y,j.out⟩
theorem ES(h:256 ^ k<=n):((n:Int) / 2 ^ (8 * k) != 0)=true:=by
 have e:(2:Int) ^ (8 * k)=((256 ^ k:Nat):Int):=by rw[Int.pow_mul,Int.natCast_pow];rfl
 rw[e,bne_iff_ne]
 have b:0 < n / 256 ^ k:=Nat.div_pos h (Nat.pow_pos (by decide))
 have a:(n:Int) / ((256 ^ k:Nat):Int)=((n / 256 ^ k:Nat):Int):=rfl;omega
def long(err:Int):Int:=if err=0 then 42 else err
theorem Eg{e0:Int}(X:WrA w g err L) :
  Calls Tryz.prog 81 #[.pointer (some ⟨g,0,none⟩),.int .i64 e0] w fun e w'=>e=.returned (.tuple #[])/\WrA w' g (if err=0 then e0 else err) L/\But g w w':=by
 obtain⟨p,ps,c,u,a,i,hu,h⟩:=X.ex;by_cases he:err=0
 ·subst he;rw[if_pos rfl];refine(stMeet a.c0 (a.free 0)).mono ?_
  rintro e w' ⟨b,rfl⟩
  have d:But g w (w.setCell ⟨g,0,none⟩ (.int .i64 e0)):=⟨rfl,rfl,rfl,by rw[size_set];exact Nat.le_refl _,fun k _ f=>Below.heap_setCell _ _ _ k f⟩
  exact⟨b,⟨p,ps,c,u,a.set0 e0,i.off a.box d.block,hu,h⟩,d⟩
 ·rw[if_neg he];refine(DV a.c0 (beq_eq_false_iff_ne.2 he)).mono ?_
  rintro e w' ⟨b,rfl⟩;exact⟨b,X,But.refl _ _⟩
theorem xJ(X:WrA w g err L)(hc:n<=9223372036854775807)(hm:m<=4)(hn:256 ^ m<=n) :
  Calls Tryz.prog 256 #[.pointer (some ⟨g,0,none⟩),.slice ao n c,.int .i64 m] w fun e w'=>e=.returned (.tuple #[])/\WrA w' g (long err) L/\But g w w':=by
 have t:=Eg (e0:=42) X;have l:=ES hn;have o:=(show Hid _ from hn)
 clear X hn;go_enter Tryz.func256,Tryz.ntmps256;go_wp2_with fail;refine t.mono ?_
 rintro e j ⟨rfl,f,b⟩;have i:=(show Hid _ from f)
 have d:=(show Hid _ from b)
 clear t f b;go_wp2;(try simp only[Exit.inBlock,Exit.then])
 refine bodyPost_ret (results_none rfl _ _ _) rfl ?_
 exact⟨rfl,i.out,d.out⟩
theorem wrU8(X:WrA w g err L)(d:0<=x)(hx:x < 256)(b:L.length+8<=4611686018427387904) :
  Calls Tryz.prog 209 #[.pointer (some ⟨g,0,none⟩),.int .u8 x] w fun e w'=>e=.returned (.tuple #[])/\WrA w' g err (wrote err L (be 1 x))/\But g w w':=by
 have t:=uZ (m:=1) (x:=x) X (by decide) b;clear X;go_enter Tryz.func209,Tryz.ntmps209;go_wp2_with fail;refine t.mono ?_
 rintro e i ⟨rfl,f,c⟩;clear t;go_wp2;go_end0;exact⟨rfl,f,c⟩
theorem wrU32(X:WrA w g err L)(d:0<=x)(hx:x < 4294967296)(b:L.length+8<=4611686018427387904) :
  Calls Tryz.prog 28 #[.pointer (some ⟨g,0,none⟩),.int .u32 x] w fun e w'=>e=.returned (.tuple #[])/\WrA w' g err (wrote err L (be 4 x))/\But g w w':=by
 have t:=uZ (m:=4) (x:=x) X (by decide) b;clear X;go_enter Tryz.func28,Tryz.ntmps28;go_wp2_with fail;refine t.mono ?_
 rintro e i ⟨rfl,f,c⟩;clear t;go_wp2;go_end0;exact⟨rfl,f,c⟩
theorem Fx(X:WrA w g err L)(b:L.length+8<=4611686018427387904) :
  Calls Tryz.prog 53 #[.pointer (some ⟨g,0,none⟩),.int .u64 x] w fun e w'=>e=.returned (.tuple #[])/\WrA w' g err (wrote err L (be 8 x))/\But g w w':=by
 have t:=uZ (m:=8) (x:=x) X (by decide) b;clear X;go_enter Tryz.func53,Tryz.ntmps53;go_wp2_with fail;refine t.mono ?_
 rintro e f ⟨rfl,d,c⟩;clear t;go_wp2;go_end0;exact⟨rfl,d,c⟩
theorem wrBool{x:Bool}(X:WrA w g err L)(b:L.length+8<=4611686018427387904) :
  Calls Tryz.prog 164 #[.pointer (some ⟨g,0,none⟩),.bool x] w fun e w'=>e=.returned (.tuple #[])/\WrA w' g err (wrote err L (be 1 (if x then 1 else 0)))/\But g w w':=by
 cases x
 ·have t:=wrU8 (x:=0) X (by decide) (by decide) b;clear X;go_enter Tryz.func164,Tryz.ntmps164;go_wp2_with fail;refine t.mono ?_
  rintro e f ⟨rfl,d,c⟩;clear t;go_wp2;go_end0;exact⟨rfl,d,c⟩
 ·have t:=wrU8 (x:=1) X (by decide) (by decide) b;clear X;go_enter Tryz.func164,Tryz.ntmps164;go_wp2_with fail;refine t.mono ?_
  rintro e f ⟨rfl,d,c⟩;clear t;go_wp2;go_end0;exact⟨rfl,d,c⟩
end
section
variable {V err:Int}{g n c:Nat}{w:World}{ao:Option Addr}{L:List Int}
def gg(V:Int):List Int:=be ((bitLen V.toNat+7) / 8) V
theorem ve(b:0<=V):IsB (gg V) V:=by
 obtain⟨c,f⟩:=om b;unfold gg;generalize (bitLen V.toNat+7) / 8=k at *;refine⟨fL k V,fun a=>?_,by rw[po k b,Int.emod_eq_of_lt b c]⟩
 have hk:k≠0:=fun e=>a (by rw[e];rfl)
 rw[Cr k V 0 (by omega),show k - 1 - 0=k - 1 by omega]
 have d:(0:Int) < 256 ^ (k - 1):=Int.pow_pos (by decide)
 have q1:1<=V / 256 ^ (k - 1):=by rw[Int.le_ediv_iff_mul_le d];have:=f hk;omega
 have g:V / 256 ^ (k - 1) < 256:=by
  rw[Int.ediv_lt_iff_lt_mul d,Int.mul_comm,<- Int.pow_succ,show (k - 1).succ=k from by omega];exact c
 rw[Int.emod_eq_of_lt (by omega) g];omega
theorem zP(V:Int):aK (gg V):=fL _ _
def iH(V err:Int):Int:=if (gg V).length < 256 then err else long err
def jL(V err:Int)(L:List Int):List Int:=if (gg V).length < 256 then wrote err L (kA 1 (gg V)) else L
theorem But.of{w':World}(h:Below w.heap.size w w'):But g w w':=⟨h.os,h.tape,h.output,h.size,fun k h1 _=>h.block k h1⟩
theorem wrNat(X:WrA w g err L)(h:aT w ao n c V)(hn:n<=1099511627776)(F:L.length+8 * n+16<=4611686018427387904) :
  Calls Tryz.prog 210 #[.pointer (some ⟨g,0,none⟩),.slice ao n c] w fun e w'=>e=.returned (.tuple #[])/\WrA w' g (iH V err) (jL V err L)/\But g w w':=by
 obtain⟨b,o,l,D,A,p,B,x⟩:=h.ex;have t:=wS ao n c b o l w D A hn p B;rw[x] at t
 have H:0<=V:=by rw[<- x];exact aL p
 have Q:=X.lt
 have N:Hid (WrA w g err L):=X;clear X h D A p B x;go_enter Tryz.func210,Tryz.ntmps210;go_wp2_with fail;refine t.mono ?_
 rintro e O ⟨v,r,rfl,G,E,-,J,z⟩;obtain⟨y,P,R,I,rfl,u,K,hA,-⟩:=G.is;obtain rfl:=mD E (ve H);have j:=N.out.keep z;have C:=(show Hid _ from z)
 clear t G E z;by_cases d:(gg V).length < 256
 ·have t2:=wrCnt (m:=1) j hA rfl u (by omega) (.inl rfl) (by simpa using d) (by omega)
  have i:Hid (iH V err=err/\jL V err L=wrote err L (kA 1 (gg V))):=by
   unfold iH jL;rw[if_pos d,if_pos d];exact⟨rfl,rfl⟩
  clear j hA d;go_wp2_with fail;refine t2.mono ?_
  rintro e M ⟨rfl,s,f⟩;have q:=(show Hid _ from(But.of (g:=g) C.out).trans f)
  clear t2 f;go_wp2;go_end0;exact⟨rfl,by rw[i.out.1,i.out.2];exact s,q.out⟩
 ·have t2:=xJ (ao:=y) (c:=I) (m:=1) (n:=(gg V).length) j (by omega) (by decide) (by omega)
  have i:Hid (iH V err=long err/\jL V err L=L):=by
   unfold iH jL;rw[if_neg d,if_neg d];exact⟨rfl,rfl⟩
  clear j hA d;go_wp2_with fail;refine t2.mono ?_
  rintro e M ⟨rfl,s,f⟩;have q:=(show Hid _ from(But.of (g:=g) C.out).trans f)
  clear t2 f;go_wp2;go_end0;exact⟨rfl,by rw[i.out.1,i.out.2];exact s,q.out⟩
theorem zj(X:WrA w g err L)(h:aT w ao n c V)(hn:n<=1099511627776)(d:L.length+8 * n+16<=4611686018427387904) :
  Calls Tryz.prog 166 #[.pointer (some ⟨g,0,none⟩),.agg #[.slice ao n c]] w fun e w'=>e=.returned (.tuple #[])/\WrA w' g (iH V err) (jL V err L)/\But g w w':=by
 have f:Hid (Below w.heap.size w (w.alloc (.cells #[.slice ao n c] 55))):=aa w _;have t:=wrNat (X.keep f.out) (h.keep f.out) hn d;clear X h;go_enter Tryz.func166,Tryz.ntmps166;go_wp2_with fail;refine t.mono ?_
 rintro e j ⟨rfl,i,b⟩;replace b:=(show Hid _ from(But.of (g:=g) f.out).trans b)
 clear t f;go_wp2;go_end0;exact⟨rfl,i,b.out⟩
end
section
variable {err:Int}{l:List Int}{w:World}{b g n c m:Nat}{ao:Option Addr}{cs:List Value}{y:Value}
def rdE{α:Type}(r:Int ⊕ α × Nat)(err:Int):Int:=if err=0 then (match r with | .inl e=>e | .inr _=>0) else err
def rdL{α:Type}(r:Int ⊕ α × Nat)(err:Int)(l:List Int):List Int:=if err=0 then (match r with | .inl _=>l | .inr p=>l.drop p.2) else l
def rdV{α:Type}(z:α)(r:Int ⊕ α × Nat)(err:Int):α:=if err=0 then (match r with | .inl _=>z | .inr p=>p.1) else z
def cQ(m:Nat)(l:List Int):Int ⊕ Int × Nat:=if m<=l.length then .inr (bP (l.take m),m) else .inl 40
def bS(l:List Int):Int ⊕ Bool × Nat:=if 1<=l.length then (if 1 < bP (l.take 1) then .inl 41 else .inr (bP (l.take 1) == 1,1)) else .inl 40
def cA(m:Nat)(l:List Int):Nat:=(bP (l.take m)).toNat
def cO(l:List Int):Int ⊕ Int × Nat:=if 1<=l.length then (if 1+cA 1 l<=l.length then (if 0 < cA 1 l/\nth (l.drop 1) 0=0 then .inl 41 else .inr (bP ((l.drop 1).take (cA 1 l)),1+cA 1 l)) else .inl 40) else .inl 40
theorem lI{α:Type}{r:Int ⊕ α × Nat}(h:err≠0):rdE r err=err:=by unfold rdE;rw[if_neg h]
theorem pX{α:Type}{r:Int ⊕ α × Nat}(h:err≠0):rdL r err l=l:=by unfold rdL;rw[if_neg h]
theorem qm{α:Type}{z:α}{r:Int ⊕ α × Nat}(h:err≠0):rdV z r err=z:=by unfold rdV;rw[if_neg h]
theorem wo(m:Nat)(err:Int)(l:List Int):qe m err l=rdV 0 (cQ m l) err:=by
 unfold qe rdV cQ;by_cases h1:err=0<;>by_cases h2:m<=l.length<;>simp[h1,h2]
theorem vE(m:Nat)(err:Int)(l:List Int):qn m err l=rdE (cQ m l) err:=by
 unfold qn rdE cQ;by_cases h1:err=0<;>by_cases h2:m<=l.length<;>simp[h1,h2]
theorem wH(m:Nat)(err:Int)(l:List Int):qH m err l=rdL (cQ m l) err l:=by
 unfold qH rdL cQ;by_cases h1:err=0<;>by_cases h2:m<=l.length<;>simp[h1,h2]
theorem ByA.but{w':World}(h:ByA w b ao n c l){t:TypeId}(s:Box w g cs t)(hv:∀ v∈cs,∀ x,v≠.int .u8 x)(p:But g w w'):ByA w' b ao n c l:=by
 obtain⟨o,k,f,m,j,a⟩:=h.ex;refine⟨o,k,f,m,j,a.loc,fun i hi=>?_⟩;have hc:=a.cell i hi;refine p.cell hc (fun e=>?_);subst e;simp only[World.cell?,s.blk] at hc
 have d:cs.toArray[o+i]?=some (.int .u8 (nth l i)):=by simpa using hc
 rw[List.getElem?_toArray] at d;exact absurd rfl (hv _ (List.mem_of_getElem? d) _)
theorem RdA.back{w1:World}(e0:Int)(X:Box w g [.int .i64 0,.slice ao n c] 161)(A:ByA w b ao n c l)(a:But g w w1)(Y:Box w1 g [.int .i64 0,y] 161) :
  RdA ((w1.setCell ⟨g,1,none⟩ (.slice ao n c)).setCell ⟨g,0,none⟩ (.int .i64 e0)) g b e0 l/\But g w ((w1.setCell ⟨g,1,none⟩ (.slice ao n c)).setCell ⟨g,0,none⟩ (.int .i64 e0)):=by
 have H:But g w ((w1.setCell ⟨g,1,none⟩ (.slice ao n c)).setCell ⟨g,0,none⟩ (.int .i64 e0)):=⟨a.os,a.tape,a.output,by rw[size_set,size_set];exact a.size,fun k e d=>by rw[Below.heap_setCell _ _ _ k d,Below.heap_setCell _ _ _ k d];exact a.block k e d⟩
 exact⟨⟨ao,n,c,ko (eO Y _) _,A.but X (lA _ _ _ _) H⟩,H⟩
theorem RdA.lt(h:RdA w g b err l):g < w.heap.size:=by
 obtain⟨_,_,_,X,_⟩:=h.ex;exact X.lt
theorem Fp(h:RdA w g b 0 l)(hm:m<=l.length)(i:m<=8) :
  Calls Tryz.prog 123 #[.pointer (some ⟨g,0,none⟩),.int .u64 m] w fun e w'=>e=.returned (.tuple #[.int .u64 (bP (l.take m)),.int .i64 0])/\RdA w' g b 0 (l.drop m)/\But g w w':=by
 obtain⟨d,n,c,X,A⟩:=h.ex;obtain⟨o,j,a,⟨p,-⟩,-,-⟩:=A.ex;refine(rdNum X A (by omega:m<=n) i).mono ?_
 rintro e w' ⟨f,rfl⟩
 have H:But g w (w.setCell ⟨g,1,none⟩ (.slice (cW d c m) (n - m) (c - m))):=⟨rfl,rfl,rfl,by rw[size_set];exact Nat.le_refl _,fun k _ a=>Below.heap_setCell _ _ _ k a⟩
 exact⟨f,⟨_,_,_,eO X _,(A.rest (by omega)).but X (lA _ _ _ _) H⟩,H⟩
theorem zM(h:RdA w g b 0 l)(hm:l.length < m) :
  Calls Tryz.prog 123 #[.pointer (some ⟨g,0,none⟩),.int .u64 m] w fun e w'=>e=.returned (.tuple #[.int .u64 0,.int .i64 40])/\w'=w:=by
 obtain⟨a,n,c,X,A⟩:=h.ex;obtain⟨o,f,d,⟨i,-⟩,-,-⟩:=A.ex;exact AH X (by omega) (by omega)
theorem BO(h:RdA w g b 0 l)(hm:m<=l.length) :
  Calls Tryz.prog 157 #[.pointer (some ⟨g,0,none⟩),.int .u64 m] w fun e w'=>∃ ao,e=.returned (.tuple #[.slice ao m m,.int .i64 0])/\ByA w' b ao m m (l.take m)/\RdA w' g b 0 (l.drop m)/\But g w w':=by
 obtain⟨ao,n,c,X,A⟩:=h.ex;obtain⟨o,i,a,⟨f,-⟩,-,-⟩:=A.ex;refine(Cj X a f (by omega:m<=n)).mono ?_
 rintro e w' ⟨d,rfl⟩
 have H:But g w (w.setCell ⟨g,1,none⟩ (.slice (cW ao c m) (n - m) (c - m))):=⟨rfl,rfl,rfl,by rw[size_set];exact Nat.le_refl _,fun k _ a=>Below.heap_setCell _ _ _ k a⟩
 exact⟨ao,d,(A.front (by omega)).but X (lA _ _ _ _) H,⟨_,_,_,eO X _,(A.rest (by omega)).but X (lA _ _ _ _) H⟩,H⟩
theorem Fb(h:RdA w g b 0 l)(hm:l.length < m) :
  Calls Tryz.prog 157 #[.pointer (some ⟨g,0,none⟩),.int .u64 m] w fun e w'=>e=.returned (.tuple #[.slice none 0 0,.int .i64 40])/\w'=w:=by
 obtain⟨a,n,c,X,A⟩:=h.ex;obtain⟨o,f,d,⟨i,-⟩,-,-⟩:=A.ex;exact vf X (by omega) (by omega)
theorem RdA.oct(h:RdA w g b err l):aK l:=by
 obtain⟨_,_,_,_,A⟩:=h.ex;obtain⟨o,_,_,_,h4,_⟩:=A.ex;exact h4
theorem rD(h:RdA w g b err l):((cA m l:Nat):Int)=bP (l.take m):=by
 unfold cA;rw[Int.toNat_of_nonneg (bL (fun x hx=>h.oct x (List.mem_of_mem_take hx))).1]
theorem Ej(h:RdA w g b 0 l) :
  Calls Tryz.prog 155 #[.pointer (some ⟨g,0,none⟩)] w fun e w'=>∃ v,e=.returned (.tuple #[v,.int .i64 (rdE (bS l) 0)])/\∃ l1,RdA w' g b 0 l1/\But g w w'/\∀ x k,bS l=.inr (x,k)->l1=l.drop k/\v=.bool x:=by
 by_cases i:1<=l.length
 ·have t:=Fp (m:=1) h i (by decide);by_cases hx:1 < bP (l.take 1)
  ·have c:bS l=.inl 41:=by unfold bS; rw[if_pos i,if_pos hx]
   have f:Hid (rdE (bS l) 0=41):=by show _=_;rw[c];rfl
   have d:=(show Hid _ from c)
   clear c h
   have j:(bP (l.take 1) == 1)=false:=by rw[beq_eq_false_iff_ne];omega
   generalize bP (l.take 1)=X at *;go_enter Tryz.func155,Tryz.ntmps155;go_wp2_with fail;refine t.mono ?_
   rintro e p ⟨rfl,o,n⟩;clear t;go_wp2;go_ret2;exact⟨_,by rw[f.out];rfl,_,o,n,fun x k e=>by rw[d.out] at e;cases e⟩
  ·have c:bS l=.inr (bP (l.take 1) == 1,1):=by unfold bS; rw[if_pos i,if_neg hx]
   have f:Hid (rdE (bS l) 0=0):=by show _=_;rw[c];rfl
   have d:=(show Hid _ from c)
   clear c h;generalize bP (l.take 1)=X at *
   have j:X<=1:=by omega
   clear hx;go_enter Tryz.func155,Tryz.ntmps155;go_wp2_with fail;refine t.mono ?_
   rintro e p ⟨rfl,o,n⟩;clear t;go_wp2;go_ret2;exact⟨_,by rw[f.out];rfl,_,o,n,fun x k e=>by rw[d.out] at e;cases e;exact⟨rfl,rfl⟩⟩
 ·have t:=zM (m:=1) h (by omega)
  have c:bS l=.inl 40:=by unfold bS;rw[if_neg i]
  have f:Hid (rdE (bS l) 0=40):=by show _=_;rw[c];rfl
  have d:=(show Hid _ from c)
  have q:=(show Hid _ from h)
  clear c h i;go_enter Tryz.func155,Tryz.ntmps155;go_wp2_with fail;refine t.mono ?_
  rintro e p ⟨rfl,rfl⟩;clear t;go_wp2;go_ret2;exact⟨_,by rw[f.out];rfl,_,q.out,⟨rfl,rfl,rfl,Nat.le_refl _,fun _ _ _=>rfl⟩,fun x k e=>by rw[d.out] at e;cases e⟩
end
theorem cT (ao:Option Addr) (n c b o:Nat) (l:List Int) (w:World) (s:l.length=n) (F:n≤1099511627776) (m:ao=none→c=0) (t:AtB w ao b o l) :
    Calls Tryz.prog 78 #[.slice ao n c] w fun e w'=>∃ v,e=.returned v∧rB w' w.heap.size v l∧Below w.heap.size w w':=by
  obtain⟨i0,hi,A,C,r⟩:= info_parts lS
  have I:∀ (w:World) (a:Option Addr) (n c y z:Nat),(binOp .eql 29 (.slice a n c) (.slice none y z)).run Tryz.prog w=.ok (.bool a.isNone) w:=fun w a n c y z=>Lib.run_eql_slice_nil w _ _ a n c y z dr
  cases ao with
  | none =>
    have G : l = [] := by rcases t.loc with e | e
                          · exact e
                          · simp at e
    subst G
    have D:n=0:=s.symm;subst D;have q:=m rfl;subst q
    have d:w.ownsRow w.heap.size 5 1 (.slice none 0 0) 0 []:=World.ownsRow_nil _ _ _ _;go_enter Tryz.func78,Tryz.ntmps78;go_wp2;go_ret;exact⟨_,rfl,d,Below.refl _ _⟩
  | some x =>
    have E:=aa w (.cells #[] 5)
    have d:(w.alloc (.cells #[] 5)).ownsRow w.heap.size 5 1 (.slice (some ⟨w.heap.size,0,none⟩) 0 0) 0 []:=⟨rfl,.inr ⟨w.heap.size,0,#[],rfl,Nat.le_refl _,(gO w [] 5).blk,Nat.le_refl _,by decide,rfl,rfl⟩⟩
    have p:∀ j u,(l.map (Value.int .u8))[j]?=some u→(w.alloc (.cells #[] 5)).cell? (x.add j)=some u:=by
      intro j u hu;rw[List.getElem?_map] at hu
      have f:j < l.length:=by
        rcases Nat.lt_or_ge j l.length with f | f
        · exact f
        · rw[List.getElem?_eq_none f] at hu;simp at hu
      rw[List.getElem?_eq_getElem f] at hu;simp at hu;subst hu
      have hx:x=⟨b,o,none⟩:= by
        rcases t.loc with e | e
        · subst e;simp at f
        · simpa using e
      subst hx;have:=(t.keep E).cell j f;rw[cL f] at this;rw[bZ];exact this
    have B:=(show Hid _ from E);clear E;go_enter Tryz.func78,Tryz.ntmps78;go_wp2_with (at_builtin;refine wpList_append_own _ rfl _ _ 29 rfl w.heap.size 5 i0 (.int .u8 0) 1 1 dr hi A C r rfl (by decide) _ _ _ rfl d x n c (l.map (Value.int .u8)) rfl (by simp[s]) ?c1 ?c2 ?c3 ?c4 ?c5 ?_)
    case c1=>exact p
    case c2=>exact ints_oneCell _ _
    case c3=>unfold maxLen;omega
    case c4=>omega
    case c5=>exact B.out.size
    intro H J g i _;go_wp2;go_ret;refine⟨H,rfl,?_,B.out.grown i B.out.size (own_ge d)⟩;unfold rB;rw[s];simpa using g
theorem Ca {w:World} {g b m:Nat} {err:Int} {l:List Int} (h:RdA w g b err l) (hm:m<=l.length):((cA m l:Nat):Int) < 256 ^ m:=by
 have:=(bL (l:=l.take m) (fun x hx=>h.oct x (List.mem_of_mem_take hx))).2;rw[List.length_take,Nat.min_eq_left hm] at this;rw[rD h];exact this
section
variable {l:List Int}{e0 err:Int}{w w':World}{g b G:Nat}{v:Value}
theorem zn(h:bS l=.inl e0):e0≠0:=by
 unfold bS at h
 repeat' split at h
 all_goals (cases h;try decide)
theorem EG(h:cO l=.inl e0):e0≠0:=by
 unfold cO at h
 repeat' split at h
 all_goals (cases h;try decide)
theorem enBo{α:Type}{z:α}{p:Int ⊕ α × Nat}{V:α->Value->World->Prop}(h:RdA w g b err l)(hp:∀ e0,p=.inl e0->e0≠0)(j:∀ w',V z (.bool false) w')(t:err=0->Calls Tryz.prog 155 #[.pointer (some ⟨g,0,none⟩)] w fun e w'=>∃ v,e=.returned (.tuple #[v,.int .i64 (rdE p 0)])/\∃ l1,RdA w' g b 0 l1/\But g w w'/\∀ x k,p=.inr (x,k)->l1=l.drop k/\V x v w') :
  Calls Tryz.prog 154 #[.pointer (some ⟨g,0,none⟩),.func (.func 155) #[.pointer (some ⟨g,0,none⟩)] #[]] w fun e w'=>∃ v,e=.returned v/\V (rdV z p err) v w'/\RdA w' g b (rdE p err) (rdL p err l)/\But g w w':=by
 obtain⟨u,n,c,X,A⟩:=h.ex;by_cases he:err=0
 ·subst he
  match hq:p with
  | .inl e0 =>
   have i:e0≠0:=hp e0 rfl
   have f:Calls Tryz.prog 155 #[.pointer (some ⟨g,0,none⟩)] w fun e w'=>∃ v,e=.returned (.tuple #[v,.int .i64 e0])/\∃ l1,RdA w' g b 0 l1/\But g w w':=(t rfl).mono (by
    rintro e w' ⟨v,e1,l1,a,d,-⟩
    exact⟨v,e1,l1,a,d⟩)
   refine(Db i X (fun v m o=>by
    obtain⟨l1,a,-⟩:=o;obtain⟨_,_,_,Y,_⟩:=a.ex
    exact⟨_,Y⟩) f).mono ?_
   rintro e w' ⟨e1,v,m,⟨l1,a,d⟩,rfl⟩;obtain⟨_,_,_,Y,_⟩:=a.ex;have H:=RdA.back e0 X A d Y;exact⟨_,e1,j _,H.1,H.2⟩
  | .inr (x,k) =>
   have f:Calls Tryz.prog 155 #[.pointer (some ⟨g,0,none⟩)] w fun e w'=>∃ v,e=.returned (.tuple #[v,.int .i64 0])/\(V x v w'/\RdA w' g b 0 (l.drop k)/\But g w w'):=(t rfl).mono (by
    rintro e w' ⟨v,e1,l1,a,d,s⟩;obtain⟨q,r⟩:=s x k rfl;subst q
    exact⟨v,e1,r,a,d⟩)
   exact enBoOk X f
 ·refine(CD X he).mono ?_
  rintro e w' ⟨rfl,rfl⟩;rw[qm he,lI he,pX he];exact⟨_,rfl,j _,h,But.refl _ _⟩
theorem enNa{α:Type}{z:α}{p:Int ⊕ α × Nat}{V:α->Value->World->Prop}(h:RdA w g b err l)(hp:∀ e0,p=.inl e0->e0≠0)(j:∀ w',V z (.slice none 0 0) w')(t:err=0->Calls Tryz.prog 204 #[.pointer (some ⟨g,0,none⟩)] w fun e w'=>∃ v,e=.returned (.tuple #[v,.int .i64 (rdE p 0)])/\∃ l1,RdA w' g b 0 l1/\But g w w'/\∀ x k,p=.inr (x,k)->l1=l.drop k/\V x v w') :
  Calls Tryz.prog 203 #[.pointer (some ⟨g,0,none⟩),.func (.func 204) #[.pointer (some ⟨g,0,none⟩)] #[]] w fun e w'=>∃ v,e=.returned v/\V (rdV z p err) v w'/\RdA w' g b (rdE p err) (rdL p err l)/\But g w w':=by
 obtain⟨u,n,c,X,A⟩:=h.ex;by_cases he:err=0
 ·subst he
  match hq:p with
  | .inl e0 =>
   have i:e0≠0:=hp e0 rfl
   have f:Calls Tryz.prog 204 #[.pointer (some ⟨g,0,none⟩)] w fun e w'=>∃ v,e=.returned (.tuple #[v,.int .i64 e0])/\∃ l1,RdA w' g b 0 l1/\But g w w':=(t rfl).mono (by
    rintro e w' ⟨v,e1,l1,a,d,-⟩
    exact⟨v,e1,l1,a,d⟩)
   refine(DG i X (fun v m o=>by
    obtain⟨l1,a,-⟩:=o;obtain⟨_,_,_,Y,_⟩:=a.ex
    exact⟨_,Y⟩) f).mono ?_
   rintro e w' ⟨e1,v,m,⟨l1,a,d⟩,rfl⟩;obtain⟨_,_,_,Y,_⟩:=a.ex;have H:=RdA.back e0 X A d Y;exact⟨_,e1,j _,H.1,H.2⟩
  | .inr (x,k) =>
   have f:Calls Tryz.prog 204 #[.pointer (some ⟨g,0,none⟩)] w fun e w'=>∃ v,e=.returned (.tuple #[v,.int .i64 0])/\(V x v w'/\RdA w' g b 0 (l.drop k)/\But g w w'):=(t rfl).mono (by
    rintro e w' ⟨v,e1,l1,a,d,s⟩;obtain⟨q,r⟩:=s x k rfl;subst q
    exact⟨v,e1,r,a,d⟩)
   exact enNaOk X f
 ·refine(DQ X he).mono ?_
  rintro e w' ⟨rfl,rfl⟩;rw[qm he,lI he,pX he];exact⟨_,rfl,j _,h,But.refl _ _⟩
theorem AK{m:Nat}(h:RdA w g b err l):0<=rdV 0 (cQ m l) err/\rdV 0 (cQ m l) err < 256 ^ m:=by
 have c:(0:Int) < 256 ^ m:=Int.pow_pos (by decide);unfold rdV cQ;split
 ·split
  ·exact⟨Int.le_refl _,c⟩
  ·rename_i a;split at a
   ·cases a;have:=bL (l:=l.take m) (fun x hx=>h.oct x (List.mem_of_mem_take hx));rw[List.length_take,Nat.min_eq_left (by assumption)] at this;exact this
   ·cases a
 ·exact⟨Int.le_refl _,c⟩
theorem rdU32(h:RdA w g b err l) :
  Calls Tryz.prog 46 #[.pointer (some ⟨g,0,none⟩)] w fun e w'=>e=.returned (.int .u32 (rdV 0 (cQ 4 l) err))/\RdA w' g b (rdE (cQ 4 l) err) (rdL (cQ 4 l) err l)/\But g w w':=by
 have t:=vT (m:=4) h (by decide);obtain⟨f,c⟩:=AK (m:=4) h;rw[show (256:Int) ^ 4=4294967296 by decide] at c;rw[wo,vE,wH] at t;clear h;generalize rdV 0 (cQ 4 l) err=V at *;generalize rdE (cQ 4 l) err=E at *;generalize rdL (cQ 4 l) err l=R at *;go_enter Tryz.func46,Tryz.ntmps46;go_wp2_with fail;refine t.mono ?_
 rintro e d ⟨rfl,k1,k2⟩;clear t;go_wp2;go_ret;exact⟨rfl,k1,k2⟩
theorem Fl(h:RdA w g b err l) :
  Calls Tryz.prog 48 #[.pointer (some ⟨g,0,none⟩)] w fun e w'=>e=.returned (.int .u64 (rdV 0 (cQ 8 l) err))/\RdA w' g b (rdE (cQ 8 l) err) (rdL (cQ 8 l) err l)/\But g w w':=by
 have t:=vT (m:=8) h (by decide);obtain⟨f,c⟩:=AK (m:=8) h;rw[show (256:Int) ^ 8=18446744073709551616 by decide] at c;rw[wo,vE,wH] at t;clear h;generalize rdV 0 (cQ 8 l) err=V at *;generalize rdE (cQ 8 l) err=E at *;generalize rdL (cQ 8 l) err l=R at *;go_enter Tryz.func48,Tryz.ntmps48;go_wp2_with fail;refine t.mono ?_
 rintro e d ⟨rfl,k1,k2⟩;clear t;go_wp2;go_ret;exact⟨rfl,k1,k2⟩
theorem rdBool(h:RdA w g b err l) :
  Calls Tryz.prog 113 #[.pointer (some ⟨g,0,none⟩)] w fun e w'=>e=.returned (.bool (rdV false (bS l) err))/\RdA w' g b (rdE (bS l) err) (rdL (bS l) err l)/\But g w w':=by
 have t:=enBo (z:=false) (p:=bS l) (V:=fun x v _=>v=.bool x) h (fun _=>zn) (fun _=>rfl) (fun e=>by subst e;exact Ej h);clear h;generalize rdV false (bS l) err=V at *;generalize rdE (bS l) err=E at *;generalize rdL (bS l) err l=R at *;go_enter Tryz.func113,Tryz.ntmps113;go_wp2_with fail;refine t.mono ?_
 rintro e c ⟨v,rfl,rfl,k1,k2⟩;clear t;go_wp2;go_ret;exact⟨rfl,k1,k2⟩
theorem Slot.bx{t:TypeId}(s:Slot w g v t):Box w g [v] t:=⟨s.blk⟩
theorem RdA.put(h:RdA w g b err l){u:Value}{t:TypeId}(s:Slot w G v t)(d:G≠g)(hv:∀ x,v≠.int .u8 x):RdA (w.setCell ⟨G,0,none⟩ u) g b err l:=by
 obtain⟨e,n,c,X,A⟩:=h.ex;refine⟨e,n,c,⟨?_⟩,A.box s.bx (fun f a=>by rw[List.mem_singleton] at a;subst a;exact hv) fun k hk=>Below.heap_setCell _ _ _ k hk⟩;rw[Below.heap_setCell _ _ _ g d.symm];exact X.blk
theorem Slot.but{t:TypeId}(s:Slot w G v t)(h:But g w w')(hG:G≠g):Slot w' G v t:=⟨by
 rw[h.block G s.bx.lt hG]
 exact s.blk⟩
theorem But.put(h:But g w w')(c:w.heap.size<=G)(u:Value):But g w (w'.setCell ⟨G,0,none⟩ u):=⟨h.os,h.tape,h.output,by rw[size_set];exact h.size,fun k b a=>by rw[Below.heap_setCell _ _ _ k (by show k≠G;omega)];exact h.block k b a⟩
theorem rdLeft(h:RdA w g b err l) :
  Calls Tryz.prog 80 #[.pointer (some ⟨g,0,none⟩)] w fun e w'=>e=.returned (.int .i64 l.length)/\w'=w:=by
 obtain⟨f,n,c,X,A⟩:=h.ex;obtain⟨o,d,-⟩:=A.ex;subst d;obtain⟨c1,c2,c3,i⟩:=X.two;clear X A h;go_enter Tryz.func80,Tryz.ntmps80;go_wp2;go_ret;exact⟨rfl,rfl⟩
end
section
variable {w:World}{g b:Nat}{err:Int}{v:Value}{l:List Int}{ao:Option Addr}
theorem wM{e0:Int}{t:TypeId}(he:err≠0)(X:Box w g [.int .i64 err,v] t) :
  Calls Tryz.prog 81 #[.pointer (some ⟨g,0,none⟩),.int .i64 e0] w fun e w'=>e=.returned (.tuple #[])/\w'=w:=by
 have hb:(err == 0)=false:=beq_eq_false_iff_ne.2 he;have t:=fC X;rw[hb] at t;clear he hb X;go_enter Tryz.func81,Tryz.ntmps81;go_wp2_with fail;refine t.mono ?_
 rintro e w' ⟨rfl,rfl⟩;clear t;go_wp2;go_end0;exact⟨rfl,rfl⟩
def cM(err:Int)(l:List Int):Int:=if err=0 then (if l.length=0 then 0 else 43) else err
theorem oG(h:RdA w g b err l)(p:l.length<=9223372036854775807) :
  Calls Tryz.prog 49 #[.pointer (some ⟨g,0,none⟩)] w fun e w'=>e=.returned (.int .i64 (cM err l))/\RdA w' g b (cM err l) l/\But g w w':=by
 have d:=rdLeft h;obtain⟨r,n,c,X,A⟩:=h.ex;obtain⟨c1,c2,c3,u⟩:=X.two;by_cases f:l.length=0
 ·have m:Hid (cM err l=err):=by
   show _=_
   unfold cM;by_cases he:err=0
   ·rw[if_pos he,if_pos f,he]
   ·rw[if_neg he]
  have j:=(show Hid _ from h)
  rw[f] at d;clear X A h f;go_enter Tryz.func49,Tryz.ntmps49;go_wp2_with fail;refine d.mono ?_
  rintro e w' ⟨rfl,rfl⟩;clear d;go_wp2;go_ret;rw[m.out];exact⟨rfl,j.out,But.refl _ _⟩
 ·have o:(0:Int) < l.length:=by omega
  by_cases he:err=0
  ·subst he
   have m:Hid (cM 0 l=43):=by show _=_;unfold cM;rw[if_pos rfl,if_neg f]
   have j:Hid (RdA (w.setCell ⟨g,0,none⟩ (.int .i64 43)) g b 43 l):=⟨r,n,c,ko X _,A.box X (lA _ _ _ _) fun k hk=>Below.heap_setCell _ _ _ k hk⟩
   have d1:=(ko X (.int .i64 43)).two.1
   have t:Hid (But g w (w.setCell ⟨g,0,none⟩ (.int .i64 43))):=⟨rfl,rfl,rfl,by rw[size_set];exact Nat.le_refl _,fun k _ q=>Below.heap_setCell _ _ _ k q⟩
   have i:=ph (e0:=43) X;clear X A h f;generalize l.length=L at *;go_enter Tryz.func49,Tryz.ntmps49;go_wp2_with fail;refine d.mono ?_
   rintro e w' ⟨rfl,rfl⟩;clear d;go_wp2_with fail;refine i.mono ?_
   rintro e s ⟨rfl,rfl⟩;clear i;go_wp2;go_ret;rw[m.out];exact⟨rfl,j.out,t.out⟩
  ·have m:Hid (cM err l=err):=by show _=_; unfold cM; rw[if_neg he]
   have i:=wM (e0:=43) he X;have j:=(show Hid _ from h)
   clear X A h f he;generalize l.length=L at *;go_enter Tryz.func49,Tryz.ntmps49;go_wp2_with fail;refine d.mono ?_
   rintro e w' ⟨rfl,rfl⟩;clear d;go_wp2_with fail;refine i.mono ?_
   rintro e s ⟨rfl,rfl⟩;clear i;go_wp2;go_ret;rw[m.out];exact⟨rfl,j.out,But.refl _ _⟩
theorem rB.bya{B:Nat}(h:rB w B v l)(ho:aK l):∃ b ao c,v=.slice ao l.length c/\B<=b/\ByA w b ao l.length c l:=by
 obtain⟨_,d⟩:=h;rcases d with⟨rfl,h0⟩ | ⟨g,cap,cur,rfl,hB,hh,hle,hmx,hsz,htk⟩
 ·have e:l=[]:=List.eq_nil_of_length_eq_zero h0;subst e;exact⟨B,none,0,rfl,Nat.le_refl _,0,rfl,Nat.le_refl _,⟨by decide,fun _=>rfl⟩,ho,.inl rfl,fun i hi=>by simp at hi⟩
 ·refine⟨g,_,_,rfl,hB,0,rfl,hle,⟨by unfold maxLen at hmx;omega,fun e=>by cases e⟩,ho,.inr rfl,fun i hi=>?_⟩;simp only[World.cell?,hh]
  have e:cur[0+i]?=some (.int .u8 (nth l i)):=by
   have a:(cur.toList.take (l.length * 1))[i]?=some (.int .u8 (nth l i)):=by
    rw[htk,List.getElem?_map,List.getElem?_eq_getElem hi,cL hi];rfl
   rw[List.getElem?_take] at a;split at a
   ·rw[Nat.zero_add,<- Array.getElem?_toList];exact a
   ·cases a
  simpa using e
theorem rdNew{n c:Nat}(A:ByA w b ao n c l)(d:n<=1099511627776) :
  Calls Tryz.prog 44 #[.slice ao n c] w fun e w'=>∃ g b',e=.returned (.pointer (some ⟨g,0,none⟩))/\w.heap.size<=g/\w.heap.size<=b'/\RdA w' g b' 0 l/\Below w.heap.size w w':=by
 obtain⟨o,u,B,y,s,x⟩:=A.ex;have t:=cT ao n c b o l w u d y.2 x;have D:=(show Hid _ from s)
 clear u B y s x A;go_enter Tryz.func44,Tryz.ntmps44;go_wp2_with fail;refine t.mono ?_
 rintro e m ⟨v,rfl,q,z⟩;obtain⟨b',i,p,rfl,f,hA⟩:=q.bya D.out;have C:=(show Hid _ from hA)
 have r:=(show Hid _ from z)
 have j:=(show Hid _ from f)
 clear t q z hA f;go_wp2;go_ret;exact⟨m.heap.size,b',rfl,r.out.size,j.out,⟨i,_,p,gO m [.int .i64 0,.slice i l.length p] _,C.out.keep (aa _ _)⟩,ae r.out (aa _ _)⟩
end
end
section
open Pg (aD aQ bj bU aG bM)
open Go.RowKit Lim
section
variable {w:World}{g:Nat}{L:List Int}{o:Oper}{a:Act}{X:Int}{v:Value}{lo' hi':Option Value}{cur:List Value}
theorem wrOutE{err:Int}(X:WrA w g err L)(he:err≠0) :
  Calls Tryz.prog 34 #[.pointer (some ⟨g,0,none⟩)] w fun e w'=>e=.returned (.tuple #[.slice none 0 0,.int .i64 err])/\Below w.heap.size w w':=by
 obtain⟨p,ps,c,u,b,-⟩:=X.ex;have t:=kN b.c0;have c0:=b.c0;rw[beq_eq_false_iff_ne.2 he] at t;clear X b he;go_enter Tryz.func34,Tryz.ntmps34;go_wp2_with fail;refine t.mono ?_
 rintro e d ⟨rfl,rfl⟩;clear t;go_wp2_with fail;go_quiet (fail);go_wp2;go_ret2;exact⟨rfl,below_drewN (Below.refl _ _) _⟩
theorem gH{o:Nat}{x:Int}(c:w.cell? ⟨g,o,none⟩=some (.int .i64 x)):(loadVar 3 ⟨g,o,none⟩).run Tryz.prog w=.ok (.int .i64 x) w:=by
 go_simp
theorem As(x y:Nat){Y:Int}(ho:o.op=.binOp .add 3 (.tmp x) (.tmp y) 3)(hx:a.eval (.tmp x)=.int .i64 X)(hy:a.eval (.tmp y)=.int .i64 Y)(b:0<=X+Y)(h1:X+Y<=9223372036854775807):(execOp a.eval o).run Tryz.prog w=.ok (.value (.int .i64 (X+Y))) w:=by
 simp only[execOp,ho,hx,hy];go_simp;simp[IntKind.wrap,IntKind.bits,IntKind.signed];omega
theorem EH{x N:Nat}(ho:o.op=.makeSlice 29 (.tmp x) (.tmp x))(hx:a.eval (.tmp x)=.int .i64 X)(hX:X=(N:Int))(e:N<=17592186044416):(execOp a.eval o).run Tryz.prog w=.ok (.value (.slice (some ⟨w.heap.size,0,none⟩) N N)) (w.alloc (.cells ((List.replicate N 0).map (Value.int .u8)).toArray 5)):=by
 subst hX;obtain⟨i,hi,d,c,hb⟩:=info_parts lS;have b:=run_make (P:=Tryz.prog) w 29 5 i (.int .u8 0) dr hi d .i64 .i64 (N:Int) (N:Int) (by omega) (by omega) (by rw[hb];omega) (by omega);simp only[execOp,ho,hx];simp[b,Result.andThen,c,vZ]
theorem rI(g u:Nat)(h:u<=256)(W:World):(Instr.sliceAt 78 (.pointer (some ⟨g,3,none⟩)) none (some (.int .i64 (u:Int))) none).run Tryz.prog W=.ok (.slice (some ⟨g,3,none⟩) u 256) W:=by
 have b:(u:Int)<=256:=by omega
 go_simp
theorem qB(g:Nat)(W:World):(Instr.sliceAt 78 (.pointer (some ⟨g,1,none⟩)) none none none).run Tryz.prog W=.ok (.slice (some ⟨g,1,none⟩) 256 256) W:=by
 go_simp
theorem qF{T:TypeId}(x:Operand)(lo hi:Option Operand){X:Value}(h:(Instr.sliceAt T X lo' hi' none).run Tryz.prog w=.ok v w)(ho:o.op=.slice T x lo hi none:=by kernel_rfl)(hx:a.eval x=X:=by kernel_rfl)(b:lo.map a.eval=lo':=by kernel_rfl)(c:hi.map a.eval=hi':=by kernel_rfl):(execOp a.eval o).run Tryz.prog w=.ok (.value v) w:=by
 subst hx;subst b;subst c;simp only[execOp,ho,Option.map_none];simp[h,Result.andThen]
theorem yo(d s:Nat)(ho:o.op=.call { callee:=.builtin .copy,args:=#[.tmp d,.tmp s],argTypes:=#[29,29] }){off dLen dCap sLen sCap:Nat}{ad:Addr}(f:a.eval (.tmp d)=.slice (some ⟨g,off,none⟩) dLen dCap)(i:a.eval (.tmp s)=.slice (some ad) sLen sCap){t:TypeId}(h:Box w g cur t)(cs:List Value)(m:Nat)(hm:cs.length=m)(hn:m=Nat.min sLen dLen)(e:∀ j v,cs[j]?=some v->w.cell? (ad.add j)=some v)(b:off+m<=cur.length)(h1:∀ v∈cs,v.oneCell'=true) :
  (execOp a.eval o).run Tryz.prog w=.ok (.value (.int .i64 (m:Int))) (w.setRow g (splice cur off cs).toArray):=by
 subst hm;have c:=run_copy_row (P:=Tryz.prog) w 29 29 o.type 5 g off dLen dCap ad sLen sCap cur.toArray t cs dr vO h.blk hn e (by simpa using b) h1;simp[execOp,ho,resolve,invoke,builtin,f,i,c,Result.andThen,splice,goInt]
theorem j7(X:WrA w g 0 L)(B:L.length<=17592186044416) :
  Calls Tryz.prog 34 #[.pointer (some ⟨g,0,none⟩)] w fun e w'=>e=.returned (.tuple #[.slice (some ⟨w.heap.size,0,none⟩) L.length L.length,.int .i64 0])/\Box w' w.heap.size (L.map (Value.int .u8)) 5/\Below w.heap.size w w':=by
 obtain⟨p,ps,f,u,D,P0,hu,hL⟩:=X.ex;have t:=kN D.c0
 have hlen:L.length=ps.length+u:=by rw[hL,List.length_append,List.length_take,D.len];omega
 obtain⟨N,F⟩:∃ N,N=L.length:=⟨_,rfl⟩
 rw[<- F] at hlen B ⊢;have HL:=(show Hid _ from hL)
 have HP:=(show Hid _ from P0)
 have HN:=(show Hid _ from F)
 have Q:=(show Hid _ from hlen)
 have hps:ps.length<=17592186044416:=by omega
 clear X hL P0 F hlen;go_enter Tryz.func34,Tryz.ntmps34;go_wp2_with fail;refine t.mono ?_
 rintro e d ⟨rfl,rfl⟩;clear t;go_wp2_with fail
 have r:cS d.drew g 0 p (ps.length:Int) f (u:Int):=⟨D.len,D.blk⟩
 refine bU (S:=fun w'=>cS w' g 0 p (ps.length:Int) f (u:Int)) (by kernel_rfl) r ?_
 refine aD 0 17 (.pointer (some ⟨g,0,none⟩)) r ?_
 refine aD 1 18 (.pointer (some ⟨g,0,none⟩)) r ?_
 refine aD 2 19 (.pointer (some ⟨g,2,none⟩)) r ?_
 refine aQ 3 (some 20) (.int .i64 (ps.length:Int)) 3 19 g 2 (fun w' h=>gH h.c2) r ?_
 refine aD 4 21 (.pointer (some ⟨g,0,none⟩)) r ?_
 refine aD 5 22 (.pointer (some ⟨g,0,none⟩)) r ?_
 refine aD 6 23 (.pointer (some ⟨g,259,none⟩)) r ?_
 refine aQ 7 (some 24) (.int .i64 (u:Int)) 3 23 g 259 (fun w' h=>gH h.cu) r ?_
 refine aD 8 25 (.int .i64 ((ps.length:Int)+(u:Int))) r ?_ (hy:=fun _ _=>As 20 24 (by kernel_rfl) (by kernel_rfl) (by kernel_rfl) (by omega) (by omega));refine aG [9] ?_
 have z:cS (d.drew.alloc (.cells ((List.replicate N 0).map (Value.int .u8)).toArray 5)) g 0 p (ps.length:Int) f (u:Int):=r.keep (aa _ _);refine bM 9 (some 26) (.slice (some ⟨d.heap.size,0,none⟩) N N) (d.drew.alloc (.cells ((List.replicate N 0).map (Value.int .u8)).toArray 5)) (EH (x:=25) (N:=N) (X:=(ps.length:Int)+(u:Int)) (by kernel_rfl) (by kernel_rfl) (by have:=Q.out;omega) B) z ?_ aW;refine aD 10 4 (.slice (some ⟨d.heap.size,0,none⟩) N N) z ?_
 refine bj ?_
 try simp only[Act.put,List.setIfInBounds_toArray,List.set_cons_zero,List.set_cons_succ]
 have hg:=D.lt
 have R:Box (d.drew.alloc (.cells ((List.replicate N 0).map (Value.int .u8)).toArray 5)) d.heap.size ((List.replicate N 0).map (Value.int .u8)) 5:=gO d.drew _ _
 have ab:Hid (Below d.heap.size d (d.drew.alloc (.cells ((List.replicate N 0).map (Value.int .u8)).toArray 5))):=(Below.refl d.heap.size d).drew.trans (aa d.drew _);clear r;generalize d.drew.alloc (.cells ((List.replicate N 0).map (Value.int .u8)).toArray 5)=V at *;have HW0:=(show Hid _ from D)
 clear D;have c2:=z.c2;have cu:=z.cu;obtain⟨off,n⟩:∃ off,off=if u=0 then 0 else ps.length:=⟨_,rfl⟩
 have y:∀ W,(Instr.sliceAt 29 (.slice (some ⟨d.heap.size,0,none⟩) N N) (some (.int .i64 (ps.length:Int))) none none).run Tryz.prog W=.ok (.slice (some ⟨d.heap.size,off,none⟩) u u) W:=fun W=>by
  have hh:=Q.out;rw[sliceB _ N N ps.length W (by omega) (Nat.le_refl _),show N - ps.length=u by omega,n];unfold cW;by_cases o:u=0
  ·rw[if_pos (by omega),if_pos o]
  ·rw[if_neg (by omega),if_neg o]
   show Result.ok (Value.slice (some ((⟨d.heap.size,0,none⟩:Addr).add ps.length)) u u) W=_
   rw[bZ,Nat.zero_add]
 have s:=rI g u (by omega)
 have G:Hid (splice ((List.replicate N (0:Int)).map (Value.int .u8)) off ((f.take u).map (Value.int .u8))=(List.replicate ps.length 0 ++ f.take u).map (Value.int .u8)):=by
  have hh:=Q.out;have hl:=z.len
  show _=_
  unfold splice;by_cases o:u=0
  ·rw[n,if_pos o];subst o;simp;omega
  ·rw[n,if_neg o,List.length_map,List.length_take,hl];rw[List.drop_eq_nil_of_le (by simp;omega)];simp;omega
 have H:=(show Hid _ from n)
 have ac:=(show Hid _ from z.len)
 clear n;go_wp2_with fail
 have m:cS V.drew g 0 p (ps.length:Int) f (u:Int):=⟨z.len,z.blk⟩
 refine bU (S:=fun w'=>cS w' g 0 p (ps.length:Int) f (u:Int)) (by kernel_rfl) m ?_
 refine aD 0 27 (.slice (some ⟨d.heap.size,0,none⟩) N N) m ?_
 refine aD 1 28 (.pointer (some ⟨g,0,none⟩)) m ?_
 refine aD 2 29 (.pointer (some ⟨g,0,none⟩)) m ?_
 refine aD 3 30 (.pointer (some ⟨g,2,none⟩)) m ?_
 refine aQ 4 (some 31) (.int .i64 (ps.length:Int)) 3 30 g 2 (fun w' h=>gH h.c2) m ?_
 refine aD 5 32 (.slice (some ⟨d.heap.size,off,none⟩) u u) m ?_ (hy:=fun w' _=>qF (.tmp 27) (some (.tmp 31)) none (y w'));refine aD 6 33 (.pointer (some ⟨g,0,none⟩)) m ?_
 refine aD 7 34 (.pointer (some ⟨g,0,none⟩)) m ?_
 refine aD 8 35 (.pointer (some ⟨g,3,none⟩)) m ?_
 refine aD 9 36 (.pointer (some ⟨g,0,none⟩)) m ?_
 refine aD 10 37 (.pointer (some ⟨g,0,none⟩)) m ?_
 refine aD 11 38 (.pointer (some ⟨g,259,none⟩)) m ?_
 refine aQ 12 (some 39) (.int .i64 (u:Int)) 3 38 g 259 (fun w' h=>gH h.cu) m ?_
 refine aD 13 40 (.slice (some ⟨g,3,none⟩) u 256) m ?_ (hy:=fun w' _=>qF (.tmp 35) none (some (.tmp 39)) (s w'));refine aG [14] ?_
 have P:cS (V.drew.setRow d.heap.size (splice ((List.replicate N (0:Int)).map (Value.int .u8)) off ((f.take u).map (Value.int .u8))).toArray) g 0 p (ps.length:Int) f (u:Int):=m.off (g':=d.heap.size) (by omega) (fun k hk=>setRow_other _ _ k _ hk)
 refine bM 14 (some 41) (.int .i64 (u:Int)) (V.drew.setRow d.heap.size (splice ((List.replicate N (0:Int)).map (Value.int .u8)) off ((f.take u).map (Value.int .u8))).toArray) (yo 32 40 (by kernel_rfl) (g:=d.heap.size) (off:=off) (dLen:=u) (dCap:=u) (sLen:=u) (sCap:=256) (ad:=⟨g,3,none⟩) (by kernel_rfl) (by kernel_rfl) R.drew ((f.take u).map (Value.int .u8)) u (by have:=ac.out; simp; omega) (Nat.min_self u).symm (fun j v O=>by
  obtain⟨h1,h2⟩:=List.getElem?_eq_some_iff.1 O;rw[List.length_map,List.length_take] at h1;rw[bZ,<- h2,List.getElem_map,List.getElem_take,<- cL (l:=f) (by omega)]
  exact m.cl j (by omega)) (by have:=Q.out;have:=H.out;rw[List.length_map,List.length_replicate,this];split<;>omega) (ints_oneCell _ _)) P ?_ aW
 refine bj ?_
 try simp only[Act.put,List.setIfInBounds_toArray,List.set_cons_zero,List.set_cons_succ]
 have B4:Box (V.drew.setRow d.heap.size (splice ((List.replicate N (0:Int)).map (Value.int .u8)) off ((f.take u).map (Value.int .u8))).toArray) d.heap.size ((List.replicate ps.length 0 ++ f.take u).map (Value.int .u8)) 5:=by
  have:=R.drew.row (ds:=splice ((List.replicate N (0:Int)).map (Value.int .u8)) off ((f.take u).map (Value.int .u8)));rw[G.out] at this ⊢;exact this
 have J:Hid (Below d.heap.size d (V.drew.setRow d.heap.size (splice ((List.replicate N (0:Int)).map (Value.int .u8)) off ((f.take u).map (Value.int .u8))).toArray)):=oe ab.out.drew (Nat.le_refl _) _;generalize V.drew.setRow d.heap.size (splice ((List.replicate N (0:Int)).map (Value.int .u8)) off ((f.take u).map (Value.int .u8))).toArray=w4 at *;have K:=(show Hid _ from B4)
 clear c2 cu y s R z m B4;have c2:=P.c2;have c1:=P.c1;go_wp2_with fail;go_loopw [5,6] (fun ta tp wr=>∃ q rest fin,tp=.pointer q/\Hid (Pc d q rest)/\Hid (L=rest ++ fin)/\ta=.int .i64 (rest.length:Int)/\Hid (Box wr d.heap.size ((List.replicate rest.length 0 ++ fin).map (Value.int .u8)) 5)/\Hid (Below d.heap.size d wr)) (fun ta _ _=>(intOf ta).toNat)
 case atStart=>exact⟨p,ps,f.take u,rfl,HP.out,HL.out,rfl,K.out,J.out⟩
 case round =>
  clear c2 c1 P K J HW0 G H;obtain⟨q,rest,fin,rfl,hP,Y,rfl,Z,C⟩:=hrel
  have hP':=hP.out
  induction hP' using Pc.ind with
  | nil =>
   have HF:Hid (Box wr d.heap.size (L.map (Value.int .u8)) 5):=by rw[Y.out];exact Z.out
   go_wp2;go_ret2;exact⟨rfl,HF.out,C.out⟩
  | cons hb hbl hp2 ih0=>
   clear ih0;rename_i b p' c i;have E:=hb.keep (C.out.mono (Nat.le_refl _))
   have A:(((c ++ i).length:Nat):Int)=(c.length:Int)+256:=by rw[List.length_append,hbl];rfl
   have F:c.length+256+fin.length=N:=by rw[HN.out,Y.out,List.length_append,List.length_append,hbl]
   rw[A]
   have y:∀ W,(Instr.sliceAt 29 (.slice (some ⟨d.heap.size,0,none⟩) N N) (some (.int .i64 (c.length:Int))) none none).run Tryz.prog W=.ok (.slice (some ⟨d.heap.size,c.length,none⟩) (N - c.length) (N - c.length)) W:=fun W=>by
    rw[sliceB _ N N c.length W (by omega) (Nat.le_refl _)];unfold cW;rw[if_neg (by omega)]
    show Result.ok (Value.slice (some ((⟨d.heap.size,0,none⟩:Addr).add c.length)) _ _) W=_
    rw[bZ,Nat.zero_add]
   have s:=qB b
   have I:Hid (splice ((List.replicate (c ++ i).length (0:Int) ++ fin).map (Value.int .u8)) c.length (i.map (Value.int .u8))=(List.replicate c.length 0 ++ (i ++ fin)).map (Value.int .u8)):=by
    show _=_
    unfold splice;rw[List.length_map,hbl,List.length_append,hbl,<- List.map_take,<- List.map_drop,List.take_append_of_le_length (by simp),List.drop_append_of_le_length (by simp),List.drop_eq_nil_of_le (by simp),List.take_replicate,Nat.min_eq_left (by omega)];simp
   have HLE:Hid (L=c ++ (i ++ fin)):=by show _=_;rw[Y.out,List.append_assoc]
   have M:=(show Hid _ from F)
   have Hb:=(show Hid _ from hbl)
   clear F hbl A
   have hpl:c.length<=17592186044416:=by have:=M.out;omega
   go_wp2_with fail;refine bU (S:=fun _=>True) (by kernel_rfl) trivial ?_
   refine aD 0 58 (.slice (some ⟨d.heap.size,0,none⟩) N N) trivial ?_
   refine aD 1 59 (.int .i64 (c.length:Int)) trivial ?_
   refine aD 2 60 (.slice (some ⟨d.heap.size,c.length,none⟩) (N - c.length) (N - c.length)) trivial ?_ (hy:=fun w' _=>qF (.tmp 58) (some (.tmp 59)) none (y w'));refine aD 3 61 (.pointer (some ⟨b,0,none⟩)) trivial ?_
   refine aD 4 62 (.pointer (some ⟨b,0,none⟩)) trivial ?_
   refine aD 5 63 (.pointer (some ⟨b,1,none⟩)) trivial ?_
   refine aD 6 64 (.slice (some ⟨b,1,none⟩) 256 256) trivial ?_ (hy:=fun w' _=>qF (.tmp 63) none none (s w'));refine aG [7] ?_
   have T:b≠d.heap.size:=by have:=hb.lt;omega
   refine bM 7 (some 65) (.int .i64 ((256:Nat):Int)) (wr.drew.setRow d.heap.size (splice ((List.replicate (c ++ i).length (0:Int) ++ fin).map (Value.int .u8)) c.length (i.map (Value.int .u8))).toArray) (yo 60 64 (by kernel_rfl) (g:=d.heap.size) (off:=c.length) (dLen:=N - c.length) (dCap:=N - c.length) (sLen:=256) (sCap:=256) (ad:=⟨b,1,none⟩) (by kernel_rfl) (by kernel_rfl) Z.out.drew (i.map (Value.int .u8)) 256 (by rw[List.length_map]; exact Hb.out) (Nat.min_eq_left (by have:=M.out; omega)).symm (fun j v O=>by
    obtain⟨h1,h2⟩:=List.getElem?_eq_some_iff.1 O;have h3:=E.drew.blk;rw[bZ,Nat.add_comm 1 j];simp only[World.cell?,h3]
    simpa using O) (by have:=Hb.out;simp;omega) (ints_oneCell _ _)) trivial ?_ aW
   refine bj ?_
   try simp only[Act.put,List.setIfInBounds_toArray,List.set_cons_zero,List.set_cons_succ]
   have B5:Hid (Box (wr.drew.setRow d.heap.size (splice ((List.replicate (c ++ i).length (0:Int) ++ fin).map (Value.int .u8)) c.length (i.map (Value.int .u8))).toArray) d.heap.size ((List.replicate c.length 0 ++ (i ++ fin)).map (Value.int .u8)) 5):=by
    have:=Z.out.drew.row (ds:=splice ((List.replicate (c ++ i).length (0:Int) ++ fin).map (Value.int .u8)) c.length (i.map (Value.int .u8)));rw[I.out] at this ⊢;exact this
   have HB5:Hid (Below d.heap.size d (wr.drew.setRow d.heap.size (splice ((List.replicate (c ++ i).length (0:Int) ++ fin).map (Value.int .u8)) c.length (i.map (Value.int .u8))).toArray)):=oe C.out.drew (Nat.le_refl _) _;have X5:=E.drew.off (g':=d.heap.size) T (fun k hk=>setRow_other wr.drew d.heap.size k (splice ((List.replicate (c ++ i).length (0:Int) ++ fin).map (Value.int .u8)) c.length (i.map (Value.int .u8))).toArray hk);clear y s E I;generalize (wr.drew.setRow d.heap.size (splice ((List.replicate (c ++ i).length (0:Int) ++ fin).map (Value.int .u8)) c.length (i.map (Value.int .u8))).toArray)=w5 at *
   have cb:w5.cell? ⟨b,0,none⟩=some (.pointer p'):=by
    have:=X5.blk;simp[World.cell?,this]
   have U:=(show Hid _ from hp2)
   clear X5 hb hp2;go_wp2;go_roundw
   case rel=>exact⟨p',c,i ++ fin,rfl,U.out,HLE.out,rfl,B5.out,HB5.out⟩
   case measure=>simp[intOf];omega
end
end
section
open Go.RowKit Lim
section
variable {w w':World}{g b n c:Nat}{l ps:List Int}{ao p a0 a1:Option Addr}{cs:List Value}
theorem qV:Tryz.zeroCells80=(dx 0 none 0 (List.replicate 256 0) 0).toArray:=by kernel_rfl
theorem Ft(w:World):WrA (w.alloc (.cells Tryz.zeroCells80 80)) w.heap.size 0 []:=by
 rw[qV];exact⟨none,[],List.replicate 256 0,0,⟨by rw[List.length_replicate],⟨_,by decide,(gO w _ _).blk⟩⟩,.nil,by decide,by simp⟩
theorem Box.atB{t:TypeId}(h:Box w g (l.map (Value.int .u8)) t):AtB w (some ⟨g,0,none⟩) g 0 l:=⟨.inr rfl,fun i hi=>by rw[Nat.zero_add];exact h.bytes hi⟩
theorem ByA.butN(h:ByA w b ao n c l)(hb:b≠g)(hB:But g w w'):ByA w' b ao n c l:=by
 obtain⟨o,h1,h2,h3,h4,h5⟩:=h.ex;exact⟨o,h1,h2,h3,h4,h5.loc,fun i hi=>hB.cell (h5.cell i hi) hb⟩
theorem RdA.offW{g':Nat}{err:Int}(h:RdA w g b err l)(a:g≠g')(hb:b≠g')(d:But g' w w'):RdA w' g b err l:=by
 obtain⟨e,n,c,X,A⟩:=h.ex;exact⟨e,n,c,⟨by rw[d.block g X.lt a];exact X.blk⟩,A.butN hb d⟩
theorem Pc.CK(h:Pc w p ps){t:TypeId}(ht:t≠124)(X:Box w g cs t)(hw:∀ k,k < w.heap.size->k≠g->w'.heap[k]?=w.heap[k]?):Pc w' p ps:=by
 induction h using Pc.ind with
 | nil=>exact .nil
 | cons hb hl _ ih =>
  refine .cons ⟨?_⟩ hl ih
  rw[hw _ hb.lt (fun e=>by
   subst e;have a:=hb.blk;rw[X.blk] at a;simp at a
   exact ht a.2)]
  exact hb.blk
theorem lD{V:Int}(hV:0<=V)(h:IsB l V):gg V=l:=mD (ve hV) h
theorem natB_0:gg 0=[]:=lD (by decide) ⟨fun x hx=>by simp at hx,fun h=>absurd rfl h,rfl⟩
theorem bSame{b0 b1 n0 c0 a c1:Nat}{c:List Int}(g:ByA w b0 a0 n0 c0 l)(h1:ByA w b1 a1 a c1 c)(d:n0<=4398046511104)(b:a<=4398046511104) :
  Calls Tryz.prog 10 #[.slice a0 n0 c0,.slice a1 a c1] w fun e w'=>e=.returned (.bool (eqB l c))/\Below w.heap.size w w':=by
 obtain⟨i,f,_,_,_,j⟩:=g.ex;obtain⟨k,e1,_,_,_,h⟩:=h1.ex;exact xT a0 n0 c0 b0 i a1 a c1 b1 k l c w f e1 d b j h
theorem kB(A:ByA w b ao n c l)(a:n<=1099511627776) :
  Calls Tryz.prog 44 #[.slice ao n c] w fun e w'=>∃ g b',e=.returned (.pointer (some ⟨g,0,none⟩))/\(w.heap.size<=g/\w.heap.size<=b'/\b' < w'.heap.size)/\RdA w' g b' 0 l/\Below w.heap.size w w':=by
 refine(rdNew A a).mono ?_
 rintro e w' ⟨g,b',e1,d,k,R,h⟩;obtain⟨f,j,m,X,q⟩:=R.ex;obtain⟨o,k1,k2,k3,r,p⟩:=q.ex;rcases p.lt with e | e
 ·subst e;exact⟨g,g,e1,⟨d,d,X.lt⟩,⟨f,j,m,X,o,k1,k2,k3,r,.inl rfl,fun i hi=>by simp at hi⟩,h⟩
 ·exact⟨g,b',e1,⟨d,k,e⟩,R,h⟩
end
end
section
namespace Rc
open Go.RowKit Go.Lib Pg
attribute [local go_sem] Oper.semAt_some
section
variable {G:Nat→Prop}{rb sb n cc:Nat}{f1 f2 f3:FuncId}{c:Value}{kd:Nat→Nat}{offs:List Nat}{w:World}
theorem ax{p:Prop}(h:p):Hid p:=h
theorem qI(w:World)(o:Obj):(w.alloc o).heap.size=w.heap.size+1:=by
 show (w.heap.push o).size=_
 simp
theorem Eb(w:World):Below w.heap.size w w.drew:=⟨rfl,rfl,rfl,Nat.le_refl _,fun _ _=>rfl⟩
structure HC(σ:Type)(Inv:σ->World->Prop)(G:Nat->Prop)(rb:Nat)(f1 f2 f3:FuncId)(c:Value)(nx:Nat->Nat->σ->σ)(kd:Nat->Nat)(ok:σ->Prop):Prop where
 oks:∀ k o s,ok (nx k o s)->ok s
 keep:∀ s w w',Inv s w->Below w.heap.size w w'->Inv s w'
 old:∀ s w b,Inv s w->G b->b < w.heap.size
 e1:∀ args w,(callFunc f1 args).run Tryz.prog w=.ok (.enter f1 args) w
 e2:∀ args w,(callFunc f2 args).run Tryz.prog w=.ok (.enter f2 args) w
 e3:∀ args w,(callFunc f3 args).run Tryz.prog w=.ok (.enter f3 args) w
 u:∀ s w o,Inv s w->ok (nx 0 o s)->kd o=0->Calls Tryz.prog f1 #[.pointer (some ⟨rb,o,none⟩),c] w fun e w'=>e=.returned (.tuple #[])/\Inv (nx 0 o s) w'/\Chg G w w'
 t:∀ s w o,Inv s w->ok (nx 1 o s)->kd o=1->Calls Tryz.prog f2 #[.pointer (some ⟨rb,o,none⟩),c] w fun e w'=>e=.returned (.tuple #[])/\Inv (nx 1 o s) w'/\Chg G w w'
 d:∀ s w o,Inv s w->ok (nx 2 o s)->kd o=2->Calls Tryz.prog f3 #[.pointer (some ⟨rb,o,none⟩),c] w fun e w'=>e=.returned (.tuple #[])/\Inv (nx 2 o s) w'/\Chg G w w'
theorem HC.okf{σ:Type}{Inv:σ->World->Prop}{G:Nat->Prop}{nx:Nat->Nat->σ->σ}{kd:Nat->Nat}{ok:σ->Prop}(H:HC σ Inv G rb f1 f2 f3 c nx kd ok)(k:Nat)(l:List Nat):∀ s,ok (l.foldl (fun s o=>nx k o s) s)->ok s:=by
 induction l with
 | nil=>exact fun _ h=>h
 | cons o l ih=>exact fun s h=>H.oks _ _ _ (ih _ h)
structure ql(σ:Type)(Inv:σ->World->Prop)(G:Nat->Prop)(s:σ)(w:World)(e:Ending)(w':World):Prop where
 ret:e=.returned (.tuple #[])
 inv:Inv s w'
 chg:Chg G w w'
theorem rR{σ:Type}{Inv:σ→World→Prop}{nx:Nat→Nat→σ→σ}{ok:σ→Prop}{s:σ}(H:HC σ Inv G rb f1 f2 f3 c nx kd ok)(q:Inv s w)(hb:Blk w sb (offs.map fun o=>.pointer (some ⟨rb,o,none⟩)) 111)(A:¬ G sb)(hk:∀ o ∈ offs,kd o=0)(hok:ok (offs.foldl (fun s o=>nx 0 o s) s))(hn:offs.length=n)(L:n≤1000) :
    Calls Tryz.prog 116 #[.agg #[.func (.func f1) #[] #[c],.func (.func f2) #[] #[c],.func (.func f3) #[] #[c]],.slice (some ⟨sb,0,none⟩) n cc] w (ql σ Inv G (offs.foldl (fun s o=>nx 0 o s) s) w):=by
  have al:=aa w (.cells #[.func (.func f1) #[] #[c],.func (.func f2) #[] #[c],.func (.func f3) #[] #[c]] 216);have x:=aj w [.func (.func f1) #[] #[c],.func (.func f2) #[] #[c],.func (.func f3) #[] #[c]] 216;have j:=ax H;have M:=ax q;have F:=ax hb;have K:=ax hk;have z:=ax hn;have I:=ax hok;have t:=ax al;have J:=ax x
  have b:¬ G w.heap.size:=fun h=>by have:=H.old s w _ q h;omega
  have D:=ax A;have p:=ax b;clear H q hb hk hn al x A b hok;go_enter Tryz.func116,Tryz.ntmps116;go_wp2_with fail;go_loopw [8] (fun r wr=>∃ k:Nat,k≤n∧r=.int .i64 k∧Hid (Inv ((offs.take k).foldl (fun s o=>nx 0 o s) s) wr)∧Hid (Chg G w wr)∧Hid (Blk wr w.heap.size [.func (.func f1) #[] #[c],.func (.func f2) #[] #[c],.func (.func f3) #[] #[c]] 216)) (fun r _=>n - (intOf r).toNat)
  case atStart=>exact⟨0,Nat.zero_le _,rfl,j.out.keep _ _ _ M.out t.out,Chg.of t.out,J.out⟩
  case round =>
    obtain⟨k,hk,rfl,H1,l,y⟩:= hrel;by_cases E:k < n
    · obtain⟨o,g⟩:∃ o,Hid (offs[k]?=some o):=⟨offs[k]'(by have:=z.out;omega),List.getElem?_eq_getElem _⟩
      have f:=F.out.chg l.out D.out
      have c1:wr.cell? ⟨sb,k,none⟩=some (.pointer (some ⟨rb,o,none⟩)):=f.cell (i:=k) (by rw[List.getElem?_map,g.out];rfl);have c2:=y.out.cell (i:=0) rfl
      have m:(k:Int) < n:=by omega
      have d:ok (nx 0 o ((offs.take k).foldl (fun s o=>nx 0 o s) s)):=by
        have h:=I.out;rw[← List.take_append_drop (k+1) offs,List.foldl_append] at h;have v:=j.out.okf 0 _ _ h;rw[List.take_add_one,g.out,List.foldl_append] at v;exact v
      have U:=j.out.u _ wr o H1.out d (K.out o (List.mem_of_getElem? g.out));clear f d;go_wp2_with fail;rw[j.out.e1];refine U.mono ?_
      rintro O N ⟨rfl,C,B⟩;go_wp2_with fail;go_roundw
      case rel=>exact⟨k+1,by omega,by go_num,by show Inv _ _;rw[List.take_add_one,g.out,List.foldl_append];exact C,l.out.trans B (fun _ _ h=>h),y.out.chg B p.out⟩
      case measure=>simp[intOf];omega
    · obtain rfl : k = n := by omega
      have m:¬ ((k:Int) < k):=by omega
      go_wp2;go_end0;refine⟨rfl,?_,l.out⟩;have h:=H1.out;rw[List.take_of_length_le (by have:=z.out;omega)] at h;exact h
theorem oY{σ:Type}{Inv:σ→World→Prop}{nx:Nat→Nat→σ→σ}{ok:σ→Prop}{s:σ}(H:HC σ Inv G rb f1 f2 f3 c nx kd ok)(r:Inv s w)(hb:Blk w sb (offs.map fun o=>.pointer (some ⟨rb,o,none⟩)) 212)(A:¬ G sb)(hk:∀ o ∈ offs,kd o=2)(hok:ok (offs.foldl (fun s o=>nx 2 o s) s))(hn:offs.length=n)(L:n≤1000) :
    Calls Tryz.prog 120 #[.agg #[.func (.func f1) #[] #[c],.func (.func f2) #[] #[c],.func (.func f3) #[] #[c]],.slice (some ⟨sb,0,none⟩) n cc] w (ql σ Inv G (offs.foldl (fun s o=>nx 2 o s) s) w):=by
  have al:=aa w (.cells #[.func (.func f1) #[] #[c],.func (.func f2) #[] #[c],.func (.func f3) #[] #[c]] 216);have x:=aj w [.func (.func f1) #[] #[c],.func (.func f2) #[] #[c],.func (.func f3) #[] #[c]] 216;have l:=ax H;have M:=ax r;have F:=ax hb;have K:=ax hk;have z:=ax hn;have I:=ax hok;have u:=ax al;have J:=ax x
  have b:¬ G w.heap.size:=fun h=>by have:=H.old s w _ r h;omega
  have D:=ax A;have q:=ax b;clear H r hb hk hn al x A b hok;go_enter Tryz.func120,Tryz.ntmps120;go_wp2_with fail;go_loopw [8] (fun t wr=>∃ k:Nat,k≤n∧t=.int .i64 k∧Hid (Inv ((offs.take k).foldl (fun s o=>nx 2 o s) s) wr)∧Hid (Chg G w wr)∧Hid (Blk wr w.heap.size [.func (.func f1) #[] #[c],.func (.func f2) #[] #[c],.func (.func f3) #[] #[c]] 216)) (fun t _=>n - (intOf t).toNat)
  case atStart=>exact⟨0,Nat.zero_le _,rfl,l.out.keep _ _ _ M.out u.out,Chg.of u.out,J.out⟩
  case round =>
    obtain⟨k,hk,rfl,H1,m,y⟩:= hrel;by_cases E:k < n
    · obtain⟨o,j⟩:∃ o,Hid (offs[k]?=some o):=⟨offs[k]'(by have:=z.out;omega),List.getElem?_eq_getElem _⟩
      have g:=F.out.chg m.out D.out
      have c1:wr.cell? ⟨sb,k,none⟩=some (.pointer (some ⟨rb,o,none⟩)):=g.cell (i:=k) (by rw[List.getElem?_map,j.out];rfl);have c2:=y.out.cell (i:=2) rfl
      have p:(k:Int) < n:=by omega
      have f:ok (nx 2 o ((offs.take k).foldl (fun s o=>nx 2 o s) s)):=by
        have h:=I.out;rw[← List.take_append_drop (k+1) offs,List.foldl_append] at h;have v:=l.out.okf 2 _ _ h;rw[List.take_add_one,j.out,List.foldl_append] at v;exact v
      have U:=l.out.d _ wr o H1.out f (K.out o (List.mem_of_getElem? j.out));clear g f;go_wp2_with fail;rw[l.out.e3];refine U.mono ?_
      rintro O N ⟨rfl,C,B⟩;go_wp2_with fail;go_roundw
      case rel=>exact⟨k+1,by omega,by go_num,by show Inv _ _;rw[List.take_add_one,j.out,List.foldl_append];exact C,m.out.trans B (fun _ _ h=>h),y.out.chg B q.out⟩
      case measure=>simp[intOf];omega
    · obtain rfl : k = n := by omega
      have p:¬ ((k:Int) < k):=by omega
      go_wp2;go_end0;refine⟨rfl,?_,m.out⟩;have h:=H1.out;rw[List.take_of_length_le (by have:=z.out;omega)] at h;exact h
end
end Rc
end
end Go.Proofs.YtpoifdokmjhclaaGreat
