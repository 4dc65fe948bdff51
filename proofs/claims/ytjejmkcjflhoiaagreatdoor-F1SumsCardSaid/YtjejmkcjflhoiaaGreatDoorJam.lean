import Derived.Test.YtjejmkcjflhoiaaGreatDoorJal
import Derived.OpenShut
import Derived.Laws.AppendOwnNone
import Derived.Great.FillDense
import Derived.Lib.SlBytesConst
set_option maxRecDepth 100000
set_option maxHeartbeats 8000000
namespace Go.Proofs.YtjejmkcjflhoiaaGreatDoor
section
open Go.RowKit Lim
section
variable {w:World}{b n c k g:Nat}{ao:Option Addr}{l:List Int}{u v:Value}
structure ByA(w:World)(b:Nat)(ao:Option Addr)(n c:Nat)(l:List Int):Prop where
 ex:∃ o,l.length=n/\n<=c/\(c<=9223372036854775807/\(ao=none->c=0))/\bG l/\AtB w ao b o l
theorem ByA.keep{w':World}(h:ByA w b ao n c l)(hb:Below w.heap.size w w'):ByA w' b ao n c l:=by
 obtain⟨o,h1,h2,h3,h4,h5⟩:=h.ex;exact⟨o,h1,h2,h3,h4,h5.keep hb⟩
theorem addr_add(b o n:Nat):(⟨b,o,none⟩:Addr).add n=⟨b,o+n,none⟩:=by
 unfold Addr.add;split
 ·subst n;rfl
 ·rfl
def du(ao:Option Addr)(c n:Nat):Option Addr:=if c=n then ao else ao.map (·.add n)
theorem se(h:du ao c k=none):ao=none:=by
 unfold du at h;split at h
 ·exact h
 ·cases ao with
  | none=>rfl
  | some a=>cases h
theorem ByA.rest(h:ByA w b ao n c l)(p:k<=n):ByA w b (du ao c k) (n - k) (c - k) (l.drop k):=by
 obtain⟨o,d,m,a,g,f⟩:=h.ex;by_cases hn:n=k
 ·have e:l.drop k=[]:=List.drop_eq_nil_of_le (by omega);rw[e];exact⟨0,by rw[hn];simp,by omega,⟨by have:=a.1;omega,fun e=>by have:=a.2 (se e);omega⟩,fun x hx=>by simp at hx,.inl rfl,fun i hi=>by simp at hi⟩
 ·have j:l≠[]:=fun e=>by rw[e] at d; simp at d; omega
  obtain rfl:ao=some ⟨b,o,none⟩:=by
   rcases f.loc with e | e
   ·exact absurd e j
   ·exact e
  have e:du (some ⟨b,o,none⟩) c k=some ⟨b,o+k,none⟩:=by
   unfold du;rw[if_neg (by omega)];exact congrArg some (addr_add b o k)
  rw[e];refine⟨o+k,by rw[List.length_drop];omega,by omega,⟨by have:=a.1;omega,fun e=>by cases e⟩,fun x hx=>g x (List.mem_of_mem_drop hx),.inr rfl,fun i hi=>?_⟩;rw[List.length_drop] at hi;have:=f.cell (k+i) (by omega);rw[show o+k+i=o+(k+i) by omega,this,dR]
theorem ByA.front(h:ByA w b ao n c l)(j:k<=n):ByA w b ao k k (l.take k):=by
 obtain⟨o,m,g,a,f,d⟩:=h.ex;refine⟨o,by rw[List.length_take];omega,Nat.le_refl _,⟨by have:=a.1;omega,fun e=>by have:=a.2 e;omega⟩,fun x hx=>f x (List.mem_of_mem_take hx),?_,fun i hi=>?_⟩
 ·rcases d.loc with e | e
  ·exact .inl (by rw[e];simp)
  ·exact .inr e
 ·rw[List.length_take] at hi;rw[d.cell i (by omega),dG (by omega)]
theorem Box.two{t:TypeId}(h:Box w g [u,v] t):w.cell? ⟨g,0,none⟩=some u/\w.cell? ⟨g,1,none⟩=some v/\w.frozen? ⟨g,0,none⟩=false/\w.frozen? ⟨g,1,none⟩=false:=by
 have:=h.blk;simp[World.cell?,World.frozen?,this]
theorem fX{err:Int}{t:TypeId}(X:Box w g [.int .i64 err,v] t) :
  Calls Tryz.prog 201 #[.pointer (some ⟨g,0,none⟩)] w fun e w'=>e=.returned (.bool (err == 0))/\w'=w:=by
 obtain⟨c1,c2,c3,b⟩:=X.two;go_enter Tryz.func201,Tryz.ntmps201;go_wp2;go_ret;exact⟨rfl,rfl⟩
theorem pZ{e0:Int}{t:TypeId}(X:Box w g [.int .i64 0,v] t) :
  Calls Tryz.prog 218 #[.pointer (some ⟨g,0,none⟩),.int .i64 e0] w fun e w'=>e=.returned (.tuple #[])/\w'=w.setCell ⟨g,0,none⟩ (.int .i64 e0):=by
 obtain⟨c1,c2,c3,b⟩:=X.two;go_enter Tryz.func218,Tryz.ntmps218;go_wp2_with fail;refine(fX X).mono ?_
 rintro e w' ⟨rfl,rfl⟩;go_wp2;go_end0;exact⟨rfl,rfl⟩
theorem vQ{m:Int}{t:TypeId}(X:Box w g [u,.slice ao n c] t)(hn:n<=9223372036854775807)(hm:(n:Int) < m) :
  Calls Tryz.prog 250 #[.pointer (some ⟨g,0,none⟩),.int .u64 m] w fun e w'=>e=.returned (.tuple #[.slice none 0 0,.int .i64 40])/\w'=w:=by
 obtain⟨c1,c2,c3,b⟩:=X.two;go_enter Tryz.func250,Tryz.ntmps250;go_wp2;go_ret2;exact⟨rfl,rfl⟩
theorem CB{m:Nat}{t:TypeId}(X:Box w g [u,.slice ao n c] t)(hc:n<=c)(hn:c<=9223372036854775807)(hm:m<=n) :
  Calls Tryz.prog 250 #[.pointer (some ⟨g,0,none⟩),.int .u64 m] w fun e w'=>e=.returned (.tuple #[.slice ao m m,.int .i64 0])/\w'=w.setCell ⟨g,1,none⟩ (.slice (du ao c m) (n - m) (c - m)):=by
 obtain⟨c1,c2,c3,f⟩:=X.two
 have b:(m:Int)<=n:=by omega
 have d:(m:Int)<=c:=by omega
 go_enter Tryz.func250,Tryz.ntmps250;go_wp2
 ·go_ret2;exact⟨rfl,by unfold du;rw[if_pos rfl]⟩
 ·go_ret2;exact⟨rfl,by unfold du;rw[if_neg (by assumption)]⟩
end
end
section
open Go.RowKit Lim
section
variable {w w':World}{ao:Option Addr}{b g n c:Nat}{l:List Int}{cs:List Value}
theorem or8(a b:Int)(h0:0<=a)(d:a < 72057594037927936)(c:0<=b)(e:b < 256):bits .or .u64 (a * 256) b=a * 256+b:=qo (a * 256) b 8 a (by rw[show (2:Int) ^ 8=256 by decide]) h0 (by omega) c (by omega) (by omega)
theorem vo(l:List Int)(x:Int):bW (l ++ [x])=bW l * 256+x:=by
 induction l with
 | nil=>simp[bW]
 | cons y l ih =>
  rw[List.cons_append,bW,bW,ih,List.length_append,List.length_singleton,Int.pow_succ];grind
theorem AtB.box{o:Nat}(k:AtB w ao b o l){t:TypeId}(s:Box w g cs t)(hv:∀ v∈cs,∀ x,v≠.int .u8 x)(hw:∀ k,k≠g->w'.heap[k]?=w.heap[k]?):AtB w' ao b o l :=
 ⟨k.loc,fun i hi=>by
  have hc:=k.cell i hi;by_cases e:b=g
  ·subst e;simp only[World.cell?,s.blk] at hc
   have a:cs.toArray[o+i]?=some (.int .u8 (nth l i)):=by simpa using hc
   rw[List.getElem?_toArray] at a;exact absurd rfl (hv _ (List.mem_of_getElem? a) _)
  ·rw[World.cell?_of_block (w:=w) (hw b e)];exact hc⟩
theorem ByA.box(h:ByA w b ao n c l){t:TypeId}(s:Box w g cs t)(hv:∀ v∈cs,∀ x,v≠.int .u8 x)(hw:∀ k,k≠g->w'.heap[k]?=w.heap[k]?):ByA w' b ao n c l:=by
 obtain⟨o,e,a,i,d,f⟩:=h.ex;exact⟨o,e,a,i,d,f.box s hv hw⟩
theorem lV(err:Int)(ao:Option Addr)(n c:Nat):∀ v∈[Value.int .i64 err,Value.slice ao n c],∀ x,v≠.int .u8 x:=fun v hv x e=>by
 rcases List.mem_cons.1 hv with h | h
 ·subst h;cases e
 ·rw[List.mem_singleton] at h;subst h;cases e
theorem rdNum{m:Nat}{err:Int}{t:TypeId}(X:Box w g [.int .i64 err,.slice ao n c] t)(h:ByA w b ao n c l)(hm:m<=n)(h8:m<=8) :
  Calls Tryz.prog 239 #[.pointer (some ⟨g,0,none⟩),.int .u64 m] w fun e w'=>e=.returned (.tuple #[.int .u64 (bW (l.take m)),.int .i64 0])/\w'=w.setCell ⟨g,1,none⟩ (.slice (du ao c m) (n - m) (c - m)):=by
 obtain⟨o,L,z,⟨B,-⟩,s,F⟩:=h.ex
 have hA:ByA (w.setCell ⟨g,1,none⟩ (.slice (du ao c m) (n - m) (c - m))) b ao n c l:=h.box X (lV _ _ _ _) fun k u=>Below.heap_setCell _ _ _ k u
 have t:=CB (m:=m) X z B hm;obtain⟨I,-,-,-,-,f⟩:=hA.ex;clear hA F h X
 have y:Hid (bG l):=s;clear s;go_enter Tryz.func239,Tryz.ntmps239;go_wp2_with fail;refine t.mono ?_
 rintro e w' ⟨rfl,rfl⟩;clear t;generalize hWW:w.setCell ⟨g,1,none⟩ (.slice (du ao c m) (n - m) (c - m))=W at *;have i:=(show Hid _ from hWW)
 clear hWW;go_wp2_with fail;go_loop [8,10,19] (fun J M r=>∃ k:Nat,k<=m/\r=.int .i64 k/\J=.int .u64 (bW (l.take k))) (fun _ _ r=>m - (intOf r).toNat)
 case atStart=>exact⟨0,Nat.zero_le _,rfl,rfl⟩
 case round =>
  obtain⟨k,u,rfl,rfl⟩:=hrel;by_cases C:k < m
  ·have d:k < l.length:=by omega
   have p:=f.cell k d;obtain rfl:ao=some ⟨b,I,none⟩:=by
    rcases f.loc with e | e
    ·rw[e] at d;simp at d
    ·exact e
   have E:(k:Int) < m:=by omega
   have hd:=y.out.nth k;have v:=bV (l:=l.take k) (fun x hx=>y.out x (List.mem_of_mem_take hx))
   have G:(256:Int) ^ (l.take k).length<=256 ^ 7:=iL (by rw[List.length_take];omega)
   have q:bW (l.take k) < 72057594037927936:=by
    have K:(256:Int) ^ 7=72057594037927936:=by decide
    omega
   have j:=v.1;have H:=or8 (bW (l.take k)) (nth l k) j q hd.1 hd.2
   have A:Hid (bW (l.take (k+1))=bW (l.take k) * 256+nth l k):=by show _=_;rw[ez d,vo]
   clear v G;generalize bW (l.take k)=V at *;generalize nth l k=D at *;go_wp2;go_round
   case rel=>exact⟨k+1,by omega,by go_num,by rw[A.out]⟩
   case measure=>simp[intOf];omega
  ·obtain rfl:k=m:=by omega
   go_wp2;go_ret2;exact⟨rfl,i.out.symm⟩
end
end
section
open Go.RowKit Lim
section
variable {g n c gr gs:Nat}{w w':World}{a b v fv:Value}{m err x e0:Int}{ao:Option Addr}{Q:World→Prop}{l:List Int}
structure But(g:Nat)(w w':World):Prop where
 os:w'.os=w.os
 tape:w'.tape=w.tape
 output:w'.output=w.output
 size:w.heap.size<=w'.heap.size
 block:∀ k,k < w.heap.size->k≠g->w'.heap[k]?=w.heap[k]?
theorem But.below{B:Nat}{w0:World}(h:But g w w')(b:Below B w0 w)(c:B<=g)(hs:B<=w0.heap.size):Below B w0 w' :=
 ⟨h.os.trans b.os,h.tape.trans b.tape,h.output.trans b.output,Nat.le_trans b.size h.size,fun k a=>(h.block k (Nat.lt_of_lt_of_le (Nat.lt_of_lt_of_le a hs) b.size) (by omega)).trans (b.block k a)⟩
theorem xQ{w1 a c:World}(b:Below w.heap.size w w1)(h:∀ k,k≠g->a.heap[k]?=w1.heap[k]?)(f:a.os=w1.os)(i:a.tape=w1.tape)(d:a.output=w1.output)(hs:a.heap.size=w1.heap.size)(e:c=a):But g w c:=by
 subst e;exact⟨f.trans b.os,i.trans b.tape,d.trans b.output,by rw[hs];exact b.size,fun k l j=>(h k j).trans (b.block k l)⟩
theorem fo{t:TypeId}(h:Box w g [a,b] t)(v:Value):Box (w.setCell ⟨g,1,none⟩ v) g [a,v] t:=⟨by
 have:=h.blk;simp only[World.setCell,Array.getElem?_modify,if_true,this]
 simp⟩
theorem kG{t:TypeId}(h:Box w g [a,b] t)(v:Value):Box (w.setCell ⟨g,0,none⟩ v) g [v,b] t:=⟨by
 have:=h.blk;simp only[World.setCell,Array.getElem?_modify,if_true,this]
 simp⟩
theorem AP{t:TypeId}(X:Box w g [.int .i64 err,.slice ao n c] t)(hn:n<=9223372036854775807)(hm:(n:Int) < m) :
  Calls Tryz.prog 239 #[.pointer (some ⟨g,0,none⟩),.int .u64 m] w fun e w'=>e=.returned (.tuple #[.int .u64 0,.int .i64 40])/\w'=w:=by
 have t:=vQ X hn hm;clear hm;go_enter Tryz.func239,Tryz.ntmps239;go_wp2_with fail;refine t.mono ?_
 rintro e w' ⟨rfl,rfl⟩;clear t;go_wp2_with fail;go_loop [8,10,19] (fun d f b=>d=.int .u64 0/\b=.int .i64 0) (fun _ _ _=>0)
 case atStart=>exact⟨rfl,rfl⟩
 case round =>
  obtain⟨rfl,rfl⟩:=hrel;go_wp2;go_ret2;exact⟨rfl,rfl⟩
theorem zn(d:w.cell? ⟨gr,0,none⟩=some (.pointer (some ⟨g,0,none⟩)))(hs:w.cell? ⟨gs,0,none⟩=some (.int .u64 m))(b:Calls Tryz.prog 239 #[.pointer (some ⟨g,0,none⟩),.int .u64 m] w fun e w'=>e=.returned (.tuple #[.int .u64 x,.int .i64 e0])∧Q w') :
    Calls Tryz.prog 238 #[.pointer (some ⟨gr,0,none⟩),.pointer (some ⟨gs,0,none⟩)] w fun e w'=>e=.returned (.tuple #[.int .u64 x,.int .i64 e0])∧Q w':=by
  go_enter Tryz.func238,Tryz.ntmps238;go_wp2_with fail;refine b.mono ?_
  rintro e w' ⟨rfl,c⟩;clear b;go_wp2;go_ret2;exact⟨rfl,c⟩
theorem enBad{t:TypeId}(X:Box w g [.int .i64 err,v] t)(he:err≠0) :
  Calls Tryz.prog 237 #[.pointer (some ⟨g,0,none⟩),fv] w fun e w'=>e=.returned (.int .u64 0)/\w'=w:=by
 have hb:(err == 0)=false:=beq_eq_false_iff_ne.2 he;have t:=fX X;rw[hb] at t;clear he hb;go_enter Tryz.func237,Tryz.ntmps237;go_wp2_with fail;refine t.mono ?_
 rintro e w' ⟨rfl,rfl⟩;clear t;go_wp2;go_ret;exact⟨rfl,rfl⟩
theorem enOk{t:TypeId}{Q:World->Prop}(X:Box w g [.int .i64 0,.slice ao n c] t)(b:Calls Tryz.prog 238 #[.pointer (some ⟨gr,0,none⟩),.pointer (some ⟨gs,0,none⟩)] w fun e w'=>e=.returned (.tuple #[.int .u64 x,.int .i64 0])/\Q w') :
  Calls Tryz.prog 237 #[.pointer (some ⟨g,0,none⟩),.func (.func 238) #[] #[.pointer (some ⟨gr,0,none⟩),.pointer (some ⟨gs,0,none⟩)]] w fun e w'=>e=.returned (.int .u64 x)/\Q w':=by
 obtain⟨c1,c2,c3,i⟩:=X.two;have t:=fX X;go_enter Tryz.func237,Tryz.ntmps237;go_wp2_with fail;refine t.mono ?_
 rintro e w' ⟨rfl,rfl⟩;clear t;go_wp2_with fail;refine b.mono ?_
 rintro e f ⟨rfl,d⟩;clear b;go_wp2;go_ret;exact⟨rfl,d⟩
theorem enErr{t:TypeId}(he:e0≠0)(X:Box w g [.int .i64 0,.slice ao n c] t)(b:Calls Tryz.prog 238 #[.pointer (some ⟨gr,0,none⟩),.pointer (some ⟨gs,0,none⟩)] w fun e w'=>e=.returned (.tuple #[.int .u64 x,.int .i64 e0])/\w'=w) :
  Calls Tryz.prog 237 #[.pointer (some ⟨g,0,none⟩),.func (.func 238) #[] #[.pointer (some ⟨gr,0,none⟩),.pointer (some ⟨gs,0,none⟩)]] w fun e w'=>e=.returned (.int .u64 0)/\w'=(w.setCell ⟨g,1,none⟩ (.slice ao n c)).setCell ⟨g,0,none⟩ (.int .i64 e0):=by
 obtain⟨c1,c2,c3,l⟩:=X.two
 have f:Box (w.setCell ⟨g,1,none⟩ (.slice ao n c)) g [.int .i64 0,.slice ao n c] t:=fo X _;have d:=fX X
 have hb:(e0 == 0)=false:=beq_eq_false_iff_ne.2 he;clear he;go_enter Tryz.func237,Tryz.ntmps237;go_wp2_with fail;refine d.mono ?_
 rintro e w' ⟨rfl,rfl⟩;clear d;go_wp2_with fail;refine b.mono ?_
 rintro e i ⟨rfl,rfl⟩;clear b;go_wp2_with fail;refine(pZ f).mono ?_
 rintro e j ⟨rfl,rfl⟩;go_wp2;go_ret;exact⟨rfl,rfl⟩
structure RdA(w:World)(g b:Nat)(err:Int)(l:List Int):Prop where
 ex:∃ ao n c,Box w g [.int .i64 err,.slice ao n c] 292/\ByA w b ao n c l
theorem RdA.keep{b:Nat}(h:RdA w g b err l)(hb:Below w.heap.size w w'):RdA w' g b err l:=by
 obtain⟨ao,n,c,h1,h2⟩:=h.ex;exact⟨ao,n,c,h1.keep hb,h2.keep hb⟩
def qC(m:Nat)(err:Int)(l:List Int):Int:=if err=0/\m<=l.length then bW (l.take m) else 0
def qL(m:Nat)(err:Int)(l:List Int):Int:=if err=0 then (if m<=l.length then 0 else 40) else err
def rm(m:Nat)(err:Int)(l:List Int):List Int:=if err=0/\m<=l.length then l.drop m else l
theorem size_set(w:World)(p:Addr)(v:Value):(w.setCell p v).heap.size=w.heap.size:=by simp[World.setCell]
theorem Ey{b m:Nat}(h:RdA w g b err l)(h8:m<=8) :
  Calls Tryz.prog 213 #[.pointer (some ⟨g,0,none⟩),.int .u64 m] w fun e w'=>e=.returned (.int .u64 (qC m err l))/\RdA w' g b (qL m err l) (rm m err l)/\But g w w':=by
 have d:=nU w (.cells #[.pointer (some ⟨g,0,none⟩)] 254) (.cells #[.int .u64 m] 22);have y:=(fg w (.pointer (some ⟨g,0,none⟩)) 254).alloc (.cells #[.int .u64 m] 22);have z:=nQ w (.cells #[.pointer (some ⟨g,0,none⟩)] 254) (.int .u64 (m:Int)) 22;have H:=h.ex;obtain⟨F,n,c,s,j⟩:=H;have D:=s.lt;have X:=s.keep d;have hA:=j.keep d;obtain⟨o,E,A,⟨C,-⟩,B,I⟩:=hA.ex;have q1:=y.cell;have u:=z.cell;clear I;by_cases he:err=0
 ·subst he;by_cases hm:m<=n
  ·have t:=enOk X (zn q1 u (rdNum X hA hm h8))
   have x:Hid (qC m 0 l=bW (l.take m)):=by show _=_;unfold qC;rw[if_pos ⟨rfl,by omega⟩]
   have q:Hid (∀ f,f=(((w.alloc (.cells #[.pointer (some ⟨g,0,none⟩)] 254)).alloc (.cells #[.int .u64 m] 22)).setCell ⟨g,1,none⟩ (.slice (du F c m) (n - m) (c - m)))->RdA f g b (qL m 0 l) (rm m 0 l)/\But g w f):=by
    intro f e;subst e;refine⟨?_,?_⟩
    ·unfold qL rm;rw[if_pos rfl,if_pos (by omega),if_pos ⟨rfl,by omega⟩];exact⟨_,_,_,fo X _,(hA.rest hm).box X (lV _ _ _ _) fun k i=>Below.heap_setCell _ _ _ k i⟩
    ·exact xQ d (fun k i=>Below.heap_setCell _ _ _ k i) rfl rfl rfl (size_set _ _ _) rfl
   clear s j X hA y z h E A C B q1 u d;go_enter Tryz.func213,Tryz.ntmps213;go_wp2_with fail;refine t.mono ?_
   rintro e G ⟨rfl,p⟩;have r:=(show Hid _ from q.out _ p)
   clear t p q;go_wp2;go_ret;exact⟨by rw[x.out];rfl,r.out⟩
  ·have t:=enErr (by decide) X (zn q1 u (AP X (by omega) (by omega:(n:Int) < m)))
   have x:Hid (qC m 0 l=0):=by show _=_;unfold qC;rw[if_neg (fun v=>hm (by omega))]
   have q:Hid (∀ f,f=((((w.alloc (.cells #[.pointer (some ⟨g,0,none⟩)] 254)).alloc (.cells #[.int .u64 m] 22)).setCell ⟨g,1,none⟩ (.slice F n c)).setCell ⟨g,0,none⟩ (.int .i64 40))->RdA f g b (qL m 0 l) (rm m 0 l)/\But g w f):=by
    intro f e;subst e;refine⟨?_,?_⟩
    ·unfold qL rm;rw[if_pos rfl,if_neg (by omega),if_neg (fun v=>hm (by omega))];exact⟨_,_,_,kG (fo X _) _,hA.box X (lV _ _ _ _) fun k i=>by rw[Below.heap_setCell _ _ _ k i,Below.heap_setCell _ _ _ k i]⟩
    ·exact⟨d.os,d.tape,d.output,by rw[size_set,size_set];exact d.size,fun k i D=>by rw[Below.heap_setCell _ _ _ k D,Below.heap_setCell _ _ _ k D];exact d.block k i⟩
   clear s j X hA y z h E A C B q1 u d hm;go_enter Tryz.func213,Tryz.ntmps213;go_wp2_with fail;refine t.mono ?_
   rintro e G ⟨rfl,p⟩;have r:=(show Hid _ from q.out _ p)
   clear t p q;go_wp2;go_ret;exact⟨by rw[x.out];rfl,r.out⟩
 ·have t:=fun fv=>enBad (fv:=fv) X he
  have x:Hid (qC m err l=0):=by show _=_;unfold qC;rw[if_neg (fun v=>he v.1)]
  have q:Hid (∀ f,f=((w.alloc (.cells #[.pointer (some ⟨g,0,none⟩)] 254)).alloc (.cells #[.int .u64 m] 22))->RdA f g b (qL m err l) (rm m err l)/\But g w f):=by
   intro f e;subst e;refine⟨?_,?_⟩
   ·unfold qL rm;rw[if_neg he,if_neg (fun v=>he v.1)];exact⟨_,_,_,X,hA⟩
   ·exact⟨d.os,d.tape,d.output,d.size,fun k i _=>d.block k i⟩
  clear s j X hA y z h E A C B q1 u d he;go_enter Tryz.func213,Tryz.ntmps213;go_wp2_with fail;refine(t _).mono ?_
  rintro e G ⟨rfl,p⟩;have r:=(show Hid _ from q.out _ p)
  clear t p q;go_wp2;go_ret;exact⟨by rw[x.out];rfl,r.out⟩
end
end
section
open Go.RowKit Lim
end
section
open Go.RowKit Lim
def wV (w:World) (a:Option Addr) (len cap:Nat) (zs:List Int):Prop :=
 (a=none/\len=0/\cap=0/\zs=[]) \/
 ∃ x,a=some x/\len<=cap/\cap<=maxLen/\zs.length=cap/\(∀ i,i < zs.length->w.cell? (x.add i)=some (.int .u64 (zs.getD i 0)))/\∀ n∈zs,(Lit.int .u64 n).wf=true
theorem wV.open {w:World} {a:Option Addr} {len cap:Nat} {zs:List Int} (h:wV w a len cap zs):∃ b o l,l.length=len/\len<=cap/\len<=9223372036854775807/\Words l/\At w a b o l:=by
 rcases h with⟨rfl,rfl,rfl,rfl⟩ | ⟨x,rfl,h1,h2,h3,h4,h5⟩
 ·exact⟨0,0,[],rfl,Nat.le_refl _,by decide,Words.nil,.inl rfl,fun i hi=>by simp at hi⟩
 ·have hw:Words (zs.take len):=fun y hy=>by
   have:=h5 y (List.mem_of_mem_take hy);have:=bounds_u64 this;omega
  have k:(zs.take len).length=len:=by simp;omega
  have d:len<=9223372036854775807:=by unfold maxLen at h2;omega
  by_cases h0:len=0
  ·refine⟨0,0,zs.take len,k,h1,d,hw,.inl (List.eq_nil_of_length_eq_zero (by omega)),fun i hi=>by omega⟩
  ·have hx:=h4 0 (by omega)
   have g:x.spot=none:=by
    rw[show x.add 0=x from rfl] at hx;simp only[World.cell?] at hx
    cases hh:w.heap[x.block]? with
    | none=>rw[hh] at hx;simp at hx
    | some ob =>
     rw[hh] at hx
     cases ob with
     | cells c e f =>
      simp at hx
      cases hs:x.spot with
      | none=>rfl
      | some s=>rw[hs] at hx;simp at hx
     | _=>simp at hx
   obtain⟨b,o,sp⟩:=x;simp at g;subst g;refine⟨b,o,zs.take len,k,h1,d,hw,.inr rfl,fun i hi=>?_⟩;have m:=h4 i (by omega);rw[dG (by omega)]
   have e:(⟨b,o,none⟩:Addr).add i=⟨b,o+i,none⟩:=by
    by_cases j:i=0
    ·subst j;rfl
    ·simp[Addr.add,j]
   rw[e] at m;exact m
end
section
open Go.RowKit Lim
section
variable {l:List Int}{w:World}{v:Value}{xs:List Value}
def fR(w:World)(B:Nat)(v:Value)(l:List Int):Prop:=w.ownsRow B 5 1 v l.length (l.map (Value.int .u8))
def dvI(l:List Int):Int:=l.foldl (fun x c=>10 * x+(c - 48)) 0
def gg(l:List Int):Prop:=∀ c∈l,48<=c/\c<=57
theorem nK(l:List Int)(c:Int):dvI (l ++ [c])=10 * dvI l+(c - 48):=by simp[dvI,List.foldl_append]
theorem gg.snoc{c:Int}(h:gg l)(h1:48<=c)(h2:c<=57):gg (l ++ [c]):=by
 intro x hx;rcases List.mem_append.1 hx with e | e
 ·exact h x e
 ·simp at e;subst e;exact⟨h1,h2⟩
theorem ga(a b:List Int):dvI (a ++ b)=dvI a * 10 ^ b.length+dvI b:=by
 have key:∀ (b:List Int) (x:Int),b.foldl (fun x c=>10 * x+(c - 48)) x=x * 10 ^ b.length+dvI b:=by
  intro b
  induction b with
  | nil=>intro x;simp[dvI]
  | cons c b ih =>
   intro x
   have e:dvI (c :: b)=(c - 48) * 10 ^ b.length+dvI b:=by rw[dvI,List.foldl_cons,ih];simp
   rw[List.foldl_cons,ih,e,List.length_cons,Int.pow_succ];grind
 rw[dvI,List.foldl_append,key];rfl
theorem vJ{B:Nat}{e:TypeId}{n:Nat}(h:w.ownsRow B e 1 v n xs):∀ g,v.ownBlock=some g->B<=g:=by
 intro g a;rcases h.2 with⟨rfl,_⟩ | ⟨g',cap,cur,rfl,hB,_⟩
 ·simp[Value.ownBlock] at a
 ·simp[Value.ownBlock] at a;omega
theorem zC(x p:Int)(hp:0 < p):10 * (x / (p * 10))+x / p % 10=x / p:=by
 rw[<- Int.ediv_ediv_of_nonneg (Int.le_of_lt hp)];omega
theorem l6(B:Nat)(v:Value)(l:List Int)(x:Int)(w:World)(hB:B<=w.heap.size)(hm:fR w B v l)(T:l.length<=35184372088832)(o:0<=x)(K:x < 10000000000000000000) :
  Calls Tryz.prog 85 #[v,.int .u64 x] w fun e w'=>∃ v' d,e=.returned v'/\fR w' B v' (l ++ d)/\gg d/\d.length=19/\dvI d=x/\Below B w w':=by
 obtain⟨i0,hi,C,J,I⟩:=info_parts mu;have G:=fun Y=>oR 18 Y (by decide)
 rw[show ((18:Nat):Int)=18 from rfl,show (10:Int) ^ 18=1000000000000000000 from by decide] at G;go_enter Tryz.func85,Tryz.ntmps85;go_wp2_with (go_at_call 137;refine(G _).mono ?_;rintro e P ⟨rfl,rfl⟩);clear G;go_loopw [0,5,7] (fun X tp F wr=>∃ (k:Nat) (p:Int) (d:List Int),k<=19/\F=.int .i64 k/\tp=.int .u64 p/\0<=p/\p<=1000000000000000000/\Hid (k < 19->p * 10 ^ k=1000000000000000000)/\d.length=k/\gg d/\Hid (dvI d=x / 10 ^ (19 - k))/\fR wr B X (l ++ d)/\Below B P wr) (fun _ _ F _=>19 - (intOf F).toNat)
 case atStart=>exact⟨0,_,[],by decide,rfl,rfl,by decide,by decide,fun _=>by decide,rfl,fun c hc=>by simp at hc,by show _=_;rw[show (10:Int) ^ (19 - 0)=10000000000000000000 from by decide,Int.ediv_eq_zero_of_lt o K];rfl,by rw[List.append_nil];exact hm,Below.refl _ _⟩
 case round =>
  obtain⟨k,p,d,hk,rfl,rfl,L,hp1,S,E,t,q,i,m⟩:=hrel;have Z:=m.size;by_cases A:k < 19
  ·have r:=S.out A
   have H:0 < p:=by
    by_cases c:0 < p
    ·exact c
    ·have:p=0:=by omega
     subst this;simp at r
   have b:p=10 ^ (18 - k):=by
    have e:(10:Int) ^ (18 - k) * 10 ^ k=1000000000000000000:=by rw[<- Int.pow_add,show 18 - k+k=18 from by omega];decide
    have Q:(0:Int) < 10 ^ k:=Int.pow_pos (by decide);exact Int.eq_of_mul_eq_mul_right (by omega) (r.trans e.symm)
   have R:=zC x p H
   have M:Hid (10 * dvI d+x / p % 10=x / 10 ^ (19 - (k+1))):=by
    show _=_
    rw[q.out,show 19 - (k+1)=18 - k from by omega,<- b,<- R];congr 3
    rw[show 19 - k=(18 - k)+1 from by omega,Int.pow_succ,<- b]
   have HP:Hid (k+1 < 19->p / 10 * 10 ^ (k+1)=1000000000000000000):=by
    intro h;obtain⟨j,hj⟩:∃ j,18 - k=j+1:=⟨17 - k,by omega⟩
    rw[hj,Int.pow_succ] at b;have:p / 10=10 ^ j:=by rw[b];omega
    rw[this,<- Int.pow_add,show j+(k+1)=18 from by omega];decide
   have V:(p == 0)=false:=beq_eq_false_iff_ne.2 (by omega);have y:=Int.emod_nonneg (x / p) (show (10:Int)≠0 by decide);have z:=Int.emod_lt_of_pos (x / p) (show (0:Int) < 10 by decide)
   have aa:0<=x / p:=Int.ediv_nonneg o L
   have O:x / p<=x:=Int.ediv_le_self p o;have HPE:=(show Hid _ from b)
   clear b r R S q;obtain⟨D,W⟩:∃ D,x / p % 10=D:=⟨_,rfl⟩
   rw[W] at M y z
   have n:wr.ownsRow B 5 1 _ (l ++ d).length ((l ++ d).map (Value.int .u8)):=i
   have hnn:(l ++ d).length<=35184372088860:=by simp;omega
   generalize hNN:(l ++ d).length=N at *
   have HN:Hid ((l ++ d).length=N):=hNN;clear hNN;go_wp2_with (at_builtin;refine wpList_append_own _ rfl _ _ 87 rfl B 5 i0 (.int .u8 0) 1 1 cY hi C J I rfl (by decide) _ _ _ rfl (n.alloc _) ⟨wr.heap.size,0,none⟩ 1 1 [.int .u8 (48+D)] rfl rfl ?c1 ?c2 ?c3 ?c4 ?c5 ?_)
   case c1=>exact cell_one_new _ _ _
   case c2=>intro u hu;simp at hu;subst hu;rfl
   case c3=>unfold maxLen;omega
   case c4=>omega
   case c5=>simp;omega
   intro v' U g f _
   have hM:fR U B v' (l ++ (d ++ [48+D])):=by
    unfold fR;rw[show (l ++ (d ++ [48+D])).length=N+1 from by rw[<- HN.out];simp;omega,List.map_append,List.map_append];exact g
   have HB:Below B P U:=(m.alloc (by omega) _).grown f (by simp;omega) (vJ i);clear g f n i m;go_wp2;go_roundw
   case rel=>exact⟨k+1,p / 10,d ++ [48+D],by omega,by go_num,rfl,by omega,by omega,HP,by simp;omega,t.snoc (by omega) (by omega),by show _=_;rw[nK,<- M.out];omega,hM,HB⟩
   case measure=>simp[intOf];omega
  ·have s:k=19:=by omega
   subst s
   have hv:dvI d=x:=by rw[q.out];simp
   go_wp2;go_ret;exact⟨_,d,rfl,i,t,E,hv,m⟩
end
end
section
open Go.RowKit Lim
end
section
open Go.RowKit Lim
def halves:List Int->List Int
 | []=>[]
 | x :: l=>x % 4294967296 :: x / 4294967296 :: halves l
end
section
open Go.RowKit Lim
end
section
open Go.RowKit Lim
section
variable {w:World}{g n c:Nat}{err e0:Int}{v fv:Value}{ao:Option Addr}{Q:Value->World->Prop}
theorem CN{t:TypeId}(X:Box w g [.int .i64 err,v] t)(he:err≠0) :
  Calls Tryz.prog 214 #[.pointer (some ⟨g,0,none⟩),fv] w fun e w'=>e=.returned (.bool false)/\w'=w:=by
 have hb:(err == 0)=false:=beq_eq_false_iff_ne.2 he;have t:=fX X;rw[hb] at t;clear he hb;go_enter Tryz.func214,Tryz.ntmps214;go_wp2_with fail;refine t.mono ?_
 rintro e w' ⟨rfl,rfl⟩;clear t;go_wp2;go_ret;exact⟨rfl,rfl⟩
theorem enBoOk{t:TypeId}(X:Box w g [.int .i64 0,.slice ao n c] t)(b:Calls Tryz.prog 215 #[.pointer (some ⟨g,0,none⟩)] w fun e w'=>∃ v,e=.returned (.tuple #[v,.int .i64 0])/\Q v w') :
  Calls Tryz.prog 214 #[.pointer (some ⟨g,0,none⟩),.func (.func 215) #[.pointer (some ⟨g,0,none⟩)] #[]] w fun e w'=>∃ v,e=.returned v/\Q v w':=by
 obtain⟨c1,c2,c3,j⟩:=X.two;have t:=fX X;go_enter Tryz.func214,Tryz.ntmps214;go_wp2_with fail;refine t.mono ?_
 rintro e w' ⟨rfl,rfl⟩;clear t;go_wp2_with fail;refine b.mono ?_
 rintro e i ⟨v,rfl,d⟩;have f:=(show Hid _ from d)
 clear b d;go_wp2;go_ret;exact⟨v,rfl,f.out⟩
theorem Dj{t:TypeId}(he:e0≠0)(X:Box w g [.int .i64 0,.slice ao n c] t)(l:∀ v w1,Q v w1->∃ y,Box w1 g [.int .i64 0,y] t)(j:Calls Tryz.prog 215 #[.pointer (some ⟨g,0,none⟩)] w fun e w'=>∃ v,e=.returned (.tuple #[v,.int .i64 e0])/\Q v w') :
  Calls Tryz.prog 214 #[.pointer (some ⟨g,0,none⟩),.func (.func 215) #[.pointer (some ⟨g,0,none⟩)] #[]] w fun e w'=>e=.returned (.bool false)/\∃ v w1,Q v w1/\w'=(w1.setCell ⟨g,1,none⟩ (.slice ao n c)).setCell ⟨g,0,none⟩ (.int .i64 e0):=by
 obtain⟨c1,c2,c3,r⟩:=X.two;have m:=fX X
 have hb:(e0 != 0)=true:=bne_iff_ne.2 he;have p:=(show Hid _ from l)
 clear he l;go_enter Tryz.func214,Tryz.ntmps214;go_wp2_with fail;refine m.mono ?_
 rintro e w' ⟨rfl,rfl⟩;clear m;go_wp2_with fail;refine j.mono ?_
 rintro e w1 ⟨v,rfl,b⟩;obtain⟨y,i⟩:=p.out v w1 b;have q:=(show Hid _ from b)
 have o:Box (w1.setCell ⟨g,1,none⟩ (.slice ao n c)) g [.int .i64 0,.slice ao n c] t:=fo i _;obtain⟨d1,d2,d3,d4⟩:=i.two;have t3:=pZ (e0:=e0) o;clear j b p X i o c1 c2 c3 r d1 d3;go_wp2_with fail;refine t3.mono ?_
 rintro e s ⟨rfl,d⟩;have f:=(show Hid _ from d)
 clear t3 d;go_wp2;go_ret;exact⟨rfl,v,w1,q.out,f.out⟩
theorem DT{t:TypeId}(X:Box w g [.int .i64 err,v] t)(he:err≠0) :
  Calls Tryz.prog 240 #[.pointer (some ⟨g,0,none⟩),fv] w fun e w'=>e=.returned (.slice none 0 0)/\w'=w:=by
 have hb:(err == 0)=false:=beq_eq_false_iff_ne.2 he;have t:=fX X;rw[hb] at t;clear he hb;go_enter Tryz.func240,Tryz.ntmps240;go_wp2_with fail;refine t.mono ?_
 rintro e w' ⟨rfl,rfl⟩;clear t;go_wp2;go_ret;exact⟨rfl,rfl⟩
theorem enNaOk{t:TypeId}(X:Box w g [.int .i64 0,.slice ao n c] t)(b:Calls Tryz.prog 241 #[.pointer (some ⟨g,0,none⟩)] w fun e w'=>∃ v,e=.returned (.tuple #[v,.int .i64 0])/\Q v w') :
  Calls Tryz.prog 240 #[.pointer (some ⟨g,0,none⟩),.func (.func 241) #[.pointer (some ⟨g,0,none⟩)] #[]] w fun e w'=>∃ v,e=.returned v/\Q v w':=by
 obtain⟨c1,c2,c3,j⟩:=X.two;have t:=fX X;go_enter Tryz.func240,Tryz.ntmps240;go_wp2_with fail;refine t.mono ?_
 rintro e w' ⟨rfl,rfl⟩;clear t;go_wp2_with fail;refine b.mono ?_
 rintro e i ⟨v,rfl,d⟩;have f:=(show Hid _ from d)
 clear b d;go_wp2;go_ret;exact⟨v,rfl,f.out⟩
theorem DM{t:TypeId}(he:e0≠0)(X:Box w g [.int .i64 0,.slice ao n c] t)(l:∀ v w1,Q v w1->∃ y,Box w1 g [.int .i64 0,y] t)(j:Calls Tryz.prog 241 #[.pointer (some ⟨g,0,none⟩)] w fun e w'=>∃ v,e=.returned (.tuple #[v,.int .i64 e0])/\Q v w') :
  Calls Tryz.prog 240 #[.pointer (some ⟨g,0,none⟩),.func (.func 241) #[.pointer (some ⟨g,0,none⟩)] #[]] w fun e w'=>e=.returned (.slice none 0 0)/\∃ v w1,Q v w1/\w'=(w1.setCell ⟨g,1,none⟩ (.slice ao n c)).setCell ⟨g,0,none⟩ (.int .i64 e0):=by
 obtain⟨c1,c2,c3,r⟩:=X.two;have m:=fX X
 have hb:(e0 != 0)=true:=bne_iff_ne.2 he;have p:=(show Hid _ from l)
 clear he l;go_enter Tryz.func240,Tryz.ntmps240;go_wp2_with fail;refine m.mono ?_
 rintro e w' ⟨rfl,rfl⟩;clear m;go_wp2_with fail;refine j.mono ?_
 rintro e w1 ⟨v,rfl,b⟩;obtain⟨y,i⟩:=p.out v w1 b;have q:=(show Hid _ from b)
 have o:Box (w1.setCell ⟨g,1,none⟩ (.slice ao n c)) g [.int .i64 0,.slice ao n c] t:=fo i _;obtain⟨d1,d2,d3,d4⟩:=i.two;have t3:=pZ (e0:=e0) o;clear j b p X i o c1 c2 c3 r d1 d3;go_wp2_with fail;refine t3.mono ?_
 rintro e s ⟨rfl,d⟩;have f:=(show Hid _ from d)
 clear t3 d;go_wp2;go_ret;exact⟨rfl,v,w1,q.out,f.out⟩
end
end
section
open Pg (ai bT aN bH dD)
open Go.RowKit Lim
section
variable {w w' w1:World}{g:Nat}{err aw u e0:Int}{p q:Option Addr}{lat l:List Int}{a:Act}{o:Oper}{v:Value}{cs:Array Value}
def eb(err:Int)(p:Option Addr)(aw:Int)(lat:List Int)(u:Int):List Value:=.int .i64 err :: .pointer p :: .int .i64 aw :: (lat.map (Value.int .u8) ++ [.int .i64 u])
structure dm(w:World)(g:Nat)(err:Int)(p:Option Addr)(aw:Int)(lat:List Int)(u:Int):Prop where
 len:lat.length=256
 blk:w.heap[g]?=some (.cells (eb err p aw lat u).toArray 230 (0,0))
theorem dm.box(h:dm w g err p aw lat u):Box w g (eb err p aw lat u) 230:=⟨h.blk⟩
theorem dm.lt(h:dm w g err p aw lat u):g < w.heap.size:=h.box.lt
theorem dm.keep(h:dm w g err p aw lat u)(hb:Below w.heap.size w w'):dm w' g err p aw lat u:=⟨h.len,(h.box.keep hb).blk⟩
theorem dm.off{g':Nat}(h:dm w g err p aw lat u)(hne:g≠g')(hw:∀ k,k≠g'->w'.heap[k]?=w.heap[k]?):dm w' g err p aw lat u:=⟨h.len,by rw[hw g hne];exact h.blk⟩
theorem dm.free(h:dm w g err p aw lat u)(k:Nat):w.frozen? ⟨g,k,none⟩=false:=by
 have:=h.blk;simp[World.frozen?,this]
theorem dm.c0(h:dm w g err p aw lat u):w.cell? ⟨g,0,none⟩=some (.int .i64 err):=by
 have:=h.blk;simp[World.cell?,this,eb]
theorem dm.c1(h:dm w g err p aw lat u):w.cell? ⟨g,1,none⟩=some (.pointer p):=by
 have:=h.blk;simp[World.cell?,this,eb]
theorem dm.c2(h:dm w g err p aw lat u):w.cell? ⟨g,2,none⟩=some (.int .i64 aw):=by
 have:=h.blk;simp[World.cell?,this,eb]
theorem dm.cl(h:dm w g err p aw lat u)(i:Nat)(hi:i < 256):w.cell? ⟨g,3+i,none⟩=some (.int .u8 (nth lat i)):=by
 have hb:=h.blk;have a:=h.len;simp only[World.cell?,hb,eb];rw[show 3+i=i+1+1+1 by omega];simp[List.getElem?_append_left,a,hi,cn (l:=lat) (show i < lat.length by omega)]
theorem dm.cu(h:dm w g err p aw lat u):w.cell? ⟨g,259,none⟩=some (.int .i64 u):=by
 have hb:=h.blk;have hl:=h.len;simp only[World.cell?,hb,eb];simp[hl]
theorem dm.set0(h:dm w g err p aw lat u)(x:Int):dm (w.setCell ⟨g,0,none⟩ (.int .i64 x)) g x p aw lat u:=⟨h.len,by
 have:=h.blk;simp only[World.setCell,Array.getElem?_modify,if_true,this]
 simp[eb]⟩
theorem dm.set1(h:dm w g err p aw lat u)(x:Option Addr):dm (w.setCell ⟨g,1,none⟩ (.pointer x)) g err x aw lat u:=⟨h.len,by
 have:=h.blk;simp only[World.setCell,Array.getElem?_modify,if_true,this]
 simp[eb]⟩
theorem dm.set2(h:dm w g err p aw lat u)(x:Int):dm (w.setCell ⟨g,2,none⟩ (.int .i64 x)) g err p x lat u:=⟨h.len,by
 have:=h.blk;simp only[World.setCell,Array.getElem?_modify,if_true,this]
 simp[eb]⟩
theorem dm.setu(h:dm w g err p aw lat u)(x:Int):dm (w.setCell ⟨g,259,none⟩ (.int .i64 x)) g err p aw lat x:=⟨h.len,by
 have hb:=h.blk;have a:=h.len;simp only[World.setCell,Array.getElem?_modify,if_true,hb]
 simp[eb,List.set_append_right,a]⟩
theorem ll(c1:w.cell? ⟨g,0,none⟩=some (.int .i64 err)) :
  Calls Tryz.prog 201 #[.pointer (some ⟨g,0,none⟩)] w fun e w'=>e=.returned (.bool (err == 0))/\w'=w:=by
 go_enter Tryz.func201,Tryz.ntmps201;go_wp2;go_ret;exact⟨rfl,rfl⟩
theorem stMeet(c1:w.cell? ⟨g,0,none⟩=some (.int .i64 0))(c2:w.frozen? ⟨g,0,none⟩=false) :
  Calls Tryz.prog 218 #[.pointer (some ⟨g,0,none⟩),.int .i64 e0] w fun e w'=>e=.returned (.tuple #[])/\w'=w.setCell ⟨g,0,none⟩ (.int .i64 e0):=by
 go_enter Tryz.func218,Tryz.ntmps218;go_wp2_with fail;refine(ll c1).mono ?_
 rintro e w' ⟨rfl,rfl⟩;go_wp2;go_end0;exact⟨rfl,rfl⟩
theorem DX(c1:w.cell? ⟨g,0,none⟩=some (.int .i64 err))(he:(err == 0)=false) :
  Calls Tryz.prog 218 #[.pointer (some ⟨g,0,none⟩),.int .i64 e0] w fun e w'=>e=.returned (.tuple #[])/\w'=w:=by
 have t:=ll c1;rw[he] at t;clear he;go_enter Tryz.func218,Tryz.ntmps218;go_wp2_with fail;refine t.mono ?_
 rintro e w' ⟨rfl,rfl⟩;go_wp2;go_end0;exact⟨rfl,rfl⟩
theorem qM{T:TypeId}(k:Nat){off:Nat}(c:o.op=.load T (.tmp k))(b:a.eval (.tmp k)=.pointer (some ⟨g,off,none⟩))(d:(loadVar T ⟨g,off,none⟩).run Tryz.prog w=.ok v w):(execOp a.eval o).run Tryz.prog w=.ok (.value v) w:=by
 simp only[execOp,c,b];simp[Instr.loadAt,Instr.sureAddr,Result.andThen,d]
theorem pT{T:TypeId}(k q:Nat){off:Nat}(c:o.op=.store T (.tmp k) (.tmp q))(b:a.eval (.tmp k)=.pointer (some ⟨g,off,none⟩))(d:a.eval (.tmp q)=v)(e:(storeVar T ⟨g,off,none⟩ v).run Tryz.prog w=.ok () w1):(execOp a.eval o).run Tryz.prog w=.ok .skip w1:=by
 simp only[execOp,c,b,d];simp[Instr.storeAt,Instr.sureAddr,Result.andThen,e]
theorem wD(c:w.cell? ⟨g,1,none⟩=some (.pointer p)):(loadVar 227 ⟨g,1,none⟩).run Tryz.prog w=.ok (.pointer p) w:=by
 go_simp
theorem vO(c:w.cell? ⟨g,1,none⟩=some (.pointer p))(f:w.frozen? ⟨g,1,none⟩=false):(storeVar 227 ⟨g,1,none⟩ (.pointer q)).run Tryz.prog w=.ok () (w.setCell ⟨g,1,none⟩ (.pointer q)):=by
 go_simp
theorem vL:Tryz.prog.underlying 228=some (.array 256 5):=by kernel_rfl
theorem pK:(Tryz.prog.info? 228).map (·.size)=some 256:=by kernel_rfl
theorem xi{o:Nat}(d:l.length=256)(c:∀ i,i < 256->w.cell? ⟨g,o+i,none⟩=some (.int .u8 (nth l i))):(loadVar 228 ⟨g,o,none⟩).run Tryz.prog w=.ok (.agg (l.map (Value.int .u8)).toArray) w:=by
 have h:=run_loadCells_list (P:=Tryz.prog) w ⟨g,o,none⟩ (l.map (Value.int .u8)) (fun j v hv=>by
  obtain⟨a,e⟩:=List.getElem?_eq_some_iff.1 hv;rw[List.length_map] at a
  rw[addr_add,c j (by omega),<- e,List.getElem_map,cn a])
 rw[List.length_map,d] at h
 cases hi:Tryz.prog.info? 228 with
 | none=>have:=pK;simp[hi] at this
 | some i =>
  have b:i.size=256:=by have:=pK;simpa[hi] using this
  simp[loadVar,isAgg,run_underlying vL,sizeOf,typeInfo,hi,b,h]
def placesOf(P:Program)(d:Option TypeDesc):Option (List (Nat × Nat)):=match d with
 | some (.struct fs)=>fs.toList.mapM (fun f=>(P.info? f.type).map fun i=>(f.offset,i.size))
 | _=>none
theorem yx:placesOf Tryz.prog (Tryz.prog.underlying 282)=some [(0,1),(1,256)]:=by kernel_rfl
theorem Dq:((Tryz.prog.info? 282).bind (·.zero)).map (·.cells.size)=some 257:=by kernel_rfl
theorem zt(p:Option Addr)(A:List Value)(hA:A.length=256):Tryz.prog.built 282 [(0,.pointer p),(1,.agg A.toArray)]=some (Value.pointer p :: A).toArray:=by
 have hu:=yx;have c:=Dq;unfold Program.built;generalize Tryz.prog.info? 282=I at *;generalize Tryz.prog.underlying 282=U at *
 cases I with
 | none=>simp at c
 | some it =>
  cases h2:it.zero with
  | none=>simp[h2] at c
  | some z =>
   have a:z.cells.size=257:=by simpa[h2] using c
   cases U with
   | none=>simp[placesOf] at hu
   | some d =>
    cases d<;>try (simp[placesOf] at hu;done)
    case struct fs =>
     simp only[placesOf] at hu;simp only[hu,h2]
     have hc:(Value.pointer p).cells=#[.pointer p]:=rfl
     have e:(Value.agg A.toArray).cells=A.toArray:=rfl;simp only[Instr.fill,hc,e];obtain⟨g1,g2⟩:=Great.foldl_set 1 A 0 (z.cells.setIfInBounds 0 (.pointer p));simp[hA,a];apply Array.ext_getElem?;intro k;have b:=g2 k;simp only[Array.size_setIfInBounds,a,hA] at b;rw[Nat.add_zero] at b;rw[b]
     cases k with
     | zero=>rw[if_neg (by omega)];simp[a]
     | succ k =>
      by_cases f:k < 256
      ·rw[if_pos (by omega)];simp
      ·rw[if_neg (by omega),Array.getElem?_eq_none (by simp[a];omega),Array.getElem?_eq_none (by simp[hA];omega)]
theorem Ca{T:TypeId}(ps:Array (Nat × Operand)){L:List (Nat × Value)}(c:o.op=.build T ps)(b:(ps.map fun(i,x)=>(i,a.eval x)).toList=L)(hb:Tryz.prog.built T L=some cs):(execOp a.eval o).run Tryz.prog w=.ok (.value (.agg cs)) w:=by
 subst b;simp only[execOp,c];simp only[Sem.run_bind,run_build w T _ cs hb,Result.andThen_ok];rfl
theorem wrPut(X:dm w g err p aw lat u)(x:0<=aw)(hb:aw<=4611686018427387904) :
  Calls Tryz.prog 248 #[.pointer (some ⟨g,0,none⟩)] w fun e w'=>e=.returned (.tuple #[])/\dm w' g err (some ⟨w.heap.size,0,none⟩) (aw+256) lat 0/\Box w' w.heap.size (.pointer p :: lat.map (Value.int .u8)) 282/\But g w w':=by
 have Y:=X;have t:=X.lt;have c1:=X.c1;have f1:=X.free 1;have f:=wD X.c1;have d:=xi X.len X.cl;have l:=zt p (lat.map (Value.int .u8)) (by rw[List.length_map];exact X.len);go_enter Tryz.func248,Tryz.ntmps248;go_wp2_with fail;refine bT (S:=fun _=>True) (by kernel_rfl) trivial ?_
 refine ai 0 (some 2) (.pointer (some ⟨g,0,none⟩)) (by kernel_rfl) (fun _ _=>by kernel_rfl) (fun _ _ _ h=>h) trivial ?_
 refine ai 1 (some 3) (.pointer (some ⟨g,0,none⟩)) (by kernel_rfl) (fun _ _=>by kernel_rfl) (fun _ _ _ h=>h) trivial ?_
 refine ai 2 (some 4) (.pointer (some ⟨g,0,none⟩)) (by kernel_rfl) (fun _ _=>by kernel_rfl) (fun _ _ _ h=>h) trivial ?_
 refine ai 3 (some 5) (.pointer (some ⟨g,1,none⟩)) (by kernel_rfl) (fun _ _=>by kernel_rfl) (fun _ _ _ h=>h) trivial ?_
 refine ai 5 (some 7) (.pointer (some ⟨g,0,none⟩)) (by kernel_rfl) (fun _ _=>by kernel_rfl) (fun _ _ _ h=>h) trivial ?_
 refine ai 6 (some 8) (.pointer (some ⟨g,0,none⟩)) (by kernel_rfl) (fun _ _=>by kernel_rfl) (fun _ _ _ h=>h) trivial ?_
 refine ai 7 (some 9) (.pointer (some ⟨g,3,none⟩)) (by kernel_rfl) (fun _ _=>by kernel_rfl) (fun _ _ _ h=>h) trivial ?_
 refine aN [4,8] (by kernel_rfl) (by simp) ?_
 have X:dm w.drew g err p aw lat u:=⟨Y.len,Y.blk⟩
 have f:=wD X.c1;have d:=xi X.len X.cl;refine bH 4 (some 6) (.pointer p) _ (by kernel_rfl) (qM 5 (by kernel_rfl) (by kernel_rfl) f) trivial ?_ (bH 8 (some 10) (.agg (lat.map (Value.int .u8)).toArray) _ (by kernel_rfl) (qM 9 (by kernel_rfl) (by kernel_rfl) d) trivial ?_ bj)
 ·refine aN [8] (by kernel_rfl) (by simp) ?_
  refine bH 8 (some 10) (.agg (lat.map (Value.int .u8)).toArray) _ (by kernel_rfl) (qM 9 (by kernel_rfl) (by kernel_rfl) d) trivial ?_ bj;refine aN [9] (by kernel_rfl) (by simp) ?_
  refine bH 9 (some 11) (.agg (Value.pointer p :: lat.map (Value.int .u8)).toArray) _ (by kernel_rfl) (Ca #[(0,.tmp 6),(1,.tmp 10)] (by kernel_rfl) (by kernel_rfl) l) trivial ?_ bj;refine aN [10] (by kernel_rfl) (by simp) ?_
  refine tw 10 (some 12) 282 (Value.pointer p :: lat.map (Value.int .u8)) (by kernel_rfl) (by kernel_rfl) ?_ bj;intro V m b;refine⟨trivial,?_⟩;replace X:=X.keep b;replace b:Below w.heap.size w V:=(Below.refl w.heap.size w).drew.trans b;refine ai 11 (some 13) (.pointer (some ⟨g,0,none⟩)) (by kernel_rfl) (fun _ _=>by kernel_rfl) (fun _ _ _ h=>h) trivial ?_
  refine ai 12 (some 14) (.pointer (some ⟨g,1,none⟩)) (by kernel_rfl) (fun _ _=>by kernel_rfl) (fun _ _ _ h=>h) trivial ?_
  refine aN [13] (by kernel_rfl) (by simp) ?_
  refine dD 13 (V.setCell ⟨g,1,none⟩ (.pointer (some ⟨w.heap.size,0,none⟩))) (by kernel_rfl) (pT 14 12 (v:=.pointer (some ⟨w.heap.size,0,none⟩)) (by kernel_rfl) (by kernel_rfl) (by kernel_rfl) (vO X.c1 (X.free 1))) trivial ?_ bj;refine bQ (by kernel_rfl) ?_
  try simp only[Act.put,List.setIfInBounds_toArray,List.set_cons_zero,List.set_cons_succ]
  replace X:=X.set1 (some ⟨w.heap.size,0,none⟩)
  have i:Hid (But g w (V.setCell ⟨g,1,none⟩ (.pointer (some ⟨w.heap.size,0,none⟩)))):=⟨b.os,b.tape,b.output,by rw[size_set];exact b.size,fun k n c=>by rw[Below.heap_setCell _ _ _ k c];exact b.block k n⟩
  replace m:Box (V.setCell ⟨g,1,none⟩ (.pointer (some ⟨w.heap.size,0,none⟩))) w.heap.size _ _:=m.off (g':=g) (by show w.heap.size≠g;omega) (fun k j=>Below.heap_setCell _ _ _ k j);clear b;generalize V.setCell ⟨g,1,none⟩ (.pointer (some ⟨w.heap.size,0,none⟩))=W at *;have c2:=X.c2;have f2:=X.free 2;have cu:=X.cu;have s:=X.free 259;clear f d l c1 f1;have r:=(X.set2 (aw+256)).setu 0
  have o:Hid (But g w ((W.setCell ⟨g,2,none⟩ (.int .i64 (aw+256))).setCell ⟨g,259,none⟩ (.int .i64 0))):=⟨i.out.os,i.out.tape,i.out.output,by rw[size_set,size_set];exact i.out.size,fun k n c=>by rw[Below.heap_setCell _ _ _ k c,Below.heap_setCell _ _ _ k c];exact i.out.block k n c⟩
  have q:Hid (Box ((W.setCell ⟨g,2,none⟩ (.int .i64 (aw+256))).setCell ⟨g,259,none⟩ (.int .i64 0)) w.heap.size (Value.pointer p :: lat.map (Value.int .u8)) 282):=(m.off (g':=g) (by omega) (fun k j=>Below.heap_setCell _ _ _ k j)).off (g':=g) (by omega) (fun k j=>Below.heap_setCell _ _ _ k j);go_wp2;go_end0;exact⟨rfl,r,q.out,o.out⟩
 ·refine aN [4] (by kernel_rfl) (by simp) ?_
  refine bH 4 (some 6) (.pointer p) _ (by kernel_rfl) (qM 5 (by kernel_rfl) (by kernel_rfl) f) trivial ?_ bj;refine aN [9] (by kernel_rfl) (by simp) ?_
  refine bH 9 (some 11) (.agg (Value.pointer p :: lat.map (Value.int .u8)).toArray) _ (by kernel_rfl) (Ca #[(0,.tmp 6),(1,.tmp 10)] (by kernel_rfl) (by kernel_rfl) l) trivial ?_ bj;refine aN [10] (by kernel_rfl) (by simp) ?_
  refine tw 10 (some 12) 282 (Value.pointer p :: lat.map (Value.int .u8)) (by kernel_rfl) (by kernel_rfl) ?_ bj;intro V m b;refine⟨trivial,?_⟩;replace X:=X.keep b;replace b:Below w.heap.size w V:=(Below.refl w.heap.size w).drew.trans b;refine ai 11 (some 13) (.pointer (some ⟨g,0,none⟩)) (by kernel_rfl) (fun _ _=>by kernel_rfl) (fun _ _ _ h=>h) trivial ?_
  refine ai 12 (some 14) (.pointer (some ⟨g,1,none⟩)) (by kernel_rfl) (fun _ _=>by kernel_rfl) (fun _ _ _ h=>h) trivial ?_
  refine aN [13] (by kernel_rfl) (by simp) ?_
  refine dD 13 (V.setCell ⟨g,1,none⟩ (.pointer (some ⟨w.heap.size,0,none⟩))) (by kernel_rfl) (pT 14 12 (v:=.pointer (some ⟨w.heap.size,0,none⟩)) (by kernel_rfl) (by kernel_rfl) (by kernel_rfl) (vO X.c1 (X.free 1))) trivial ?_ bj;refine bQ (by kernel_rfl) ?_
  try simp only[Act.put,List.setIfInBounds_toArray,List.set_cons_zero,List.set_cons_succ]
  replace X:=X.set1 (some ⟨w.heap.size,0,none⟩)
  have i:Hid (But g w (V.setCell ⟨g,1,none⟩ (.pointer (some ⟨w.heap.size,0,none⟩)))):=⟨b.os,b.tape,b.output,by rw[size_set];exact b.size,fun k n c=>by rw[Below.heap_setCell _ _ _ k c];exact b.block k n⟩
  replace m:Box (V.setCell ⟨g,1,none⟩ (.pointer (some ⟨w.heap.size,0,none⟩))) w.heap.size _ _:=m.off (g':=g) (by show w.heap.size≠g;omega) (fun k j=>Below.heap_setCell _ _ _ k j);clear b;generalize V.setCell ⟨g,1,none⟩ (.pointer (some ⟨w.heap.size,0,none⟩))=W at *;have c2:=X.c2;have f2:=X.free 2;have cu:=X.cu;have s:=X.free 259;clear f d l c1 f1;have r:=(X.set2 (aw+256)).setu 0
  have o:Hid (But g w ((W.setCell ⟨g,2,none⟩ (.int .i64 (aw+256))).setCell ⟨g,259,none⟩ (.int .i64 0))):=⟨i.out.os,i.out.tape,i.out.output,by rw[size_set,size_set];exact i.out.size,fun k n c=>by rw[Below.heap_setCell _ _ _ k c,Below.heap_setCell _ _ _ k c];exact i.out.block k n c⟩
  have q:Hid (Box ((W.setCell ⟨g,2,none⟩ (.int .i64 (aw+256))).setCell ⟨g,259,none⟩ (.int .i64 0)) w.heap.size (Value.pointer p :: lat.map (Value.int .u8)) 282):=(m.off (g':=g) (by omega) (fun k j=>Below.heap_setCell _ _ _ k j)).off (g':=g) (by omega) (fun k j=>Below.heap_setCell _ _ _ k j);go_wp2;go_end0;exact⟨rfl,r,q.out,o.out⟩
end
end
section
open Go.RowKit Lim
section
variable {w w' w1:World}{p ao:Option Addr}{ps l:List Int}{g b o:Nat}{cs:List Value}{err:Int}{v:Value}{ops:Array Oper}{K:Act->World->Prop}
def PcL(w:World):List (Nat×List Int)->Option Addr->List Int->Prop
 | [],p,l=>p=none/\l=[]
 | x::r,p,l=>∃ q s,p=some ⟨x.1,0,none⟩/\l=s ++ x.2/\Box w x.1 (.pointer q::x.2.map (Value.int .u8)) 282/\x.2.length=256/\PcL w r q s
structure Pc(w:World)(p:Option Addr)(l:List Int):Prop where
 ex:∃ L,PcL w L p l
theorem Pc.nil{w}:Pc w none []:=⟨[],rfl,rfl⟩
theorem Pc.cons{w b p ps bs}(hb:Box w b (.pointer p::bs.map (Value.int .u8)) 282)(hl:bs.length=256)(h:Pc w p ps):Pc w (some ⟨b,0,none⟩) (ps ++ bs):=h.ex.elim fun L h=>⟨(b,bs)::L,p,ps,rfl,rfl,hb,hl,h⟩
theorem Pc.ind{w}{M:∀ p l,Pc w p l->Prop}(nil:M _ _ .nil)(cons:∀ {b p ps bs} hb hl (h:Pc w p ps),M p ps h->M _ _ (.cons (b:=b) (bs:=bs) hb hl h)){p l}(h:Pc w p l):M p l h:=by
 obtain ⟨L,e⟩:=h.ex
 induction L generalizing p l with
 | nil=>
  obtain ⟨rfl,rfl⟩:=e
  exact nil
 | cons x r ih=>
  obtain ⟨q,s,rfl,rfl,a,b,c⟩:=e
  exact cons a b ⟨r,c⟩ (ih ⟨r,c⟩ c)
theorem Pc.off(h:Pc w p ps)(X:Box w g cs 230)(hw:∀ k,k < w.heap.size->k≠g->w'.heap[k]?=w.heap[k]?):Pc w' p ps:=by
 induction h using Pc.ind with
 | nil=>exact .nil
 | cons hb hl _ ih =>
  refine .cons ⟨?_⟩ hl ih
  rw[hw _ hb.lt (fun e=>by
   subst e;have a:=hb.blk;rw[X.blk] at a
   simp at a)]
  exact hb.blk
theorem Pc.keep(h:Pc w p ps)(hB:Below w.heap.size w w'):Pc w' p ps:=by
 induction h using Pc.ind with
 | nil=>exact .nil
 | cons hb hl _ ih=>exact .cons (hb.keep hB) hl ih
structure WrA(w:World)(g:Nat)(err:Int)(l:List Int):Prop where
 ex:∃ p ps lat,∃ u:Nat,dm w g err p (ps.length:Int) lat (u:Int)/\Pc w p ps/\u < 256/\l=ps ++ lat.take u
theorem WrA.lt(h:WrA w g err l):g < w.heap.size:=by
 obtain⟨p,ps,lat,u,X,_⟩:=h.ex;exact X.lt
theorem WrA.keep(h:WrA w g err l)(hB:Below w.heap.size w w'):WrA w' g err l:=by
 obtain⟨p,ps,lat,u,X,P,hu,e⟩:=h.ex;exact⟨p,ps,lat,u,X.keep hB,P.keep hB,hu,e⟩
theorem But.refl(g:Nat)(w:World):But g w w:=⟨rfl,rfl,rfl,Nat.le_refl _,fun _ _ _=>rfl⟩
theorem But.trans{d:World}(h:But g w w1)(a:But g w1 d):But g w d:=⟨a.os.trans h.os,a.tape.trans h.tape,a.output.trans h.output,Nat.le_trans h.size a.size,fun k c b=>(a.block k (Nat.lt_of_lt_of_le c h.size) b).trans (h.block k c b)⟩
theorem But.drew(h:But g w w1):But g w w1.drew:=⟨h.os,h.tape,h.output,h.size,h.block⟩
theorem But.cell(h:But g w w1)(hc:w.cell? ⟨b,o,none⟩=some v)(hb:b≠g):w1.cell? ⟨b,o,none⟩=some v:=by
 rw[World.cell?_of_block (w:=w) (h.block b (aL hc) hb)];exact hc
theorem CD(err:Int)(p:Option Addr)(aw:Int)(lat ms:List Int)(x:Int)(u:Nat)(h:u+ms.length<=lat.length) :
  splice (eb err p aw lat x) (3+u) (ms.map (Value.int .u8))=eb err p aw (lat.take u ++ ms ++ lat.drop (u+ms.length)) x:=by
 unfold splice eb;rw[show 3+u=u+1+1+1 by omega,List.length_map,show u+1+1+1+ms.length=u+ms.length+1+1+1 by omega];simp only[List.take_succ_cons,List.drop_succ_cons,List.cons_append];rw[List.take_append_of_le_length (by rw[List.length_map];omega),List.drop_append_of_le_length (by rw[List.length_map];omega)];simp
theorem vx{P:Program}{o:Oper}{a:Act}{Q:Exit->Act->World->Prop}{E:Prop}(i:o.guard=none)(d s:Operand)(l n:TypeId)(q:o.op=.call { callee:=.builtin .copy,args:=#[d,s],argTypes:=#[l,n] })(elem:TypeId)(hu:P.underlying l=some (.slice elem))(k:(P.info? elem).map (·.size)=some 1)(g off dLen dCap:Nat)(ad:Addr)(sLen sCap:Nat)(hd:a.eval d=.slice (some ⟨g,off,none⟩) dLen dCap)(hs:a.eval s=.slice (some ad) sLen sCap)(cur:List Value)(t:TypeId)(p:w.heap[g]?=some (.cells cur.toArray t (0,0)))(cs:List Value)(m:Nat)(hm:cs.length=m)(hn:m=Nat.min sLen dLen)(f:∀ j v,cs[j]?=some v->w.cell? (ad.add j)=some v)(c:off+m<=cur.length)(r:∀ v∈cs,v.oneCell'=true)(h:∀ w',Hid (w'.heap[g]?=some (.cells (splice cur off cs).toArray t (0,0)))->Hid (∀ b,b≠g->w'.heap[b]?=w.heap[b]?)->Hid (w'.os=w.os/\w'.tape=w.tape/\w'.output=w.output/\w'.heap.size=w.heap.size)->K (a.put o.dst (.int .i64 (m:Int))) w') :
  if Region.wanted o (yielded ops a.tmps)=true then Oper.wp P o a w K Q else E:=by
 subst hm
 have hw:Region.wanted o (yielded ops a.tmps)=true:=by simp[Region.wanted,i]
 rw[if_pos hw];have e:=run_copy_row (P:=P) w l n o.type elem g off dLen dCap ad sLen sCap cur.toArray t cs hu k p hn f (by simpa using c) r;unfold Oper.wp;simp[execOp,q,resolve,invoke,builtin,hd,hs,e,Result.andThen];exact h _ (show _=_ by simpa[splice] using setRow_heap w g _ _ t _ p) (fun b hb=>setRow_other w g b _ hb) ⟨rfl,rfl,rfl,by simp[World.setRow]⟩
theorem wM:(Tryz.prog.info? 5).map (·.size)=some 1:=by kernel_rfl
theorem yo(g u:Nat)(h:u < 256)(W:World):(Instr.sliceAt 228 (.pointer (some ⟨g,3,none⟩)) (some (.int .i64 (u:Int))) none none).run Tryz.prog W=.ok (.slice (some ⟨g,3+u,none⟩) (256 - u) (256 - u)) W:=by
 have a:Tryz.prog.arrayLen 228=256:=by kernel_rfl
 have b:Tryz.prog.elem 228=5:=by kernel_rfl
 have hu:Tryz.prog.underlying 228=some (.array (Tryz.prog.arrayLen 228) (Tryz.prog.elem 228)):=by kernel_rfl
 have hs:(sizeOf 5).run Tryz.prog W=.ok 1 W:=by kernel_rfl
 rw[run_sliceAt_array_l W 228 ⟨g,3,none⟩ hu .i64 (u:Int) (by omega) (by rw[a];omega),b,hs,a];simp only[Result.andThen,slicedAt,Int.toNat_natCast,Nat.mul_one];rw[if_neg (by omega)];congr 3
 exact addr_add g 3 u
theorem sliceB(ao:Option Addr)(n c m:Nat)(W:World)(hm:m<=n)(hn:n<=c):(Instr.sliceAt 87 (.slice ao n c) (some (.int .i64 (m:Int))) none none).run Tryz.prog W=.ok (.slice (du ao c m) (n - m) (c - m)) W:=by
 have d:(m:Int)<=n:=by omega
 have b:(m:Int)<=c:=by omega
 unfold du;split
 ·go_simp
 ·go_simp
def lenV(v:Value):Nat:=match v with
 | .slice _ n _=>n
 | _=>0
theorem wrLay{n c:Nat}{L:List Int}(X:WrA w g 0 L)(ha:AtB w ao b o l)(hl:l.length=n)(hc:n<=c)(hb:b≠g)(hbig:L.length+n<=4611686018427387904) :
  Calls Tryz.prog 232 #[.pointer (some ⟨g,0,none⟩),.slice ao n c] w fun e w'=>e=.returned (.tuple #[])/\WrA w' g 0 (L ++ l)/\But g w w':=by
 have HX:Hid (WrA w g 0 L):=X
 have HA:Hid (AtB w ao b o l):=ha;clear X ha;go_enter Tryz.func232,Tryz.ntmps232;go_wp2_with fail;go_loopw [1] (fun tb wr=>∃ k r a' D,Hid (k+r=n)/\tb=.slice a' r D/\r<=D/\Hid (0 < r->a'=some ⟨b,o+k,none⟩)/\WrA wr g 0 (L ++ l.take k)/\But g w wr) (fun tb _=>lenV tb)
 case atStart=>exact⟨0,n,ao,c,Nat.zero_add n,rfl,hc,fun h=>by
  rcases HA.out.loc with e | e
  ·rw[e] at hl;simp at hl;omega
  ·rw[e];rfl,by simpa using HX.out,But.refl _ _⟩
 case round =>
  obtain⟨k,r,a',D,E,rfl,hkc,A,Y,y⟩:=hrel;obtain⟨p,ps,d,u,z,P0,hu,hL⟩:=Y.ex;have HL:=(show Hid _ from hL)
  have hps:(ps.length:Int)<=4611686018427387904:=by have i:=congrArg List.length hL;simp at i;have:=E.out;omega
  have HP:=(show Hid _ from P0)
  have Q:=(show Hid _ from y)
  have t:=ll z.c0
  have HY:Hid (WrA wr g 0 (L ++ l.take k)):=Y;clear hL P0 y Y;go_wp2_with fail;refine t.mono ?_
  rintro e w1 ⟨rfl,rfl⟩;clear t;by_cases I:0 < r
  ·obtain rfl:=A.out I
   have hlt':(0:Int) < r:=by omega
   obtain⟨m,hm⟩:∃ m,m=Nat.min r (256 - u):=⟨_,rfl⟩
   have hm1:m<=r:=by rw[hm];exact Nat.min_le_left _ _
   have hm2:m<=256 - u:=by rw[hm];exact Nat.min_le_right _ _
   have hm3:1<=m:=by rw[hm];exact Nat.le_min.2 ⟨I,by omega⟩
   have HM:=(show Hid _ from hm)
   clear hm;obtain⟨ms,x⟩:∃ ms,ms=(l.drop k).take m:=⟨_,rfl⟩
   have J:ms.length=m:=by rw[x,List.length_take,List.length_drop];have:=E.out;omega
   have F:=z.len;have q:=(show Hid _ from J)
   have M:=(show Hid _ from x)
   have HS:Hid (∀ W,But g w W->∀ j v,(ms.map (Value.int .u8))[j]? = some v->W.cell? ((⟨b,o + k,none⟩:Addr).add j)=some v):=fun W hW j v Z=>by
    obtain⟨i,B⟩:=List.getElem?_eq_some_iff.1 Z;rw[List.length_map] at i;rw[List.getElem_map] at B;have hh:=E.out;rw[addr_add];refine hW.cell ?_ hb;rw[<- B,show o+k+j=o+(k+j) by omega,HA.out.cell (k+j) (by omega),<- cn i,x,dG (by omega),dR]
   have K:=CD 0 p (ps.length:Int) d ms (u:Int) u (by omega);have V:=(show Hid _ from K)
   have s:=(show Hid _ from F)
   clear K J x F;have cu:=z.cu;have hsl:=yo g u hu
   have HC:Hid (∀ W,(Instr.sliceAt 87 (.slice (some ⟨b,o+k,none⟩) r D) (some (.int .i64 (m:Int))) none none).run Tryz.prog W=.ok (.slice (du (some ⟨b,o+k,none⟩) D m) (r - m) (D - m)) W):=fun W=>sliceB _ _ _ _ W hm1 hkc
   go_wp2_with fail;go_region_law (refine vx rfl (.tmp 21) (.tmp 22) 87 87 rfl 5 cY wM g (3+u) (256 - u) (256 - u) ⟨b,o+k,none⟩ r D (by rfl) (by rfl) _ 230 z.blk (ms.map (Value.int .u8)) m (by rw[List.length_map];exact q.out) HM.out (fun j v Z=>HS.out _ Q.out.drew j v Z) (by simp[eb,s.out];omega) (by simp[Value.oneCell']) ?_;intro w4 N O f)
   have G:dm w4 g 0 p (ps.length:Int) (d.take u ++ ms ++ d.drop (u+ms.length)) (u:Int):=⟨by have:=q.out;have:=s.out;simp;omega,by rw[<- V.out];exact N.out⟩
   have P:=G.setu ((u:Int)+(m:Int))
   have S:Hid (But g w1 (w4.setCell ⟨g,259,none⟩ (.int .i64 ((u:Int)+(m:Int))))):=⟨f.out.1,f.out.2.1,f.out.2.2.1,by rw[size_set,f.out.2.2.2];exact Nat.le_refl _,fun j i B=>by rw[Below.heap_setCell _ _ _ j B,O.out j B];rfl⟩
   have U:=G.cu;have fu4:=G.free 259;have cu5:=P.cu;have H:=HC.out;clear cu hsl N O f;by_cases hf:u+m=256
   ·have hq:(((u:Int) + (m:Int)) == 256)=true:=by rw[beq_iff_eq]; omega
    have HF:=(show Hid _ from hf)
    clear hf;go_wp2_with fail;refine(wrPut P (by omega) hps).mono ?_
    rintro e w6 ⟨rfl,R,XB,C⟩
    have T:Hid (WrA w6 g 0 (L ++ l.take (k+m))):=by
     have i:=q.out;have B:=s.out;have h3:=HF.out
     have e1:d.drop (u+ms.length)=[]:=List.drop_eq_nil_of_le (by omega)
     have e2:L ++ l.take (k+m)=ps ++ (d.take u ++ ms ++ d.drop (u+ms.length)):=by
      rw[List.take_add,<- List.append_assoc,HL.out,<- M.out,e1,List.append_nil,List.append_assoc]
     refine⟨some ⟨_,0,none⟩,ps ++ (d.take u ++ ms ++ d.drop (u+ms.length)),d.take u ++ ms ++ d.drop (u+ms.length),0,?_,.cons XB R.len (HP.out.off z.box (S.out.trans C).block),by omega,?_⟩
     ·have e3:(((ps ++ (d.take u ++ ms ++ d.drop (u + ms.length))).length:Nat):Int)=(ps.length:Int) + 256:=by rw[List.length_append,R.len]; rfl
      rw[e3];exact R
     ·rw[e2];simp
    have H7:Hid (But g w w6):=Q.out.trans (S.out.trans C);clear R XB C G P U cu5 fu4 hq z H;go_wp2;go_roundw
    case rel=>exact⟨k + m,r - m,_,_,by show _=_; have:=E.out; omega,rfl,by omega,fun h=>by
     unfold du;rw[if_neg (by omega)];show some ((⟨b,o+k,none⟩:Addr).add m)=_;rw[addr_add,Nat.add_assoc],T.out,H7.out⟩
    case measure=>simp[lenV];omega
   ·have hq:(((u:Int) + (m:Int)) == 256)=false:=by rw[beq_eq_false_iff_ne]; omega
    have T:Hid (WrA (w4.setCell ⟨g,259,none⟩ (.int .i64 ((u:Int)+(m:Int)))) g 0 (L ++ l.take (k+m))):=by
     have i:=q.out;have B:=s.out;refine⟨p,ps,_,u+m,P,HP.out.off z.box S.out.block,by omega,?_⟩
     have e4:(d.take u ++ ms ++ d.drop (u+ms.length)).take (u+m)=d.take u ++ ms:=by
      rw[List.take_append_of_le_length (by simp;omega)];exact List.take_of_length_le (by simp;omega)
     rw[e4,List.take_add,<- List.append_assoc,HL.out,<- M.out,List.append_assoc]
    have H7:=(show Hid _ from Q.out.trans S.out)
    have HF:=(show Hid _ from hf)
    clear hf G P z;go_wp2;go_roundw
    case rel=>exact⟨k + m,r - m,_,_,by show _=_; have:=E.out; omega,rfl,by omega,fun h=>by
     unfold du;rw[if_neg (by omega)];show some ((⟨b,o+k,none⟩:Addr).add m)=_;rw[addr_add,Nat.add_assoc],T.out,H7.out⟩
    case measure=>simp[lenV];omega
  ·obtain rfl:r=0:=by omega
   have HE:Hid (WrA w1 g 0 (L ++ l)):=by
    have i:=HY.out;rw[List.take_of_length_le (by have:=E.out;omega)] at i;exact i
   go_wp2;go_end0;exact⟨rfl,HE.out,Q.out⟩
end
end
section
open Go.RowKit Lim
section
variable {x err:Int}{w:World}{g n c b o k m:Nat}{ao:Option Addr}{L l ds:List Int}{cs:List Value}
def be:Nat->Int->List Int
 | 0,_=>[]
 | m+1,x=>x / 256 ^ m % 256 :: be m x
theorem aT(m:Nat)(x:Int):(be m x).length=m:=by
 induction m with
 | zero=>rfl
 | succ m ih=>rw[be,List.length_cons,ih]
theorem CG(m:Nat)(x:Int):∀ i,i < m->nth (be m x) i=x / 256 ^ (m - 1 - i) % 256:=by
 induction m with
 | zero=>intro i hi;omega
 | succ m ih =>
  intro i hi
  cases i with
  | zero=>rfl
  | succ i =>
   rw[be,dS,ih i (by omega),show m - 1 - i=m+1 - 1 - (i+1) by omega]
theorem fw(m:Nat)(x:Int):bG (be m x):=by
 induction m with
 | zero=>intro y hy;simp[be] at hy
 | succ m ih =>
  intro y hy;rw[be] at hy;rcases List.mem_cons.1 hy with e | e
  ·subst e;exact⟨Int.emod_nonneg _ (by decide),Int.emod_lt_of_pos _ (by decide)⟩
  ·exact ih y e
theorem p7(m:Nat)(hx:0<=x):bW (be m x)=x % 256 ^ m:=by
 induction m with
 | zero=>simp[be,bW]
 | succ m ih=>rw[be,bW,aT,ih,<- nD x hx m]
def wrote(err:Int)(L l:List Int):List Int:=if err=0 then L ++ l else L
theorem wrLayE(X:WrA w g err L)(he:err≠0) :
  Calls Tryz.prog 232 #[.pointer (some ⟨g,0,none⟩),.slice ao n c] w fun e w'=>e=.returned (.tuple #[])/\w'=w:=by
 obtain⟨p,ps,f,u,b,_⟩:=X.ex;have t:=ll b.c0;rw[beq_eq_false_iff_ne.2 he] at t;clear X b he;go_enter Tryz.func232,Tryz.ntmps232;go_wp2_with fail;go_loopw [1] (fun d wr=>d=.slice ao n c/\wr=w) (fun _ _=>0)
 case atStart=>exact⟨rfl,rfl⟩
 case round =>
  obtain⟨rfl,rfl⟩:=hrel;go_wp2_with fail;refine t.mono ?_
  rintro e i ⟨rfl,rfl⟩;clear t;go_wp2;go_end0;exact⟨rfl,rfl⟩
theorem Be(X:WrA w g err L)(h:AtB w ao b o l)(d:l.length=n)(hc:n<=c)(hb:b≠g)(a:L.length+n<=4611686018427387904) :
  Calls Tryz.prog 232 #[.pointer (some ⟨g,0,none⟩),.slice ao n c] w fun e w'=>e=.returned (.tuple #[])/\WrA w' g err (wrote err L l)/\But g w w':=by
 unfold wrote;by_cases he:err=0
 ·subst he;rw[if_pos rfl];exact wrLay X h d hc hb a
 ·rw[if_neg he];refine(wrLayE X he).mono ?_
  rintro e w' ⟨i,f⟩;subst f;exact⟨i,X,But.refl _ _⟩
theorem slice8(g m:Nat)(h:m<=8)(W:World):(Instr.sliceAt 311 (.pointer (some ⟨g,0,none⟩)) none (some (.int .i64 (m:Int))) none).run Tryz.prog W=.ok (.slice (some ⟨g,0,none⟩) m 8) W:=by
 have b:(m:Int)<=8:=by omega
 go_simp
theorem AO{v:Int}(hk:k < ds.length):(ds.set k v).take (k+1)=ds.take k ++ [v]:=by
 rw[ez (by rw[List.length_set];exact hk),dN hk,if_pos rfl,List.take_set_of_le (Nat.le_refl _)]
theorem Box.bytes{t:TypeId}(h:Box w g (ds.map (Value.int .u8)) t){i:Nat}(hi:i < ds.length):w.cell? ⟨g,i,none⟩=some (.int .u8 (nth ds i)):=by
 simp[World.cell?,h.blk,hi,cn hi]
theorem Box.thaw{t:TypeId}(h:Box w g cs t)(i:Nat):w.frozen? ⟨g,i,none⟩=false:=by simp[World.frozen?,h.blk]
theorem Box.setB{t:TypeId}(h:Box w g (ds.map (Value.int .u8)) t)(i:Nat)(x:Int):Box (w.setCell ⟨g,i,none⟩ (.int .u8 x)) g ((ds.set i x).map (Value.int .u8)) t:=⟨by
 have hb:=h.blk;simp only[World.setCell,Array.getElem?_modify,if_true,hb]
 simp⟩
theorem yT(X:WrA w g err L)(hm:m<=8)(C:L.length+8<=4611686018427387904) :
  Calls Tryz.prog 198 #[.pointer (some ⟨g,0,none⟩),.int .u64 x,.int .i64 m] w fun e w'=>e=.returned (.tuple #[])/\WrA w' g err (wrote err L (be m x))/\But g w w':=by
 have M:Hid (WrA w g err L):=X;have O:=X.lt;have N:=ji w ((List.replicate 8 (0:Int)).map (Value.int .u8)) 311;have B:=ae w (.cells #[.int .u8 0,.int .u8 0,.int .u8 0,.int .u8 0,.int .u8 0,.int .u8 0,.int .u8 0,.int .u8 0] 311);have F:=(show Hid _ from N)
 have u:=(show Hid _ from B)
 clear X N B;go_enter Tryz.func198,Tryz.ntmps198;go_wp2_with fail;go_loopw [9] (fun v wr=>∃ (k:Nat) (o:List Int),k<=m/\v=.int .i64 k/\o.length=8/\Hid (o.take k=(be m x).take k)/\Box wr w.heap.size (o.map (Value.int .u8)) 311/\Below w.heap.size w wr) (fun v _=>m - (intOf v).toNat)
 case atStart=>exact⟨0,List.replicate 8 0,Nat.zero_le _,rfl,rfl,rfl,F.out,u.out⟩
 case round =>
  obtain⟨k,o,P,rfl,hlen,f,d,b⟩:=hrel;by_cases j:k < m
  ·obtain⟨h,Q⟩:∃ h:Nat,(m:Int) - 1 - k=h:=⟨m - 1 - k,by omega⟩
   have q:m - 1 - k=h:=by omega
   have K:Hid ((o.set k (x / 2 ^ (8 * h) % 256)).take (k+1)=(be m x).take (k+1)):=by
    have e1:(256:Int) ^ h=2 ^ (8 * h):=by rw[Int.pow_mul];rfl
    show _=_
    rw[AO (by omega),f.out,ez (by rw[aT];exact j),CG m x k j,q,e1]
   have E:(k:Int) < 8:=by omega
   have I:h < 8:=by omega
   have c1:=d.bytes (i:=k) (by omega);have f1:=d.thaw k;have D:=(show Hid _ from d.setB k (x / 2 ^ (8 * h) % 256))
   have y:=(show Hid _ from b)
   have r:=(show Hid _ from hlen)
   clear q d b f hlen;go_wp2_with fail;refine⟨⟨k+1,_,by omega,by go_num,by rw[List.length_set];exact r.out,K.out,D.out,y.out.setCell (p:=⟨w.heap.size,k,none⟩) (Nat.le_refl _) _⟩,by simp[intOf];omega⟩
  ·obtain rfl:k=m:=by omega
   have A:AtB wr (some ⟨w.heap.size,0,none⟩) w.heap.size 0 (be k x):=⟨.inr rfl,fun i hi=>by
    rw[aT] at hi;have e:=f.out;rw[List.take_of_length_le (l:=be k x) (by rw[aT];exact Nat.le_refl _)] at e
    rw[Nat.zero_add,d.bytes (by omega),<- e,dG hi]⟩
   have t:=Be (n:=k) (c:=8) (M.out.keep b) A (aT k x) hm (by omega) (by omega);have J:=slice8 w.heap.size k hm
   have y:Hid (∀ w',But g wr w'->But g w w'):=fun w' hb=>(⟨b.os,b.tape,b.output,b.size,fun k s _=>b.block k s⟩:But g w wr).trans hb
   clear A d b f;go_wp2_with fail;refine t.mono ?_
   rintro e H ⟨rfl,s,z⟩;have G:=(show Hid _ from y.out H z)
   clear t z;go_wp2;go_end0;exact⟨rfl,s,G.out⟩
theorem yQ(h:n < 256 ^ k):(n:Int) / 2 ^ (8 * k)=0:=by
 have e:(2:Int) ^ (8 * k)=((256 ^ k:Nat):Int):=by rw[Int.pow_mul,Int.natCast_pow];rfl
 rw[e];exact Int.ediv_eq_zero_of_lt (by omega) (by omega)
def gi(m:Nat)(l:List Int):List Int:=be m l.length ++ l
theorem yz(err:Int)(L l r:List Int):wrote err (wrote err L l) r=wrote err L (l ++ r):=by
 unfold wrote;by_cases h:err=0
 ·rw[if_pos h,if_pos h,if_pos h,List.append_assoc]
 ·rw[if_neg h,if_neg h,if_neg h]
theorem ya(err:Int)(L l:List Int):(wrote err L l).length<=L.length+l.length:=by
 unfold wrote;split
 ·rw[List.length_append];exact Nat.le_refl _
 ·exact Nat.le_add_right _ _
theorem But.at{w':World}(h:But g w w')(k:AtB w ao b o l)(hb:b≠g):AtB w' ao b o l:=⟨k.loc,fun i hi=>h.cell (k.cell i hi) hb⟩
theorem wrCnt(X:WrA w g err L)(r:AtB w ao b o l)(p:l.length=n)(hc:n<=c)(hb:b≠g)(hm:m=1\/m=4)(hn:n < 256 ^ m)(q:L.length+n+16<=4611686018427387904) :
  Calls Tryz.prog 233 #[.pointer (some ⟨g,0,none⟩),.slice ao n c,.int .i64 m] w fun e w'=>e=.returned (.tuple #[])/\WrA w' g err (wrote err L (gi m l))/\But g w w':=by
 have t:=yT (m:=m) (x:=(n:Int)) X (by omega) (by omega);have B:=yQ hn
 have u:m<=4:=by omega
 have A:=(show Hid _ from hm)
 have C:=(show Hid _ from hn)
 clear X hm hn;go_enter Tryz.func233,Tryz.ntmps233;go_wp2_with fail;refine t.mono ?_
 rintro e z ⟨rfl,s,d⟩;have t2:=Be s (d.at r hb) p hc hb (by have:=ya err L (be m n);rw[aT] at this;omega);rw[yz] at t2
 have v:Hid (be m n ++ l=gi m l):=by show _=_;unfold gi;rw[p]
 have i:=(show Hid _ from d)
 clear t s d r;go_wp2_with fail;refine t2.mono ?_
 rintro e D ⟨rfl,y,f⟩;have j:=(show Hid _ from i.out.trans f)
 clear t2 f;go_wp2;go_end0;exact⟨rfl,by rw[<- v.out];exact y,j.out⟩
theorem EP(h:256 ^ k<=n):((n:Int) / 2 ^ (8 * k) != 0)=true:=by
 have e:(2:Int) ^ (8 * k)=((256 ^ k:Nat):Int):=by rw[Int.pow_mul,Int.natCast_pow];rfl
 rw[e,bne_iff_ne]
 have b:0 < n / 256 ^ k:=Nat.div_pos h (Nat.pow_pos (by decide))
 have a:(n:Int) / ((256 ^ k:Nat):Int)=((n / 256 ^ k:Nat):Int):=rfl;omega
def long(err:Int):Int:=if err=0 then 42 else err
theorem Ej{e0:Int}(X:WrA w g err L) :
  Calls Tryz.prog 218 #[.pointer (some ⟨g,0,none⟩),.int .i64 e0] w fun e w'=>e=.returned (.tuple #[])/\WrA w' g (if err=0 then e0 else err) L/\But g w w':=by
 obtain⟨p,ps,c,u,a,h,hu,hL⟩:=X.ex;by_cases he:err=0
 ·subst he;rw[if_pos rfl];refine(stMeet a.c0 (a.free 0)).mono ?_
  rintro e w' ⟨b,rfl⟩
  have d:But g w (w.setCell ⟨g,0,none⟩ (.int .i64 e0)):=⟨rfl,rfl,rfl,by rw[size_set];exact Nat.le_refl _,fun k _ f=>Below.heap_setCell _ _ _ k f⟩
  exact⟨b,⟨p,ps,c,u,a.set0 e0,h.off a.box d.block,hu,hL⟩,d⟩
 ·rw[if_neg he];refine(DX a.c0 (beq_eq_false_iff_ne.2 he)).mono ?_
  rintro e w' ⟨b,rfl⟩;exact⟨b,X,But.refl _ _⟩
theorem yi(X:WrA w g err L)(hc:n<=9223372036854775807)(hm:m<=4)(hn:256 ^ m<=n) :
  Calls Tryz.prog 233 #[.pointer (some ⟨g,0,none⟩),.slice ao n c,.int .i64 m] w fun e w'=>e=.returned (.tuple #[])/\WrA w' g (long err) L/\But g w w':=by
 have t:=Ej (e0:=42) X;have l:=EP hn;have o:=(show Hid _ from hn)
 clear X hn;go_enter Tryz.func233,Tryz.ntmps233;go_wp2_with fail;refine t.mono ?_
 rintro e j ⟨rfl,f,b⟩;have i:=(show Hid _ from f)
 have d:=(show Hid _ from b)
 clear t f b;go_wp2;(try simp only[Exit.inBlock,Exit.then])
 refine bodyPost_ret (results_none rfl _ _ _) rfl ?_
 exact⟨rfl,i.out,d.out⟩
theorem wrU8(X:WrA w g err L)(d:0<=x)(hx:x < 256)(b:L.length+8<=4611686018427387904) :
  Calls Tryz.prog 199 #[.pointer (some ⟨g,0,none⟩),.int .u8 x] w fun e w'=>e=.returned (.tuple #[])/\WrA w' g err (wrote err L (be 1 x))/\But g w w':=by
 have t:=yT (m:=1) (x:=x) X (by decide) b;clear X;go_enter Tryz.func199,Tryz.ntmps199;go_wp2_with fail;refine t.mono ?_
 rintro e i ⟨rfl,f,c⟩;clear t;go_wp2;go_end0;exact⟨rfl,f,c⟩
theorem Fq(X:WrA w g err L)(b:L.length+8<=4611686018427387904) :
  Calls Tryz.prog 153 #[.pointer (some ⟨g,0,none⟩),.int .u64 x] w fun e w'=>e=.returned (.tuple #[])/\WrA w' g err (wrote err L (be 8 x))/\But g w w':=by
 have t:=yT (m:=8) (x:=x) X (by decide) b;clear X;go_enter Tryz.func153,Tryz.ntmps153;go_wp2_with fail;refine t.mono ?_
 rintro e f ⟨rfl,d,c⟩;clear t;go_wp2;go_end0;exact⟨rfl,d,c⟩
theorem zB{x:Bool}(X:WrA w g err L)(b:L.length+8<=4611686018427387904) :
  Calls Tryz.prog 155 #[.pointer (some ⟨g,0,none⟩),.bool x] w fun e w'=>e=.returned (.tuple #[])/\WrA w' g err (wrote err L (be 1 (if x then 1 else 0)))/\But g w w':=by
 cases x
 ·have t:=wrU8 (x:=0) X (by decide) (by decide) b;clear X;go_enter Tryz.func155,Tryz.ntmps155;go_wp2_with fail;refine t.mono ?_
  rintro e f ⟨rfl,d,c⟩;clear t;go_wp2;go_end0;exact⟨rfl,d,c⟩
 ·have t:=wrU8 (x:=1) X (by decide) (by decide) b;clear X;go_enter Tryz.func155,Tryz.ntmps155;go_wp2_with fail;refine t.mono ?_
  rintro e f ⟨rfl,d,c⟩;clear t;go_wp2;go_end0;exact⟨rfl,d,c⟩
end
end
section
open Go.RowKit Lim
section
variable {V err:Int}{g n c:Nat}{w:World}{ao:Option Addr}{L:List Int}
def eA(V:Int):List Int:=be ((bitLen V.toNat+7) / 8) V
theorem p6(b:0<=V):IsB (eA V) V:=by
 obtain⟨c,f⟩:=oW b;unfold eA;generalize (bitLen V.toNat+7) / 8=k at *;refine⟨fw k V,fun a=>?_,by rw[p7 k b,Int.emod_eq_of_lt b c]⟩
 have g:k≠0:=fun e=>a (by rw[e];rfl)
 rw[CG k V 0 (by omega),show k - 1 - 0=k - 1 by omega]
 have d:(0:Int) < 256 ^ (k - 1):=Int.pow_pos (by decide)
 have q1:1<=V / 256 ^ (k - 1):=by rw[Int.le_ediv_iff_mul_le d];have:=f g;omega
 have h:V / 256 ^ (k - 1) < 256:=by
  rw[Int.ediv_lt_iff_lt_mul d,Int.mul_comm,<- Int.pow_succ,show (k - 1).succ=k from by omega];exact c
 rw[Int.emod_eq_of_lt (by omega) h];omega
theorem Af(V:Int):bG (eA V):=fw _ _
def ik(V err:Int):Int:=if (eA V).length < 256 then err else long err
def jk(V err:Int)(L:List Int):List Int:=if (eA V).length < 256 then wrote err L (gi 1 (eA V)) else L
theorem But.of{w':World}(h:Below w.heap.size w w'):But g w w':=⟨h.os,h.tape,h.output,h.size,fun k h1 _=>h.block k h1⟩
theorem wrNat(X:WrA w g err L)(h:aX w ao n c V)(hn:n<=1099511627776)(F:L.length+8 * n+16<=4611686018427387904) :
  Calls Tryz.prog 200 #[.pointer (some ⟨g,0,none⟩),.slice ao n c] w fun e w'=>e=.returned (.tuple #[])/\WrA w' g (ik V err) (jk V err L)/\But g w w':=by
 obtain⟨b,o,l,D,A,p,B,x⟩:=h.ex;have t:=xy ao n c b o l w D A hn p B;rw[x] at t
 have H:0<=V:=by rw[<- x];exact aP p
 have Q:=X.lt
 have N:Hid (WrA w g err L):=X;clear X h D A p B x;go_enter Tryz.func200,Tryz.ntmps200;go_wp2_with fail;refine t.mono ?_
 rintro e O ⟨v,r,rfl,G,E,-,J,z⟩;obtain⟨y,P,R,I,rfl,u,K,hA,-⟩:=G.is;obtain rfl:=mX E (p6 H);have j:=N.out.keep z;have C:=(show Hid _ from z)
 clear t G E z;by_cases d:(eA V).length < 256
 ·have t2:=wrCnt (m:=1) j hA rfl u (by omega) (.inl rfl) (by simpa using d) (by omega)
  have i:Hid (ik V err=err/\jk V err L=wrote err L (gi 1 (eA V))):=by
   unfold ik jk;rw[if_pos d,if_pos d];exact⟨rfl,rfl⟩
  clear j hA d;go_wp2_with fail;refine t2.mono ?_
  rintro e M ⟨rfl,s,f⟩;have q:=(show Hid _ from(But.of (g:=g) C.out).trans f)
  clear t2 f;go_wp2;go_end0;exact⟨rfl,by rw[i.out.1,i.out.2];exact s,q.out⟩
 ·have t2:=yi (ao:=y) (c:=I) (m:=1) (n:=(eA V).length) j (by omega) (by decide) (by omega)
  have i:Hid (ik V err=long err/\jk V err L=L):=by
   unfold ik jk;rw[if_neg d,if_neg d];exact⟨rfl,rfl⟩
  clear j hA d;go_wp2_with fail;refine t2.mono ?_
  rintro e M ⟨rfl,s,f⟩;have q:=(show Hid _ from(But.of (g:=g) C.out).trans f)
  clear t2 f;go_wp2;go_end0;exact⟨rfl,by rw[i.out.1,i.out.2];exact s,q.out⟩
theorem vX(X:WrA w g err L)(h:aX w ao n c V)(hn:n<=1099511627776)(d:L.length+8 * n+16<=4611686018427387904) :
  Calls Tryz.prog 157 #[.pointer (some ⟨g,0,none⟩),.agg #[.slice ao n c]] w fun e w'=>e=.returned (.tuple #[])/\WrA w' g (ik V err) (jk V err L)/\But g w w':=by
 have f:Hid (Below w.heap.size w (w.alloc (.cells #[.slice ao n c] 32))):=ae w _;have t:=wrNat (X.keep f.out) (h.keep f.out) hn d;clear X h;go_enter Tryz.func157,Tryz.ntmps157;go_wp2_with fail;refine t.mono ?_
 rintro e j ⟨rfl,i,b⟩;replace b:=(show Hid _ from(But.of (g:=g) f.out).trans b)
 clear t f;go_wp2;go_end0;exact⟨rfl,i,b.out⟩
end
end
section
open Go.RowKit Lim
section
variable {err:Int}{l:List Int}{w:World}{b g n c m:Nat}{ao:Option Addr}{cs:List Value}{y:Value}
def rdE{α:Type}(r:Int ⊕ α × Nat)(err:Int):Int:=if err=0 then (match r with | .inl e=>e | .inr _=>0) else err
def rdL{α:Type}(r:Int ⊕ α × Nat)(err:Int)(l:List Int):List Int:=if err=0 then (match r with | .inl _=>l | .inr p=>l.drop p.2) else l
def rdV{α:Type}(z:α)(r:Int ⊕ α × Nat)(err:Int):α:=if err=0 then (match r with | .inl _=>z | .inr p=>p.1) else z
def di(m:Nat)(l:List Int):Int ⊕ Int × Nat:=if m<=l.length then .inr (bW (l.take m),m) else .inl 40
def bP(l:List Int):Int ⊕ Bool × Nat:=if 1<=l.length then (if 1 < bW (l.take 1) then .inl 41 else .inr (bW (l.take 1) == 1,1)) else .inl 40
def cj(m:Nat)(l:List Int):Nat:=(bW (l.take m)).toNat
def bX(l:List Int):Int ⊕ Int × Nat:=if 1<=l.length then (if 1+cj 1 l<=l.length then (if 0 < cj 1 l/\nth (l.drop 1) 0=0 then .inl 41 else .inr (bW ((l.drop 1).take (cj 1 l)),1+cj 1 l)) else .inl 40) else .inl 40
theorem qh{α:Type}{r:Int ⊕ α × Nat}(h:err≠0):rdE r err=err:=by unfold rdE;rw[if_neg h]
theorem wy{α:Type}{r:Int ⊕ α × Nat}(h:err≠0):rdL r err l=l:=by unfold rdL;rw[if_neg h]
theorem wO{α:Type}{z:α}{r:Int ⊕ α × Nat}(h:err≠0):rdV z r err=z:=by unfold rdV;rw[if_neg h]
theorem ES(m:Nat)(err:Int)(l:List Int):qC m err l=rdV 0 (di m l) err:=by
 unfold qC rdV di;by_cases h1:err=0<;>by_cases h2:m<=l.length<;>simp[h1,h2]
theorem DS(m:Nat)(err:Int)(l:List Int):qL m err l=rdE (di m l) err:=by
 unfold qL rdE di;by_cases h1:err=0<;>by_cases h2:m<=l.length<;>simp[h1,h2]
theorem E1(m:Nat)(err:Int)(l:List Int):rm m err l=rdL (di m l) err l:=by
 unfold rm rdL di;by_cases h1:err=0<;>by_cases h2:m<=l.length<;>simp[h1,h2]
theorem ByA.but{w':World}(h:ByA w b ao n c l){t:TypeId}(s:Box w g cs t)(hv:∀ v∈cs,∀ x,v≠.int .u8 x)(p:But g w w'):ByA w' b ao n c l:=by
 obtain⟨o,k,f,m,j,a⟩:=h.ex;refine⟨o,k,f,m,j,a.loc,fun i hi=>?_⟩;have hc:=a.cell i hi;refine p.cell hc (fun e=>?_);subst e;simp only[World.cell?,s.blk] at hc
 have d:cs.toArray[o+i]?=some (.int .u8 (nth l i)):=by simpa using hc
 rw[List.getElem?_toArray] at d;exact absurd rfl (hv _ (List.mem_of_getElem? d) _)
theorem RdA.back{w1:World}(e0:Int)(X:Box w g [.int .i64 0,.slice ao n c] 292)(A:ByA w b ao n c l)(a:But g w w1)(Y:Box w1 g [.int .i64 0,y] 292) :
  RdA ((w1.setCell ⟨g,1,none⟩ (.slice ao n c)).setCell ⟨g,0,none⟩ (.int .i64 e0)) g b e0 l/\But g w ((w1.setCell ⟨g,1,none⟩ (.slice ao n c)).setCell ⟨g,0,none⟩ (.int .i64 e0)):=by
 have H:But g w ((w1.setCell ⟨g,1,none⟩ (.slice ao n c)).setCell ⟨g,0,none⟩ (.int .i64 e0)):=⟨a.os,a.tape,a.output,by rw[size_set,size_set];exact a.size,fun k e d=>by rw[Below.heap_setCell _ _ _ k d,Below.heap_setCell _ _ _ k d];exact a.block k e d⟩
 exact⟨⟨ao,n,c,kG (fo Y _) _,A.but X (lV _ _ _ _) H⟩,H⟩
theorem RdA.lt(h:RdA w g b err l):g < w.heap.size:=by
 obtain⟨_,_,_,X,_⟩:=h.ex;exact X.lt
theorem Fg(h:RdA w g b 0 l)(hm:m<=l.length)(h8:m<=8) :
  Calls Tryz.prog 239 #[.pointer (some ⟨g,0,none⟩),.int .u64 m] w fun e w'=>e=.returned (.tuple #[.int .u64 (bW (l.take m)),.int .i64 0])/\RdA w' g b 0 (l.drop m)/\But g w w':=by
 obtain⟨d,n,c,X,A⟩:=h.ex;obtain⟨o,i,a,⟨j,-⟩,-,-⟩:=A.ex;refine(rdNum X A (by omega:m<=n) h8).mono ?_
 rintro e w' ⟨f,rfl⟩
 have H:But g w (w.setCell ⟨g,1,none⟩ (.slice (du d c m) (n - m) (c - m))):=⟨rfl,rfl,rfl,by rw[size_set];exact Nat.le_refl _,fun k _ a=>Below.heap_setCell _ _ _ k a⟩
 exact⟨f,⟨_,_,_,fo X _,(A.rest (by omega)).but X (lV _ _ _ _) H⟩,H⟩
theorem Ad(h:RdA w g b 0 l)(hm:l.length < m) :
  Calls Tryz.prog 239 #[.pointer (some ⟨g,0,none⟩),.int .u64 m] w fun e w'=>e=.returned (.tuple #[.int .u64 0,.int .i64 40])/\w'=w:=by
 obtain⟨a,n,c,X,A⟩:=h.ex;obtain⟨o,f,d,⟨i,-⟩,-,-⟩:=A.ex;exact AP X (by omega) (by omega)
theorem Cd(h:RdA w g b 0 l)(hm:m<=l.length) :
  Calls Tryz.prog 250 #[.pointer (some ⟨g,0,none⟩),.int .u64 m] w fun e w'=>∃ ao,e=.returned (.tuple #[.slice ao m m,.int .i64 0])/\ByA w' b ao m m (l.take m)/\RdA w' g b 0 (l.drop m)/\But g w w':=by
 obtain⟨ao,n,c,X,A⟩:=h.ex;obtain⟨o,i,a,⟨f,-⟩,-,-⟩:=A.ex;refine(CB X a f (by omega:m<=n)).mono ?_
 rintro e w' ⟨d,rfl⟩
 have H:But g w (w.setCell ⟨g,1,none⟩ (.slice (du ao c m) (n - m) (c - m))):=⟨rfl,rfl,rfl,by rw[size_set];exact Nat.le_refl _,fun k _ a=>Below.heap_setCell _ _ _ k a⟩
 exact⟨ao,d,(A.front (by omega)).but X (lV _ _ _ _) H,⟨_,_,_,fo X _,(A.rest (by omega)).but X (lV _ _ _ _) H⟩,H⟩
theorem E4(h:RdA w g b 0 l)(hm:l.length < m) :
  Calls Tryz.prog 250 #[.pointer (some ⟨g,0,none⟩),.int .u64 m] w fun e w'=>e=.returned (.tuple #[.slice none 0 0,.int .i64 40])/\w'=w:=by
 obtain⟨a,n,c,X,A⟩:=h.ex;obtain⟨o,f,d,⟨i,-⟩,-,-⟩:=A.ex;exact vQ X (by omega) (by omega)
theorem RdA.oct(h:RdA w g b err l):bG l:=by
 obtain⟨_,_,_,_,A⟩:=h.ex;obtain⟨o,_,_,_,h4,_⟩:=A.ex;exact h4
theorem sj(h:RdA w g b err l):((cj m l:Nat):Int)=bW (l.take m):=by
 unfold cj;rw[Int.toNat_of_nonneg (bV (fun x hx=>h.oct x (List.mem_of_mem_take hx))).1]
theorem El(h:RdA w g b 0 l) :
  Calls Tryz.prog 215 #[.pointer (some ⟨g,0,none⟩)] w fun e w'=>∃ v,e=.returned (.tuple #[v,.int .i64 (rdE (bP l) 0)])/\∃ l1,RdA w' g b 0 l1/\But g w w'/\∀ x k,bP l=.inr (x,k)->l1=l.drop k/\v=.bool x:=by
 by_cases i:1<=l.length
 ·have t:=Fg (m:=1) h i (by decide);by_cases hx:1 < bW (l.take 1)
  ·have c:bP l=.inl 41:=by unfold bP; rw[if_pos i,if_pos hx]
   have f:Hid (rdE (bP l) 0=41):=by show _=_;rw[c];rfl
   have d:=(show Hid _ from c)
   clear c h
   have j:(bW (l.take 1) == 1)=false:=by rw[beq_eq_false_iff_ne];omega
   generalize bW (l.take 1)=X at *;go_enter Tryz.func215,Tryz.ntmps215;go_wp2_with fail;refine t.mono ?_
   rintro e p ⟨rfl,o,n⟩;clear t;go_wp2;go_ret2;exact⟨_,by rw[f.out];rfl,_,o,n,fun x k e=>by rw[d.out] at e;cases e⟩
  ·have c:bP l=.inr (bW (l.take 1) == 1,1):=by unfold bP; rw[if_pos i,if_neg hx]
   have f:Hid (rdE (bP l) 0=0):=by show _=_;rw[c];rfl
   have d:=(show Hid _ from c)
   clear c h;generalize bW (l.take 1)=X at *
   have j:X<=1:=by omega
   clear hx;go_enter Tryz.func215,Tryz.ntmps215;go_wp2_with fail;refine t.mono ?_
   rintro e p ⟨rfl,o,n⟩;clear t;go_wp2;go_ret2;exact⟨_,by rw[f.out];rfl,_,o,n,fun x k e=>by rw[d.out] at e;cases e;exact⟨rfl,rfl⟩⟩
 ·have t:=Ad (m:=1) h (by omega)
  have c:bP l=.inl 40:=by unfold bP;rw[if_neg i]
  have f:Hid (rdE (bP l) 0=40):=by show _=_;rw[c];rfl
  have d:=(show Hid _ from c)
  have q:=(show Hid _ from h)
  clear c h i;go_enter Tryz.func215,Tryz.ntmps215;go_wp2_with fail;refine t.mono ?_
  rintro e p ⟨rfl,rfl⟩;clear t;go_wp2;go_ret2;exact⟨_,by rw[f.out];rfl,_,q.out,⟨rfl,rfl,rfl,Nat.le_refl _,fun _ _ _=>rfl⟩,fun x k e=>by rw[d.out] at e;cases e⟩
end
end
section
open Go.RowKit Lim
theorem cZ (ao:Option Addr) (n c b o:Nat) (l:List Int) (w:World) (s:l.length=n) (F:n≤1099511627776) (m:ao=none→c=0) (t:AtB w ao b o l) :
    Calls Tryz.prog 212 #[.slice ao n c] w fun e w'=>∃ v,e=.returned v∧fR w' w.heap.size v l∧Below w.heap.size w w':=by
  obtain⟨i0,hi,A,C,r⟩:= info_parts mu
  have I:∀ (w:World) (a:Option Addr) (n c y z:Nat),(binOp .eql 87 (.slice a n c) (.slice none y z)).run Tryz.prog w=.ok (.bool a.isNone) w:=fun w a n c y z=>Lib.run_eql_slice_nil w _ _ a n c y z cY
  cases ao with
  | none =>
    have G : l = [] := by rcases t.loc with e | e
                          · exact e
                          · simp at e
    subst G
    have D:n=0:=s.symm;subst D;have q:=m rfl;subst q
    have d:w.ownsRow w.heap.size 5 1 (.slice none 0 0) 0 []:=World.ownsRow_nil _ _ _ _;go_enter Tryz.func212,Tryz.ntmps212;go_wp2;go_ret;exact⟨_,rfl,d,Below.refl _ _⟩
  | some x =>
    have E:=ae w (.cells #[] 5)
    have d:(w.alloc (.cells #[] 5)).ownsRow w.heap.size 5 1 (.slice (some ⟨w.heap.size,0,none⟩) 0 0) 0 []:=⟨rfl,.inr ⟨w.heap.size,0,#[],rfl,Nat.le_refl _,(ji w [] 5).blk,Nat.le_refl _,by decide,rfl,rfl⟩⟩
    have p:∀ j u,(l.map (Value.int .u8))[j]?=some u→(w.alloc (.cells #[] 5)).cell? (x.add j)=some u:=by
      intro j u hu;rw[List.getElem?_map] at hu
      have f:j < l.length:=by
        rcases Nat.lt_or_ge j l.length with f | f
        · exact f
        · rw[List.getElem?_eq_none f] at hu;simp at hu
      rw[List.getElem?_eq_getElem f] at hu;simp at hu;subst hu
      have hx:x=⟨b,o,none⟩:= by
        rcases t.loc with e | e
        · subst e;simp at f
        · simpa using e
      subst hx;have:=(t.keep E).cell j f;rw[cn f] at this;rw[addr_add];exact this
    have B:=(show Hid _ from E);clear E;go_enter Tryz.func212,Tryz.ntmps212;go_wp2_with (at_builtin;refine wpList_append_own _ rfl _ _ 87 rfl w.heap.size 5 i0 (.int .u8 0) 1 1 cY hi A C r rfl (by decide) _ _ _ rfl d x n c (l.map (Value.int .u8)) rfl (by simp[s]) ?c1 ?c2 ?c3 ?c4 ?c5 ?_)
    case c1=>exact p
    case c2=>exact ints_oneCell _ _
    case c3=>unfold maxLen;omega
    case c4=>omega
    case c5=>exact B.out.size
    intro H J g i _;go_wp2;go_ret;refine⟨H,rfl,?_,B.out.grown i B.out.size (vJ d)⟩;unfold fR;rw[s];simpa using g
theorem Cp {w:World} {g b m:Nat} {err:Int} {l:List Int} (h:RdA w g b err l) (hm:m<=l.length):((cj m l:Nat):Int) < 256 ^ m:=by
 have:=(bV (l:=l.take m) (fun x hx=>h.oct x (List.mem_of_mem_take hx))).2;rw[List.length_take,Nat.min_eq_left hm] at this;rw[sj h];exact this
end
section
open Go.RowKit Lim
end
section
open Go.RowKit Lim
section
variable {l:List Int}{e0 err:Int}{w w':World}{g b G:Nat}{v:Value}
theorem zU(h:bP l=.inl e0):e0≠0:=by
 unfold bP at h
 repeat' split at h
 all_goals (cases h;try decide)
theorem EF(h:bX l=.inl e0):e0≠0:=by
 unfold bX at h
 repeat' split at h
 all_goals (cases h;try decide)
theorem enBo{α:Type}{z:α}{p:Int ⊕ α × Nat}{V:α->Value->World->Prop}(h:RdA w g b err l)(s:∀ e0,p=.inl e0->e0≠0)(j:∀ w',V z (.bool false) w')(t:err=0->Calls Tryz.prog 215 #[.pointer (some ⟨g,0,none⟩)] w fun e w'=>∃ v,e=.returned (.tuple #[v,.int .i64 (rdE p 0)])/\∃ l1,RdA w' g b 0 l1/\But g w w'/\∀ x k,p=.inr (x,k)->l1=l.drop k/\V x v w') :
  Calls Tryz.prog 214 #[.pointer (some ⟨g,0,none⟩),.func (.func 215) #[.pointer (some ⟨g,0,none⟩)] #[]] w fun e w'=>∃ v,e=.returned v/\V (rdV z p err) v w'/\RdA w' g b (rdE p err) (rdL p err l)/\But g w w':=by
 obtain⟨y,n,c,X,A⟩:=h.ex;by_cases he:err=0
 ·subst he
  match hq:p with
  | .inl e0 =>
   have i:e0≠0:=s e0 rfl
   have f:Calls Tryz.prog 215 #[.pointer (some ⟨g,0,none⟩)] w fun e w'=>∃ v,e=.returned (.tuple #[v,.int .i64 e0])/\∃ l1,RdA w' g b 0 l1/\But g w w':=(t rfl).mono (by
    rintro e w' ⟨v,e1,l1,a,d,-⟩
    exact⟨v,e1,l1,a,d⟩)
   refine(Dj i X (fun v m o=>by
    obtain⟨l1,a,-⟩:=o;obtain⟨_,_,_,Y,_⟩:=a.ex
    exact⟨_,Y⟩) f).mono ?_
   rintro e w' ⟨e1,v,m,⟨l1,a,d⟩,rfl⟩;obtain⟨_,_,_,Y,_⟩:=a.ex;have H:=RdA.back e0 X A d Y;exact⟨_,e1,j _,H.1,H.2⟩
  | .inr (x,k) =>
   have f:Calls Tryz.prog 215 #[.pointer (some ⟨g,0,none⟩)] w fun e w'=>∃ v,e=.returned (.tuple #[v,.int .i64 0])/\(V x v w'/\RdA w' g b 0 (l.drop k)/\But g w w'):=(t rfl).mono (by
    rintro e w' ⟨v,e1,l1,a,d,u⟩;obtain⟨q,r⟩:=u x k rfl;subst q
    exact⟨v,e1,r,a,d⟩)
   exact enBoOk X f
 ·refine(CN X he).mono ?_
  rintro e w' ⟨rfl,rfl⟩;rw[wO he,qh he,wy he];exact⟨_,rfl,j _,h,But.refl _ _⟩
theorem enNa{α:Type}{z:α}{p:Int ⊕ α × Nat}{V:α->Value->World->Prop}(h:RdA w g b err l)(s:∀ e0,p=.inl e0->e0≠0)(j:∀ w',V z (.slice none 0 0) w')(t:err=0->Calls Tryz.prog 241 #[.pointer (some ⟨g,0,none⟩)] w fun e w'=>∃ v,e=.returned (.tuple #[v,.int .i64 (rdE p 0)])/\∃ l1,RdA w' g b 0 l1/\But g w w'/\∀ x k,p=.inr (x,k)->l1=l.drop k/\V x v w') :
  Calls Tryz.prog 240 #[.pointer (some ⟨g,0,none⟩),.func (.func 241) #[.pointer (some ⟨g,0,none⟩)] #[]] w fun e w'=>∃ v,e=.returned v/\V (rdV z p err) v w'/\RdA w' g b (rdE p err) (rdL p err l)/\But g w w':=by
 obtain⟨y,n,c,X,A⟩:=h.ex;by_cases he:err=0
 ·subst he
  match hq:p with
  | .inl e0 =>
   have i:e0≠0:=s e0 rfl
   have f:Calls Tryz.prog 241 #[.pointer (some ⟨g,0,none⟩)] w fun e w'=>∃ v,e=.returned (.tuple #[v,.int .i64 e0])/\∃ l1,RdA w' g b 0 l1/\But g w w':=(t rfl).mono (by
    rintro e w' ⟨v,e1,l1,a,d,-⟩
    exact⟨v,e1,l1,a,d⟩)
   refine(DM i X (fun v m o=>by
    obtain⟨l1,a,-⟩:=o;obtain⟨_,_,_,Y,_⟩:=a.ex
    exact⟨_,Y⟩) f).mono ?_
   rintro e w' ⟨e1,v,m,⟨l1,a,d⟩,rfl⟩;obtain⟨_,_,_,Y,_⟩:=a.ex;have H:=RdA.back e0 X A d Y;exact⟨_,e1,j _,H.1,H.2⟩
  | .inr (x,k) =>
   have f:Calls Tryz.prog 241 #[.pointer (some ⟨g,0,none⟩)] w fun e w'=>∃ v,e=.returned (.tuple #[v,.int .i64 0])/\(V x v w'/\RdA w' g b 0 (l.drop k)/\But g w w'):=(t rfl).mono (by
    rintro e w' ⟨v,e1,l1,a,d,u⟩;obtain⟨q,r⟩:=u x k rfl;subst q
    exact⟨v,e1,r,a,d⟩)
   exact enNaOk X f
 ·refine(DT X he).mono ?_
  rintro e w' ⟨rfl,rfl⟩;rw[wO he,qh he,wy he];exact⟨_,rfl,j _,h,But.refl _ _⟩
theorem pFix_v{m:Nat}(h:RdA w g b err l):0<=rdV 0 (di m l) err/\rdV 0 (di m l) err < 256 ^ m:=by
 have h0:(0:Int) < 256 ^ m:=Int.pow_pos (by decide);unfold rdV di;split
 ·split
  ·exact⟨Int.le_refl _,h0⟩
  ·rename_i a;split at a
   ·cases a;have:=bV (l:=l.take m) (fun x hx=>h.oct x (List.mem_of_mem_take hx));rw[List.length_take,Nat.min_eq_left (by assumption)] at this;exact this
   ·cases a
 ·exact⟨Int.le_refl _,h0⟩
theorem Ff(h:RdA w g b err l) :
  Calls Tryz.prog 175 #[.pointer (some ⟨g,0,none⟩)] w fun e w'=>e=.returned (.int .u64 (rdV 0 (di 8 l) err))/\RdA w' g b (rdE (di 8 l) err) (rdL (di 8 l) err l)/\But g w w':=by
 have t:=Ey (m:=8) h (by decide);obtain⟨i,c⟩:=pFix_v (m:=8) h;rw[show (256:Int) ^ 8=18446744073709551616 by decide] at c;rw[ES,DS,E1] at t;clear h;generalize rdV 0 (di 8 l) err=V at *;generalize rdE (di 8 l) err=E at *;generalize rdL (di 8 l) err l=R at *;go_enter Tryz.func175,Tryz.ntmps175;go_wp2_with fail;refine t.mono ?_
 rintro e f ⟨rfl,k1,d⟩;clear t;go_wp2;go_ret;exact⟨rfl,k1,d⟩
theorem rdBool(h:RdA w g b err l) :
  Calls Tryz.prog 177 #[.pointer (some ⟨g,0,none⟩)] w fun e w'=>e=.returned (.bool (rdV false (bP l) err))/\RdA w' g b (rdE (bP l) err) (rdL (bP l) err l)/\But g w w':=by
 have t:=enBo (z:=false) (p:=bP l) (V:=fun x v _=>v=.bool x) h (fun _=>zU) (fun _=>rfl) (fun e=>by subst e;exact El h);clear h;generalize rdV false (bP l) err=V at *;generalize rdE (bP l) err=E at *;generalize rdL (bP l) err l=R at *;go_enter Tryz.func177,Tryz.ntmps177;go_wp2_with fail;refine t.mono ?_
 rintro e d ⟨v,rfl,rfl,k1,c⟩;clear t;go_wp2;go_ret;exact⟨rfl,k1,c⟩
theorem Slot.bx{t:TypeId}(s:Slot w g v t):Box w g [v] t:=⟨s.blk⟩
theorem RdA.put(h:RdA w g b err l){u:Value}{t:TypeId}(s:Slot w G v t)(d:G≠g)(hv:∀ x,v≠.int .u8 x):RdA (w.setCell ⟨G,0,none⟩ u) g b err l:=by
 obtain⟨f,n,c,X,A⟩:=h.ex;refine⟨f,n,c,⟨?_⟩,A.box s.bx (fun i a=>by rw[List.mem_singleton] at a;subst a;exact hv) fun k e=>Below.heap_setCell _ _ _ k e⟩;rw[Below.heap_setCell _ _ _ g d.symm];exact X.blk
theorem Slot.but{t:TypeId}(s:Slot w G v t)(h:But g w w')(hG:G≠g):Slot w' G v t:=⟨by
 rw[h.block G s.bx.lt hG]
 exact s.blk⟩
theorem But.put(h:But g w w')(c:w.heap.size<=G)(u:Value):But g w (w'.setCell ⟨G,0,none⟩ u):=⟨h.os,h.tape,h.output,by rw[size_set];exact h.size,fun k b a=>by rw[Below.heap_setCell _ _ _ k (by show k≠G;omega)];exact h.block k b a⟩
theorem rdLeft(h:RdA w g b err l) :
  Calls Tryz.prog 217 #[.pointer (some ⟨g,0,none⟩)] w fun e w'=>e=.returned (.int .i64 l.length)/\w'=w:=by
 obtain⟨f,n,c,X,A⟩:=h.ex;obtain⟨o,d,-⟩:=A.ex;subst d;obtain⟨c1,c2,c3,i⟩:=X.two;clear X A h;go_enter Tryz.func217,Tryz.ntmps217;go_wp2;go_ret;exact⟨rfl,rfl⟩
end
end
section
open Go.RowKit Lim
section
variable {w:World}{g b:Nat}{err:Int}{v:Value}{l:List Int}{ao:Option Addr}
theorem xn{e0:Int}{t:TypeId}(he:err≠0)(X:Box w g [.int .i64 err,v] t) :
  Calls Tryz.prog 218 #[.pointer (some ⟨g,0,none⟩),.int .i64 e0] w fun e w'=>e=.returned (.tuple #[])/\w'=w:=by
 have hb:(err == 0)=false:=beq_eq_false_iff_ne.2 he;have t:=fX X;rw[hb] at t;clear he hb X;go_enter Tryz.func218,Tryz.ntmps218;go_wp2_with fail;refine t.mono ?_
 rintro e w' ⟨rfl,rfl⟩;clear t;go_wp2;go_end0;exact⟨rfl,rfl⟩
def gI(err:Int)(l:List Int):Int:=if err=0 then (if l.length=0 then 0 else 43) else err
theorem Fk(h:RdA w g b err l)(p:l.length<=9223372036854775807) :
  Calls Tryz.prog 180 #[.pointer (some ⟨g,0,none⟩)] w fun e w'=>e=.returned (.int .i64 (gI err l))/\RdA w' g b (gI err l) l/\But g w w':=by
 have d:=rdLeft h;obtain⟨r,n,c,X,A⟩:=h.ex;obtain⟨c1,c2,c3,v⟩:=X.two;by_cases f:l.length=0
 ·have m:Hid (gI err l=err):=by
   show _=_
   unfold gI;by_cases he:err=0
   ·rw[if_pos he,if_pos f,he]
   ·rw[if_neg he]
  have j:=(show Hid _ from h)
  rw[f] at d;clear X A h f;go_enter Tryz.func180,Tryz.ntmps180;go_wp2_with fail;refine d.mono ?_
  rintro e w' ⟨rfl,rfl⟩;clear d;go_wp2;go_ret;rw[m.out];exact⟨rfl,j.out,But.refl _ _⟩
 ·have o:(0:Int) < l.length:=by omega
  by_cases he:err=0
  ·subst he
   have m:Hid (gI 0 l=43):=by show _=_;unfold gI;rw[if_pos rfl,if_neg f]
   have j:Hid (RdA (w.setCell ⟨g,0,none⟩ (.int .i64 43)) g b 43 l):=⟨r,n,c,kG X _,A.box X (lV _ _ _ _) fun k t=>Below.heap_setCell _ _ _ k t⟩
   have d1:=(kG X (.int .i64 43)).two.1
   have u:Hid (But g w (w.setCell ⟨g,0,none⟩ (.int .i64 43))):=⟨rfl,rfl,rfl,by rw[size_set];exact Nat.le_refl _,fun k _ q=>Below.heap_setCell _ _ _ k q⟩
   have i:=pZ (e0:=43) X;clear X A h f;generalize l.length=L at *;go_enter Tryz.func180,Tryz.ntmps180;go_wp2_with fail;refine d.mono ?_
   rintro e w' ⟨rfl,rfl⟩;clear d;go_wp2_with fail;refine i.mono ?_
   rintro e s ⟨rfl,rfl⟩;clear i;go_wp2;go_ret;rw[m.out];exact⟨rfl,j.out,u.out⟩
  ·have m:Hid (gI err l=err):=by show _=_; unfold gI; rw[if_neg he]
   have i:=xn (e0:=43) he X;have j:=(show Hid _ from h)
   clear X A h f he;generalize l.length=L at *;go_enter Tryz.func180,Tryz.ntmps180;go_wp2_with fail;refine d.mono ?_
   rintro e w' ⟨rfl,rfl⟩;clear d;go_wp2_with fail;refine i.mono ?_
   rintro e s ⟨rfl,rfl⟩;clear i;go_wp2;go_ret;rw[m.out];exact⟨rfl,j.out,But.refl _ _⟩
theorem fR.bya{B:Nat}(h:fR w B v l)(d:bG l):∃ b ao c,v=.slice ao l.length c/\B<=b/\ByA w b ao l.length c l:=by
 obtain⟨_,f⟩:=h;rcases f with⟨rfl,h0⟩ | ⟨g,cap,cur,rfl,hB,hh,hle,hmx,hsz,htk⟩
 ·have e:l=[]:=List.eq_nil_of_length_eq_zero h0;subst e;exact⟨B,none,0,rfl,Nat.le_refl _,0,rfl,Nat.le_refl _,⟨by decide,fun _=>rfl⟩,d,.inl rfl,fun i hi=>by simp at hi⟩
 ·refine⟨g,_,_,rfl,hB,0,rfl,hle,⟨by unfold maxLen at hmx;omega,fun e=>by cases e⟩,d,.inr rfl,fun i hi=>?_⟩;simp only[World.cell?,hh]
  have e:cur[0+i]?=some (.int .u8 (nth l i)):=by
   have a:(cur.toList.take (l.length * 1))[i]?=some (.int .u8 (nth l i)):=by
    rw[htk,List.getElem?_map,List.getElem?_eq_getElem hi,cn hi];rfl
   rw[List.getElem?_take] at a;split at a
   ·rw[Nat.zero_add,<- Array.getElem?_toList];exact a
   ·cases a
  simpa using e
theorem Fv{n c:Nat}(A:ByA w b ao n c l)(d:n<=1099511627776) :
  Calls Tryz.prog 173 #[.slice ao n c] w fun e w'=>∃ g b',e=.returned (.pointer (some ⟨g,0,none⟩))/\w.heap.size<=g/\w.heap.size<=b'/\RdA w' g b' 0 l/\Below w.heap.size w w':=by
 obtain⟨o,u,B,y,s,x⟩:=A.ex;have t:=cZ ao n c b o l w u d y.2 x;have D:=(show Hid _ from s)
 clear u B y s x A;go_enter Tryz.func173,Tryz.ntmps173;go_wp2_with fail;refine t.mono ?_
 rintro e m ⟨v,rfl,q,z⟩;obtain⟨b',i,p,rfl,f,hA⟩:=q.bya D.out;have C:=(show Hid _ from hA)
 have r:=(show Hid _ from z)
 have j:=(show Hid _ from f)
 clear t q z hA f;go_wp2;go_ret;exact⟨m.heap.size,b',rfl,r.out.size,j.out,⟨i,_,p,ji m [.int .i64 0,.slice i l.length p] _,C.out.keep (ae _ _)⟩,aB r.out (ae _ _)⟩
end
end
section
open Pg (ai aU bT aN bH)
open Go.RowKit Lim
section
variable {w:World}{g:Nat}{L:List Int}{o:Oper}{a:Act}{X:Int}{v:Value}{lo' hi':Option Value}{cur:List Value}
theorem wrOutE{err:Int}(X:WrA w g err L)(he:err≠0) :
  Calls Tryz.prog 159 #[.pointer (some ⟨g,0,none⟩)] w fun e w'=>e=.returned (.tuple #[.slice none 0 0,.int .i64 err])/\Below w.heap.size w w':=by
 obtain⟨p,ps,c,u,b,-⟩:=X.ex;have t:=ll b.c0;have c0:=b.c0;rw[beq_eq_false_iff_ne.2 he] at t;clear X b he;go_enter Tryz.func159,Tryz.ntmps159;go_wp2_with fail;refine t.mono ?_
 rintro e d ⟨rfl,rfl⟩;clear t;go_wp2_with fail;go_quiet (fail);go_wp2;go_ret2;exact⟨rfl,below_drewN (Below.refl _ _) _⟩
theorem iH{o:Nat}{x:Int}(c:w.cell? ⟨g,o,none⟩=some (.int .i64 x)):(loadVar 3 ⟨g,o,none⟩).run Tryz.prog w=.ok (.int .i64 x) w:=by
 go_simp
theorem AB(x y:Nat){Y:Int}(b:o.op=.binOp .add 3 (.tmp x) (.tmp y) 3)(hx:a.eval (.tmp x)=.int .i64 X)(hy:a.eval (.tmp y)=.int .i64 Y)(h0:0<=X+Y)(c:X+Y<=9223372036854775807):(execOp a.eval o).run Tryz.prog w=.ok (.value (.int .i64 (X+Y))) w:=by
 simp only[execOp,b,hx,hy];go_simp;simp[IntKind.wrap,IntKind.bits,IntKind.signed];omega
theorem EH{x N:Nat}(c:o.op=.makeSlice 87 (.tmp x) (.tmp x))(hx:a.eval (.tmp x)=.int .i64 X)(hX:X=(N:Int))(e:N<=17592186044416):(execOp a.eval o).run Tryz.prog w=.ok (.value (.slice (some ⟨w.heap.size,0,none⟩) N N)) (w.alloc (.cells ((List.replicate N 0).map (Value.int .u8)).toArray 5)):=by
 subst hX;obtain⟨i,hi,d,hs,hb⟩:=info_parts mu;have b:=run_make (P:=Tryz.prog) w 87 5 i (.int .u8 0) cY hi d .i64 .i64 (N:Int) (N:Int) (by omega) (by omega) (by rw[hb];omega) (by omega);simp only[execOp,c,hx];simp[b,Result.andThen,hs,wU]
theorem sq(g u:Nat)(h:u<=256)(W:World):(Instr.sliceAt 228 (.pointer (some ⟨g,3,none⟩)) none (some (.int .i64 (u:Int))) none).run Tryz.prog W=.ok (.slice (some ⟨g,3,none⟩) u 256) W:=by
 have b:(u:Int)<=256:=by omega
 go_simp
theorem qZ(g:Nat)(W:World):(Instr.sliceAt 228 (.pointer (some ⟨g,1,none⟩)) none none none).run Tryz.prog W=.ok (.slice (some ⟨g,1,none⟩) 256 256) W:=by
 go_simp
theorem ra{T:TypeId}(x:Operand)(lo hi:Option Operand){X:Value}(d:o.op=.slice T x lo hi none)(hx:a.eval x=X)(b:lo.map a.eval=lo')(c:hi.map a.eval=hi')(h:(Instr.sliceAt T X lo' hi' none).run Tryz.prog w=.ok v w):(execOp a.eval o).run Tryz.prog w=.ok (.value v) w:=by
 subst hx;subst b;subst c;simp only[execOp,d,Option.map_none];simp[h,Result.andThen]
theorem yN(d s:Nat)(i:o.op=.call { callee:=.builtin .copy,args:=#[.tmp d,.tmp s],argTypes:=#[87,87] }){off dLen dCap sLen sCap:Nat}{ad:Addr}(hd:a.eval (.tmp d)=.slice (some ⟨g,off,none⟩) dLen dCap)(hs:a.eval (.tmp s)=.slice (some ad) sLen sCap){t:TypeId}(f:Box w g cur t)(cs:List Value)(m:Nat)(hm:cs.length=m)(hn:m=Nat.min sLen dLen)(e:∀ j v,cs[j]?=some v->w.cell? (ad.add j)=some v)(b:off+m<=cur.length)(h:∀ v∈cs,v.oneCell'=true) :
  (execOp a.eval o).run Tryz.prog w=.ok (.value (.int .i64 (m:Int))) (w.setRow g (splice cur off cs).toArray):=by
 subst hm;have c:=run_copy_row (P:=Tryz.prog) w 87 87 o.type 5 g off dLen dCap ad sLen sCap cur.toArray t cs cY wM f.blk hn e (by simpa using b) h;simp[execOp,i,resolve,invoke,builtin,hd,hs,c,Result.andThen,splice,goInt]
theorem BU(X:WrA w g 0 L)(B:L.length<=17592186044416) :
  Calls Tryz.prog 159 #[.pointer (some ⟨g,0,none⟩)] w fun e w'=>e=.returned (.tuple #[.slice (some ⟨w.heap.size,0,none⟩) L.length L.length,.int .i64 0])/\Box w' w.heap.size (L.map (Value.int .u8)) 5/\Below w.heap.size w w':=by
 obtain⟨p,ps,f,u,D,P0,hu,hL⟩:=X.ex;have t:=ll D.c0
 have hlen:L.length=ps.length+u:=by rw[hL,List.length_append,List.length_take,D.len];omega
 obtain⟨N,F⟩:∃ N,N=L.length:=⟨_,rfl⟩
 rw[<- F] at hlen B ⊢;have HL:=(show Hid _ from hL)
 have HP:=(show Hid _ from P0)
 have HN:=(show Hid _ from F)
 have Q:=(show Hid _ from hlen)
 have hps:ps.length<=17592186044416:=by omega
 clear X hL P0 F hlen;go_enter Tryz.func159,Tryz.ntmps159;go_wp2_with fail;refine t.mono ?_
 rintro e d ⟨rfl,rfl⟩;clear t;go_wp2_with fail
 have r:dm d.drew g 0 p (ps.length:Int) f (u:Int):=⟨D.len,D.blk⟩
 refine bT (S:=fun w'=>dm w' g 0 p (ps.length:Int) f (u:Int)) (by kernel_rfl) r ?_
 refine ai 0 (some 17) (.pointer (some ⟨g,0,none⟩)) (by kernel_rfl) (fun _ _=>by kernel_rfl) (fun _ _ _ h=>h) r ?_
 refine ai 1 (some 18) (.pointer (some ⟨g,0,none⟩)) (by kernel_rfl) (fun _ _=>by kernel_rfl) (fun _ _ _ h=>h) r ?_
 refine ai 2 (some 19) (.pointer (some ⟨g,2,none⟩)) (by kernel_rfl) (fun _ _=>by kernel_rfl) (fun _ _ _ h=>h) r ?_
 refine aU 3 (some 20) (.int .i64 (ps.length:Int)) 3 19 g 2 (by kernel_rfl) (by kernel_rfl) (by kernel_rfl) (fun w' h=>iH h.c2) (fun _ _ _ h=>h) r ?_
 refine ai 4 (some 21) (.pointer (some ⟨g,0,none⟩)) (by kernel_rfl) (fun _ _=>by kernel_rfl) (fun _ _ _ h=>h) r ?_
 refine ai 5 (some 22) (.pointer (some ⟨g,0,none⟩)) (by kernel_rfl) (fun _ _=>by kernel_rfl) (fun _ _ _ h=>h) r ?_
 refine ai 6 (some 23) (.pointer (some ⟨g,259,none⟩)) (by kernel_rfl) (fun _ _=>by kernel_rfl) (fun _ _ _ h=>h) r ?_
 refine aU 7 (some 24) (.int .i64 (u:Int)) 3 23 g 259 (by kernel_rfl) (by kernel_rfl) (by kernel_rfl) (fun w' h=>iH h.cu) (fun _ _ _ h=>h) r ?_
 refine ai 8 (some 25) (.int .i64 ((ps.length:Int)+(u:Int))) (by kernel_rfl) (fun _ _=>AB 20 24 (by kernel_rfl) (by kernel_rfl) (by kernel_rfl) (by omega) (by omega)) (fun _ _ _ h=>h) r ?_
 refine aN [9] (by kernel_rfl) (by simp) ?_
 have z:dm (d.drew.alloc (.cells ((List.replicate N 0).map (Value.int .u8)).toArray 5)) g 0 p (ps.length:Int) f (u:Int):=r.keep (ae _ _);refine bH 9 (some 26) (.slice (some ⟨d.heap.size,0,none⟩) N N) (d.drew.alloc (.cells ((List.replicate N 0).map (Value.int .u8)).toArray 5)) (by kernel_rfl) (EH (x:=25) (N:=N) (X:=(ps.length:Int)+(u:Int)) (by kernel_rfl) (by kernel_rfl) (by have:=Q.out;omega) B) z ?_ bj;refine ai 10 (some 4) (.slice (some ⟨d.heap.size,0,none⟩) N N) (by kernel_rfl) (fun _ _=>by kernel_rfl) (fun _ _ _ h=>h) z ?_
 refine bQ (by kernel_rfl) ?_
 try simp only[Act.put,List.setIfInBounds_toArray,List.set_cons_zero,List.set_cons_succ]
 have hg:=D.lt
 have R:Box (d.drew.alloc (.cells ((List.replicate N 0).map (Value.int .u8)).toArray 5)) d.heap.size ((List.replicate N 0).map (Value.int .u8)) 5:=ji d.drew _ _
 have HB0:Hid (Below d.heap.size d (d.drew.alloc (.cells ((List.replicate N 0).map (Value.int .u8)).toArray 5))):=(Below.refl d.heap.size d).drew.trans (ae d.drew _);clear r;generalize d.drew.alloc (.cells ((List.replicate N 0).map (Value.int .u8)).toArray 5)=V at *;have HW0:=(show Hid _ from D)
 clear D;have c2:=z.c2;have cu:=z.cu;obtain⟨off,n⟩:∃ off,off=if u=0 then 0 else ps.length:=⟨_,rfl⟩
 have y:∀ W,(Instr.sliceAt 87 (.slice (some ⟨d.heap.size,0,none⟩) N N) (some (.int .i64 (ps.length:Int))) none none).run Tryz.prog W=.ok (.slice (some ⟨d.heap.size,off,none⟩) u u) W:=fun W=>by
  have hh:=Q.out;rw[sliceB _ N N ps.length W (by omega) (Nat.le_refl _),show N - ps.length=u by omega,n];unfold du;by_cases o:u=0
  ·rw[if_pos (by omega),if_pos o]
  ·rw[if_neg (by omega),if_neg o]
   show Result.ok (Value.slice (some ((⟨d.heap.size,0,none⟩:Addr).add ps.length)) u u) W=_
   rw[addr_add,Nat.zero_add]
 have s:=sq g u (by omega)
 have G:Hid (splice ((List.replicate N (0:Int)).map (Value.int .u8)) off ((f.take u).map (Value.int .u8))=(List.replicate ps.length 0 ++ f.take u).map (Value.int .u8)):=by
  have hh:=Q.out;have hl:=z.len
  show _=_
  unfold splice;by_cases o:u=0
  ·rw[n,if_pos o];subst o;simp;omega
  ·rw[n,if_neg o,List.length_map,List.length_take,hl];rw[List.drop_eq_nil_of_le (by simp;omega)];simp;omega
 have H:=(show Hid _ from n)
 have HLN:=(show Hid _ from z.len)
 clear n;go_wp2_with fail
 have m:dm V.drew g 0 p (ps.length:Int) f (u:Int):=⟨z.len,z.blk⟩
 refine bT (S:=fun w'=>dm w' g 0 p (ps.length:Int) f (u:Int)) (by kernel_rfl) m ?_
 refine ai 0 (some 27) (.slice (some ⟨d.heap.size,0,none⟩) N N) (by kernel_rfl) (fun _ _=>by kernel_rfl) (fun _ _ _ h=>h) m ?_
 refine ai 1 (some 28) (.pointer (some ⟨g,0,none⟩)) (by kernel_rfl) (fun _ _=>by kernel_rfl) (fun _ _ _ h=>h) m ?_
 refine ai 2 (some 29) (.pointer (some ⟨g,0,none⟩)) (by kernel_rfl) (fun _ _=>by kernel_rfl) (fun _ _ _ h=>h) m ?_
 refine ai 3 (some 30) (.pointer (some ⟨g,2,none⟩)) (by kernel_rfl) (fun _ _=>by kernel_rfl) (fun _ _ _ h=>h) m ?_
 refine aU 4 (some 31) (.int .i64 (ps.length:Int)) 3 30 g 2 (by kernel_rfl) (by kernel_rfl) (by kernel_rfl) (fun w' h=>iH h.c2) (fun _ _ _ h=>h) m ?_
 refine ai 5 (some 32) (.slice (some ⟨d.heap.size,off,none⟩) u u) (by kernel_rfl) (fun w' _=>ra (.tmp 27) (some (.tmp 31)) none (by kernel_rfl) (by kernel_rfl) (by kernel_rfl) (by kernel_rfl) (y w')) (fun _ _ _ h=>h) m ?_
 refine ai 6 (some 33) (.pointer (some ⟨g,0,none⟩)) (by kernel_rfl) (fun _ _=>by kernel_rfl) (fun _ _ _ h=>h) m ?_
 refine ai 7 (some 34) (.pointer (some ⟨g,0,none⟩)) (by kernel_rfl) (fun _ _=>by kernel_rfl) (fun _ _ _ h=>h) m ?_
 refine ai 8 (some 35) (.pointer (some ⟨g,3,none⟩)) (by kernel_rfl) (fun _ _=>by kernel_rfl) (fun _ _ _ h=>h) m ?_
 refine ai 9 (some 36) (.pointer (some ⟨g,0,none⟩)) (by kernel_rfl) (fun _ _=>by kernel_rfl) (fun _ _ _ h=>h) m ?_
 refine ai 10 (some 37) (.pointer (some ⟨g,0,none⟩)) (by kernel_rfl) (fun _ _=>by kernel_rfl) (fun _ _ _ h=>h) m ?_
 refine ai 11 (some 38) (.pointer (some ⟨g,259,none⟩)) (by kernel_rfl) (fun _ _=>by kernel_rfl) (fun _ _ _ h=>h) m ?_
 refine aU 12 (some 39) (.int .i64 (u:Int)) 3 38 g 259 (by kernel_rfl) (by kernel_rfl) (by kernel_rfl) (fun w' h=>iH h.cu) (fun _ _ _ h=>h) m ?_
 refine ai 13 (some 40) (.slice (some ⟨g,3,none⟩) u 256) (by kernel_rfl) (fun w' _=>ra (.tmp 35) none (some (.tmp 39)) (by kernel_rfl) (by kernel_rfl) (by kernel_rfl) (by kernel_rfl) (s w')) (fun _ _ _ h=>h) m ?_
 refine aN [14] (by kernel_rfl) (by simp) ?_
 have P:dm (V.drew.setRow d.heap.size (splice ((List.replicate N (0:Int)).map (Value.int .u8)) off ((f.take u).map (Value.int .u8))).toArray) g 0 p (ps.length:Int) f (u:Int):=m.off (g':=d.heap.size) (by omega) (fun k Y=>setRow_other _ _ k _ Y)
 refine bH 14 (some 41) (.int .i64 (u:Int)) (V.drew.setRow d.heap.size (splice ((List.replicate N (0:Int)).map (Value.int .u8)) off ((f.take u).map (Value.int .u8))).toArray) (by kernel_rfl) (yN 32 40 (by kernel_rfl) (g:=d.heap.size) (off:=off) (dLen:=u) (dCap:=u) (sLen:=u) (sCap:=256) (ad:=⟨g,3,none⟩) (by kernel_rfl) (by kernel_rfl) R.drew ((f.take u).map (Value.int .u8)) u (by have:=HLN.out; simp; omega) (Nat.min_self u).symm (fun j v O=>by
  obtain⟨h1,h2⟩:=List.getElem?_eq_some_iff.1 O;rw[List.length_map,List.length_take] at h1;rw[addr_add,<- h2,List.getElem_map,List.getElem_take,<- cn (l:=f) (by omega)]
  exact m.cl j (by omega)) (by have:=Q.out;have:=H.out;rw[List.length_map,List.length_replicate,this];split<;>omega) (ints_oneCell _ _)) P ?_ bj
 refine bQ (by kernel_rfl) ?_
 try simp only[Act.put,List.setIfInBounds_toArray,List.set_cons_zero,List.set_cons_succ]
 have B4:Box (V.drew.setRow d.heap.size (splice ((List.replicate N (0:Int)).map (Value.int .u8)) off ((f.take u).map (Value.int .u8))).toArray) d.heap.size ((List.replicate ps.length 0 ++ f.take u).map (Value.int .u8)) 5:=by
  have:=R.drew.row (ds:=splice ((List.replicate N (0:Int)).map (Value.int .u8)) off ((f.take u).map (Value.int .u8)));rw[G.out] at this ⊢;exact this
 have J:Hid (Below d.heap.size d (V.drew.setRow d.heap.size (splice ((List.replicate N (0:Int)).map (Value.int .u8)) off ((f.take u).map (Value.int .u8))).toArray)):=oU HB0.out.drew (Nat.le_refl _) _;generalize V.drew.setRow d.heap.size (splice ((List.replicate N (0:Int)).map (Value.int .u8)) off ((f.take u).map (Value.int .u8))).toArray=w4 at *;have K:=(show Hid _ from B4)
 clear c2 cu y s R z m B4;have c2:=P.c2;have c1:=P.c1;go_wp2_with fail;go_loopw [5,6] (fun ta tp wr=>∃ q rest fin,tp=.pointer q/\Hid (Pc d q rest)/\Hid (L=rest ++ fin)/\ta=.int .i64 (rest.length:Int)/\Hid (Box wr d.heap.size ((List.replicate rest.length 0 ++ fin).map (Value.int .u8)) 5)/\Hid (Below d.heap.size d wr)) (fun ta _ _=>(intOf ta).toNat)
 case atStart=>exact⟨p,ps,f.take u,rfl,HP.out,HL.out,rfl,K.out,J.out⟩
 case round =>
  clear c2 c1 P K J HW0 G H;obtain⟨q,rest,fin,rfl,hP,Z,rfl,hB,C⟩:=hrel
  have hP':=hP.out
  induction hP' using Pc.ind with
  | nil =>
   have HF:Hid (Box wr d.heap.size (L.map (Value.int .u8)) 5):=by rw[Z.out];exact hB.out
   go_wp2;go_ret2;exact⟨rfl,HF.out,C.out⟩
  | cons hb hbl hp2 ih0=>
   clear ih0
   rename_i b p' c i;have E:=hb.keep (C.out.mono (Nat.le_refl _))
   have A:(((c ++ i).length:Nat):Int)=(c.length:Int)+256:=by rw[List.length_append,hbl];rfl
   have F:c.length+256+fin.length=N:=by rw[HN.out,Z.out,List.length_append,List.length_append,hbl]
   rw[A]
   have y:∀ W,(Instr.sliceAt 87 (.slice (some ⟨d.heap.size,0,none⟩) N N) (some (.int .i64 (c.length:Int))) none none).run Tryz.prog W=.ok (.slice (some ⟨d.heap.size,c.length,none⟩) (N - c.length) (N - c.length)) W:=fun W=>by
    rw[sliceB _ N N c.length W (by omega) (Nat.le_refl _)];unfold du;rw[if_neg (by omega)]
    show Result.ok (Value.slice (some ((⟨d.heap.size,0,none⟩:Addr).add c.length)) _ _) W=_
    rw[addr_add,Nat.zero_add]
   have s:=qZ b
   have I:Hid (splice ((List.replicate (c ++ i).length (0:Int) ++ fin).map (Value.int .u8)) c.length (i.map (Value.int .u8))=(List.replicate c.length 0 ++ (i ++ fin)).map (Value.int .u8)):=by
    show _=_
    unfold splice;rw[List.length_map,hbl,List.length_append,hbl,<- List.map_take,<- List.map_drop,List.take_append_of_le_length (by simp),List.drop_append_of_le_length (by simp),List.drop_eq_nil_of_le (by simp),List.take_replicate,Nat.min_eq_left (by omega)];simp
   have HLE:Hid (L=c ++ (i ++ fin)):=by show _=_;rw[Z.out,List.append_assoc]
   have M:=(show Hid _ from F)
   have Hb:=(show Hid _ from hbl)
   clear F hbl A
   have hpl:c.length<=17592186044416:=by have:=M.out;omega
   go_wp2_with fail;refine bT (S:=fun _=>True) (by kernel_rfl) trivial ?_
   refine ai 0 (some 58) (.slice (some ⟨d.heap.size,0,none⟩) N N) (by kernel_rfl) (fun _ _=>by kernel_rfl) (fun _ _ _ h=>h) trivial ?_
   refine ai 1 (some 59) (.int .i64 (c.length:Int)) (by kernel_rfl) (fun _ _=>by kernel_rfl) (fun _ _ _ h=>h) trivial ?_
   refine ai 2 (some 60) (.slice (some ⟨d.heap.size,c.length,none⟩) (N - c.length) (N - c.length)) (by kernel_rfl) (fun w' _=>ra (.tmp 58) (some (.tmp 59)) none (by kernel_rfl) (by kernel_rfl) (by kernel_rfl) (by kernel_rfl) (y w')) (fun _ _ _ h=>h) trivial ?_
   refine ai 3 (some 61) (.pointer (some ⟨b,0,none⟩)) (by kernel_rfl) (fun _ _=>by kernel_rfl) (fun _ _ _ h=>h) trivial ?_
   refine ai 4 (some 62) (.pointer (some ⟨b,0,none⟩)) (by kernel_rfl) (fun _ _=>by kernel_rfl) (fun _ _ _ h=>h) trivial ?_
   refine ai 5 (some 63) (.pointer (some ⟨b,1,none⟩)) (by kernel_rfl) (fun _ _=>by kernel_rfl) (fun _ _ _ h=>h) trivial ?_
   refine ai 6 (some 64) (.slice (some ⟨b,1,none⟩) 256 256) (by kernel_rfl) (fun w' _=>ra (.tmp 63) none none (by kernel_rfl) (by kernel_rfl) (by kernel_rfl) (by kernel_rfl) (s w')) (fun _ _ _ h=>h) trivial ?_
   refine aN [7] (by kernel_rfl) (by simp) ?_
   have T:b≠d.heap.size:=by have:=hb.lt;omega
   refine bH 7 (some 65) (.int .i64 ((256:Nat):Int)) (wr.drew.setRow d.heap.size (splice ((List.replicate (c ++ i).length (0:Int) ++ fin).map (Value.int .u8)) c.length (i.map (Value.int .u8))).toArray) (by kernel_rfl) (yN 60 64 (by kernel_rfl) (g:=d.heap.size) (off:=c.length) (dLen:=N - c.length) (dCap:=N - c.length) (sLen:=256) (sCap:=256) (ad:=⟨b,1,none⟩) (by kernel_rfl) (by kernel_rfl) hB.out.drew (i.map (Value.int .u8)) 256 (by rw[List.length_map]; exact Hb.out) (Nat.min_eq_left (by have:=M.out; omega)).symm (fun j v O=>by
    obtain⟨h1,h2⟩:=List.getElem?_eq_some_iff.1 O;have h3:=E.drew.blk;rw[addr_add,Nat.add_comm 1 j];simp only[World.cell?,h3]
    simpa using O) (by have:=Hb.out;simp;omega) (ints_oneCell _ _)) trivial ?_ bj
   refine bQ (by kernel_rfl) ?_
   try simp only[Act.put,List.setIfInBounds_toArray,List.set_cons_zero,List.set_cons_succ]
   have B5:Hid (Box (wr.drew.setRow d.heap.size (splice ((List.replicate (c ++ i).length (0:Int) ++ fin).map (Value.int .u8)) c.length (i.map (Value.int .u8))).toArray) d.heap.size ((List.replicate c.length 0 ++ (i ++ fin)).map (Value.int .u8)) 5):=by
    have:=hB.out.drew.row (ds:=splice ((List.replicate (c ++ i).length (0:Int) ++ fin).map (Value.int .u8)) c.length (i.map (Value.int .u8)));rw[I.out] at this ⊢;exact this
   have HB5:Hid (Below d.heap.size d (wr.drew.setRow d.heap.size (splice ((List.replicate (c ++ i).length (0:Int) ++ fin).map (Value.int .u8)) c.length (i.map (Value.int .u8))).toArray)):=oU C.out.drew (Nat.le_refl _) _;have X5:=E.drew.off (g':=d.heap.size) T (fun k Y=>setRow_other wr.drew d.heap.size k (splice ((List.replicate (c ++ i).length (0:Int) ++ fin).map (Value.int .u8)) c.length (i.map (Value.int .u8))).toArray Y);clear y s E I;generalize (wr.drew.setRow d.heap.size (splice ((List.replicate (c ++ i).length (0:Int) ++ fin).map (Value.int .u8)) c.length (i.map (Value.int .u8))).toArray)=w5 at *
   have cb:w5.cell? ⟨b,0,none⟩=some (.pointer p'):=by
    have:=X5.blk;simp[World.cell?,this]
   have U:=(show Hid _ from hp2)
   clear X5 hb hp2;go_wp2;go_roundw
   case rel=>exact⟨p',c,i ++ fin,rfl,U.out,HLE.out,rfl,B5.out,HB5.out⟩
   case measure=>simp[intOf];omega
end
end
section
open Go.RowKit Lim
section
variable {w w':World}{b g:Nat}{ao:Option Addr}{l:List Int}
theorem rI:Tryz.zeroCells230=(eb 0 none 0 (List.replicate 256 0) 0).toArray:=by kernel_rfl
theorem AX(w:World):WrA (w.alloc (.cells Tryz.zeroCells230 230)) w.heap.size 0 []:=by
 rw[rI];exact⟨none,[],List.replicate 256 0,0,⟨by rw[List.length_replicate],(ji w _ _).blk⟩,.nil,by decide,by simp⟩
theorem ByA.butN{n c:Nat}(h:ByA w b ao n c l)(hb:b≠g)(hB:But g w w'):ByA w' b ao n c l:=by
 obtain⟨o,h1,h2,h3,h4,h5⟩:=h.ex;exact⟨o,h1,h2,h3,h4,h5.loc,fun i hi=>hB.cell (h5.cell i hi) hb⟩
theorem RdA.offW{g':Nat}{err:Int}(h:RdA w g b err l)(a:g≠g')(hb:b≠g')(d:But g' w w'):RdA w' g b err l:=by
 obtain⟨e,n,c,X,A⟩:=h.ex;exact⟨e,n,c,⟨by rw[d.block g X.lt a];exact X.blk⟩,A.butN hb d⟩
theorem lX{V:Int}(hV:0<=V)(h:IsB l V):eA V=l:=mX (p6 hV) h
theorem natB_0:eA 0=[]:=lX (by decide) ⟨fun x hx=>by simp at hx,fun h=>absurd rfl h,rfl⟩
end
end
section
namespace Rc
open Go.RowKit Go.Lib Pg
attribute [local go_sem] Oper.semAt_some
section
variable {G:Nat→Prop}{rb sb n cc:Nat}{f1 f2 f3:FuncId}{c:Value}{kd:Nat→Nat}{offs:List Nat}{w:World}
theorem aD{p:Prop}(h:p):Hid p:=h
theorem dF(w:World)(o:Obj):(w.alloc o).heap.size=w.heap.size+1:=by
 show (w.heap.push o).size=_
 simp
theorem fE(w:World):Below w.heap.size w w.drew:=⟨rfl,rfl,rfl,Nat.le_refl _,fun _ _=>rfl⟩
structure HC(σ:Type)(Inv:σ->World->Prop)(G:Nat->Prop)(rb:Nat)(f1 f2 f3:FuncId)(c:Value)(nx:Nat->Nat->σ->σ)(kd:Nat->Nat)(ok:σ->Prop):Prop where
 oks:∀ k o s,ok (nx k o s)->ok s
 keep:∀ s w w',Inv s w->Below w.heap.size w w'->Inv s w'
 old:∀ s w b,Inv s w->G b->b < w.heap.size
 e1:∀ args w,(callFunc f1 args).run Tryz.prog w=.ok (.enter f1 args) w
 e2:∀ args w,(callFunc f2 args).run Tryz.prog w=.ok (.enter f2 args) w
 e3:∀ args w,(callFunc f3 args).run Tryz.prog w=.ok (.enter f3 args) w
 u:∀ s w o,Inv s w->ok (nx 0 o s)->kd o=0->Calls Tryz.prog f1 #[.pointer (some ⟨rb,o,none⟩),c] w fun e w'=>e=.returned (.tuple #[])/\Inv (nx 0 o s) w'/\Chg G w w'
 t:∀ s w o,Inv s w->ok (nx 1 o s)->kd o=1->Calls Tryz.prog f2 #[.pointer (some ⟨rb,o,none⟩),c] w fun e w'=>e=.returned (.tuple #[])/\Inv (nx 1 o s) w'/\Chg G w w'
 d:∀ s w o,Inv s w->ok (nx 2 o s)->kd o=2->Calls Tryz.prog f3 #[.pointer (some ⟨rb,o,none⟩),c] w fun e w'=>e=.returned (.tuple #[])/\Inv (nx 2 o s) w'/\Chg G w w'
theorem HC.okf{σ:Type}{Inv:σ->World->Prop}{G:Nat->Prop}{nx:Nat->Nat->σ->σ}{kd:Nat->Nat}{ok:σ->Prop}(H:HC σ Inv G rb f1 f2 f3 c nx kd ok)(k:Nat)(l:List Nat):∀ s,ok (l.foldl (fun s o=>nx k o s) s)->ok s:=by
 induction l with
 | nil=>exact fun _ h=>h
 | cons o l ih=>exact fun s h=>H.oks _ _ _ (ih _ h)
structure Ee(σ:Type)(Inv:σ->World->Prop)(G:Nat->Prop)(s:σ)(w:World)(e:Ending)(w':World):Prop where
 ret:e=.returned (.tuple #[])
 inv:Inv s w'
 chg:Chg G w w'
theorem lU{σ:Type}{Inv:σ→World→Prop}{nx:Nat→Nat→σ→σ}{ok:σ→Prop}{s:σ}(H:HC σ Inv G rb f1 f2 f3 c nx kd ok)(t:Inv s w)(hb:Blk w sb (offs.map fun o=>.pointer (some ⟨rb,o,none⟩)) 232)(C:¬ G sb)(p:∀ o ∈ offs,kd o=0)(d:ok (offs.foldl (fun s o=>nx 0 o s) s))(hn:offs.length=n)(N:n≤1000) :
    Calls Tryz.prog 160 #[.agg #[.func (.func f1) #[] #[c],.func (.func f2) #[] #[c],.func (.func f3) #[] #[c]],.slice (some ⟨sb,0,none⟩) n cc] w (Ee σ Inv G (offs.foldl (fun s o=>nx 0 o s) s) w):=by
  have al:=ae w (.cells #[.func (.func f1) #[] #[c],.func (.func f2) #[] #[c],.func (.func f3) #[] #[c]] 241);have z:=aE w [.func (.func f1) #[] #[c],.func (.func f2) #[] #[c],.func (.func f3) #[] #[c]] 241;have l:=aD H;have O:=aD t;have J:=aD hb;have M:=aD p;have B:=aD hn;have K:=aD d;have x:=aD al;have L:=aD z
  have b:¬ G w.heap.size:=fun h=>by have:=H.old s w _ t h;omega
  have F:=aD C;have r:=aD b;clear H t hb p hn al z C b d;go_enter Tryz.func160,Tryz.ntmps160;go_wp2_with fail;go_loopw [8] (fun v wr=>∃ k:Nat,k≤n∧v=.int .i64 k∧Hid (Inv ((offs.take k).foldl (fun s o=>nx 0 o s) s) wr)∧Hid (Chg G w wr)∧Hid (Blk wr w.heap.size [.func (.func f1) #[] #[c],.func (.func f2) #[] #[c],.func (.func f3) #[] #[c]] 241)) (fun v _=>n - (intOf v).toNat)
  case atStart=>exact⟨0,Nat.zero_le _,rfl,l.out.keep _ _ _ O.out x.out,Chg.of x.out,L.out⟩
  case round =>
    obtain⟨k,p,rfl,H1,m,A⟩:= hrel;by_cases I:k < n
    · obtain⟨o,j⟩:∃ o,Hid (offs[k]?=some o):=⟨offs[k]'(by have:=B.out;omega),List.getElem?_eq_getElem _⟩
      have g:=J.out.chg m.out F.out
      have c1:wr.cell? ⟨sb,k,none⟩=some (.pointer (some ⟨rb,o,none⟩)):=g.cell (i:=k) (by rw[List.getElem?_map,j.out];rfl);have c2:=A.out.cell (i:=0) rfl
      have q:(k:Int) < n:=by omega
      have f:ok (nx 0 o ((offs.take k).foldl (fun s o=>nx 0 o s) s)):=by
        have h:=K.out;rw[← List.take_append_drop (k+1) offs,List.foldl_append] at h;have y:=l.out.okf 0 _ _ h;rw[List.take_add_one,j.out,List.foldl_append] at y;exact y
      have U:=l.out.u _ wr o H1.out f (M.out o (List.mem_of_getElem? j.out));clear g f;go_wp2_with fail;rw[l.out.e1];refine U.mono ?_
      rintro Q P ⟨rfl,E,D⟩;go_wp2_with fail;go_roundw
      case rel=>exact⟨k+1,by omega,by go_num,by show Inv _ _;rw[List.take_add_one,j.out,List.foldl_append];exact E,m.out.trans D (fun _ _ h=>h),A.out.chg D r.out⟩
      case measure=>simp[intOf];omega
    · obtain rfl : k = n := by omega
      have q:¬ ((k:Int) < k):=by omega
      go_wp2;go_end0;refine⟨rfl,?_,m.out⟩;have h:=H1.out;rw[List.take_of_length_le (by have:=B.out;omega)] at h;exact h
theorem pS{σ:Type}{Inv:σ→World→Prop}{nx:Nat→Nat→σ→σ}{ok:σ→Prop}{s:σ}(H:HC σ Inv G rb f1 f2 f3 c nx kd ok)(u:Inv s w)(hb:Blk w sb (offs.map fun o=>.pointer (some ⟨rb,o,none⟩)) 237)(C:¬ G sb)(q:∀ o ∈ offs,kd o=2)(f:ok (offs.foldl (fun s o=>nx 2 o s) s))(hn:offs.length=n)(N:n≤1000) :
    Calls Tryz.prog 184 #[.agg #[.func (.func f1) #[] #[c],.func (.func f2) #[] #[c],.func (.func f3) #[] #[c]],.slice (some ⟨sb,0,none⟩) n cc] w (Ee σ Inv G (offs.foldl (fun s o=>nx 2 o s) s) w):=by
  have al:=ae w (.cells #[.func (.func f1) #[] #[c],.func (.func f2) #[] #[c],.func (.func f3) #[] #[c]] 241);have z:=aE w [.func (.func f1) #[] #[c],.func (.func f2) #[] #[c],.func (.func f3) #[] #[c]] 241;have m:=aD H;have O:=aD u;have J:=aD hb;have M:=aD q;have B:=aD hn;have K:=aD f;have x:=aD al;have L:=aD z
  have b:¬ G w.heap.size:=fun h=>by have:=H.old s w _ u h;omega
  have F:=aD C;have t:=aD b;clear H u hb q hn al z C b f;go_enter Tryz.func184,Tryz.ntmps184;go_wp2_with fail;go_loopw [8] (fun v wr=>∃ k:Nat,k≤n∧v=.int .i64 k∧Hid (Inv ((offs.take k).foldl (fun s o=>nx 2 o s) s) wr)∧Hid (Chg G w wr)∧Hid (Blk wr w.heap.size [.func (.func f1) #[] #[c],.func (.func f2) #[] #[c],.func (.func f3) #[] #[c]] 241)) (fun v _=>n - (intOf v).toNat)
  case atStart=>exact⟨0,Nat.zero_le _,rfl,m.out.keep _ _ _ O.out x.out,Chg.of x.out,L.out⟩
  case round =>
    obtain⟨k,q,rfl,H1,p,A⟩:= hrel;by_cases I:k < n
    · obtain⟨o,l⟩:∃ o,Hid (offs[k]?=some o):=⟨offs[k]'(by have:=B.out;omega),List.getElem?_eq_getElem _⟩
      have j:=J.out.chg p.out F.out
      have c1:wr.cell? ⟨sb,k,none⟩=some (.pointer (some ⟨rb,o,none⟩)):=j.cell (i:=k) (by rw[List.getElem?_map,l.out];rfl);have c2:=A.out.cell (i:=2) rfl
      have r:(k:Int) < n:=by omega
      have g:ok (nx 2 o ((offs.take k).foldl (fun s o=>nx 2 o s) s)):=by
        have h:=K.out;rw[← List.take_append_drop (k+1) offs,List.foldl_append] at h;have y:=m.out.okf 2 _ _ h;rw[List.take_add_one,l.out,List.foldl_append] at y;exact y
      have U:=m.out.d _ wr o H1.out g (M.out o (List.mem_of_getElem? l.out));clear j g;go_wp2_with fail;rw[m.out.e3];refine U.mono ?_
      rintro Q P ⟨rfl,E,D⟩;go_wp2_with fail;go_roundw
      case rel=>exact⟨k+1,by omega,by go_num,by show Inv _ _;rw[List.take_add_one,l.out,List.foldl_append];exact E,p.out.trans D (fun _ _ h=>h),A.out.chg D t.out⟩
      case measure=>simp[intOf];omega
    · obtain rfl : k = n := by omega
      have r:¬ ((k:Int) < k):=by omega
      go_wp2;go_end0;refine⟨rfl,?_,p.out⟩;have h:=H1.out;rw[List.take_of_length_le (by have:=B.out;omega)] at h;exact h
end
end Rc
end
section
open Pg (ai aU bS bT aN bH)
namespace Rc
open Go.RowKit Go.Lib Pg
attribute [local go_sem] Oper.semAt_some
section
variable {G:Nat->Prop}{rb:Nat}{f1 f2 f3:FuncId}{c:Value}{kd:Nat->Nat}{w:World}
def thr{σ:Type}(nx:Nat->Nat->σ->σ)(l:List (Nat × Nat))(s:σ):σ:=l.foldl (fun s p=>nx p.1 p.2 s) s
theorem HC.okt{σ:Type}{Inv:σ->World->Prop}{nx:Nat->Nat->σ->σ}{ok:σ->Prop}(H:HC σ Inv G rb f1 f2 f3 c nx kd ok)(l:List (Nat × Nat)):∀ s,ok (thr nx l s)->ok s:=by
 induction l with
 | nil=>exact fun _ h=>h
 | cons o l ih=>exact fun s h=>H.oks _ _ _ (ih _ h)
theorem ld_h{g:Nat}{u v i:Value}(c0:w.cell? ⟨g,0,none⟩=some u)(c1:w.cell? ⟨g,1,none⟩=some v)(c2:w.cell? ⟨g,2,none⟩=some i):(loadVar 241 ⟨g,0,none⟩).run Tryz.prog w=.ok (.agg #[u,v,i]) w:=by go_simp
theorem jr{σ:Type}{Inv:σ->World->Prop}{nx:Nat->Nat->σ->σ}{ok:σ->Prop}{s:σ}(H:HC σ Inv G rb f1 f2 f3 c nx kd ok)(B:Inv s w)(n:∀ p∈[(2,0),(0,1)],kd p.2=p.1)(t:ok (thr nx [(2,0),(0,1)] s)) :
  Calls Tryz.prog 135 #[.pointer (some ⟨rb,0,none⟩),.agg #[.func (.func f1) #[] #[c],.func (.func f2) #[] #[c],.func (.func f3) #[] #[c]]] w (Ee σ Inv G (thr nx [(2,0),(0,1)] s) w):=by
 have b:=ae w (.cells #[.func (.func f1) #[] #[c],.func (.func f2) #[] #[c],.func (.func f3) #[] #[c]] 241);have I:=aD (aE w [.func (.func f1) #[] #[c],.func (.func f2) #[] #[c],.func (.func f3) #[] #[c]] 241);have x:=aD (show ¬ G w.heap.size from fun h=>by have:=H.old s w _ B h;omega);have K:=aD (H.keep _ _ _ B b);have J:=aD (show Chg G w _ from Chg.of b)
 have k0:Hid (kd 0=2):=n (2,0) (by simp)
 have k1:Hid (kd 1=0):=n (0,1) (by simp);have l:=aD H;have L:=aD t;clear H B n b t;go_enter Tryz.func135,Tryz.ntmps135;go_wp2_with fail;obtain⟨j,C⟩:∃ j,Hid (w.alloc (.cells #[.func (.func f1) #[] #[c],.func (.func f2) #[] #[c],.func (.func f3) #[] #[c]] 241)=j):=⟨_,rfl⟩
 rw[C.out] at I K J ⊢;have r:=aD (l.out.keep _ _ _ K.out (fE j));have d:=aD (I.out.keep (fE j));refine bT (S:=fun u=>Blk u w.heap.size [.func (.func f1) #[] #[c],.func (.func f2) #[] #[c],.func (.func f3) #[] #[c]] 241) (by kernel_rfl) d.out ?_
 refine aU 0 (some 4) (.agg #[.func (.func f1) #[] #[c],.func (.func f2) #[] #[c],.func (.func f3) #[] #[c]]) 241 3 w.heap.size 0 (by kernel_rfl) (by kernel_rfl) (by kernel_rfl) (fun u h=>ld_h (h.cell (i:=0) rfl) (h.cell (i:=1) rfl) (h.cell (i:=2) rfl)) (fun _ _ _ h=>h) d.out ?_
 refine ai 1 (some 5) (.pointer (some ⟨rb,0,none⟩)) (by kernel_rfl) (fun _ _=>by kernel_rfl) (fun _ _ _ h=>h) d.out ?_
 refine ai 2 (some 6) (.pointer (some ⟨rb,0,none⟩)) (by kernel_rfl) (fun _ _=>by kernel_rfl) (fun _ _ _ h=>h) d.out ?_
 refine ai 3 (some 7) (.pointer (some ⟨rb,0,none⟩)) (by kernel_rfl) (fun _ _=>by kernel_rfl) (fun _ _ _ h=>h) d.out ?_
 have b:=ae j.drew (.cells #[.pointer (some ⟨rb,0,none⟩)] 237);have y:=aE j.drew [.pointer (some ⟨rb,0,none⟩)] 237;refine aN [4] (by kernel_rfl) (by simp) (bH 4 (some 8) (.slice (some ⟨j.drew.heap.size,0,none⟩) 1 1) (j.drew.alloc (.cells #[.pointer (some ⟨rb,0,none⟩)] 237)) (by kernel_rfl) (by kernel_rfl) (d.out.keep b) ?_ bj);refine bS 5 (some 9) 184 #[.agg #[.func (.func f1) #[] #[c],.func (.func f2) #[] #[c],.func (.func f3) #[] #[c]],.slice (some ⟨j.drew.heap.size,0,none⟩) 1 1] (by kernel_rfl) (by kernel_rfl) (pS (offs:=[0]) l.out (l.out.keep _ _ _ r.out b) y (fun h=>by have:=l.out.old _ _ _ r.out h;omega) (by simp[k0.out]) (l.out.okt [(0,1)] _ L.out) rfl (by decide)) ?_
 rintro P m ⟨rfl,E,o⟩;refine⟨_,rfl,((d.out.keep b).chg o x.out),?_⟩;refine bQ (by kernel_rfl) ?_
 simp only[Act.put,List.setIfInBounds_toArray,List.set_cons_zero,List.set_cons_succ];have O:=aD E;have R:=aD ((J.out.trans (Chg.of (F:=G) (aB (fE j) b)) (fun _ _ h=>h)).trans o (fun _ _ h=>h));have D:=aD ((d.out.keep b).chg o x.out);go_wp2_with fail;have v:=aD (l.out.keep _ _ _ O.out (fE m));have f:=aD (D.out.keep (fE m));refine bT (S:=fun u=>Blk u w.heap.size [.func (.func f1) #[] #[c],.func (.func f2) #[] #[c],.func (.func f3) #[] #[c]] 241) (by kernel_rfl) f.out ?_
 refine aU 0 (some 10) (.agg #[.func (.func f1) #[] #[c],.func (.func f2) #[] #[c],.func (.func f3) #[] #[c]]) 241 3 w.heap.size 0 (by kernel_rfl) (by kernel_rfl) (by kernel_rfl) (fun u h=>ld_h (h.cell (i:=0) rfl) (h.cell (i:=1) rfl) (h.cell (i:=2) rfl)) (fun _ _ _ h=>h) f.out ?_
 refine ai 1 (some 11) (.pointer (some ⟨rb,0,none⟩)) (by kernel_rfl) (fun _ _=>by kernel_rfl) (fun _ _ _ h=>h) f.out ?_
 refine ai 2 (some 12) (.pointer (some ⟨rb,0,none⟩)) (by kernel_rfl) (fun _ _=>by kernel_rfl) (fun _ _ _ h=>h) f.out ?_
 refine ai 3 (some 13) (.pointer (some ⟨rb,1,none⟩)) (by kernel_rfl) (fun _ _=>by kernel_rfl) (fun _ _ _ h=>h) f.out ?_
 have g:=ae m.drew (.cells #[.pointer (some ⟨rb,1,none⟩)] 232);have A:=aE m.drew [.pointer (some ⟨rb,1,none⟩)] 232;refine aN [4] (by kernel_rfl) (by simp) (bH 4 (some 14) (.slice (some ⟨m.drew.heap.size,0,none⟩) 1 1) (m.drew.alloc (.cells #[.pointer (some ⟨rb,1,none⟩)] 232)) (by kernel_rfl) (by kernel_rfl) (f.out.keep g) ?_ bj);refine bS 5 (some 15) 160 #[.agg #[.func (.func f1) #[] #[c],.func (.func f2) #[] #[c],.func (.func f3) #[] #[c]],.slice (some ⟨m.drew.heap.size,0,none⟩) 1 1] (by kernel_rfl) (by kernel_rfl) (lU (offs:=[1]) l.out (l.out.keep _ _ _ v.out g) A (fun h=>by have:=l.out.old _ _ _ v.out h;omega) (by simp[k1.out]) (l.out.okt [] _ L.out) rfl (by decide)) ?_
 rintro P T ⟨rfl,z,q⟩;refine⟨_,rfl,((f.out.keep g).chg q x.out),?_⟩;refine bQ (by kernel_rfl) ?_
 simp only[Act.put,List.setIfInBounds_toArray,List.set_cons_zero,List.set_cons_succ];have Q:=aD z;have N:=aD ((R.out.trans (Chg.of (F:=G) (aB (fE m) g)) (fun _ _ h=>h)).trans q (fun _ _ h=>h));have M:=aD ((f.out.keep g).chg q x.out);go_wp2_with fail;go_end0;exact⟨rfl,Q.out,N.out⟩
theorem oV{σ:Type}{Inv:σ->World->Prop}{nx:Nat->Nat->σ->σ}{ok:σ->Prop}{s:σ}(H:HC σ Inv G rb f1 f2 f3 c nx kd ok)(q:Inv s w)(g:∀ p∈[(0,0),(0,1)],kd p.2=p.1)(m:ok (thr nx [(0,0),(0,1)] s)) :
  Calls Tryz.prog 100 #[.pointer (some ⟨rb,0,none⟩),.agg #[.func (.func f1) #[] #[c],.func (.func f2) #[] #[c],.func (.func f3) #[] #[c]]] w (Ee σ Inv G (thr nx [(0,0),(0,1)] s) w):=by
 have d:=ae w (.cells #[.func (.func f1) #[] #[c],.func (.func f2) #[] #[c],.func (.func f3) #[] #[c]] 241);have x:=aD (aE w [.func (.func f1) #[] #[c],.func (.func f2) #[] #[c],.func (.func f3) #[] #[c]] 241);have v:=aD (show ¬ G w.heap.size from fun h=>by have:=H.old s w _ q h;omega);have z:=aD (H.keep _ _ _ q d);have y:=aD (show Chg G w _ from Chg.of d)
 have k0:Hid (kd 0=0):=g (0,0) (by simp)
 have k1:Hid (kd 1=0):=g (0,1) (by simp);have n:=aD H;have B:=aD m;clear H q g d m;go_enter Tryz.func100,Tryz.ntmps100;go_wp2_with fail;obtain⟨f,r⟩:∃ f,Hid (w.alloc (.cells #[.func (.func f1) #[] #[c],.func (.func f2) #[] #[c],.func (.func f3) #[] #[c]] 241)=f):=⟨_,rfl⟩
 rw[r.out] at x z y ⊢;have l:=aD (n.out.keep _ _ _ z.out (fE f));have b:=aD (x.out.keep (fE f));refine bT (S:=fun u=>Blk u w.heap.size [.func (.func f1) #[] #[c],.func (.func f2) #[] #[c],.func (.func f3) #[] #[c]] 241) (by kernel_rfl) b.out ?_
 refine aU 0 (some 4) (.agg #[.func (.func f1) #[] #[c],.func (.func f2) #[] #[c],.func (.func f3) #[] #[c]]) 241 3 w.heap.size 0 (by kernel_rfl) (by kernel_rfl) (by kernel_rfl) (fun u h=>ld_h (h.cell (i:=0) rfl) (h.cell (i:=1) rfl) (h.cell (i:=2) rfl)) (fun _ _ _ h=>h) b.out ?_
 refine ai 1 (some 5) (.pointer (some ⟨rb,0,none⟩)) (by kernel_rfl) (fun _ _=>by kernel_rfl) (fun _ _ _ h=>h) b.out ?_
 refine ai 2 (some 6) (.pointer (some ⟨rb,0,none⟩)) (by kernel_rfl) (fun _ _=>by kernel_rfl) (fun _ _ _ h=>h) b.out ?_
 refine ai 3 (some 7) (.pointer (some ⟨rb,0,none⟩)) (by kernel_rfl) (fun _ _=>by kernel_rfl) (fun _ _ _ h=>h) b.out ?_
 refine ai 4 (some 8) (.pointer (some ⟨rb,0,none⟩)) (by kernel_rfl) (fun _ _=>by kernel_rfl) (fun _ _ _ h=>h) b.out ?_
 refine ai 5 (some 9) (.pointer (some ⟨rb,0,none⟩)) (by kernel_rfl) (fun _ _=>by kernel_rfl) (fun _ _ _ h=>h) b.out ?_
 refine ai 6 (some 10) (.pointer (some ⟨rb,1,none⟩)) (by kernel_rfl) (fun _ _=>by kernel_rfl) (fun _ _ _ h=>h) b.out ?_
 have d:=ae f.drew (.cells #[.pointer (some ⟨rb,0,none⟩),.pointer (some ⟨rb,1,none⟩)] 232);have o:=aE f.drew [.pointer (some ⟨rb,0,none⟩),.pointer (some ⟨rb,1,none⟩)] 232;refine aN [7] (by kernel_rfl) (by simp) (bH 7 (some 11) (.slice (some ⟨f.drew.heap.size,0,none⟩) 2 2) (f.drew.alloc (.cells #[.pointer (some ⟨rb,0,none⟩),.pointer (some ⟨rb,1,none⟩)] 232)) (by kernel_rfl) (by kernel_rfl) (b.out.keep d) ?_ bj);refine bS 8 (some 12) 160 #[.agg #[.func (.func f1) #[] #[c],.func (.func f2) #[] #[c],.func (.func f3) #[] #[c]],.slice (some ⟨f.drew.heap.size,0,none⟩) 2 2] (by kernel_rfl) (by kernel_rfl) (lU (offs:=[0,1]) n.out (n.out.keep _ _ _ l.out d) o (fun h=>by have:=n.out.old _ _ _ l.out h;omega) (by simp[k0.out,k1.out]) (n.out.okt [] _ B.out) rfl (by decide)) ?_
 rintro I E ⟨rfl,t,j⟩;refine⟨_,rfl,((b.out.keep d).chg j v.out),?_⟩;refine bQ (by kernel_rfl) ?_
 simp only[Act.put,List.setIfInBounds_toArray,List.set_cons_zero,List.set_cons_succ];have A:=aD t;have C:=aD ((y.out.trans (Chg.of (F:=G) (aB (fE f) d)) (fun _ _ h=>h)).trans j (fun _ _ h=>h));have D:=aD ((b.out.keep d).chg j v.out);go_wp2_with fail;go_end0;exact⟨rfl,A.out,C.out⟩
end
end Rc
end
section
namespace Rc
open Go.RowKit Go.Lib Pg
attribute [local go_sem] Oper.semAt_some
def fit (V:Int):Int:=if (eA V).length < 256 then V else 0
theorem iU (V:Int):(eA (fit V)).length < 256:=by
 unfold fit;split
 ·assumption
 ·rw[natB_0];decide
def gS:Nat->Int->List Int
 | 0,x=>be 8 x
 | 1,x=>be 1 x
 | _,x=>gi 1 (eA (fit x))
theorem But.chg {g:Nat} {w w':World} (h:But g w w'):Chg (·=g) w w':=⟨h.os,h.tape,h.output,h.size,fun b hb hne=>h.block b hb hne⟩
theorem lW {w:World} {ao:Option Addr} {n c:Nat} {V:Int} (h:aX w ao n c V) (hn:n<=1000000) :
  Calls Tryz.prog 158 #[.agg #[.slice ao n c]] w fun e w'=>∃ a1 n1 c1,e=.returned (.agg #[.slice a1 n1 c1])/\aX w' a1 n1 c1 (fit V)/\n1<=1000000/\Below w.heap.size w w':=by
 have F:=ae w (.cells #[.slice ao n c] 32);have B:=ae (w.alloc (.cells #[.slice ao n c] 32)) (.cells #[.slice none 0 0] 32);have r:=ae ((w.alloc (.cells #[.slice ao n c] 32)).alloc (.cells #[.slice none 0 0] 32)) (.cells Tryz.zeroCells230 230);have s1:=dF w (.cells #[.slice ao n c] 32);have s2:=dF (w.alloc (.cells #[.slice ao n c] 32)) (.cells #[.slice none 0 0] 32);have x:=((aE w [.slice ao n c] 32).keep B).keep r;have t:=(aE (w.alloc (.cells #[.slice ao n c] 32)) [.slice none 0 0] 32).keep r;have X:=AX ((w.alloc (.cells #[.slice ao n c] 32)).alloc (.cells #[.slice none 0 0] 32));rw[s2,s1] at X;rw[s1] at t;obtain⟨D,l⟩:∃ D,Hid ((((w.alloc (.cells #[.slice ao n c] 32)).alloc (.cells #[.slice none 0 0] 32)).alloc (.cells Tryz.zeroCells230 230))=D):=⟨_,rfl⟩
 have u:=aB (aB F B) r;rw[l.out] at u x t X;have f:=aD u;have q:=aD x;have o:=aD t;have G:=aD X;have E:=aD (h.keep u);have A:=aD h;have p:=aD (show ¬ (w.heap.size=w.heap.size+1+1) by omega);have m:=aD (show ¬ (w.heap.size+1=w.heap.size+1+1) by omega);clear F B s1 s2 x t r X h u;by_cases hf:(eA V).length < 256
 ·have C:=aD (show ik V 0=0 by unfold ik;rw[if_pos hf]);have y:=aD (show fit V=V by unfold fit;rw[if_pos hf])
  have I:=aD (show (jk V 0 []).length<=17592186044416 by
   unfold jk wrote;rw[if_pos hf,if_pos rfl];simp[gi,aT]
   omega)
  clear hf;go_enter Tryz.func158,Tryz.ntmps158;go_wp2_with fail;rw[l.out];refine(vX G.out E.out (by omega) (by simp;omega)).mono ?_
  rintro z H ⟨rfl,j,d⟩;rw[C.out] at j;go_wp2_with fail;refine(BU j I.out).mono ?_
  rintro z J ⟨rfl,-,b⟩;have k1:=q.out.chg (But.chg d) p.out;have g:=o.out.chg (But.chg d) m.out;have d1:=(k1.keep b).cell (i:=0) rfl;have d2:=(g.keep b).cell (i:=0) rfl;have f2:=(g.keep b).free 0;have s:=aD ((d.below f.out (by omega) (Nat.le_refl _)).trans (b.mono (by have:=f.out.size;have:=d.size;omega)));have v:=aD (show Slot _ _ _ _ from⟨((g.keep b).setCell (i:=0) (.slice ao n c)).blk⟩);clear k1 g j d b;go_wp2;refine bodyPost_ret (my rfl rfl v.out) rfl ?_
  refine⟨ao,n,c,rfl,?_,hn,?_⟩
  ·rw[y.out];exact A.out.keep (s.out.setCell (Nat.le_succ _) _)
  ·exact s.out.setCell (Nat.le_succ _) _
 ·have C:=aD (show ik V 0=42 by unfold ik;rw[if_neg hf];rfl);have y:=aD (show fit V=0 by unfold fit;rw[if_neg hf]);clear hf;go_enter Tryz.func158,Tryz.ntmps158;go_wp2_with fail;rw[l.out];refine(vX G.out E.out (by omega) (by simp;omega)).mono ?_
  rintro z H ⟨rfl,j,d⟩;rw[C.out] at j;go_wp2_with fail;refine(wrOutE j (by decide)).mono ?_
  rintro z J ⟨rfl,b⟩;have k1:=q.out.chg (But.chg d) p.out;have g:=o.out.chg (But.chg d) m.out;have d1:=(k1.keep b).cell (i:=0) rfl;have d2:=(g.keep b).cell (i:=0) rfl;have f2:=(g.keep b).free 0;have s:=aD ((d.below f.out (by omega) (Nat.le_refl _)).trans (b.mono (by have:=f.out.size;have:=d.size;omega)));have v:=aD (show Slot _ _ _ _ from⟨((g.keep b).setCell (i:=0) (.slice none 0 0)).blk⟩);clear k1 g j d b;go_wp2;refine bodyPost_ret (my rfl rfl v.out) rfl ?_
  refine⟨none,0,0,rfl,?_,by decide,?_⟩
  ·rw[y.out];exact(CE _).a
  ·exact s.out.setCell (Nat.le_succ _) _
end Rc
end
section
namespace Rc
open Go.RowKit Go.Lib Pg
attribute [local go_sem] Oper.semAt_some
section
variable {w0 w:World}{bw rb o n c:Nat}{cs:List Value}{L:List Int}{x:Bool}{y V:Int}{ao:Option Addr}{xs:Nat->Int}
theorem Aj(k:Nat)(x:Int):(gS k x).length<=300:=by
 unfold gS;split
 ·rw[aT];decide
 ·rw[aT];decide
 ·have:=iU x;simp only[gi,List.length_append,aT];omega
def pnx(xs:Nat->Int)(k o:Nat)(L:List Int):List Int:=L ++ gS k (xs o)
theorem mi(xs:Nat->Int)(l:List (Nat × Nat)):∀ L:List Int,(thr (pnx xs) l L).length<=L.length+300 * l.length:=by
 induction l with
 | nil=>intro L;simp[thr]
 | cons p l ih =>
  intro L;have h:=ih (pnx xs p.1 p.2 L);have a:=Aj p.1 (xs p.2)
  have e:thr (pnx xs) (p :: l) L=thr (pnx xs) l (pnx xs p.1 p.2 L):=rfl;rw[e];simp only[pnx,List.length_append] at h;simp only[List.length_cons];simp only[pnx];omega
def okL(L:List Int):Prop:=L.length<=1000000000000
structure PI(w0:World)(bw rb:Nat)(cs:List Value)(T:TypeId)(L:List Int)(w:World):Prop where
 wr:WrA w bw 0 L
 bel:Below w0.heap.size w0 w
 blk:Blk w rb cs T
 hb:w0.heap.size<=bw
 ne:rb≠bw
def yK(w0:World)(kd:Nat->Nat)(cs:List Value)(xs:Nat->Int):Prop:=∀ o,(kd o=0->cs[o]?=some (.int .u64 (xs o)))/\(kd o=1->∃ b:Bool,cs[o]?=some (.bool b)/\xs o=if b then 1 else 0)/\(kd o=2->∃ ao n c,cs[o]?=some (.slice ao n c)/\aX w0 ao n c (xs o)/\n<=1000000)
theorem PI.step{w':World}{T:TypeId}{L':List Int}(h:PI w0 bw rb cs T L w)(X:WrA w' bw 0 L')(B:But bw w w'):PI w0 bw rb cs T L' w' :=
 ⟨X,B.below h.bel h.hb (Nat.le_refl _),h.blk.chg (But.chg B) (fun e=>h.ne e),h.hb,h.ne⟩
def fl(o:Nat):Nat:=([0,0]:List Nat).getD o 9
theorem uW{x:Int}(c:w.cell? ⟨rb,o,none⟩=some (.int .u64 x))(X:WrA w bw 0 L)(hL:L.length<=1000000000000) :
  Calls Tryz.prog 181 #[.pointer (some ⟨rb,o,none⟩),.pointer (some ⟨bw,0,none⟩)] w fun e w'=>e=.returned (.tuple #[])/\WrA w' bw 0 (L ++ gS 0 x)/\But bw w w':=by
 have t:=Fq (x:=x) X (by omega);clear X;go_enter Tryz.func181,Tryz.ntmps181;go_wp2_with (go_at_call 153;refine t.mono ?_;rintro g f ⟨rfl,d,b⟩;clear t);go_end0;exact⟨rfl,d,b⟩
theorem ua(hy:(if x then (1:Int) else 0)=y)(c:w.cell? ⟨rb,o,none⟩=some (.bool x))(X:WrA w bw 0 L)(hL:L.length<=1000000000000) :
  Calls Tryz.prog 182 #[.pointer (some ⟨rb,o,none⟩),.pointer (some ⟨bw,0,none⟩)] w fun e w'=>e=.returned (.tuple #[])/\WrA w' bw 0 (L ++ gS 1 y)/\But bw w w':=by
 have t:=zB (x:=x) X (by omega);rw[hy] at t;clear X hy;go_enter Tryz.func182,Tryz.ntmps182;go_wp2_with (go_at_call 155;refine t.mono ?_;rintro g f ⟨rfl,d,b⟩;clear t);go_end0;exact⟨rfl,d,b⟩
theorem vr(cc:w.cell? ⟨rb,o,none⟩=some (.slice ao n c))(f:aX w ao n c V)(hn:n<=1000000)(X:WrA w bw 0 L)(hL:L.length<=1000000000000) :
  Calls Tryz.prog 183 #[.pointer (some ⟨rb,o,none⟩),.pointer (some ⟨bw,0,none⟩)] w fun e w'=>e=.returned (.tuple #[])/\WrA w' bw 0 (L ++ gS 2 V)/\But bw w w':=by
 have t:=lW f hn;have q:=aD X;clear X f;go_enter Tryz.func183,Tryz.ntmps183;go_wp2_with first
  | (go_at_call 158;refine t.mono ?_;rintro m r ⟨a1,s,c1,rfl,l,j,d⟩;clear t)
  | (go_at_call 157;refine(vX (q.out.keep d) l (by omega) (by omega)).mono ?_;rintro m u ⟨rfl,g,i⟩)
 go_end0
 have p:ik (fit V) 0=0:=by unfold ik;rw[if_pos (iU V)]
 have b:jk (fit V) 0 L=L ++ gS 2 V:=by unfold jk wrote;rw[if_pos (iU V),if_pos rfl];rfl
 rw[p,b] at g;exact⟨rfl,g,(But.of d).trans i⟩
def bh(o:Nat):Nat:=([2,0]:List Nat).getD o 9
theorem um{T:TypeId}(F:yK w0 bh cs xs):HC (List Int) (PI w0 bw rb cs T) (·=bw) rb 181 182 183 (.pointer (some ⟨bw,0,none⟩)) (pnx xs) bh okL where
 oks:=fun k o L h=>by
  unfold okL pnx at *;rw[List.length_append] at h;omega
 keep:=fun L w i h B=>⟨h.wr.keep B,h.bel.trans (B.mono h.bel.size),h.blk.keep B,h.hb,h.ne⟩
 old:=fun L w b h e=>by have j:b=bw:=e;subst j;exact h.wr.lt
 e1:=fun _ _=>by kernel_rfl
 e2:=fun _ _=>by kernel_rfl
 e3:=fun _ _=>by kernel_rfl
 u:=fun L w o h a f=>by
  have g:L.length<=1000000000000:=by unfold okL pnx at a;rw[List.length_append] at a;omega
  refine(uW (h.blk.cell ((F o).1 f)) h.wr g).mono ?_
  rintro e i ⟨rfl,X,B⟩;exact⟨rfl,h.step X B,But.chg B⟩
 t:=fun L w o h a f=>by
  have g:L.length<=1000000000000:=by unfold okL pnx at a;rw[List.length_append] at a;omega
  obtain⟨b,hb,hx⟩:=(F o).2.1 f;refine(ua hx.symm (h.blk.cell hb) h.wr g).mono ?_
  rintro e i ⟨rfl,X,B⟩;exact⟨rfl,h.step X B,But.chg B⟩
 d:=fun L w o h a f=>by
  have g:L.length<=1000000000000:=by unfold okL pnx at a;rw[List.length_append] at a;omega
  obtain⟨m,n,c,hb,l,hn⟩:=(F o).2.2 f;refine(vr (h.blk.cell hb) (l.keep h.bel) hn h.wr g).mono ?_
  rintro e i ⟨rfl,X,B⟩;exact⟨rfl,h.step X B,But.chg B⟩
theorem pn_Cut{x:Int}(c:w.cell? ⟨rb,o,none⟩=some (.int .u64 x))(X:WrA w bw 0 L)(hL:L.length<=1000000000000) :
  Calls Tryz.prog 152 #[.pointer (some ⟨rb,o,none⟩),.pointer (some ⟨bw,0,none⟩)] w fun e w'=>e=.returned (.tuple #[])/\WrA w' bw 0 (L ++ gS 0 x)/\But bw w w':=by
 have t:=Fq (x:=x) X (by omega);clear X;go_enter Tryz.func152,Tryz.ntmps152;go_wp2_with (go_at_call 153;refine t.mono ?_;rintro g f ⟨rfl,d,b⟩;clear t);go_end0;exact⟨rfl,d,b⟩
theorem pt_Cut(hy:(if x then (1:Int) else 0)=y)(c:w.cell? ⟨rb,o,none⟩=some (.bool x))(X:WrA w bw 0 L)(hL:L.length<=1000000000000) :
  Calls Tryz.prog 154 #[.pointer (some ⟨rb,o,none⟩),.pointer (some ⟨bw,0,none⟩)] w fun e w'=>e=.returned (.tuple #[])/\WrA w' bw 0 (L ++ gS 1 y)/\But bw w w':=by
 have t:=zB (x:=x) X (by omega);rw[hy] at t;clear X hy;go_enter Tryz.func154,Tryz.ntmps154;go_wp2_with (go_at_call 155;refine t.mono ?_;rintro g f ⟨rfl,d,b⟩;clear t);go_end0;exact⟨rfl,d,b⟩
theorem pd_Cut(cc:w.cell? ⟨rb,o,none⟩=some (.slice ao n c))(f:aX w ao n c V)(hn:n<=1000000)(X:WrA w bw 0 L)(hL:L.length<=1000000000000) :
  Calls Tryz.prog 156 #[.pointer (some ⟨rb,o,none⟩),.pointer (some ⟨bw,0,none⟩)] w fun e w'=>e=.returned (.tuple #[])/\WrA w' bw 0 (L ++ gS 2 V)/\But bw w w':=by
 have t:=lW f hn;have q:=aD X;clear X f;go_enter Tryz.func156,Tryz.ntmps156;go_wp2_with first
  | (go_at_call 158;refine t.mono ?_;rintro m r ⟨a1,s,c1,rfl,l,j,d⟩;clear t)
  | (go_at_call 157;refine(vX (q.out.keep d) l (by omega) (by omega)).mono ?_;rintro m u ⟨rfl,g,i⟩)
 go_end0
 have p:ik (fit V) 0=0:=by unfold ik;rw[if_pos (iU V)]
 have b:jk (fit V) 0 L=L ++ gS 2 V:=by unfold jk wrote;rw[if_pos (iU V),if_pos rfl];rfl
 rw[p,b] at g;exact⟨rfl,g,(But.of d).trans i⟩
def cO(o:Nat):Nat:=([0,0]:List Nat).getD o 9
theorem hc_Cut{T:TypeId}(F:yK w0 cO cs xs):HC (List Int) (PI w0 bw rb cs T) (·=bw) rb 152 154 156 (.pointer (some ⟨bw,0,none⟩)) (pnx xs) cO okL where
 oks:=fun k o L h=>by
  unfold okL pnx at *;rw[List.length_append] at h;omega
 keep:=fun L w i h B=>⟨h.wr.keep B,h.bel.trans (B.mono h.bel.size),h.blk.keep B,h.hb,h.ne⟩
 old:=fun L w b h e=>by have j:b=bw:=e;subst j;exact h.wr.lt
 e1:=fun _ _=>by kernel_rfl
 e2:=fun _ _=>by kernel_rfl
 e3:=fun _ _=>by kernel_rfl
 u:=fun L w o h a f=>by
  have g:L.length<=1000000000000:=by unfold okL pnx at a;rw[List.length_append] at a;omega
  refine(pn_Cut (h.blk.cell ((F o).1 f)) h.wr g).mono ?_
  rintro e i ⟨rfl,X,B⟩;exact⟨rfl,h.step X B,But.chg B⟩
 t:=fun L w o h a f=>by
  have g:L.length<=1000000000000:=by unfold okL pnx at a;rw[List.length_append] at a;omega
  obtain⟨b,hb,hx⟩:=(F o).2.1 f;refine(pt_Cut hx.symm (h.blk.cell hb) h.wr g).mono ?_
  rintro e i ⟨rfl,X,B⟩;exact⟨rfl,h.step X B,But.chg B⟩
 d:=fun L w o h a f=>by
  have g:L.length<=1000000000000:=by unfold okL pnx at a;rw[List.length_append] at a;omega
  obtain⟨m,n,c,hb,l,hn⟩:=(F o).2.2 f;refine(pd_Cut (h.blk.cell hb) (l.keep h.bel) hn h.wr g).mono ?_
  rintro e i ⟨rfl,X,B⟩;exact⟨rfl,h.step X B,But.chg B⟩
end
end Rc
end
section
namespace Rc
open Go.RowKit Go.Lib Pg
attribute [local go_sem] Oper.semAt_some
section
variable {w:World}{x0 x1:Int}{a0:Option Addr}{n0 c0:Nat}
theorem fl_Chain : yK w fl [.int .u64 x0, .int .u64 x1] (fun o => ([x0, x1] : List Int).getD o 0) := fun o => match o with
    | 0=>⟨fun _=>rfl,fun h=>absurd h (by decide),fun h=>absurd h (by decide)⟩
    | 1=>⟨fun _=>rfl,fun h=>absurd h (by decide),fun h=>absurd h (by decide)⟩
    | k+2=>⟨fun h=>absurd h (by simp[fl]),fun h=>absurd h (by simp[fl]),fun h=>absurd h (by simp[fl])⟩
theorem tY(h0 : aX w a0 n0 c0 x0)(m0 : n0 ≤ 1000000) : yK w bh [.slice a0 n0 c0, .int .u64 x1] (fun o => ([x0, x1] : List Int).getD o 0) := fun o => match o with
    | 0=>⟨fun h=>absurd h (by decide),fun h=>absurd h (by decide),fun _=>⟨a0,n0,c0,rfl,h0,m0⟩⟩
    | 1=>⟨fun _=>rfl,fun h=>absurd h (by decide),fun h=>absurd h (by decide)⟩
    | k+2=>⟨fun h=>absurd h (by simp[bh]),fun h=>absurd h (by simp[bh]),fun h=>absurd h (by simp[bh])⟩
theorem s7(h0:aX w a0 n0 c0 x0)(m0:n0<=1000000) :
  Calls Tryz.prog 134 #[.agg #[.slice a0 n0 c0,.int .u64 x1],.func (.func 135) #[] #[]] w fun e w'=>∃ b n,e=.returned (.slice (some ⟨b,0,none⟩) n n)/\n=(thr (pnx (fun o=>([x0,x1]:List Int).getD o 0)) [(2,0),(0,1)] []).length/\Box w' b ((thr (pnx (fun o=>([x0,x1]:List Int).getD o 0)) [(2,0),(0,1)] []).map (Value.int .u8)) 5/\w.heap.size<=b/\Below w.heap.size w w':=by
 have F:=tY h0 m0 (x1:=x1) (w:=w);have p:=ae w (.cells #[.slice a0 n0 c0,.int .u64 x1] 109);have l:=ae (w.alloc (.cells #[.slice a0 n0 c0,.int .u64 x1] 109)) (.cells Tryz.zeroCells230 230);have s1:=dF w (.cells #[.slice a0 n0 c0,.int .u64 x1] 109);have X:=AX (w.alloc (.cells #[.slice a0 n0 c0,.int .u64 x1] 109));have B:=(aE w [.slice a0 n0 c0,.int .u64 x1] 109).keep l;rw[s1] at X;obtain⟨i,c⟩:∃ i,Hid ((w.alloc (.cells #[.slice a0 n0 c0,.int .u64 x1] 109)).alloc (.cells Tryz.zeroCells230 230)=i):=⟨_,rfl⟩
 have g:=aB p l;rw[c.out] at g X B;obtain⟨M,f⟩:∃ M,Hid (thr (pnx (fun o=>([x0,x1]:List Int).getD o 0)) [(2,0),(0,1)] []=M):=⟨_,rfl⟩
 have hlen:M.length<=3000:=by have h:=mi (fun o=>([x0,x1]:List Int).getD o 0) [(2,0),(0,1)] [];rw[f.out] at h;simp at h;omega
 have U:=jr (um (bw:=w.heap.size+1) (rb:=w.heap.size) (T:=109) F) (s:=[]) (w:=i) ⟨X,g,B,Nat.le_succ _,by omega⟩ (by simp[bh]) (by rw[f.out];show M.length<=1000000000000;omega);rw[f.out] at U ⊢;have x:=aD U;clear U F p l s1 X B g;go_enter Tryz.func134,Tryz.ntmps134;go_wp2_with fail;rw[c.out];refine x.out.mono ?_
 rintro v u ⟨rfl,d,y⟩;go_wp2_with fail;refine(BU d.wr (by omega)).mono ?_
 rintro v t ⟨rfl,m,r⟩;have q:=aD (show w.heap.size<=u.heap.size/\Below w.heap.size w t from⟨d.bel.size,aB d.bel r⟩);have j:=aD m;clear d y m r;go_wp2;go_ret;exact⟨_,_,rfl,rfl,j.out,q.out.1,q.out.2⟩
theorem fl_Cut : yK w cO [.int .u64 x0, .int .u64 x1] (fun o => ([x0, x1] : List Int).getD o 0) := fun o => match o with
    | 0=>⟨fun _=>rfl,fun h=>absurd h (by decide),fun h=>absurd h (by decide)⟩
    | 1=>⟨fun _=>rfl,fun h=>absurd h (by decide),fun h=>absurd h (by decide)⟩
    | k+2=>⟨fun h=>absurd h (by simp[cO]),fun h=>absurd h (by simp[cO]),fun h=>absurd h (by simp[cO])⟩
theorem Ef :
  Calls Tryz.prog 99 #[.agg #[.int .u64 x0,.int .u64 x1],.func (.func 100) #[] #[]] w fun e w'=>∃ b n,e=.returned (.slice (some ⟨b,0,none⟩) n n)/\n=(thr (pnx (fun o=>([x0,x1]:List Int).getD o 0)) [(0,0),(0,1)] []).length/\Box w' b ((thr (pnx (fun o=>([x0,x1]:List Int).getD o 0)) [(0,0),(0,1)] []).map (Value.int .u8)) 5/\w.heap.size<=b/\Below w.heap.size w w':=by
 have F:=fl_Cut (x0:=x0) (x1:=x1) (w:=w);have p:=ae w (.cells #[.int .u64 x0,.int .u64 x1] 97);have l:=ae (w.alloc (.cells #[.int .u64 x0,.int .u64 x1] 97)) (.cells Tryz.zeroCells230 230);have s1:=dF w (.cells #[.int .u64 x0,.int .u64 x1] 97);have X:=AX (w.alloc (.cells #[.int .u64 x0,.int .u64 x1] 97));have B:=(aE w [.int .u64 x0,.int .u64 x1] 97).keep l;rw[s1] at X;obtain⟨i,c⟩:∃ i,Hid ((w.alloc (.cells #[.int .u64 x0,.int .u64 x1] 97)).alloc (.cells Tryz.zeroCells230 230)=i):=⟨_,rfl⟩
 have g:=aB p l;rw[c.out] at g X B;obtain⟨M,f⟩:∃ M,Hid (thr (pnx (fun o=>([x0,x1]:List Int).getD o 0)) [(0,0),(0,1)] []=M):=⟨_,rfl⟩
 have hlen:M.length<=3000:=by have h:=mi (fun o=>([x0,x1]:List Int).getD o 0) [(0,0),(0,1)] [];rw[f.out] at h;simp at h;omega
 have U:=oV (hc_Cut (bw:=w.heap.size+1) (rb:=w.heap.size) (T:=97) F) (s:=[]) (w:=i) ⟨X,g,B,Nat.le_succ _,by omega⟩ (by simp[cO]) (by rw[f.out];show M.length<=1000000000000;omega);rw[f.out] at U ⊢;have x:=aD U;clear U F p l s1 X B g;go_enter Tryz.func99,Tryz.ntmps99;go_wp2_with fail;rw[c.out];refine x.out.mono ?_
 rintro v u ⟨rfl,d,y⟩;go_wp2_with fail;refine(BU d.wr (by omega)).mono ?_
 rintro v t ⟨rfl,m,r⟩;have q:=aD (show w.heap.size<=u.heap.size/\Below w.heap.size w t from⟨d.bel.size,aB d.bel r⟩);have j:=aD m;clear d y m r;go_wp2;go_ret;exact⟨_,_,rfl,rfl,j.out,q.out.1,q.out.2⟩
end
end Rc
end
section
namespace Rc
open Go.RowKit Go.Lib Pg Lim
attribute [local go_sem] Oper.semAt_some
section
variable {w w':World}{B n c g b:Nat}{ao:Option Addr}{x err:Int}{v:Value}{r l:List Int}
structure fP(w:World)(B:Nat)(ao:Option Addr)(n c:Nat)(x:Int):Prop where
 ex:∃ b o l,l.length=n/\n<=c/\IsN l x/\At w ao b o l/\B<=b
theorem oB(w:World)(B:Nat):fP w B none 0 0 0:=⟨B,0,[],rfl,Nat.le_refl _,jR,⟨.inl rfl,fun i hi=>by simp at hi⟩,Nat.le_refl _⟩
theorem fP.low{B':Nat}(h:fP w B ao n c x)(hB:B'<=B):fP w B' ao n c x:=by
 obtain⟨b,o,l,h1,h2,h3,h4,h5⟩:=h.ex;exact⟨b,o,l,h1,h2,h3,h4,Nat.le_trans hB h5⟩
theorem fP.off(h:fP w B ao n c x)(_hs:w.heap.size<=w'.heap.size)(hw:∀ b,B<=b->b < w.heap.size->w'.heap[b]?=w.heap[b]?):fP w' B ao n c x:=by
 obtain⟨b,o,l,g,e,f,a,d⟩:=h.ex;refine⟨b,o,l,g,e,f,⟨a.loc,fun i hi=>?_⟩,d⟩;have hc:=a.cell i hi;rw[World.cell?_of_block (w:=w) (hw b d (aL hc))];exact hc
theorem newV_w(h:dV w w' v r)(d:IsN r x)(k:B<=w.heap.size):∃ a c,v=.slice a r.length c/\fP w' B a r.length c x:=by
 obtain⟨i,b,o,c,e,j,f,g,l⟩:=h.is;exact⟨i,c,e,b,o,r,rfl,j,d,g,Nat.le_trans k f⟩
theorem vC(h:RdA w g b 0 l) :
  Calls Tryz.prog 241 #[.pointer (some ⟨g,0,none⟩)] w fun e w'=>∃ v,e=.returned (.tuple #[v,.int .i64 (rdE (bX l) 0)])/\∃ l1,RdA w' g b 0 l1/\But g w w'/\∀ x k,bX l=.inr (x,k)->l1=l.drop k/\∃ ao n c,v=.slice ao n c/\fP w' w.heap.size ao n c x/\n<=255:=by
 have f:=sj (m:=1) h;by_cases j:1<=l.length
 ·have t:=Fg (m:=1) h j (by decide);have O:=Cp h j;rw[show (256:Int) ^ 1=256 by decide] at O;rw[<- f] at t;have S:=(show Hid _ from h.oct)
  by_cases hs:1+cj 1 l<=l.length
  ·by_cases y:0 < cj 1 l/\nth (l.drop 1) 0=0
   ·have d:bX l=.inl 41:=by unfold bX; rw[if_pos j,if_pos hs,if_pos y]
    have q:Hid (rdE (bX l) 0=41):=by show _=_;rw[d];rfl
    have s:=(show Hid _ from d)
    have C:=(show Hid _ from y)
    clear d h y f;generalize cj 1 l=N at *;go_enter Tryz.func241,Tryz.ntmps241;go_wp2_with fail;refine t.mono ?_
    rintro e H ⟨rfl,A,u⟩;have t2:=Cd (m:=N) A (by rw[List.length_drop];omega);clear t;go_wp2_with fail;refine t2.mono ?_
    rintro e D ⟨ao,rfl,hA,G,F⟩;obtain⟨o,k1,z,E,p,B⟩:=hA.ex;have t3:=Dn ao N N b o _ D k1 C.out.1 B (by rw[dG C.out.1];exact C.out.2);clear t2 k1 z E p B hA;go_wp2_with fail;refine t3.mono ?_
    rintro e M ⟨rfl,rfl⟩;clear t3;go_wp2;go_ret2;exact⟨_,by rw[q.out];rfl,_,G,u.trans F,fun x k e=>by rw[s.out] at e;cases e⟩
   ·have d:bX l=.inr (bW ((l.drop 1).take (cj 1 l)),1 + cj 1 l):=by unfold bX; rw[if_pos j,if_pos hs,if_neg y]
    have q:Hid (rdE (bX l) 0=0):=by show _=_;rw[d];rfl
    have s:=(show Hid _ from d)
    have C:=(show Hid _ from y)
    clear d h y f;generalize cj 1 l=N at *;go_enter Tryz.func241,Tryz.ntmps241;go_wp2_with fail;refine t.mono ?_
    rintro e H ⟨rfl,A,u⟩;have t2:=Cd (m:=N) A (by rw[List.length_drop];omega);clear t;go_wp2_with fail;refine t2.mono ?_
    rintro e D ⟨ao,rfl,hA,G,F⟩;obtain⟨o,k1,z,E,p,B⟩:=hA.ex;have t3:=Cz ao N N b o _ D k1 (by omega) p B (fun i J=>C.out ⟨i,by rw[dG i] at J;exact J⟩);clear t2 k1 z E p B hA;go_wp2_with fail;refine t3.mono ?_
    rintro e M ⟨v,r,rfl,k1,z,E,p⟩;obtain⟨Q,R,rfl,K⟩:=newV_w k1 z (show w.heap.size<=D.heap.size from(u.trans F).size);have I:=(show Hid _ from K)
    have L:=(show Hid _ from p)
    clear t3 k1 z p K;go_wp2;go_ret2
    exact⟨_,by rw[q.out]; rfl,_,G.keep L.out,(u.trans F).trans (But.of L.out),fun x k e=>by
     rw[s.out] at e
     cases e
     exact⟨by rw[List.drop_drop],_,_,_,rfl,I.out,by omega⟩⟩
  ·have d:bX l=.inl 40:=by unfold bX; rw[if_pos j,if_neg hs]
   have q:Hid (rdE (bX l) 0=40):=by show _=_;rw[d];rfl
   have s:=(show Hid _ from d)
   clear d h f;generalize cj 1 l=N at *;go_enter Tryz.func241,Tryz.ntmps241;go_wp2_with fail;refine t.mono ?_
   rintro e H ⟨rfl,A,u⟩;have t2:=E4 (m:=N) A (by rw[List.length_drop];omega);clear t hs;go_wp2_with fail;refine t2.mono ?_
   rintro e D ⟨rfl,rfl⟩;clear t2;go_wp2;go_ret2;exact⟨_,by rw[q.out];rfl,_,A,u,fun x k e=>by rw[s.out] at e;cases e⟩
 ·have t:=Ad (m:=1) h (by omega)
  have d:bX l=.inl 40:=by unfold bX;rw[if_neg j]
  have q:Hid (rdE (bX l) 0=40):=by show _=_;rw[d];rfl
  have s:=(show Hid _ from d)
  have P:=(show Hid _ from h)
  clear d h j f;go_enter Tryz.func241,Tryz.ntmps241;go_wp2_with fail;refine t.mono ?_
  rintro e H ⟨rfl,rfl⟩;clear t;go_wp2;go_ret2;exact⟨_,by rw[q.out];rfl,_,P.out,But.refl _ _,fun x k e=>by rw[s.out] at e;cases e⟩
theorem rdNatW(h:RdA w g b err l) :
  Calls Tryz.prog 216 #[.pointer (some ⟨g,0,none⟩)] w fun e w'=>∃ ao n c,e=.returned (.slice ao n c)/\fP w' w.heap.size ao n c (rdV 0 (bX l) err)/\n<=255/\RdA w' g b (rdE (bX l) err) (rdL (bX l) err l)/\But g w w':=by
 have t:=enNa (z:=(0:Int)) (p:=bX l) (V:=fun x v w'=>∃ ao n c,v=.slice ao n c/\fP w' w.heap.size ao n c x/\n<=255) h (fun _=>EF) (fun w'=>⟨none,0,0,rfl,oB w' w.heap.size,by decide⟩) (fun e=>by subst e;exact vC h);clear h;generalize rdV 0 (bX l) err=V at *;generalize rdE (bX l) err=E at *;generalize rdL (bX l) err l=R at *;go_enter Tryz.func216,Tryz.ntmps216;go_wp2_with fail;refine t.mono ?_
 rintro e j ⟨v,rfl,⟨ao,n,c,rfl,d,i⟩,k1,f⟩;clear t;go_wp2;go_ret;exact⟨ao,n,c,rfl,d,i,k1,f⟩
theorem Cw(h:RdA w g b err l) :
  Calls Tryz.prog 179 #[.pointer (some ⟨g,0,none⟩)] w fun e w'=>∃ ao n c,e=.returned (.agg #[.slice ao n c])/\fP w' w.heap.size ao n c (rdV 0 (bX l) err)/\n<=255/\RdA w' g b (rdE (bX l) err) (rdL (bX l) err l)/\But g w w':=by
 have f:=(show Hid _ from ae w (.cells #[.slice none 0 0] 32))
 have p:=fg w (.slice none 0 0) 32
 have q:w.heap.size≠g:=by have:=h.lt;omega
 have i:=(show Hid _ from q)
 have t:=rdNatW (h.keep f.out);clear h q;generalize rdV 0 (bX l) err=V at *;generalize rdE (bX l) err=E at *;generalize rdL (bX l) err l=R at *;go_enter Tryz.func179,Tryz.ntmps179;go_wp2_with fail;refine t.mono ?_
 rintro e o ⟨ao,n,c,rfl,m,r,k1,j⟩;have d:=p.but j i.out;have c1:=d.cell;have f1:=d.free;have v:=d.put (.slice ao n c);have y:=(show Hid (fP (o.setCell ⟨w.heap.size,0,none⟩ (.slice ao n c)) w.heap.size ao n c V) from(m.off (w':=o.setCell ⟨w.heap.size,0,none⟩ (.slice ao n c)) (by rw[size_set];exact Nat.le_refl _) (fun b hb _=>Below.heap_setCell _ _ _ b (by have:=dF w (.cells #[.slice none 0 0] 32);show b≠w.heap.size;omega))).low f.out.size)
 have s:=(show Hid _ from k1.put (u:=.slice ao n c) d i.out (fun x e=>by cases e))
 have z:=(show Hid _ from((But.of (g:=g) f.out).trans j).put (Nat.le_refl _) (.slice ao n c))
 clear t p d k1 j m f i;go_wp2;refine bodyPost_ret (my rfl rfl v) rfl ?_
 exact⟨ao,n,c,rfl,y.out,r,s.out,z.out⟩
end
end Rc
end
section
namespace Rc
open Go.RowKit Go.Lib Pg
attribute [local go_sem] Oper.semAt_some
section
variable {w w0:World}{B g b vb rb o k:Nat}{kd:Nat->Nat}{cs:List Value}{xs:Nat->Int}{l1 l:List Int}{v old:Value}{err:Int}
abbrev RSt:=Int × List Int × (Nat->Int)
def ed(l:List Int):Int ⊕ Int × Nat:=match bP l with
 | .inl e=>.inl e
 | .inr p=>.inr ((if p.1 then 1 else 0),p.2)
def p1:Nat->List Int->Int ⊕ Int × Nat
 | 0,l=>di 8 l
 | 1,l=>ed l
 | _,l=>bX l
theorem nY(l:List Int)(err:Int):rdE (ed l) err=rdE (bP l) err:=by
 unfold rdE ed
 cases bP l<;>rfl
theorem mY(l m:List Int)(err:Int):rdL (ed l) err m=rdL (bP l) err m:=by
 unfold rdL ed
 cases bP l<;>rfl
theorem mO(l:List Int)(err:Int):rdV 0 (ed l) err=if rdV false (bP l) err then 1 else 0:=by
 unfold rdV ed;by_cases h:err=0
 ·rw[if_pos h,if_pos h]
  cases bP l<;>rfl
 ·rw[if_neg h,if_neg h];rfl
def rnx(k o:Nat)(s:RSt):RSt:=(rdE (p1 k s.2.1) s.1,rdL (p1 k s.2.1) s.1 s.2.1,fun i=>if i=o then rdV 0 (p1 k s.2.1) s.1 else s.2.2 i)
def oN(w:World)(B:Nat)(kd:Nat->Nat)(cs:List Value)(xs:Nat->Int):Prop:=∀ o,(kd o=0->cs[o]?=some (.int .u64 (xs o)))/\(kd o=1->∃ b:Bool,cs[o]?=some (.bool b)/\xs o=if b then 1 else 0)/\(kd o=2->∃ ao n c,cs[o]?=some (.slice ao n c)/\fP w B ao n c (xs o)/\n<=255)
theorem oN.off{w':World}(h:oN w B kd cs xs)(hs:w.heap.size<=w'.heap.size)(hw:∀ b,B<=b->b < w.heap.size->w'.heap[b]? = w.heap[b]?):oN w' B kd cs xs:=fun o=>⟨(h o).1,(h o).2.1,fun e=>by
 obtain⟨f,n,c,g,a,d⟩:=(h o).2.2 e
 exact⟨f,n,c,g,a.off hs hw,d⟩⟩
structure RI(w0:World)(B g b vb rb:Nat)(kd:Nat->Nat)(len:Nat)(T vt:TypeId)(s:RSt)(w:World):Prop where
 rd:RdA w g b s.1 s.2.1
 var:Blk w vb [.pointer (some ⟨g,0,none⟩)] vt
 rc:∃ cs,cs.length=len/\Blk w rb cs T/\oN w B kd cs s.2.2
 bel:Below w0.heap.size w0 w
 s1:rb≠g
 s2:vb≠g
 s3:vb≠rb
 s4:b≠rb
 g1:g < B
 r1:rb < B
 g0:w0.heap.size<=g
 r0:w0.heap.size<=rb
theorem Dm(w:World)(g o:Nat)(v:Value):But g w (w.setCell ⟨g,o,none⟩ v):=by
 have h:=(Chg.refl (fun x=>x=g) w).cell (g:=g) (i:=o) (.inl rfl) v;exact⟨h.os,h.tape,h.output,h.size,fun b hb a=>h.same b hb a⟩
theorem RI.step{w1:World}{len:Nat}{T vt:TypeId}{s:RSt}{e1:Int}{x:Int}(h:RI w0 B g b vb rb kd len T vt s w)(E:kd o=k)(F:o < len)(X:RdA w1 g b e1 l1)(p:But g w w1)(hv:(k=0/\v=.int .u64 x)\/(k=1/\∃ t:Bool,v=.bool t/\x=if t then 1 else 0)\/(k=2/\∃ ao n c,v=.slice ao n c/\fP w1 B ao n c x/\n<=255)) :
  RI w0 B g b vb rb kd len T vt (e1,l1,fun i=>if i=o then x else s.2.2 i) (w1.setCell ⟨rb,o,none⟩ v)/\Chg (fun y=>y=g\/y=rb) w (w1.setCell ⟨rb,o,none⟩ v):=by
 have hS:=Dm w1 rb o v;have A:=h.s1;have G:=h.g1;have D:=h.r1
 have j:Chg (·=g) w w1:=But.chg p
 have m:Chg (·=rb) w1 (w1.setCell ⟨rb,o,none⟩ v):=But.chg hS;obtain⟨cs,u,r,hF⟩:=h.rc
 have C:Below w0.heap.size w0 w1:=p.below h.bel h.g0 (Nat.le_refl _)
 have l:∀ y,B<=y->y < w.heap.size->w1.heap[y]?=w.heap[y]?:=fun y hy f=>p.block y f (by omega)
 have d:∀ y,B<=y->y < w1.heap.size->(w1.setCell ⟨rb,o,none⟩ v).heap[y]?=w1.heap[y]?:=fun y hy f=>hS.block y f (by omega)
 refine⟨⟨X.offW (fun e=>A e.symm) h.s4 hS,(h.var.chg j h.s2).chg m h.s3,⟨cs.set o v,by rw[List.length_set];exact u,(r.chg j A).setCell (i:=o) v,?_⟩,hS.below C h.r0 (Nat.le_refl _),h.s1,h.s2,h.s3,h.s4,h.g1,h.r1,h.g0,h.r0⟩,(j.mono (fun _ _ e=>.inl e)).trans m (fun _ _ e=>.inr e)⟩;have q:=hF.off p.size l;intro i;by_cases hi:i=o
 ·subst hi
  have a:(cs.set i v)[i]?=some v:=by rw[List.getElem?_set_self (by omega)]
  rw[a];simp only[if_true];refine⟨fun z=>?_,fun z=>?_,fun z=>?_⟩
  ·rcases hv with⟨_,e⟩ | ⟨e,_⟩ | ⟨e,_⟩
   ·rw[e]
   ·omega
   ·omega
  ·rcases hv with⟨e,_⟩ | ⟨_,t,e,e2⟩ | ⟨e,_⟩
   ·omega
   ·exact⟨t,by rw[e],e2⟩
   ·omega
  ·rcases hv with⟨e,_⟩ | ⟨e,_⟩ | ⟨_,ao,n,c,e,e2,e3⟩
   ·omega
   ·omega
   ·exact⟨ao,n,c,by rw[e],e2.off hS.size d,e3⟩
 ·have a:(cs.set o v)[i]? = cs[i]? := by rw[List.getElem?_set_ne (fun e=>hi e.symm)]
  simp only[if_neg hi];rw[a];exact(q.off hS.size d) i
theorem kl_Chain(h:fl o=k)(hk:k≠9):o < 2:=by
 by_cases ho:o < 2
 ·exact ho
 ·exfalso;have:fl o=9:=by
   unfold fl;rw[List.getD_eq_getElem?_getD,List.getElem?_eq_none (by simp;omega)];rfl
  omega
theorem uE{T vt:TypeId}(X:RdA w g b err l)(V:Blk w vb [.pointer (some ⟨g,0,none⟩)] vt)(R:Blk w rb cs T)(m:rb≠g)(j:cs[o]?=some old)(hold:∃ y,old=.int .u64 y) :
  Calls Tryz.prog 209 #[.pointer (some ⟨rb,o,none⟩),.pointer (some ⟨vb,0,none⟩)] w fun e w'=>e=.returned (.tuple #[])/\∃ w1,w'=w1.setCell ⟨rb,o,none⟩ (.int .u64 (rdV 0 (p1 0 l) err))/\RdA w1 g b (rdE (p1 0 l) err) (rdL (p1 0 l) err l)/\But g w w1:=by
 obtain⟨y,rfl⟩:=hold;have t:=Ff X
 show Calls Tryz.prog _ _ w fun e w'=>e=.returned (.tuple #[])/\∃ w1,w'=w1.setCell ⟨rb,o,none⟩ (.int .u64 (rdV 0 (di 8 l) err))/\RdA w1 g b (rdE (di 8 l) err) (rdL (di 8 l) err l)/\But g w w1
 generalize rdV 0 (di 8 l) err=Y at *;generalize rdE (di 8 l) err=E at *;generalize rdL (di 8 l) err l=v at *;have cv:=V.cell (i:=0) rfl;have p:=aD R;have c:=aD m;have q:=aD j;clear X V R j m;go_enter Tryz.func209,Tryz.ntmps209;go_wp2_with (go_at_call 175;refine t.mono ?_;rintro r w1 ⟨rfl,f,n⟩;clear t;have d:=p.out.chg (But.chg n) c.out;have s:=d.cell q.out;have u:=d.free o;clear d;replace f:=aD f);go_end0;exact⟨rfl,w1,rfl,f.out,n⟩
theorem uG{T vt:TypeId}(X:RdA w g b err l)(V:Blk w vb [.pointer (some ⟨g,0,none⟩)] vt)(R:Blk w rb cs T)(n:rb≠g)(j:cs[o]?=some old)(hold:∃ y,old=.bool y) :
  Calls Tryz.prog 210 #[.pointer (some ⟨rb,o,none⟩),.pointer (some ⟨vb,0,none⟩)] w fun e w'=>e=.returned (.tuple #[])/\∃ w1,w'=w1.setCell ⟨rb,o,none⟩ (.bool (rdV false (bP l) err))/\RdA w1 g b (rdE (p1 1 l) err) (rdL (p1 1 l) err l)/\But g w w1:=by
 obtain⟨y,rfl⟩:=hold;have t:=rdBool X
 show Calls Tryz.prog _ _ w fun e w'=>e=.returned (.tuple #[])/\∃ w1,w'=w1.setCell ⟨rb,o,none⟩ (.bool (rdV false (bP l) err))/\RdA w1 g b (rdE (ed l) err) (rdL (ed l) err l)/\But g w w1
 rw[nY,mY];generalize rdV false (bP l) err=Y at *;generalize rdE (bP l) err=E at *;generalize rdL (bP l) err l=r at *;have cv:=V.cell (i:=0) rfl;have p:=aD R;have c:=aD n;have q:=aD j;clear X V R j n;go_enter Tryz.func210,Tryz.ntmps210;go_wp2_with (go_at_call 177;refine t.mono ?_;rintro s w1 ⟨rfl,f,m⟩;clear t;have d:=p.out.chg (But.chg m) c.out;have u:=d.cell q.out;have v:=d.free o;clear d;replace f:=aD f);go_end0;exact⟨rfl,w1,rfl,f.out,m⟩
theorem uU{T vt:TypeId}(X:RdA w g b err l)(V:Blk w vb [.pointer (some ⟨g,0,none⟩)] vt)(R:Blk w rb cs T)(r:rb≠g)(p:cs[o]?=some old)(hold:∃ a n c,old=.slice a n c) :
  Calls Tryz.prog 211 #[.pointer (some ⟨rb,o,none⟩),.pointer (some ⟨vb,0,none⟩)] w fun e w'=>e=.returned (.tuple #[])/\∃ w1 ao n c,w'=w1.setCell ⟨rb,o,none⟩ (.slice ao n c)/\fP w1 w.heap.size ao n c (rdV 0 (p1 2 l) err)/\n<=255/\RdA w1 g b (rdE (p1 2 l) err) (rdL (p1 2 l) err l)/\But g w w1:=by
 obtain⟨D,on,y,rfl⟩:=hold;have t:=Cw X
 show Calls Tryz.prog _ _ w fun e w'=>e=.returned (.tuple #[])/\∃ w1 ao n c,w'=w1.setCell ⟨rb,o,none⟩ (.slice ao n c)/\fP w1 w.heap.size ao n c (rdV 0 (bX l) err)/\n<=255/\RdA w1 g b (rdE (bX l) err) (rdL (bX l) err l)/\But g w w1
 generalize rdV 0 (bX l) err=Y at *;generalize rdE (bX l) err=E at *;generalize rdL (bX l) err l=z at *;have cv:=V.cell (i:=0) rfl;have u:=aD R;have f:=aD r;have v:=aD p;clear X V R p r;go_enter Tryz.func211,Tryz.ntmps211;go_wp2_with (go_at_call 179;refine t.mono ?_;rintro A w1 ⟨a1,x,d1,rfl,s,d,m,q⟩;clear t;have j:=u.out.chg (But.chg q) f.out;have B:=j.cell v.out;have C:=j.free o;clear j;replace m:=aD m);go_end0;exact⟨rfl,w1,a1,x,d1,rfl,s,d,m.out,q⟩
theorem jy(h:bh o=k)(hk:k≠9):o < 2:=by
 by_cases ho:o < 2
 ·exact ho
 ·exfalso;have:bh o=9:=by
   unfold bh;rw[List.getD_eq_getElem?_getD,List.getElem?_eq_none (by simp;omega)];rfl
  omega
theorem rN{T vt:TypeId}:HC RSt (fun s w=>RI w0 B g b vb rb bh 2 T vt s w/\B<=w.heap.size) (fun y=>y=g\/y=rb) rb 209 210 211 (.pointer (some ⟨vb,0,none⟩)) rnx bh (fun _=>True) where
 oks:=fun _ _ _ _=>trivial
 keep:=fun s w q h k=>by
  obtain⟨h,i⟩:=h;obtain⟨cs,p,j,l⟩:=h.rc;exact⟨⟨h.rd.keep k,h.var.keep k,⟨cs,p,j.keep k,l.off k.size (fun y _ hy=>k.block y hy)⟩,h.bel.trans (k.mono h.bel.size),h.s1,h.s2,h.s3,h.s4,h.g1,h.r1,h.g0,h.r0⟩,Nat.le_trans i k.size⟩
 old:=fun s w y h e=>by
  have:=h.1.g1;have:=h.1.r1;have:=h.2;rcases e with e | e<;>omega
 e1:=fun _ _=>by kernel_rfl
 e2:=fun _ _=>by kernel_rfl
 e3:=fun _ _=>by kernel_rfl
 u:=fun s w o h _ a=>by
  obtain⟨h,i⟩:=h;obtain⟨cs,p,j,l⟩:=h.rc;refine(uE h.rd h.var j h.s1 ((l o).1 a) ⟨_,rfl⟩).mono ?_
  rintro e q ⟨rfl,v,rfl,X,m⟩;obtain⟨r1,f⟩:=h.step a (jy a (by decide)) X m (.inl ⟨rfl,rfl⟩);exact⟨rfl,⟨r1,Nat.le_trans i f.size⟩,f⟩
 t:=fun s w o h _ a=>by
  obtain⟨h,i⟩:=h;obtain⟨cs,p,j,l⟩:=h.rc;obtain⟨t,r,_⟩:=(l o).2.1 a;refine(uG h.rd h.var j h.s1 r ⟨_,rfl⟩).mono ?_
  rintro e q ⟨rfl,v,rfl,X,m⟩;obtain⟨r1,f⟩:=h.step a (jy a (by decide)) X m (x:=rdV 0 (p1 1 s.2.1) s.1) (.inr (.inl ⟨rfl,_,rfl,mO _ _⟩));exact⟨rfl,⟨r1,Nat.le_trans i f.size⟩,f⟩
 d:=fun s w o h _ a=>by
  obtain⟨h,i⟩:=h;obtain⟨cs,p,j,l⟩:=h.rc;obtain⟨A,n,c,r,_⟩:=(l o).2.2 a;refine(uU h.rd h.var j h.s1 r ⟨_,_,_,rfl⟩).mono ?_
  rintro e q ⟨rfl,v,a1,C,c1,rfl,z,hn,X,m⟩;obtain⟨r1,f⟩:=h.step a (jy a (by decide)) X m (x:=rdV 0 (p1 2 s.2.1) s.1) (.inr (.inr ⟨rfl,_,_,_,rfl,z.low i,hn⟩));exact⟨rfl,⟨r1,Nat.le_trans i f.size⟩,f⟩
theorem rn_Cut{T vt:TypeId}(X:RdA w g b err l)(V:Blk w vb [.pointer (some ⟨g,0,none⟩)] vt)(R:Blk w rb cs T)(m:rb≠g)(j:cs[o]?=some old)(hold:∃ y,old=.int .u64 y) :
  Calls Tryz.prog 174 #[.pointer (some ⟨rb,o,none⟩),.pointer (some ⟨vb,0,none⟩)] w fun e w'=>e=.returned (.tuple #[])/\∃ w1,w'=w1.setCell ⟨rb,o,none⟩ (.int .u64 (rdV 0 (p1 0 l) err))/\RdA w1 g b (rdE (p1 0 l) err) (rdL (p1 0 l) err l)/\But g w w1:=by
 obtain⟨y,rfl⟩:=hold;have t:=Ff X
 show Calls Tryz.prog _ _ w fun e w'=>e=.returned (.tuple #[])/\∃ w1,w'=w1.setCell ⟨rb,o,none⟩ (.int .u64 (rdV 0 (di 8 l) err))/\RdA w1 g b (rdE (di 8 l) err) (rdL (di 8 l) err l)/\But g w w1
 generalize rdV 0 (di 8 l) err=Y at *;generalize rdE (di 8 l) err=E at *;generalize rdL (di 8 l) err l=v at *;have cv:=V.cell (i:=0) rfl;have p:=aD R;have c:=aD m;have q:=aD j;clear X V R j m;go_enter Tryz.func174,Tryz.ntmps174;go_wp2_with (go_at_call 175;refine t.mono ?_;rintro r w1 ⟨rfl,f,n⟩;clear t;have d:=p.out.chg (But.chg n) c.out;have s:=d.cell q.out;have u:=d.free o;clear d;replace f:=aD f);go_end0;exact⟨rfl,w1,rfl,f.out,n⟩
theorem rt_Cut{T vt:TypeId}(X:RdA w g b err l)(V:Blk w vb [.pointer (some ⟨g,0,none⟩)] vt)(R:Blk w rb cs T)(n:rb≠g)(j:cs[o]?=some old)(hold:∃ y,old=.bool y) :
  Calls Tryz.prog 176 #[.pointer (some ⟨rb,o,none⟩),.pointer (some ⟨vb,0,none⟩)] w fun e w'=>e=.returned (.tuple #[])/\∃ w1,w'=w1.setCell ⟨rb,o,none⟩ (.bool (rdV false (bP l) err))/\RdA w1 g b (rdE (p1 1 l) err) (rdL (p1 1 l) err l)/\But g w w1:=by
 obtain⟨y,rfl⟩:=hold;have t:=rdBool X
 show Calls Tryz.prog _ _ w fun e w'=>e=.returned (.tuple #[])/\∃ w1,w'=w1.setCell ⟨rb,o,none⟩ (.bool (rdV false (bP l) err))/\RdA w1 g b (rdE (ed l) err) (rdL (ed l) err l)/\But g w w1
 rw[nY,mY];generalize rdV false (bP l) err=Y at *;generalize rdE (bP l) err=E at *;generalize rdL (bP l) err l=r at *;have cv:=V.cell (i:=0) rfl;have p:=aD R;have c:=aD n;have q:=aD j;clear X V R j n;go_enter Tryz.func176,Tryz.ntmps176;go_wp2_with (go_at_call 177;refine t.mono ?_;rintro s w1 ⟨rfl,f,m⟩;clear t;have d:=p.out.chg (But.chg m) c.out;have u:=d.cell q.out;have v:=d.free o;clear d;replace f:=aD f);go_end0;exact⟨rfl,w1,rfl,f.out,m⟩
theorem rd_Cut{T vt:TypeId}(X:RdA w g b err l)(V:Blk w vb [.pointer (some ⟨g,0,none⟩)] vt)(R:Blk w rb cs T)(r:rb≠g)(p:cs[o]?=some old)(hold:∃ a n c,old=.slice a n c) :
  Calls Tryz.prog 178 #[.pointer (some ⟨rb,o,none⟩),.pointer (some ⟨vb,0,none⟩)] w fun e w'=>e=.returned (.tuple #[])/\∃ w1 ao n c,w'=w1.setCell ⟨rb,o,none⟩ (.slice ao n c)/\fP w1 w.heap.size ao n c (rdV 0 (p1 2 l) err)/\n<=255/\RdA w1 g b (rdE (p1 2 l) err) (rdL (p1 2 l) err l)/\But g w w1:=by
 obtain⟨D,on,y,rfl⟩:=hold;have t:=Cw X
 show Calls Tryz.prog _ _ w fun e w'=>e=.returned (.tuple #[])/\∃ w1 ao n c,w'=w1.setCell ⟨rb,o,none⟩ (.slice ao n c)/\fP w1 w.heap.size ao n c (rdV 0 (bX l) err)/\n<=255/\RdA w1 g b (rdE (bX l) err) (rdL (bX l) err l)/\But g w w1
 generalize rdV 0 (bX l) err=Y at *;generalize rdE (bX l) err=E at *;generalize rdL (bX l) err l=z at *;have cv:=V.cell (i:=0) rfl;have u:=aD R;have f:=aD r;have v:=aD p;clear X V R p r;go_enter Tryz.func178,Tryz.ntmps178;go_wp2_with (go_at_call 179;refine t.mono ?_;rintro A w1 ⟨a1,x,d1,rfl,s,d,m,q⟩;clear t;have j:=u.out.chg (But.chg q) f.out;have B:=j.cell v.out;have C:=j.free o;clear j;replace m:=aD m);go_end0;exact⟨rfl,w1,a1,x,d1,rfl,s,d,m.out,q⟩
theorem vF(h:cO o=k)(hk:k≠9):o < 2:=by
 by_cases ho:o < 2
 ·exact ho
 ·exfalso;have:cO o=9:=by
   unfold cO;rw[List.getD_eq_getElem?_getD,List.getElem?_eq_none (by simp;omega)];rfl
  omega
theorem DV{T vt:TypeId}:HC RSt (fun s w=>RI w0 B g b vb rb cO 2 T vt s w/\B<=w.heap.size) (fun y=>y=g\/y=rb) rb 174 176 178 (.pointer (some ⟨vb,0,none⟩)) rnx cO (fun _=>True) where
 oks:=fun _ _ _ _=>trivial
 keep:=fun s w q h k=>by
  obtain⟨h,i⟩:=h;obtain⟨cs,p,j,l⟩:=h.rc;exact⟨⟨h.rd.keep k,h.var.keep k,⟨cs,p,j.keep k,l.off k.size (fun y _ hy=>k.block y hy)⟩,h.bel.trans (k.mono h.bel.size),h.s1,h.s2,h.s3,h.s4,h.g1,h.r1,h.g0,h.r0⟩,Nat.le_trans i k.size⟩
 old:=fun s w y h e=>by
  have:=h.1.g1;have:=h.1.r1;have:=h.2;rcases e with e | e<;>omega
 e1:=fun _ _=>by kernel_rfl
 e2:=fun _ _=>by kernel_rfl
 e3:=fun _ _=>by kernel_rfl
 u:=fun s w o h _ a=>by
  obtain⟨h,i⟩:=h;obtain⟨cs,p,j,l⟩:=h.rc;refine(rn_Cut h.rd h.var j h.s1 ((l o).1 a) ⟨_,rfl⟩).mono ?_
  rintro e q ⟨rfl,v,rfl,X,m⟩;obtain⟨r1,f⟩:=h.step a (vF a (by decide)) X m (.inl ⟨rfl,rfl⟩);exact⟨rfl,⟨r1,Nat.le_trans i f.size⟩,f⟩
 t:=fun s w o h _ a=>by
  obtain⟨h,i⟩:=h;obtain⟨cs,p,j,l⟩:=h.rc;obtain⟨t,r,_⟩:=(l o).2.1 a;refine(rt_Cut h.rd h.var j h.s1 r ⟨_,rfl⟩).mono ?_
  rintro e q ⟨rfl,v,rfl,X,m⟩;obtain⟨r1,f⟩:=h.step a (vF a (by decide)) X m (x:=rdV 0 (p1 1 s.2.1) s.1) (.inr (.inl ⟨rfl,_,rfl,mO _ _⟩));exact⟨rfl,⟨r1,Nat.le_trans i f.size⟩,f⟩
 d:=fun s w o h _ a=>by
  obtain⟨h,i⟩:=h;obtain⟨cs,p,j,l⟩:=h.rc;obtain⟨A,n,c,r,_⟩:=(l o).2.2 a;refine(rd_Cut h.rd h.var j h.s1 r ⟨_,_,_,rfl⟩).mono ?_
  rintro e q ⟨rfl,v,a1,C,c1,rfl,z,hn,X,m⟩;obtain⟨r1,f⟩:=h.step a (vF a (by decide)) X m (x:=rdV 0 (p1 2 s.2.1) s.1) (.inr (.inr ⟨rfl,_,_,_,rfl,z.low i,hn⟩));exact⟨rfl,⟨r1,Nat.le_trans i f.size⟩,f⟩
end
end Rc
end
section
namespace Rc
open Go.RowKit Go.Lib Pg
attribute [local go_sem] Oper.semAt_some
section
variable {w:World}{kd:Nat->Nat}{cs:List Value}{xs:Nat->Int}{tmps:Array Value}{g bb n c:Nat}{y0 y1:Value}{ao:Option Addr}{l:List Int}
theorem EB{α:Type}(p:Int ⊕ α × Nat)(err:Int)(l:List Int):(rdL p err l).length<=l.length:=by
 unfold rdL;split
 ·cases p
  ·exact Nat.le_refl _
  ·simp
 ·exact Nat.le_refl _
theorem wF(a:List (Nat × Nat)):∀ s:RSt,(thr rnx a s).2.1.length<=s.2.1.length:=by
 induction a with
 | nil=>intro s;exact Nat.le_refl _
 | cons p a ih =>
  intro s
  have e:thr rnx (p :: a) s=thr rnx a (rnx p.1 p.2 s):=rfl;rw[e];exact Nat.le_trans (ih _) (EB _ _ _)
structure p5(w:World)(kd:Nat->Nat)(len:Nat)(mk:List Value->Value)(s:RSt)(e:Ending)(w':World):Prop where
 ex:∃ cs xs r,e=.returned (.tuple #[mk cs,.int .i64 r])/\cs.length=len/\oN w' w.heap.size kd cs xs/\(gI s.1 s.2.1=0->r=0/\xs=s.2.2)/\(gI s.1 s.2.1≠0->r=80/\xs=fun _=>0)
 bel:Below w.heap.size w w'
theorem oN.low{B B':Nat}(h:oN w B kd cs xs)(hB:B'<=B):oN w B' kd cs xs:=fun o=>⟨(h o).1,(h o).2.1,fun hk=>by
 obtain⟨ao,n,c,h1,h2,h3⟩:=(h o).2.2 hk
 exact⟨ao,n,c,h1,h2.low hB,h3⟩⟩
theorem kJ{fn:Func}{p u:Tmp}{T:TypeId}(h:fn.results=#[.cell p T,.tmp u]){v x:Value}(c:tmps.getD p undef=.pointer (some ⟨g,0,none⟩))(hu:tmps.getD u undef=x)(d:(loadVar T ⟨g,0,none⟩).run Tryz.prog w=.ok v w):(results fn tmps).run Tryz.prog w=.ok (.tuple #[v,x]) w:=by
 have a:tmps[p]?.getD undef=.pointer (some ⟨g,0,none⟩):=by simpa using c
 have b:tmps[u]?.getD undef=x:=by simpa using hu
 simp[results,h,a,b,asAddr,d]
def mkA(cs:List Value):Value:=.agg cs.toArray
theorem jH(c0:w.cell? ⟨g,0,none⟩=some y0)(c1:w.cell? ⟨g,1,none⟩=some y1):(loadVar 109 ⟨g,0,none⟩).run Tryz.prog w=.ok (.agg #[y0,y1]) w:=by go_simp
theorem qA(A:ByA w bb ao n c l)(hn:n≤1000000000)(hl:l.length=n) :
    Calls Tryz.prog 170 #[.slice ao n c,.func (.func 135) #[] #[]] w (p5 w bh 2 mkA (thr rnx [(2,0),(0,1)] (0,l,fun _=>(0:Int)))):=by
  have b1:=ae w (.cells #[.slice none 0 0,.int .u64 0] 109);have b2:=ae (w.alloc (.cells #[.slice none 0 0,.int .u64 0] 109)) (.cells #[.slice none 0 0,.int .u64 0] 109);have O:=ae ((w.alloc (.cells #[.slice none 0 0,.int .u64 0] 109)).alloc (.cells #[.slice none 0 0,.int .u64 0] 109)) (.cells #[.slice none 0 0,.int .u64 0] 109);have z1:=dF w (.cells #[.slice none 0 0,.int .u64 0] 109);have z2:=dF (w.alloc (.cells #[.slice none 0 0,.int .u64 0] 109)) (.cells #[.slice none 0 0,.int .u64 0] 109);have z3:=dF ((w.alloc (.cells #[.slice none 0 0,.int .u64 0] 109)).alloc (.cells #[.slice none 0 0,.int .u64 0] 109)) (.cells #[.slice none 0 0,.int .u64 0] 109);have y1:=((aE w [.slice none 0 0,.int .u64 0] 109).keep b2).keep O;have V:=(aE (w.alloc (.cells #[.slice none 0 0,.int .u64 0] 109)) [.slice none 0 0,.int .u64 0] 109).keep O;have P:=aE ((w.alloc (.cells #[.slice none 0 0,.int .u64 0] 109)).alloc (.cells #[.slice none 0 0,.int .u64 0] 109)) [.slice none 0 0,.int .u64 0] 109;rw[z2,z1] at P;rw[z1] at V;rw[z2,z1] at z3;obtain⟨W3,N⟩:∃ W3,Hid ((((w.alloc (.cells #[.slice none 0 0,.int .u64 0] 109)).alloc (.cells #[.slice none 0 0,.int .u64 0] 109)).alloc (.cells #[.slice none 0 0,.int .u64 0] 109))=W3):=⟨_,rfl⟩;have R:=aB (aB b1 b2) O;rw[N.out] at R y1 V P z3;have HN:=aD (Fv (A.keep R) (by omega));have Y1:=aD y1;have Y2:=aD V;have Y3:=aD P;have Z3:=aD z3;have HBB:=aD R;have HL:=aD hl;clear b1 b2 O z1 z2 z3 y1 V P R A hl;obtain⟨st,C⟩:∃ st,Hid (thr rnx [(2,0),(0,1)] (0,l,fun _=>(0:Int))=st):=⟨_,rfl⟩
  have hsl:st.2.1.length≤n:=by have h:=wF [(2,0),(0,1)] (0,l,fun _=>(0:Int));rw[C.out] at h;rw[HL.out] at h;exact h
  rw[C.out];go_enter Tryz.func170,Tryz.ntmps170;go_wp2_with fail;rw[N.out];refine HN.out.mono ?_
  rintro e' L ⟨g,b',rfl,hg,hb',Z,G⟩;have v:=ae L (.cells #[.pointer (some ⟨g,0,none⟩)] 254);have v5:=aE L [.pointer (some ⟨g,0,none⟩)] 254;have z5:=dF L (.cells #[.pointer (some ⟨g,0,none⟩)] 254);obtain⟨t,M⟩:∃ t,Hid (L.alloc (.cells #[.pointer (some ⟨g,0,none⟩)] 254)=t):=⟨_,rfl⟩;rw[M.out] at v v5 z5;have ab:=Z.lt;have aa:=Z3.out;have hz4:=G.size
  have F0 : oN t t.heap.size bh [.slice none 0 0, .int .u64 0] (fun _ => 0) := fun o => match o with
    | 0=>⟨fun h=>absurd h (by decide),fun h=>absurd h (by decide),fun _=>⟨none,0,0,rfl,oB _ _,by decide⟩⟩
    | 1=>⟨fun _=>rfl,fun h=>absurd h (by decide),fun h=>absurd h (by decide)⟩
    | k+2=>⟨fun h=>absurd h (by simp[bh]),fun h=>absurd h (by simp[bh]),fun h=>absurd h (by simp[bh])⟩
  have U:=jr (rN (w0:=w) (B:=t.heap.size) (g:=g) (b:=b') (vb:=L.heap.size) (rb:=w.heap.size+1) (T:=109) (vt:=254)) (s:=(0,l,fun _=>(0:Int))) (w:=t) ⟨⟨Z.keep v,v5,⟨_,rfl,(Y2.out.keep G).keep v,F0⟩,aB (aB HBB.out G) v,by omega,by omega,by omega,by omega,by omega,by omega,by omega,by omega⟩,Nat.le_refl _⟩ (by simp[bh]) trivial;rw[C.out] at U;have HU:=aD U;have P1:=aD ((Y1.out.keep G).keep v);have P3:=aD ((Y3.out.keep G).keep v);have D:=aD (show w.heap.size≠g∧w.heap.size+1+1≠g∧w.heap.size+1+1≠w.heap.size+1∧w.heap.size≠w.heap.size+1∧w.heap.size≤t.heap.size∧w.heap.size≤g from⟨by omega,by omega,by omega,by omega,by omega,by omega⟩);clear U v v5 z5 ab aa hz4 F0 Z G hg hb' HN Y1 Y2 Y3;go_wp2_with fail;rw[M.out];refine HU.out.mono ?_
  rintro e' w6 ⟨rfl,⟨r,hB6⟩,C6⟩;have c6:=r.var.cell (i:=0) rfl;go_wp2_with fail;refine(Fk r.rd (by omega)).mono ?_
  rintro e' d ⟨rfl,X7,H⟩;obtain⟨W,hl6,R6,K⟩:= r.rc;obtain⟨f,J⟩:∃ f,Hid (st.2.2=f):=⟨_,rfl⟩;rw[J.out] at K;have hF6:=aD K;obtain⟨a0,n0,d0,q0,-,-⟩:= (K 0).2.2 rfl;have q1:=(K 1).1 rfl
  have ecs:W=[.slice a0 n0 d0,.int .u64 (f 1)]:=by
    apply List.ext_getElem?;intro i
    match i with
    | 0=>rw[q0];rfl
    | 1=>rw[q1];rfl
    | k+2=>rw[List.getElem?_eq_none (by omega),List.getElem?_eq_none (by simp)]
  subst ecs;have S:=But.chg H;have u:=(P1.out.chg C6 (fun h=>h.elim D.out.1 D.out.2.2.2.1)).chg S D.out.1;have X:=(P3.out.chg C6 (fun h=>h.elim D.out.2.1 D.out.2.2.1)).chg S D.out.2.1;have K2:=R6.chg S r.s1;have BF:=aD (H.below r.bel D.out.2.2.2.2.2 (Nat.le_refl _));have Y:=aD ((hF6.out.off (w':=d) H.size (fun y hy hy2=>H.block y hy2 (by have:=r.g1;omega))));have I:=aD (show w.heap.size < t.heap.size∧w.heap.size < d.heap.size from⟨by have:=r.r1;omega,u.lt⟩);have u0:=u.cell (i:=0) rfl;have f0:=u.free 0;have v0:=K2.cell (i:=0) rfl;have o0:=X.cell (i:=0) rfl;have u1:=u.cell (i:=1) rfl;have f1:=u.free 1;have v1:=K2.cell (i:=1) rfl;have o1:=X.cell (i:=1) rfl;have q:=aD (show Blk ((d.setCell ⟨w.heap.size,0,none⟩ (.slice a0 n0 d0)).setCell ⟨w.heap.size,1,none⟩ (.int .u64 (f 1))) w.heap.size [.slice a0 n0 d0,.int .u64 (f 1)] 109 from((u.setCell (i:=0) (.slice a0 n0 d0)).setCell (i:=1) (.int .u64 (f 1))));have j:=aD (show Chg (fun x=>x=w.heap.size) d ((d.setCell ⟨w.heap.size,0,none⟩ (.slice a0 n0 d0)).setCell ⟨w.heap.size,1,none⟩ (.int .u64 (f 1))) from(((Chg.refl (fun x=>x=w.heap.size) d).cell (g:=w.heap.size) (i:=0) (.inl rfl) (.slice a0 n0 d0)).cell (g:=w.heap.size) (i:=1) (.inl rfl) (.int .u64 (f 1))));have E:=aD (show Below w.heap.size w ((d.setCell ⟨w.heap.size,0,none⟩ (.slice a0 n0 d0)).setCell ⟨w.heap.size,1,none⟩ (.int .u64 (f 1))) from((BF.out.setCell (p:=⟨w.heap.size,0,none⟩) (Nat.le_refl _) (.slice a0 n0 d0)).setCell (p:=⟨w.heap.size,1,none⟩) (Nat.le_refl _) (.int .u64 (f 1))));have m:=aD (show Blk ((d.setCell ⟨w.heap.size,0,none⟩ (.slice none 0 0)).setCell ⟨w.heap.size,1,none⟩ (.int .u64 0)) w.heap.size [.slice none 0 0,.int .u64 0] 109 from((u.setCell (i:=0) (.slice none 0 0)).setCell (i:=1) (.int .u64 0)));have KZchg:=aD (show Chg (fun x=>x=w.heap.size) d ((d.setCell ⟨w.heap.size,0,none⟩ (.slice none 0 0)).setCell ⟨w.heap.size,1,none⟩ (.int .u64 0)) from(((Chg.refl (fun x=>x=w.heap.size) d).cell (g:=w.heap.size) (i:=0) (.inl rfl) (.slice none 0 0)).cell (g:=w.heap.size) (i:=1) (.inl rfl) (.int .u64 0)));have F:=aD (show Below w.heap.size w ((d.setCell ⟨w.heap.size,0,none⟩ (.slice none 0 0)).setCell ⟨w.heap.size,1,none⟩ (.int .u64 0)) from((BF.out.setCell (p:=⟨w.heap.size,0,none⟩) (Nat.le_refl _) (.slice none 0 0)).setCell (p:=⟨w.heap.size,1,none⟩) (Nat.le_refl _) (.int .u64 0)));clear u K2 X r C6 S H X7 R6 hl6 K c6 HU P1 P3 q0 q1;obtain⟨Q,z⟩:∃ Q,Hid (gI st.1 st.2.1=Q):=⟨_,rfl⟩;rw[z.out];by_cases hE:Q=0
  · subst hE
    go_wp2;refine bodyPost_ret (kJ rfl rfl rfl (jH (q.out.cell (i:=0) rfl) (q.out.cell (i:=1) rfl))) rfl ?_
    exact⟨⟨[.slice a0 n0 d0,.int .u64 (f 1)],f,0,rfl,rfl,(Y.out.off j.out.size (fun y hy _=>j.out.same y (by assumption) (fun e=>by have e':y=w.heap.size:=e;have:=I.out;omega))).low (by have:=I.out;omega),fun _=>⟨rfl,J.out.symm⟩,fun h=>absurd z.out h⟩,E.out⟩
  · have hE1:¬ (Q=0):=hE
    go_wp2;refine bodyPost_ret (kJ rfl rfl rfl (jH (m.out.cell (i:=0) rfl) (m.out.cell (i:=1) rfl))) rfl ?_
    exact⟨⟨[.slice none 0 0,.int .u64 0],fun _=>0,80,rfl,rfl,(fun o=>match o with | 0=>⟨fun h=>absurd h (by decide),fun h=>absurd h (by decide),fun _=>⟨none,0,0,rfl,oB _ _,by decide⟩⟩ | 1=>⟨fun _=>rfl,fun h=>absurd h (by decide),fun h=>absurd h (by decide)⟩ | k+2=>⟨fun h=>absurd h (by simp[bh]),fun h=>absurd h (by simp[bh]),fun h=>absurd h (by simp[bh])⟩),fun h=>absurd (z.out.symm.trans h) hE1,fun _=>⟨rfl,rfl⟩⟩,F.out⟩
theorem uz(c0:w.cell? ⟨g,0,none⟩=some y0)(c1:w.cell? ⟨g,1,none⟩=some y1):(loadVar 97 ⟨g,0,none⟩).run Tryz.prog w=.ok (.agg #[y0,y1]) w:=by go_simp
theorem Cl(A:ByA w bb ao n c l)(hn:n≤1000000000)(hl:l.length=n) :
    Calls Tryz.prog 129 #[.slice ao n c,.func (.func 100) #[] #[]] w (p5 w cO 2 mkA (thr rnx [(0,0),(0,1)] (0,l,fun _=>(0:Int)))):=by
  have b1:=ae w (.cells #[.int .u64 0,.int .u64 0] 97);have b2:=ae (w.alloc (.cells #[.int .u64 0,.int .u64 0] 97)) (.cells #[.int .u64 0,.int .u64 0] 97);have O:=ae ((w.alloc (.cells #[.int .u64 0,.int .u64 0] 97)).alloc (.cells #[.int .u64 0,.int .u64 0] 97)) (.cells #[.int .u64 0,.int .u64 0] 97);have z1:=dF w (.cells #[.int .u64 0,.int .u64 0] 97);have z2:=dF (w.alloc (.cells #[.int .u64 0,.int .u64 0] 97)) (.cells #[.int .u64 0,.int .u64 0] 97);have z3:=dF ((w.alloc (.cells #[.int .u64 0,.int .u64 0] 97)).alloc (.cells #[.int .u64 0,.int .u64 0] 97)) (.cells #[.int .u64 0,.int .u64 0] 97);have y1:=((aE w [.int .u64 0,.int .u64 0] 97).keep b2).keep O;have V:=(aE (w.alloc (.cells #[.int .u64 0,.int .u64 0] 97)) [.int .u64 0,.int .u64 0] 97).keep O;have P:=aE ((w.alloc (.cells #[.int .u64 0,.int .u64 0] 97)).alloc (.cells #[.int .u64 0,.int .u64 0] 97)) [.int .u64 0,.int .u64 0] 97;rw[z2,z1] at P;rw[z1] at V;rw[z2,z1] at z3;obtain⟨W3,N⟩:∃ W3,Hid ((((w.alloc (.cells #[.int .u64 0,.int .u64 0] 97)).alloc (.cells #[.int .u64 0,.int .u64 0] 97)).alloc (.cells #[.int .u64 0,.int .u64 0] 97))=W3):=⟨_,rfl⟩;have R:=aB (aB b1 b2) O;rw[N.out] at R y1 V P z3;have HN:=aD (Fv (A.keep R) (by omega));have Y1:=aD y1;have Y2:=aD V;have Y3:=aD P;have Z3:=aD z3;have HBB:=aD R;have HL:=aD hl;clear b1 b2 O z1 z2 z3 y1 V P R A hl;obtain⟨st,C⟩:∃ st,Hid (thr rnx [(0,0),(0,1)] (0,l,fun _=>(0:Int))=st):=⟨_,rfl⟩
  have hsl:st.2.1.length≤n:=by have h:=wF [(0,0),(0,1)] (0,l,fun _=>(0:Int));rw[C.out] at h;rw[HL.out] at h;exact h
  rw[C.out];go_enter Tryz.func129,Tryz.ntmps129;go_wp2_with fail;rw[N.out];refine HN.out.mono ?_
  rintro e' L ⟨g,b',rfl,hg,hb',Z,G⟩;have v:=ae L (.cells #[.pointer (some ⟨g,0,none⟩)] 254);have v5:=aE L [.pointer (some ⟨g,0,none⟩)] 254;have z5:=dF L (.cells #[.pointer (some ⟨g,0,none⟩)] 254);obtain⟨t,M⟩:∃ t,Hid (L.alloc (.cells #[.pointer (some ⟨g,0,none⟩)] 254)=t):=⟨_,rfl⟩;rw[M.out] at v v5 z5;have ab:=Z.lt;have aa:=Z3.out;have hz4:=G.size
  have F0 : oN t t.heap.size cO [.int .u64 0, .int .u64 0] (fun _ => 0) := fun o => match o with
    | 0=>⟨fun _=>rfl,fun h=>absurd h (by decide),fun h=>absurd h (by decide)⟩
    | 1=>⟨fun _=>rfl,fun h=>absurd h (by decide),fun h=>absurd h (by decide)⟩
    | k+2=>⟨fun h=>absurd h (by simp[cO]),fun h=>absurd h (by simp[cO]),fun h=>absurd h (by simp[cO])⟩
  have U:=oV (DV (w0:=w) (B:=t.heap.size) (g:=g) (b:=b') (vb:=L.heap.size) (rb:=w.heap.size+1) (T:=97) (vt:=254)) (s:=(0,l,fun _=>(0:Int))) (w:=t) ⟨⟨Z.keep v,v5,⟨_,rfl,(Y2.out.keep G).keep v,F0⟩,aB (aB HBB.out G) v,by omega,by omega,by omega,by omega,by omega,by omega,by omega,by omega⟩,Nat.le_refl _⟩ (by simp[cO]) trivial;rw[C.out] at U;have HU:=aD U;have P1:=aD ((Y1.out.keep G).keep v);have P3:=aD ((Y3.out.keep G).keep v);have D:=aD (show w.heap.size≠g∧w.heap.size+1+1≠g∧w.heap.size+1+1≠w.heap.size+1∧w.heap.size≠w.heap.size+1∧w.heap.size≤t.heap.size∧w.heap.size≤g from⟨by omega,by omega,by omega,by omega,by omega,by omega⟩);clear U v v5 z5 ab aa hz4 F0 Z G hg hb' HN Y1 Y2 Y3;go_wp2_with fail;rw[M.out];refine HU.out.mono ?_
  rintro e' w6 ⟨rfl,⟨r,hB6⟩,C6⟩;have c6:=r.var.cell (i:=0) rfl;go_wp2_with fail;refine(Fk r.rd (by omega)).mono ?_
  rintro e' f ⟨rfl,X7,H⟩;obtain⟨W,hl6,R6,K⟩:= r.rc;obtain⟨d,J⟩:∃ d,Hid (st.2.2=d):=⟨_,rfl⟩;rw[J.out] at K;have hF6:=aD K;have q0:=(K 0).1 rfl;have q1:=(K 1).1 rfl
  have ecs:W=[.int .u64 (d 0),.int .u64 (d 1)]:=by
    apply List.ext_getElem?;intro i
    match i with
    | 0=>rw[q0];rfl
    | 1=>rw[q1];rfl
    | k+2=>rw[List.getElem?_eq_none (by omega),List.getElem?_eq_none (by simp)]
  subst ecs;have S:=But.chg H;have u:=(P1.out.chg C6 (fun h=>h.elim D.out.1 D.out.2.2.2.1)).chg S D.out.1;have X:=(P3.out.chg C6 (fun h=>h.elim D.out.2.1 D.out.2.2.1)).chg S D.out.2.1;have K2:=R6.chg S r.s1;have BF:=aD (H.below r.bel D.out.2.2.2.2.2 (Nat.le_refl _));have Y:=aD ((hF6.out.off (w':=f) H.size (fun y hy hy2=>H.block y hy2 (by have:=r.g1;omega))));have I:=aD (show w.heap.size < t.heap.size∧w.heap.size < f.heap.size from⟨by have:=r.r1;omega,u.lt⟩);have u0:=u.cell (i:=0) rfl;have f0:=u.free 0;have v0:=K2.cell (i:=0) rfl;have o0:=X.cell (i:=0) rfl;have u1:=u.cell (i:=1) rfl;have f1:=u.free 1;have v1:=K2.cell (i:=1) rfl;have o1:=X.cell (i:=1) rfl;have q:=aD (show Blk ((f.setCell ⟨w.heap.size,0,none⟩ (.int .u64 (d 0))).setCell ⟨w.heap.size,1,none⟩ (.int .u64 (d 1))) w.heap.size [.int .u64 (d 0),.int .u64 (d 1)] 97 from((u.setCell (i:=0) (.int .u64 (d 0))).setCell (i:=1) (.int .u64 (d 1))));have j:=aD (show Chg (fun x=>x=w.heap.size) f ((f.setCell ⟨w.heap.size,0,none⟩ (.int .u64 (d 0))).setCell ⟨w.heap.size,1,none⟩ (.int .u64 (d 1))) from(((Chg.refl (fun x=>x=w.heap.size) f).cell (g:=w.heap.size) (i:=0) (.inl rfl) (.int .u64 (d 0))).cell (g:=w.heap.size) (i:=1) (.inl rfl) (.int .u64 (d 1))));have E:=aD (show Below w.heap.size w ((f.setCell ⟨w.heap.size,0,none⟩ (.int .u64 (d 0))).setCell ⟨w.heap.size,1,none⟩ (.int .u64 (d 1))) from((BF.out.setCell (p:=⟨w.heap.size,0,none⟩) (Nat.le_refl _) (.int .u64 (d 0))).setCell (p:=⟨w.heap.size,1,none⟩) (Nat.le_refl _) (.int .u64 (d 1))));have m:=aD (show Blk ((f.setCell ⟨w.heap.size,0,none⟩ (.int .u64 0)).setCell ⟨w.heap.size,1,none⟩ (.int .u64 0)) w.heap.size [.int .u64 0,.int .u64 0] 97 from((u.setCell (i:=0) (.int .u64 0)).setCell (i:=1) (.int .u64 0)));have KZchg:=aD (show Chg (fun x=>x=w.heap.size) f ((f.setCell ⟨w.heap.size,0,none⟩ (.int .u64 0)).setCell ⟨w.heap.size,1,none⟩ (.int .u64 0)) from(((Chg.refl (fun x=>x=w.heap.size) f).cell (g:=w.heap.size) (i:=0) (.inl rfl) (.int .u64 0)).cell (g:=w.heap.size) (i:=1) (.inl rfl) (.int .u64 0)));have F:=aD (show Below w.heap.size w ((f.setCell ⟨w.heap.size,0,none⟩ (.int .u64 0)).setCell ⟨w.heap.size,1,none⟩ (.int .u64 0)) from((BF.out.setCell (p:=⟨w.heap.size,0,none⟩) (Nat.le_refl _) (.int .u64 0)).setCell (p:=⟨w.heap.size,1,none⟩) (Nat.le_refl _) (.int .u64 0)));clear u K2 X r C6 S H X7 R6 hl6 K c6 HU P1 P3 q0 q1;obtain⟨Q,z⟩:∃ Q,Hid (gI st.1 st.2.1=Q):=⟨_,rfl⟩;rw[z.out];by_cases hE:Q=0
  · subst hE
    go_wp2;refine bodyPost_ret (kJ rfl rfl rfl (uz (q.out.cell (i:=0) rfl) (q.out.cell (i:=1) rfl))) rfl ?_
    exact⟨⟨[.int .u64 (d 0),.int .u64 (d 1)],d,0,rfl,rfl,(Y.out.off j.out.size (fun y hy _=>j.out.same y (by assumption) (fun e=>by have e':y=w.heap.size:=e;have:=I.out;omega))).low (by have:=I.out;omega),fun _=>⟨rfl,J.out.symm⟩,fun h=>absurd z.out h⟩,E.out⟩
  · have hE1:¬ (Q=0):=hE
    go_wp2;refine bodyPost_ret (kJ rfl rfl rfl (uz (m.out.cell (i:=0) rfl) (m.out.cell (i:=1) rfl))) rfl ?_
    exact⟨⟨[.int .u64 0,.int .u64 0],fun _=>0,80,rfl,rfl,(fun o=>match o with | 0=>⟨fun _=>rfl,fun h=>absurd h (by decide),fun h=>absurd h (by decide)⟩ | 1=>⟨fun _=>rfl,fun h=>absurd h (by decide),fun h=>absurd h (by decide)⟩ | k+2=>⟨fun h=>absurd h (by simp[cO]),fun h=>absurd h (by simp[cO]),fun h=>absurd h (by simp[cO])⟩),fun h=>absurd (z.out.symm.trans h) hE1,fun _=>⟨rfl,rfl⟩⟩,F.out⟩
end
end Rc
end
section
namespace Rc
open Go.RowKit Go.Lib Pg
attribute [local go_sem] Oper.semAt_some
section
variable {w:World}{a0 ao:Option Addr}{x0 x1:Int}{bb n c:Nat}{l:List Int}
theorem n9{n0 c0:Nat}(h0:aX w a0 n0 c0 x0)(m0:n0<=1000000) :
  Calls Tryz.prog 82 #[.agg #[.slice a0 n0 c0,.int .u64 x1]] w fun e w'=>∃ b n,e=.returned (.slice (some ⟨b,0,none⟩) n n)/\n=(thr (pnx (fun o=>([x0,x1]:List Int).getD o 0)) [(2,0),(0,1)] []).length/\Box w' b ((thr (pnx (fun o=>([x0,x1]:List Int).getD o 0)) [(2,0),(0,1)] []).map (Value.int .u8)) 5/\w.heap.size<=b/\Below w.heap.size w w':=by
 have f:=ae w (.cells #[.slice a0 n0 c0,.int .u64 x1] 109);have U:=s7 (h0.keep f) m0 (x1:=x1) (w:=w.alloc (.cells #[.slice a0 n0 c0,.int .u64 x1] 109));have c:=aD f;generalize thr (pnx (fun o=>([x0,x1]:List Int).getD o 0)) [(2,0),(0,1)] []=M at *;have g:=aD U;clear U;go_enter Tryz.func82,Tryz.ntmps82;go_wp2_with fail;refine g.out.mono ?_
 rintro j d ⟨b,n,rfl,hn,X,hb,B⟩;have i:=aD (show n=M.length/\Box d b (M.map (Value.int .u8)) 5/\w.heap.size<=b/\Below w.heap.size w d from⟨hn,X,Nat.le_trans c.out.size hb,aB c.out B⟩);clear hn X hb B g c;go_wp2;go_ret;exact⟨b,n,rfl,i.out⟩
theorem so(A:ByA w bb ao n c l)(hn:n<=1000000000)(z:l.length=n) :
  Calls Tryz.prog 121 #[.slice ao n c] w (p5 w bh 2 mkA (thr rnx [(2,0),(0,1)] (0,l,fun _=>(0:Int)))):=by
 have m:=ae w (.cells #[.slice none 0 0,.int .u64 0] 109);have q:=aE w [.slice none 0 0,.int .u64 0] 109;have z1:=dF w (.cells #[.slice none 0 0,.int .u64 0] 109);have U:=qA (A.keep m) hn z;generalize thr rnx [(2,0),(0,1)] (0,l,fun _=>(0:Int))=st at *;obtain⟨F,d⟩:∃ F,Hid (w.alloc (.cells #[.slice none 0 0,.int .u64 0] 109)=F):=⟨_,rfl⟩
 rw[d.out] at m q z1 U;have G:=aD U;have t:=aD m;have C:=aD q;have H:=aD z1;clear A z m q z1 U;go_enter Tryz.func121,Tryz.ntmps121;go_wp2_with fail;rw[d.out];refine G.out.mono ?_
 rintro J f ⟨⟨cs,xs,r,rfl,I,j,D,v⟩,B⟩;obtain⟨a0,n0,d0,q0,-,-⟩:=(j 0).2.2 rfl;have q1:=(j 1).1 rfl
 have o:cs=[.slice a0 n0 d0,.int .u64 (xs 1)]:=by
  apply List.ext_getElem?;intro i
  match i with
  | 0=>rw[q0];rfl
  | 1=>rw[q1];rfl
  | k+2=>rw[List.getElem?_eq_none (by omega),List.getElem?_eq_none (by simp)]
 subst o;have b:=C.out.keep B;have E:=aB t.out B;have M:=b.cell (i:=0) rfl;have f0:=b.free 0;have L:=b.cell (i:=1) rfl;have f1:=b.free 1;have KB:=aD (show Blk ((f.setCell ⟨w.heap.size,0,none⟩ (.slice a0 n0 d0)).setCell ⟨w.heap.size,1,none⟩ (.int .u64 (xs 1))) w.heap.size [.slice a0 n0 d0,.int .u64 (xs 1)] 109 from((b.setCell (i:=0) (.slice a0 n0 d0)).setCell (i:=1) (.int .u64 (xs 1))));have u:=aD (show Chg (fun x=>x=w.heap.size) f ((f.setCell ⟨w.heap.size,0,none⟩ (.slice a0 n0 d0)).setCell ⟨w.heap.size,1,none⟩ (.int .u64 (xs 1))) from(((Chg.refl (fun x=>x=w.heap.size) f).cell (g:=w.heap.size) (i:=0) (.inl rfl) (.slice a0 n0 d0)).cell (g:=w.heap.size) (i:=1) (.inl rfl) (.int .u64 (xs 1))));have K:=aD (show p5 w bh 2 mkA st (.returned (.tuple #[.agg #[.slice a0 n0 d0,.int .u64 (xs 1)],.int .i64 r])) ((f.setCell ⟨w.heap.size,0,none⟩ (.slice a0 n0 d0)).setCell ⟨w.heap.size,1,none⟩ (.int .u64 (xs 1))) from⟨⟨[.slice a0 n0 d0,.int .u64 (xs 1)],xs,r,rfl,rfl,(j.off u.out.size (fun y hy s=>u.out.same y s (fun e=>by have J:y=w.heap.size:=e;have:=H.out;omega))).low t.out.size,D,v⟩,((E.setCell (p:=⟨w.heap.size,0,none⟩) (Nat.le_refl _) (.slice a0 n0 d0)).setCell (p:=⟨w.heap.size,1,none⟩) (Nat.le_refl _) (.int .u64 (xs 1)))⟩);clear I j D v B b E G u C t q0 q1;simp only[mkA];go_wp2;refine bodyPost_ret (kJ rfl rfl rfl (jH (KB.out.cell (i:=0) rfl) (KB.out.cell (i:=1) rfl))) rfl ?_
 exact K.out
theorem vu :
  Calls Tryz.prog 57 #[.agg #[.int .u64 x0,.int .u64 x1]] w fun e w'=>∃ b n,e=.returned (.slice (some ⟨b,0,none⟩) n n)/\n=(thr (pnx (fun o=>([x0,x1]:List Int).getD o 0)) [(0,0),(0,1)] []).length/\Box w' b ((thr (pnx (fun o=>([x0,x1]:List Int).getD o 0)) [(0,0),(0,1)] []).map (Value.int .u8)) 5/\w.heap.size<=b/\Below w.heap.size w w':=by
 have g:=ae w (.cells #[.int .u64 x0,.int .u64 x1] 97);have U:=Ef (x0:=x0) (x1:=x1) (w:=w.alloc (.cells #[.int .u64 x0,.int .u64 x1] 97));have c:=aD g;generalize thr (pnx (fun o=>([x0,x1]:List Int).getD o 0)) [(0,0),(0,1)] []=M at *;have f:=aD U;clear U;go_enter Tryz.func57,Tryz.ntmps57;go_wp2_with fail;refine f.out.mono ?_
 rintro j d ⟨b,n,rfl,hn,X,hb,B⟩;have i:=aD (show n=M.length/\Box d b (M.map (Value.int .u8)) 5/\w.heap.size<=b/\Below w.heap.size w d from⟨hn,X,Nat.le_trans c.out.size hb,aB c.out B⟩);clear hn X hb B f c;go_wp2;go_ret;exact⟨b,n,rfl,i.out⟩
theorem Eo(A:ByA w bb ao n c l)(hn:n<=1000000000)(z:l.length=n) :
  Calls Tryz.prog 77 #[.slice ao n c] w (p5 w cO 2 mkA (thr rnx [(0,0),(0,1)] (0,l,fun _=>(0:Int)))):=by
 have m:=ae w (.cells #[.int .u64 0,.int .u64 0] 97);have q:=aE w [.int .u64 0,.int .u64 0] 97;have z1:=dF w (.cells #[.int .u64 0,.int .u64 0] 97);have U:=Cl (A.keep m) hn z;generalize thr rnx [(0,0),(0,1)] (0,l,fun _=>(0:Int))=st at *;obtain⟨F,d⟩:∃ F,Hid (w.alloc (.cells #[.int .u64 0,.int .u64 0] 97)=F):=⟨_,rfl⟩
 rw[d.out] at m q z1 U;have G:=aD U;have t:=aD m;have C:=aD q;have H:=aD z1;clear A z m q z1 U;go_enter Tryz.func77,Tryz.ntmps77;go_wp2_with fail;rw[d.out];refine G.out.mono ?_
 rintro J f ⟨⟨cs,xs,r,rfl,I,j,D,v⟩,B⟩;have q0:=(j 0).1 rfl;have q1:=(j 1).1 rfl
 have o:cs=[.int .u64 (xs 0),.int .u64 (xs 1)]:=by
  apply List.ext_getElem?;intro i
  match i with
  | 0=>rw[q0];rfl
  | 1=>rw[q1];rfl
  | k+2=>rw[List.getElem?_eq_none (by omega),List.getElem?_eq_none (by simp)]
 subst o;have b:=C.out.keep B;have E:=aB t.out B;have M:=b.cell (i:=0) rfl;have f0:=b.free 0;have L:=b.cell (i:=1) rfl;have f1:=b.free 1;have KB:=aD (show Blk ((f.setCell ⟨w.heap.size,0,none⟩ (.int .u64 (xs 0))).setCell ⟨w.heap.size,1,none⟩ (.int .u64 (xs 1))) w.heap.size [.int .u64 (xs 0),.int .u64 (xs 1)] 97 from((b.setCell (i:=0) (.int .u64 (xs 0))).setCell (i:=1) (.int .u64 (xs 1))));have u:=aD (show Chg (fun x=>x=w.heap.size) f ((f.setCell ⟨w.heap.size,0,none⟩ (.int .u64 (xs 0))).setCell ⟨w.heap.size,1,none⟩ (.int .u64 (xs 1))) from(((Chg.refl (fun x=>x=w.heap.size) f).cell (g:=w.heap.size) (i:=0) (.inl rfl) (.int .u64 (xs 0))).cell (g:=w.heap.size) (i:=1) (.inl rfl) (.int .u64 (xs 1))));have K:=aD (show p5 w cO 2 mkA st (.returned (.tuple #[.agg #[.int .u64 (xs 0),.int .u64 (xs 1)],.int .i64 r])) ((f.setCell ⟨w.heap.size,0,none⟩ (.int .u64 (xs 0))).setCell ⟨w.heap.size,1,none⟩ (.int .u64 (xs 1))) from⟨⟨[.int .u64 (xs 0),.int .u64 (xs 1)],xs,r,rfl,rfl,(j.off u.out.size (fun y hy s=>u.out.same y s (fun e=>by have J:y=w.heap.size:=e;have:=H.out;omega))).low t.out.size,D,v⟩,((E.setCell (p:=⟨w.heap.size,0,none⟩) (Nat.le_refl _) (.int .u64 (xs 0))).setCell (p:=⟨w.heap.size,1,none⟩) (Nat.le_refl _) (.int .u64 (xs 1)))⟩);clear I j D v B b E G u C t q0 q1;simp only[mkA];go_wp2;refine bodyPost_ret (kJ rfl rfl rfl (uz (KB.out.cell (i:=0) rfl) (KB.out.cell (i:=1) rfl))) rfl ?_
 exact K.out
end
end Rc
end
section
open Go.RowKit Lim
end
section
open Go.RowKit Lim
structure Stp where
 what:Int
 num:Int
 na:Option Addr
 nn:Nat
 nc:Nat
 V:Int
 ba:Option Addr
 bn:Nat
 bc:Nat
 bb:Nat
 bl:List Int
 most:Int
end
end Go.Proofs.YtjejmkcjflhoiaaGreatDoor
