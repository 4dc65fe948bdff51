import Derived.Test.YtjejmkcjflhoiaaGreatDoorJal
import Derived.Test.YtjejmkcjflhoiaaGreatDoorJaa
import Derived.Deep.RegionWith
import Derived.OpenShut
import Derived.Laws.AppendOwnNone
import Derived.Deep.RegionLaw
import Derived.Laws.CopyOwn
import Derived.Great.FillDense
import Derived.Lib.SliceRun
import Derived.Test.YtjejmkcjflhoiaaGreatDoorJac
import Derived.Test.YtjejmkcjflhoiaaGreatDoorJaf
import Derived.Lib.SlBytesConst
set_option maxRecDepth 100000
set_option maxHeartbeats 8000000
namespace Go.Proofs.YtjejmkcjflhoiaaGreatDoor
section
open Go.RowKit Lim
section
variable {w:World}{b n c k g:Nat}{ao:Option Addr}{l:List Int}{u v:Value}
structure ByA(w:World)(b:Nat)(ao:Option Addr)(n c:Nat)(l:List Int):Prop where
 ex:∃ o,l.length=n/\n<=c/\(c<=9223372036854775807/\(ao=none->c=0))/\bE l/\AtB w ao b o l
theorem ByA.keep{w':World}(h:ByA w b ao n c l)(hb:Below w.heap.size w w'):ByA w' b ao n c l:=by
 obtain⟨o,h1,h2,h3,h4,h5⟩:=h.ex;exact⟨o,h1,h2,h3,h4,h5.keep hb⟩
theorem addr_add(b o n:Nat):(⟨b,o,none⟩:Addr).add n=⟨b,o+n,none⟩:=by
 unfold Addr.add;split
 ·subst n;rfl
 ·rfl
def dk(ao:Option Addr)(c n:Nat):Option Addr:=if c=n then ao else ao.map (·.add n)
theorem sS(h:dk ao c k=none):ao=none:=by
 unfold dk at h;split at h
 ·exact h
 ·cases ao with
  | none=>rfl
  | some a=>cases h
theorem ByA.rest(h:ByA w b ao n c l)(m:k<=n):ByA w b (dk ao c k) (n - k) (c - k) (l.drop k):=by
 obtain⟨o,d,p,a,g,f⟩:=h.ex;by_cases hn:n=k
 ·have e:l.drop k=[]:=List.drop_eq_nil_of_le (by omega);rw[e];exact⟨0,by rw[hn];simp,by omega,⟨by have:=a.1;omega,fun e=>by have:=a.2 (sS e);omega⟩,fun x hx=>by simp at hx,.inl rfl,fun i hi=>by simp at hi⟩
 ·have j:l≠[]:=fun e=>by rw[e] at d; simp at d; omega
  obtain rfl:ao=some ⟨b,o,none⟩:=by
   rcases f.loc with e | e
   ·exact absurd e j
   ·exact e
  have e:dk (some ⟨b,o,none⟩) c k=some ⟨b,o+k,none⟩:=by
   unfold dk;rw[if_neg (by omega)];exact congrArg some (addr_add b o k)
  rw[e];refine⟨o+k,by rw[List.length_drop];omega,by omega,⟨by have:=a.1;omega,fun e=>by cases e⟩,fun x hx=>g x (List.mem_of_mem_drop hx),.inr rfl,fun i hi=>?_⟩;rw[List.length_drop] at hi;have:=f.cell (k+i) (by omega);rw[show o+k+i=o+(k+i) by omega,this,dL]
theorem ByA.front(h:ByA w b ao n c l)(m:k<=n):ByA w b ao k k (l.take k):=by
 obtain⟨o,g,j,d,f,a⟩:=h.ex;refine⟨o,by rw[List.length_take];omega,Nat.le_refl _,⟨by have:=d.1;omega,fun e=>by have:=d.2 e;omega⟩,fun x hx=>f x (List.mem_of_mem_take hx),?_,fun i hi=>?_⟩
 ·rcases a.loc with e | e
  ·exact .inl (by rw[e];simp)
  ·exact .inr e
 ·rw[List.length_take] at hi;rw[a.cell i (by omega),dA (by omega)]
theorem Box.two{t:TypeId}(h:Box w g [u,v] t):w.cell? ⟨g,0,none⟩=some u/\w.cell? ⟨g,1,none⟩=some v/\w.frozen? ⟨g,0,none⟩=false/\w.frozen? ⟨g,1,none⟩=false:=by
 have:=h.blk;simp[World.cell?,World.frozen?,this]
theorem fM{err:Int}{t:TypeId}(X:Box w g [.int .i64 err,v] t) :
  Calls Tryz.prog 201 #[.pointer (some ⟨g,0,none⟩)] w fun e w'=>e=.returned (.bool (err == 0))/\w'=w:=by
 obtain⟨c1,c2,c3,b⟩:=X.two;go_enter Tryz.func201,Tryz.ntmps201;go_wp2;go_ret;exact⟨rfl,rfl⟩
theorem pW{e0:Int}{t:TypeId}(X:Box w g [.int .i64 0,v] t) :
  Calls Tryz.prog 218 #[.pointer (some ⟨g,0,none⟩),.int .i64 e0] w fun e w'=>e=.returned (.tuple #[])/\w'=w.setCell ⟨g,0,none⟩ (.int .i64 e0):=by
 obtain⟨c1,c2,c3,b⟩:=X.two;go_enter Tryz.func218,Tryz.ntmps218;go_wp2_with fail;refine(fM X).mono ?_
 rintro e w' ⟨rfl,rfl⟩;go_wp2;go_end0;exact⟨rfl,rfl⟩
theorem vG{m:Int}{t:TypeId}(X:Box w g [u,.slice ao n c] t)(hn:n<=9223372036854775807)(hm:(n:Int) < m) :
  Calls Tryz.prog 250 #[.pointer (some ⟨g,0,none⟩),.int .u64 m] w fun e w'=>e=.returned (.tuple #[.slice none 0 0,.int .i64 40])/\w'=w:=by
 obtain⟨c1,c2,c3,b⟩:=X.two;go_enter Tryz.func250,Tryz.ntmps250;go_wp2;go_ret2;exact⟨rfl,rfl⟩
theorem zQ{m:Nat}{t:TypeId}(X:Box w g [u,.slice ao n c] t)(hc:n<=c)(hn:c<=9223372036854775807)(hm:m<=n) :
  Calls Tryz.prog 250 #[.pointer (some ⟨g,0,none⟩),.int .u64 m] w fun e w'=>e=.returned (.tuple #[.slice ao m m,.int .i64 0])/\w'=w.setCell ⟨g,1,none⟩ (.slice (dk ao c m) (n - m) (c - m)):=by
 obtain⟨c1,c2,c3,f⟩:=X.two
 have d:(m:Int)<=n:=by omega
 have b:(m:Int)<=c:=by omega
 go_enter Tryz.func250,Tryz.ntmps250;go_wp2
 ·go_ret2;exact⟨rfl,by unfold dk;rw[if_pos rfl]⟩
 ·go_ret2;exact⟨rfl,by unfold dk;rw[if_neg (by assumption)]⟩
end
end
section
open Go.RowKit Lim
section
variable {w w':World}{ao:Option Addr}{b g n c:Nat}{l:List Int}{cs:List Value}
theorem or8(a b:Int)(c:0<=a)(f:a < 72057594037927936)(d:0<=b)(e:b < 256):bits .or .u64 (a * 256) b=a * 256+b:=qe (a * 256) b 8 a (by rw[show (2:Int) ^ 8=256 by decide]) c (by omega) d (by omega) (by omega)
theorem uN(l:List Int)(x:Int):bU (l ++ [x])=bU l * 256+x:=by
 induction l with
 | nil=>simp[bU]
 | cons y l ih =>
  rw[List.cons_append,bU,bU,ih,List.length_append,List.length_singleton,Int.pow_succ];grind
theorem AtB.box{o:Nat}(k:AtB w ao b o l){t:TypeId}(s:Box w g cs t)(hv:∀ v∈cs,∀ x,v≠.int .u8 x)(hw:∀ k,k≠g->w'.heap[k]?=w.heap[k]?):AtB w' ao b o l :=
 ⟨k.loc,fun i hi=>by
  have hc:=k.cell i hi;by_cases e:b=g
  ·subst e;simp only[World.cell?,s.blk] at hc
   have a:cs.toArray[o+i]?=some (.int .u8 (nth l i)):=by simpa using hc
   rw[List.getElem?_toArray] at a;exact absurd rfl (hv _ (List.mem_of_getElem? a) _)
  ·rw[World.cell?_of_block (w:=w) (hw b e)];exact hc⟩
theorem ByA.box(h:ByA w b ao n c l){t:TypeId}(s:Box w g cs t)(hv:∀ v∈cs,∀ x,v≠.int .u8 x)(hw:∀ k,k≠g->w'.heap[k]?=w.heap[k]?):ByA w' b ao n c l:=by
 obtain⟨o,e,i,d,a,f⟩:=h.ex;exact⟨o,e,i,d,a,f.box s hv hw⟩
theorem lC(err:Int)(ao:Option Addr)(n c:Nat):∀ v∈[Value.int .i64 err,Value.slice ao n c],∀ x,v≠.int .u8 x:=fun v hv x e=>by
 rcases List.mem_cons.1 hv with h | h
 ·subst h;cases e
 ·rw[List.mem_singleton] at h;subst h;cases e
theorem rdNum{m:Nat}{err:Int}{t:TypeId}(X:Box w g [.int .i64 err,.slice ao n c] t)(h:ByA w b ao n c l)(hm:m<=n)(h8:m<=8) :
  Calls Tryz.prog 239 #[.pointer (some ⟨g,0,none⟩),.int .u64 m] w fun e w'=>e=.returned (.tuple #[.int .u64 (bU (l.take m)),.int .i64 0])/\w'=w.setCell ⟨g,1,none⟩ (.slice (dk ao c m) (n - m) (c - m)):=by
 obtain⟨o,L,C,⟨E,-⟩,v,B⟩:=h.ex
 have hA:ByA (w.setCell ⟨g,1,none⟩ (.slice (dk ao c m) (n - m) (c - m))) b ao n c l:=h.box X (lC _ _ _ _) fun k y=>Below.heap_setCell _ _ _ k y
 have t:=zQ (m:=m) X C E hm;obtain⟨z,-,-,-,-,f⟩:=hA.ex;clear hA B h X
 have s:Hid (bE l):=v;clear v;go_enter Tryz.func239,Tryz.ntmps239;go_wp2_with fail;refine t.mono ?_
 rintro e w' ⟨rfl,rfl⟩;clear t;generalize hWW:w.setCell ⟨g,1,none⟩ (.slice (dk ao c m) (n - m) (c - m))=W at *;have j:=(show Hid _ from hWW)
 clear hWW;go_wp2_with fail;go_loop [8,10,19] (fun F M r=>∃ k:Nat,k<=m/\r=.int .i64 k/\F=.int .u64 (bU (l.take k))) (fun _ _ r=>m - (intOf r).toNat)
 case atStart=>exact⟨0,Nat.zero_le _,rfl,rfl⟩
 case round =>
  obtain⟨k,y,rfl,rfl⟩:=hrel;by_cases H:k < m
  ·have d:k < l.length:=by omega
   have q:=f.cell k d;obtain rfl:ao=some ⟨b,z,none⟩:=by
    rcases f.loc with e | e
    ·rw[e] at d;simp at d
    ·exact e
   have I:(k:Int) < m:=by omega
   have hd:=s.out.nth k;have u:=bS (l:=l.take k) (fun x hx=>s.out x (List.mem_of_mem_take hx))
   have J:(256:Int) ^ (l.take k).length<=256 ^ 7:=iA (by rw[List.length_take];omega)
   have i:bU (l.take k) < 72057594037927936:=by
    have K:(256:Int) ^ 7=72057594037927936:=by decide
    omega
   have p:=u.1;have A:=or8 (bU (l.take k)) (nth l k) p i hd.1 hd.2
   have G:Hid (bU (l.take (k+1))=bU (l.take k) * 256+nth l k):=by show _=_;rw[dY d,uN]
   clear u J;generalize bU (l.take k)=V at *;generalize nth l k=D at *;go_wp2;go_round
   case rel=>exact⟨k+1,by omega,by go_num,by rw[G.out]⟩
   case measure=>simp[intOf];omega
  ·obtain rfl:k=m:=by omega
   go_wp2;go_ret2;exact⟨rfl,j.out.symm⟩
end
end
section
open Go.RowKit Lim
section
variable {g n c gr gs:Nat}{w w':World}{a b v fv:Value}{m err x e0:Int}{ao:Option Addr}{Q:World→Prop}{l:List Int}
structure But(g:Nat)(w w':World):Prop where
 os:w'.os=w.os
 tape:w'.tape=w.tape
 output:w'.output=w.output
 size:w.heap.size<=w'.heap.size
 block:∀ k,k < w.heap.size->k≠g->w'.heap[k]?=w.heap[k]?
theorem But.below{B:Nat}{w0:World}(h:But g w w')(b:Below B w0 w)(c:B<=g)(hs:B<=w0.heap.size):Below B w0 w' :=
 ⟨h.os.trans b.os,h.tape.trans b.tape,h.output.trans b.output,Nat.le_trans b.size h.size,fun k a=>(h.block k (Nat.lt_of_lt_of_le (Nat.lt_of_lt_of_le a hs) b.size) (by omega)).trans (b.block k a)⟩
theorem xh{w1 a c:World}(b:Below w.heap.size w w1)(h:∀ k,k≠g->a.heap[k]?=w1.heap[k]?)(l:a.os=w1.os)(d:a.tape=w1.tape)(j:a.output=w1.output)(hs:a.heap.size=w1.heap.size)(e:c=a):But g w c:=by
 subst e;exact⟨l.trans b.os,d.trans b.tape,j.trans b.output,by rw[hs];exact b.size,fun k i f=>(h k f).trans (b.block k i)⟩
theorem e9{t:TypeId}(h:Box w g [a,b] t)(v:Value):Box (w.setCell ⟨g,1,none⟩ v) g [a,v] t:=⟨by
 have:=h.blk;simp only[World.setCell,Array.getElem?_modify,if_true,this]
 simp⟩
theorem jP{t:TypeId}(h:Box w g [a,b] t)(v:Value):Box (w.setCell ⟨g,0,none⟩ v) g [v,b] t:=⟨by
 have:=h.blk;simp only[World.setCell,Array.getElem?_modify,if_true,this]
 simp⟩
theorem Be{t:TypeId}(X:Box w g [.int .i64 err,.slice ao n c] t)(hn:n<=9223372036854775807)(hm:(n:Int) < m) :
  Calls Tryz.prog 239 #[.pointer (some ⟨g,0,none⟩),.int .u64 m] w fun e w'=>e=.returned (.tuple #[.int .u64 0,.int .i64 40])/\w'=w:=by
 have t:=vG X hn hm;clear hm;go_enter Tryz.func239,Tryz.ntmps239;go_wp2_with fail;refine t.mono ?_
 rintro e w' ⟨rfl,rfl⟩;clear t;go_wp2_with fail;go_loop [8,10,19] (fun d f b=>d=.int .u64 0/\b=.int .i64 0) (fun _ _ _=>0)
 case atStart=>exact⟨rfl,rfl⟩
 case round =>
  obtain⟨rfl,rfl⟩:=hrel;go_wp2;go_ret2;exact⟨rfl,rfl⟩
theorem AU(d:w.cell? ⟨gr,0,none⟩=some (.pointer (some ⟨g,0,none⟩)))(hs:w.cell? ⟨gs,0,none⟩=some (.int .u64 m))(b:Calls Tryz.prog 239 #[.pointer (some ⟨g,0,none⟩),.int .u64 m] w fun e w'=>e=.returned (.tuple #[.int .u64 x,.int .i64 e0])∧Q w') :
    Calls Tryz.prog 238 #[.pointer (some ⟨gr,0,none⟩),.pointer (some ⟨gs,0,none⟩)] w fun e w'=>e=.returned (.tuple #[.int .u64 x,.int .i64 e0])∧Q w':=by
  go_enter Tryz.func238,Tryz.ntmps238;go_wp2_with fail;refine b.mono ?_
  rintro e w' ⟨rfl,c⟩;clear b;go_wp2;go_ret2;exact⟨rfl,c⟩
theorem enBad{t:TypeId}(X:Box w g [.int .i64 err,v] t)(he:err≠0) :
  Calls Tryz.prog 237 #[.pointer (some ⟨g,0,none⟩),fv] w fun e w'=>e=.returned (.int .u64 0)/\w'=w:=by
 have hb:(err == 0)=false:=beq_eq_false_iff_ne.2 he;have t:=fM X;rw[hb] at t;clear he hb;go_enter Tryz.func237,Tryz.ntmps237;go_wp2_with fail;refine t.mono ?_
 rintro e w' ⟨rfl,rfl⟩;clear t;go_wp2;go_ret;exact⟨rfl,rfl⟩
theorem enOk{t:TypeId}{Q:World->Prop}(X:Box w g [.int .i64 0,.slice ao n c] t)(b:Calls Tryz.prog 238 #[.pointer (some ⟨gr,0,none⟩),.pointer (some ⟨gs,0,none⟩)] w fun e w'=>e=.returned (.tuple #[.int .u64 x,.int .i64 0])/\Q w') :
  Calls Tryz.prog 237 #[.pointer (some ⟨g,0,none⟩),.func (.func 238) #[] #[.pointer (some ⟨gr,0,none⟩),.pointer (some ⟨gs,0,none⟩)]] w fun e w'=>e=.returned (.int .u64 x)/\Q w':=by
 obtain⟨c1,c2,c3,f⟩:=X.two;have t:=fM X;go_enter Tryz.func237,Tryz.ntmps237;go_wp2_with fail;refine t.mono ?_
 rintro e w' ⟨rfl,rfl⟩;clear t;go_wp2_with fail;refine b.mono ?_
 rintro e i ⟨rfl,d⟩;clear b;go_wp2;go_ret;exact⟨rfl,d⟩
theorem enErr{t:TypeId}(he:e0≠0)(X:Box w g [.int .i64 0,.slice ao n c] t)(d:Calls Tryz.prog 238 #[.pointer (some ⟨gr,0,none⟩),.pointer (some ⟨gs,0,none⟩)] w fun e w'=>e=.returned (.tuple #[.int .u64 x,.int .i64 e0])/\w'=w) :
  Calls Tryz.prog 237 #[.pointer (some ⟨g,0,none⟩),.func (.func 238) #[] #[.pointer (some ⟨gr,0,none⟩),.pointer (some ⟨gs,0,none⟩)]] w fun e w'=>e=.returned (.int .u64 0)/\w'=(w.setCell ⟨g,1,none⟩ (.slice ao n c)).setCell ⟨g,0,none⟩ (.int .i64 e0):=by
 obtain⟨c1,c2,c3,j⟩:=X.two
 have f:Box (w.setCell ⟨g,1,none⟩ (.slice ao n c)) g [.int .i64 0,.slice ao n c] t:=e9 X _;have b:=fM X
 have hb:(e0 == 0)=false:=beq_eq_false_iff_ne.2 he;clear he;go_enter Tryz.func237,Tryz.ntmps237;go_wp2_with fail;refine b.mono ?_
 rintro e w' ⟨rfl,rfl⟩;clear b;go_wp2_with fail;refine d.mono ?_
 rintro e l ⟨rfl,rfl⟩;clear d;go_wp2_with fail;refine(pW f).mono ?_
 rintro e i ⟨rfl,rfl⟩;go_wp2;go_ret;exact⟨rfl,rfl⟩
structure RdA(w:World)(g b:Nat)(err:Int)(l:List Int):Prop where
 ex:∃ ao n c,Box w g [.int .i64 err,.slice ao n c] 292/\ByA w b ao n c l
theorem RdA.keep{b:Nat}(h:RdA w g b err l)(hb:Below w.heap.size w w'):RdA w' g b err l:=by
 obtain⟨ao,n,c,h1,h2⟩:=h.ex;exact⟨ao,n,c,h1.keep hb,h2.keep hb⟩
def qC(m:Nat)(err:Int)(l:List Int):Int:=if err=0/\m<=l.length then bU (l.take m) else 0
def pX(m:Nat)(err:Int)(l:List Int):Int:=if err=0 then (if m<=l.length then 0 else 40) else err
def qc(m:Nat)(err:Int)(l:List Int):List Int:=if err=0/\m<=l.length then l.drop m else l
theorem size_set(w:World)(p:Addr)(v:Value):(w.setCell p v).heap.size=w.heap.size:=by simp[World.setCell]
theorem DQ{b m:Nat}(h:RdA w g b err l)(h8:m<=8) :
  Calls Tryz.prog 213 #[.pointer (some ⟨g,0,none⟩),.int .u64 m] w fun e w'=>e=.returned (.int .u64 (qC m err l))/\RdA w' g b (pX m err l) (qc m err l)/\But g w w':=by
 have d:=qy w (.cells #[.pointer (some ⟨g,0,none⟩)] 254) (.cells #[.int .u64 m] 22);have z:=(ff w (.pointer (some ⟨g,0,none⟩)) 254).alloc (.cells #[.int .u64 m] 22);have y:=nm w (.cells #[.pointer (some ⟨g,0,none⟩)] 254) (.int .u64 (m:Int)) 22;have I:=h.ex;obtain⟨G,n,c,s,j⟩:=I;have B:=s.lt;have X:=s.keep d;have hA:=j.keep d;obtain⟨o,D,A,⟨C,-⟩,E,H⟩:=hA.ex;have q1:=z.cell;have x:=y.cell;clear H;by_cases he:err=0
 ·subst he;by_cases hm:m<=n
  ·have t:=enOk X (AU q1 x (rdNum X hA hm h8))
   have v:Hid (qC m 0 l=bU (l.take m)):=by show _=_;unfold qC;rw[if_pos ⟨rfl,by omega⟩]
   have q:Hid (∀ f,f=(((w.alloc (.cells #[.pointer (some ⟨g,0,none⟩)] 254)).alloc (.cells #[.int .u64 m] 22)).setCell ⟨g,1,none⟩ (.slice (dk G c m) (n - m) (c - m)))->RdA f g b (pX m 0 l) (qc m 0 l)/\But g w f):=by
    intro f e;subst e;refine⟨?_,?_⟩
    ·unfold pX qc;rw[if_pos rfl,if_pos (by omega),if_pos ⟨rfl,by omega⟩];exact⟨_,_,_,e9 X _,(hA.rest hm).box X (lC _ _ _ _) fun k i=>Below.heap_setCell _ _ _ k i⟩
    ·exact xh d (fun k i=>Below.heap_setCell _ _ _ k i) rfl rfl rfl (size_set _ _ _) rfl
   clear s j X hA z y h D A C E q1 x d;go_enter Tryz.func213,Tryz.ntmps213;go_wp2_with fail;refine t.mono ?_
   rintro e F ⟨rfl,p⟩;have u:=(show Hid _ from q.out _ p)
   clear t p q;go_wp2;go_ret;exact⟨by rw[v.out];rfl,u.out⟩
  ·have t:=enErr (by decide) X (AU q1 x (Be X (by omega) (by omega:(n:Int) < m)))
   have v:Hid (qC m 0 l=0):=by show _=_;unfold qC;rw[if_neg (fun r=>hm (by omega))]
   have q:Hid (∀ f,f=((((w.alloc (.cells #[.pointer (some ⟨g,0,none⟩)] 254)).alloc (.cells #[.int .u64 m] 22)).setCell ⟨g,1,none⟩ (.slice G n c)).setCell ⟨g,0,none⟩ (.int .i64 40))->RdA f g b (pX m 0 l) (qc m 0 l)/\But g w f):=by
    intro f e;subst e;refine⟨?_,?_⟩
    ·unfold pX qc;rw[if_pos rfl,if_neg (by omega),if_neg (fun r=>hm (by omega))];exact⟨_,_,_,jP (e9 X _) _,hA.box X (lC _ _ _ _) fun k i=>by rw[Below.heap_setCell _ _ _ k i,Below.heap_setCell _ _ _ k i]⟩
    ·exact⟨d.os,d.tape,d.output,by rw[size_set,size_set];exact d.size,fun k i B=>by rw[Below.heap_setCell _ _ _ k B,Below.heap_setCell _ _ _ k B];exact d.block k i⟩
   clear s j X hA z y h D A C E q1 x d hm;go_enter Tryz.func213,Tryz.ntmps213;go_wp2_with fail;refine t.mono ?_
   rintro e F ⟨rfl,p⟩;have u:=(show Hid _ from q.out _ p)
   clear t p q;go_wp2;go_ret;exact⟨by rw[v.out];rfl,u.out⟩
 ·have t:=fun fv=>enBad (fv:=fv) X he
  have v:Hid (qC m err l=0):=by show _=_;unfold qC;rw[if_neg (fun r=>he r.1)]
  have q:Hid (∀ f,f=((w.alloc (.cells #[.pointer (some ⟨g,0,none⟩)] 254)).alloc (.cells #[.int .u64 m] 22))->RdA f g b (pX m err l) (qc m err l)/\But g w f):=by
   intro f e;subst e;refine⟨?_,?_⟩
   ·unfold pX qc;rw[if_neg he,if_neg (fun r=>he r.1)];exact⟨_,_,_,X,hA⟩
   ·exact⟨d.os,d.tape,d.output,d.size,fun k i _=>d.block k i⟩
  clear s j X hA z y h D A C E q1 x d he;go_enter Tryz.func213,Tryz.ntmps213;go_wp2_with fail;refine(t _).mono ?_
  rintro e F ⟨rfl,p⟩;have u:=(show Hid _ from q.out _ p)
  clear t p q;go_wp2;go_ret;exact⟨by rw[v.out];rfl,u.out⟩
end
end
section
open Go.RowKit Lim
end
section
open Go.RowKit Lim
def wT (w:World) (a:Option Addr) (len cap:Nat) (zs:List Int):Prop :=
 (a=none/\len=0/\cap=0/\zs=[]) \/
 ∃ x,a=some x/\len<=cap/\cap<=maxLen/\zs.length=cap/\(∀ i,i < zs.length->w.cell? (x.add i)=some (.int .u64 (zs.getD i 0)))/\∀ n∈zs,(Lit.int .u64 n).wf=true
theorem wT.open {w:World} {a:Option Addr} {len cap:Nat} {zs:List Int} (h:wT w a len cap zs):∃ b o l,l.length=len/\len<=cap/\len<=9223372036854775807/\Words l/\At w a b o l:=by
 rcases h with⟨rfl,rfl,rfl,rfl⟩ | ⟨x,rfl,h1,h2,h3,h4,h5⟩
 ·exact⟨0,0,[],rfl,Nat.le_refl _,by decide,Words.nil,.inl rfl,fun i hi=>by simp at hi⟩
 ·have hw:Words (zs.take len):=fun y hy=>by
   have:=h5 y (List.mem_of_mem_take hy);have:=bounds_u64 this;omega
  have k:(zs.take len).length=len:=by simp;omega
  have g:len<=9223372036854775807:=by unfold maxLen at h2;omega
  by_cases n:len=0
  ·refine⟨0,0,zs.take len,k,h1,g,hw,.inl (List.eq_nil_of_length_eq_zero (by omega)),fun i hi=>by omega⟩
  ·have hx:=h4 0 (by omega)
   have d:x.spot=none:=by
    rw[show x.add 0=x from rfl] at hx;simp only[World.cell?] at hx
    cases hh:w.heap[x.block]? with
    | none=>rw[hh] at hx;simp at hx
    | some ob =>
     rw[hh] at hx
     cases ob with
     | cells c e f =>
      simp at hx
      cases hs:x.spot with
      | none=>rfl
      | some s=>rw[hs] at hx;simp at hx
     | _=>simp at hx
   obtain⟨b,o,sp⟩:=x;simp at d;subst d;refine⟨b,o,zs.take len,k,h1,g,hw,.inr rfl,fun i hi=>?_⟩;have m:=h4 i (by omega);rw[dA (by omega)]
   have e:(⟨b,o,none⟩:Addr).add i=⟨b,o+i,none⟩:=by
    by_cases j:i=0
    ·subst j;rfl
    ·simp[Addr.add,j]
   rw[e] at m;exact m
end
section
open Go.RowKit Lim
section
variable {l:List Int}{w:World}{v:Value}{xs:List Value}
def fL(w:World)(B:Nat)(v:Value)(l:List Int):Prop:=w.ownsRow B 5 1 v l.length (l.map (Value.int .u8))
def dvI(l:List Int):Int:=l.foldl (fun x c=>10 * x+(c - 48)) 0
def fQ(l:List Int):Prop:=∀ c∈l,48<=c/\c<=57
theorem mw(l:List Int)(c:Int):dvI (l ++ [c])=10 * dvI l+(c - 48):=by simp[dvI,List.foldl_append]
theorem fQ.snoc{c:Int}(h:fQ l)(h1:48<=c)(h2:c<=57):fQ (l ++ [c]):=by
 intro x hx;rcases List.mem_append.1 hx with e | e
 ·exact h x e
 ·simp at e;subst e;exact⟨h1,h2⟩
theorem fX(a b:List Int):dvI (a ++ b)=dvI a * 10 ^ b.length+dvI b:=by
 have key:∀ (b:List Int) (x:Int),b.foldl (fun x c=>10 * x+(c - 48)) x=x * 10 ^ b.length+dvI b:=by
  intro b
  induction b with
  | nil=>intro x;simp[dvI]
  | cons c b ih =>
   intro x
   have e:dvI (c :: b)=(c - 48) * 10 ^ b.length+dvI b:=by rw[dvI,List.foldl_cons,ih];simp
   rw[List.foldl_cons,ih,e,List.length_cons,Int.pow_succ];grind
 rw[dvI,List.foldl_append,key];rfl
theorem uf{B:Nat}{e:TypeId}{n:Nat}(h:w.ownsRow B e 1 v n xs):∀ g,v.ownBlock=some g->B<=g:=by
 intro g a;rcases h.2 with⟨rfl,_⟩ | ⟨g',cap,cur,rfl,hB,_⟩
 ·simp[Value.ownBlock] at a
 ·simp[Value.ownBlock] at a;omega
theorem zI(x p:Int)(hp:0 < p):10 * (x / (p * 10))+x / p % 10=x / p:=by
 rw[<- Int.ediv_ediv_of_nonneg (Int.le_of_lt hp)];omega
theorem lU(B:Nat)(v:Value)(l:List Int)(x:Int)(w:World)(hB:B<=w.heap.size)(hm:fL w B v l)(R:l.length<=35184372088832)(q:0<=x)(F:x < 10000000000000000000) :
  Calls Tryz.prog 85 #[v,.int .u64 x] w fun e w'=>∃ v' d,e=.returned v'/\fL w' B v' (l ++ d)/\fQ d/\d.length=19/\dvI d=x/\Below B w w':=by
 obtain⟨i0,hi,H,J,K⟩:=info_parts mi;have E:=fun wx=>oS 18 wx (by decide)
 rw[show ((18:Nat):Int)=18 from rfl,show (10:Int) ^ 18=1000000000000000000 from by decide] at E;go_enter Tryz.func85,Tryz.ntmps85;go_wp2_with (go_at_call 137;refine(E _).mono ?_;rintro e T ⟨rfl,rfl⟩);clear E;go_loopw [0,5,7] (fun Y tp L wr=>∃ (k:Nat) (p:Int) (d:List Int),k<=19/\L=.int .i64 k/\tp=.int .u64 p/\0<=p/\p<=1000000000000000000/\Hid (k < 19->p * 10 ^ k=1000000000000000000)/\d.length=k/\fQ d/\Hid (dvI d=x / 10 ^ (19 - k))/\fL wr B Y (l ++ d)/\Below B T wr) (fun _ _ L _=>19 - (intOf L).toNat)
 case atStart=>exact⟨0,_,[],by decide,rfl,rfl,by decide,by decide,fun _=>by decide,rfl,fun c hc=>by simp at hc,by show _=_;rw[show (10:Int) ^ (19 - 0)=10000000000000000000 from by decide,Int.ediv_eq_zero_of_lt q F];rfl,by rw[List.append_nil];exact hm,Below.refl _ _⟩
 case round =>
  obtain⟨k,p,d,hk,rfl,rfl,G,hp1,Q,A,t,o,m,i⟩:=hrel;have hsz:=i.size;by_cases C:k < 19
  ·have r:=Q.out C
   have I:0 < p:=by
    by_cases c:0 < p
    ·exact c
    ·have:p=0:=by omega
     subst this;simp at r
   have b:p=10 ^ (18 - k):=by
    have e:(10:Int) ^ (18 - k) * 10 ^ k=1000000000000000000:=by rw[<- Int.pow_add,show 18 - k+k=18 from by omega];decide
    have P:(0:Int) < 10 ^ k:=Int.pow_pos (by decide);exact Int.eq_of_mul_eq_mul_right (by omega) (r.trans e.symm)
   have S:=zI x p I
   have M:Hid (10 * dvI d+x / p % 10=x / 10 ^ (19 - (k+1))):=by
    show _=_
    rw[o.out,show 19 - (k+1)=18 - k from by omega,<- b,<- S];congr 3
    rw[show 19 - k=(18 - k)+1 from by omega,Int.pow_succ,<- b]
   have Z:Hid (k+1 < 19->p / 10 * 10 ^ (k+1)=1000000000000000000):=by
    intro h;obtain⟨j,hj⟩:∃ j,18 - k=j+1:=⟨17 - k,by omega⟩
    rw[hj,Int.pow_succ] at b;have:p / 10=10 ^ j:=by rw[b];omega
    rw[this,<- Int.pow_add,show j+(k+1)=18 from by omega];decide
   have aa:(p == 0)=false:=beq_eq_false_iff_ne.2 (by omega);have z:=Int.emod_nonneg (x / p) (show (10:Int)≠0 by decide);have s:=Int.emod_lt_of_pos (x / p) (show (0:Int) < 10 by decide)
   have X:0<=x / p:=Int.ediv_nonneg q G
   have O:x / p<=x:=Int.ediv_le_self p q;have ab:=(show Hid _ from b)
   clear b r S Q o;obtain⟨D,hD⟩:∃ D,x / p % 10=D:=⟨_,rfl⟩
   rw[hD] at M z s
   have n:wr.ownsRow B 5 1 _ (l ++ d).length ((l ++ d).map (Value.int .u8)):=m
   have V:(l ++ d).length<=35184372088860:=by simp;omega
   generalize hNN:(l ++ d).length=N at *
   have HN:Hid ((l ++ d).length=N):=hNN;clear hNN;go_wp2_with (at_builtin;refine wpList_append_own _ rfl _ _ 87 rfl B 5 i0 (.int .u8 0) 1 1 cN hi H J K rfl (by decide) _ _ _ rfl (n.alloc _) ⟨wr.heap.size,0,none⟩ 1 1 [.int .u8 (48+D)] rfl rfl ?c1 ?c2 ?c3 ?c4 ?c5 ?_)
   case c1=>exact cell_one_new _ _ _
   case c2=>intro u hu;simp at hu;subst hu;rfl
   case c3=>unfold maxLen;omega
   case c4=>omega
   case c5=>simp;omega
   intro v' U g f _
   have W:fL U B v' (l ++ (d ++ [48+D])):=by
    unfold fL;rw[show (l ++ (d ++ [48+D])).length=N+1 from by rw[<- HN.out];simp;omega,List.map_append,List.map_append];exact g
   have HB:Below B T U:=(i.alloc (by omega) _).grown f (by simp;omega) (uf m);clear g f n m i;go_wp2;go_roundw
   case rel=>exact⟨k+1,p / 10,d ++ [48+D],by omega,by go_num,rfl,by omega,by omega,Z,by simp;omega,t.snoc (by omega) (by omega),by show _=_;rw[mw,<- M.out];omega,W,HB⟩
   case measure=>simp[intOf];omega
  ·have y:k=19:=by omega
   subst y
   have hv:dvI d=x:=by rw[o.out];simp
   go_wp2;go_ret;exact⟨_,d,rfl,m,t,A,hv,i⟩
end
end
section
open Go.RowKit Lim
end
section
open Go.RowKit Lim
def halves:List Int->List Int
 | []=>[]
 | x :: l=>x % 4294967296 :: x / 4294967296 :: halves l
end
section
open Go.RowKit Lim
end
section
open Go.RowKit Lim
section
variable {w:World}{g n c:Nat}{err e0:Int}{v fv:Value}{ao:Option Addr}{Q:Value->World->Prop}
theorem CH{t:TypeId}(X:Box w g [.int .i64 err,v] t)(he:err≠0) :
  Calls Tryz.prog 214 #[.pointer (some ⟨g,0,none⟩),fv] w fun e w'=>e=.returned (.bool false)/\w'=w:=by
 have hb:(err == 0)=false:=beq_eq_false_iff_ne.2 he;have t:=fM X;rw[hb] at t;clear he hb;go_enter Tryz.func214,Tryz.ntmps214;go_wp2_with fail;refine t.mono ?_
 rintro e w' ⟨rfl,rfl⟩;clear t;go_wp2;go_ret;exact⟨rfl,rfl⟩
theorem enBoOk{t:TypeId}(X:Box w g [.int .i64 0,.slice ao n c] t)(b:Calls Tryz.prog 215 #[.pointer (some ⟨g,0,none⟩)] w fun e w'=>∃ v,e=.returned (.tuple #[v,.int .i64 0])/\Q v w') :
  Calls Tryz.prog 214 #[.pointer (some ⟨g,0,none⟩),.func (.func 215) #[.pointer (some ⟨g,0,none⟩)] #[]] w fun e w'=>∃ v,e=.returned v/\Q v w':=by
 obtain⟨c1,c2,c3,i⟩:=X.two;have t:=fM X;go_enter Tryz.func214,Tryz.ntmps214;go_wp2_with fail;refine t.mono ?_
 rintro e w' ⟨rfl,rfl⟩;clear t;go_wp2_with fail;refine b.mono ?_
 rintro e j ⟨v,rfl,d⟩;have f:=(show Hid _ from d)
 clear b d;go_wp2;go_ret;exact⟨v,rfl,f.out⟩
theorem CR{t:TypeId}(he:e0≠0)(X:Box w g [.int .i64 0,.slice ao n c] t)(p:∀ v w1,Q v w1->∃ y,Box w1 g [.int .i64 0,y] t)(o:Calls Tryz.prog 215 #[.pointer (some ⟨g,0,none⟩)] w fun e w'=>∃ v,e=.returned (.tuple #[v,.int .i64 e0])/\Q v w') :
  Calls Tryz.prog 214 #[.pointer (some ⟨g,0,none⟩),.func (.func 215) #[.pointer (some ⟨g,0,none⟩)] #[]] w fun e w'=>e=.returned (.bool false)/\∃ v w1,Q v w1/\w'=(w1.setCell ⟨g,1,none⟩ (.slice ao n c)).setCell ⟨g,0,none⟩ (.int .i64 e0):=by
 obtain⟨c1,c2,c3,r⟩:=X.two;have m:=fM X
 have hb:(e0 != 0)=true:=bne_iff_ne.2 he;have j:=(show Hid _ from p)
 clear he p;go_enter Tryz.func214,Tryz.ntmps214;go_wp2_with fail;refine m.mono ?_
 rintro e w' ⟨rfl,rfl⟩;clear m;go_wp2_with fail;refine o.mono ?_
 rintro e w1 ⟨v,rfl,b⟩;obtain⟨y,i⟩:=j.out v w1 b;have q:=(show Hid _ from b)
 have l:Box (w1.setCell ⟨g,1,none⟩ (.slice ao n c)) g [.int .i64 0,.slice ao n c] t:=e9 i _;obtain⟨d1,d2,d3,d4⟩:=i.two;have t3:=pW (e0:=e0) l;clear o b j X i l c1 c2 c3 r d1 d3;go_wp2_with fail;refine t3.mono ?_
 rintro e s ⟨rfl,d⟩;have f:=(show Hid _ from d)
 clear t3 d;go_wp2;go_ret;exact⟨rfl,v,w1,q.out,f.out⟩
theorem Ds{t:TypeId}(X:Box w g [.int .i64 err,v] t)(he:err≠0) :
  Calls Tryz.prog 240 #[.pointer (some ⟨g,0,none⟩),fv] w fun e w'=>e=.returned (.slice none 0 0)/\w'=w:=by
 have hb:(err == 0)=false:=beq_eq_false_iff_ne.2 he;have t:=fM X;rw[hb] at t;clear he hb;go_enter Tryz.func240,Tryz.ntmps240;go_wp2_with fail;refine t.mono ?_
 rintro e w' ⟨rfl,rfl⟩;clear t;go_wp2;go_ret;exact⟨rfl,rfl⟩
theorem enNaOk{t:TypeId}(X:Box w g [.int .i64 0,.slice ao n c] t)(b:Calls Tryz.prog 241 #[.pointer (some ⟨g,0,none⟩)] w fun e w'=>∃ v,e=.returned (.tuple #[v,.int .i64 0])/\Q v w') :
  Calls Tryz.prog 240 #[.pointer (some ⟨g,0,none⟩),.func (.func 241) #[.pointer (some ⟨g,0,none⟩)] #[]] w fun e w'=>∃ v,e=.returned v/\Q v w':=by
 obtain⟨c1,c2,c3,i⟩:=X.two;have t:=fM X;go_enter Tryz.func240,Tryz.ntmps240;go_wp2_with fail;refine t.mono ?_
 rintro e w' ⟨rfl,rfl⟩;clear t;go_wp2_with fail;refine b.mono ?_
 rintro e j ⟨v,rfl,d⟩;have f:=(show Hid _ from d)
 clear b d;go_wp2;go_ret;exact⟨v,rfl,f.out⟩
theorem EI{t:TypeId}(he:e0≠0)(X:Box w g [.int .i64 0,.slice ao n c] t)(p:∀ v w1,Q v w1->∃ y,Box w1 g [.int .i64 0,y] t)(o:Calls Tryz.prog 241 #[.pointer (some ⟨g,0,none⟩)] w fun e w'=>∃ v,e=.returned (.tuple #[v,.int .i64 e0])/\Q v w') :
  Calls Tryz.prog 240 #[.pointer (some ⟨g,0,none⟩),.func (.func 241) #[.pointer (some ⟨g,0,none⟩)] #[]] w fun e w'=>e=.returned (.slice none 0 0)/\∃ v w1,Q v w1/\w'=(w1.setCell ⟨g,1,none⟩ (.slice ao n c)).setCell ⟨g,0,none⟩ (.int .i64 e0):=by
 obtain⟨c1,c2,c3,r⟩:=X.two;have m:=fM X
 have hb:(e0 != 0)=true:=bne_iff_ne.2 he;have j:=(show Hid _ from p)
 clear he p;go_enter Tryz.func240,Tryz.ntmps240;go_wp2_with fail;refine m.mono ?_
 rintro e w' ⟨rfl,rfl⟩;clear m;go_wp2_with fail;refine o.mono ?_
 rintro e w1 ⟨v,rfl,b⟩;obtain⟨y,i⟩:=j.out v w1 b;have q:=(show Hid _ from b)
 have l:Box (w1.setCell ⟨g,1,none⟩ (.slice ao n c)) g [.int .i64 0,.slice ao n c] t:=e9 i _;obtain⟨d1,d2,d3,d4⟩:=i.two;have t3:=pW (e0:=e0) l;clear o b j X i l c1 c2 c3 r d1 d3;go_wp2_with fail;refine t3.mono ?_
 rintro e s ⟨rfl,d⟩;have f:=(show Hid _ from d)
 clear t3 d;go_wp2;go_ret;exact⟨rfl,v,w1,q.out,f.out⟩
end
end
section
open Pg (ay bR aM bG dw)
open Go.RowKit Lim
section
variable {w w' w1:World}{g:Nat}{err aw u e0:Int}{p q:Option Addr}{lat l:List Int}{a:Act}{o:Oper}{v:Value}{cs:Array Value}
def dU(err:Int)(p:Option Addr)(aw:Int)(lat:List Int)(u:Int):List Value:=.int .i64 err :: .pointer p :: .int .i64 aw :: (lat.map (Value.int .u8) ++ [.int .i64 u])
structure db(w:World)(g:Nat)(err:Int)(p:Option Addr)(aw:Int)(lat:List Int)(u:Int):Prop where
 len:lat.length=256
 blk:w.heap[g]?=some (.cells (dU err p aw lat u).toArray 230 (0,0))
theorem db.box(h:db w g err p aw lat u):Box w g (dU err p aw lat u) 230:=⟨h.blk⟩
theorem db.lt(h:db w g err p aw lat u):g < w.heap.size:=h.box.lt
theorem db.keep(h:db w g err p aw lat u)(hb:Below w.heap.size w w'):db w' g err p aw lat u:=⟨h.len,(h.box.keep hb).blk⟩
theorem db.off{g':Nat}(h:db w g err p aw lat u)(hne:g≠g')(hw:∀ k,k≠g'->w'.heap[k]?=w.heap[k]?):db w' g err p aw lat u:=⟨h.len,by rw[hw g hne];exact h.blk⟩
theorem db.free(h:db w g err p aw lat u)(k:Nat):w.frozen? ⟨g,k,none⟩=false:=by
 have:=h.blk;simp[World.frozen?,this]
theorem db.c0(h:db w g err p aw lat u):w.cell? ⟨g,0,none⟩=some (.int .i64 err):=by
 have:=h.blk;simp[World.cell?,this,dU]
theorem db.c1(h:db w g err p aw lat u):w.cell? ⟨g,1,none⟩=some (.pointer p):=by
 have:=h.blk;simp[World.cell?,this,dU]
theorem db.c2(h:db w g err p aw lat u):w.cell? ⟨g,2,none⟩=some (.int .i64 aw):=by
 have:=h.blk;simp[World.cell?,this,dU]
theorem db.cl(h:db w g err p aw lat u)(i:Nat)(hi:i < 256):w.cell? ⟨g,3+i,none⟩=some (.int .u8 (nth lat i)):=by
 have hb:=h.blk;have a:=h.len;simp only[World.cell?,hb,dU];rw[show 3+i=i+1+1+1 by omega];simp[List.getElem?_append_left,a,hi,b8 (l:=lat) (show i < lat.length by omega)]
theorem db.cu(h:db w g err p aw lat u):w.cell? ⟨g,259,none⟩=some (.int .i64 u):=by
 have hb:=h.blk;have hl:=h.len;simp only[World.cell?,hb,dU];simp[hl]
theorem db.set0(h:db w g err p aw lat u)(x:Int):db (w.setCell ⟨g,0,none⟩ (.int .i64 x)) g x p aw lat u:=⟨h.len,by
 have:=h.blk;simp only[World.setCell,Array.getElem?_modify,if_true,this]
 simp[dU]⟩
theorem db.set1(h:db w g err p aw lat u)(x:Option Addr):db (w.setCell ⟨g,1,none⟩ (.pointer x)) g err x aw lat u:=⟨h.len,by
 have:=h.blk;simp only[World.setCell,Array.getElem?_modify,if_true,this]
 simp[dU]⟩
theorem db.set2(h:db w g err p aw lat u)(x:Int):db (w.setCell ⟨g,2,none⟩ (.int .i64 x)) g err p x lat u:=⟨h.len,by
 have:=h.blk;simp only[World.setCell,Array.getElem?_modify,if_true,this]
 simp[dU]⟩
theorem db.setu(h:db w g err p aw lat u)(x:Int):db (w.setCell ⟨g,259,none⟩ (.int .i64 x)) g err p aw lat x:=⟨h.len,by
 have hb:=h.blk;have a:=h.len;simp only[World.setCell,Array.getElem?_modify,if_true,hb]
 simp[dU,List.set_append_right,a]⟩
theorem kx(c1:w.cell? ⟨g,0,none⟩=some (.int .i64 err)) :
  Calls Tryz.prog 201 #[.pointer (some ⟨g,0,none⟩)] w fun e w'=>e=.returned (.bool (err == 0))/\w'=w:=by
 go_enter Tryz.func201,Tryz.ntmps201;go_wp2;go_ret;exact⟨rfl,rfl⟩
theorem stMeet(c1:w.cell? ⟨g,0,none⟩=some (.int .i64 0))(c2:w.frozen? ⟨g,0,none⟩=false) :
  Calls Tryz.prog 218 #[.pointer (some ⟨g,0,none⟩),.int .i64 e0] w fun e w'=>e=.returned (.tuple #[])/\w'=w.setCell ⟨g,0,none⟩ (.int .i64 e0):=by
 go_enter Tryz.func218,Tryz.ntmps218;go_wp2_with fail;refine(kx c1).mono ?_
 rintro e w' ⟨rfl,rfl⟩;go_wp2;go_end0;exact⟨rfl,rfl⟩
theorem Dj(c1:w.cell? ⟨g,0,none⟩=some (.int .i64 err))(he:(err == 0)=false) :
  Calls Tryz.prog 218 #[.pointer (some ⟨g,0,none⟩),.int .i64 e0] w fun e w'=>e=.returned (.tuple #[])/\w'=w:=by
 have t:=kx c1;rw[he] at t;clear he;go_enter Tryz.func218,Tryz.ntmps218;go_wp2_with fail;refine t.mono ?_
 rintro e w' ⟨rfl,rfl⟩;go_wp2;go_end0;exact⟨rfl,rfl⟩
theorem pK{T:TypeId}(k:Nat){off:Nat}(d:o.op=.load T (.tmp k))(b:a.eval (.tmp k)=.pointer (some ⟨g,off,none⟩))(c:(loadVar T ⟨g,off,none⟩).run Tryz.prog w=.ok v w):(execOp a.eval o).run Tryz.prog w=.ok (.value v) w:=by
 simp only[execOp,d,b];simp[Instr.loadAt,Instr.sureAddr,Result.andThen,c]
theorem qG{T:TypeId}(k q:Nat){off:Nat}(d:o.op=.store T (.tmp k) (.tmp q))(b:a.eval (.tmp k)=.pointer (some ⟨g,off,none⟩))(e:a.eval (.tmp q)=v)(c:(storeVar T ⟨g,off,none⟩ v).run Tryz.prog w=.ok () w1):(execOp a.eval o).run Tryz.prog w=.ok .skip w1:=by
 simp only[execOp,d,b,e];simp[Instr.storeAt,Instr.sureAddr,Result.andThen,c]
theorem wS(c:w.cell? ⟨g,1,none⟩=some (.pointer p)):(loadVar 227 ⟨g,1,none⟩).run Tryz.prog w=.ok (.pointer p) w:=by
 go_simp
theorem vV(c:w.cell? ⟨g,1,none⟩=some (.pointer p))(f:w.frozen? ⟨g,1,none⟩=false):(storeVar 227 ⟨g,1,none⟩ (.pointer q)).run Tryz.prog w=.ok () (w.setCell ⟨g,1,none⟩ (.pointer q)):=by
 go_simp
theorem uj:Tryz.prog.underlying 228=some (.array 256 5):=by kernel_rfl
theorem pz:(Tryz.prog.info? 228).map (·.size)=some 256:=by kernel_rfl
theorem vT{o:Nat}(d:l.length=256)(c:∀ i,i < 256->w.cell? ⟨g,o+i,none⟩=some (.int .u8 (nth l i))):(loadVar 228 ⟨g,o,none⟩).run Tryz.prog w=.ok (.agg (l.map (Value.int .u8)).toArray) w:=by
 have h:=run_loadCells_list (P:=Tryz.prog) w ⟨g,o,none⟩ (l.map (Value.int .u8)) (fun j v hv=>by
  obtain⟨a,e⟩:=List.getElem?_eq_some_iff.1 hv;rw[List.length_map] at a
  rw[addr_add,c j (by omega),<- e,List.getElem_map,b8 a])
 rw[List.length_map,d] at h
 cases hi:Tryz.prog.info? 228 with
 | none=>have:=pz;simp[hi] at this
 | some i =>
  have b:i.size=256:=by have:=pz;simpa[hi] using this
  simp[loadVar,isAgg,run_underlying uj,sizeOf,typeInfo,hi,b,h]
def placesOf(P:Program)(d:Option TypeDesc):Option (List (Nat × Nat)):=match d with
 | some (.struct fs)=>fs.toList.mapM (fun f=>(P.info? f.type).map fun i=>(f.offset,i.size))
 | _=>none
theorem xy:placesOf Tryz.prog (Tryz.prog.underlying 282)=some [(0,1),(1,256)]:=by kernel_rfl
theorem EH:((Tryz.prog.info? 282).bind (·.zero)).map (·.cells.size)=some 257:=by kernel_rfl
theorem zC(p:Option Addr)(A:List Value)(hA:A.length=256):Tryz.prog.built 282 [(0,.pointer p),(1,.agg A.toArray)]=some (Value.pointer p :: A).toArray:=by
 have hu:=xy;have b:=EH;unfold Program.built;generalize Tryz.prog.info? 282=I at *;generalize Tryz.prog.underlying 282=U at *
 cases I with
 | none=>simp at b
 | some it =>
  cases h2:it.zero with
  | none=>simp[h2] at b
  | some z =>
   have a:z.cells.size=257:=by simpa[h2] using b
   cases U with
   | none=>simp[placesOf] at hu
   | some d =>
    cases d<;>try (simp[placesOf] at hu;done)
    case struct fs =>
     simp only[placesOf] at hu;simp only[hu,h2]
     have hc:(Value.pointer p).cells=#[.pointer p]:=rfl
     have e:(Value.agg A.toArray).cells=A.toArray:=rfl;simp only[Instr.fill,hc,e];obtain⟨g1,g2⟩:=Great.foldl_set 1 A 0 (z.cells.setIfInBounds 0 (.pointer p));simp[hA,a];apply Array.ext_getElem?;intro k;have c:=g2 k;simp only[Array.size_setIfInBounds,a,hA] at c;rw[Nat.add_zero] at c;rw[c]
     cases k with
     | zero=>rw[if_neg (by omega)];simp[a]
     | succ k =>
      by_cases f:k < 256
      ·rw[if_pos (by omega)];simp
      ·rw[if_neg (by omega),Array.getElem?_eq_none (by simp[a];omega),Array.getElem?_eq_none (by simp[hA];omega)]
theorem Bv{T:TypeId}(ps:Array (Nat × Operand)){L:List (Nat × Value)}(c:o.op=.build T ps)(b:(ps.map fun(i,x)=>(i,a.eval x)).toList=L)(hb:Tryz.prog.built T L=some cs):(execOp a.eval o).run Tryz.prog w=.ok (.value (.agg cs)) w:=by
 subst b;simp only[execOp,c];simp only[Sem.run_bind,run_build w T _ cs hb,Result.andThen_ok];rfl
theorem wrPut(X:db w g err p aw lat u)(x:0<=aw)(hb:aw<=4611686018427387904) :
  Calls Tryz.prog 248 #[.pointer (some ⟨g,0,none⟩)] w fun e w'=>e=.returned (.tuple #[])/\db w' g err (some ⟨w.heap.size,0,none⟩) (aw+256) lat 0/\Box w' w.heap.size (.pointer p :: lat.map (Value.int .u8)) 282/\But g w w':=by
 have Y:=X;have s:=X.lt;have c1:=X.c1;have f1:=X.free 1;have j:=wS X.c1;have d:=vT X.len X.cl;have l:=zC p (lat.map (Value.int .u8)) (by rw[List.length_map];exact X.len);go_enter Tryz.func248,Tryz.ntmps248;go_wp2_with fail;refine bR (S:=fun _=>True) (by kernel_rfl) trivial ?_
 refine ay 0 (some 2) (.pointer (some ⟨g,0,none⟩)) (by kernel_rfl) (fun _ _=>by kernel_rfl) (fun _ _ _ h=>h) trivial ?_
 refine ay 1 (some 3) (.pointer (some ⟨g,0,none⟩)) (by kernel_rfl) (fun _ _=>by kernel_rfl) (fun _ _ _ h=>h) trivial ?_
 refine ay 2 (some 4) (.pointer (some ⟨g,0,none⟩)) (by kernel_rfl) (fun _ _=>by kernel_rfl) (fun _ _ _ h=>h) trivial ?_
 refine ay 3 (some 5) (.pointer (some ⟨g,1,none⟩)) (by kernel_rfl) (fun _ _=>by kernel_rfl) (fun _ _ _ h=>h) trivial ?_
 refine ay 5 (some 7) (.pointer (some ⟨g,0,none⟩)) (by kernel_rfl) (fun _ _=>by kernel_rfl) (fun _ _ _ h=>h) trivial ?_
 refine ay 6 (some 8) (.pointer (some ⟨g,0,none⟩)) (by kernel_rfl) (fun _ _=>by kernel_rfl) (fun _ _ _ h=>h) trivial ?_
 refine ay 7 (some 9) (.pointer (some ⟨g,3,none⟩)) (by kernel_rfl) (fun _ _=>by kernel_rfl) (fun _ _ _ h=>h) trivial ?_
 refine aM [4,8] (by kernel_rfl) (by simp) ?_
 have X:db w.drew g err p aw lat u:=⟨Y.len,Y.blk⟩
 have j:=wS X.c1;have d:=vT X.len X.cl;refine bG 4 (some 6) (.pointer p) _ (by kernel_rfl) (pK 5 (by kernel_rfl) (by kernel_rfl) j) trivial ?_ (bG 8 (some 10) (.agg (lat.map (Value.int .u8)).toArray) _ (by kernel_rfl) (pK 9 (by kernel_rfl) (by kernel_rfl) d) trivial ?_ aZ)
 ·refine aM [8] (by kernel_rfl) (by simp) ?_
  refine bG 8 (some 10) (.agg (lat.map (Value.int .u8)).toArray) _ (by kernel_rfl) (pK 9 (by kernel_rfl) (by kernel_rfl) d) trivial ?_ aZ;refine aM [9] (by kernel_rfl) (by simp) ?_
  refine bG 9 (some 11) (.agg (Value.pointer p :: lat.map (Value.int .u8)).toArray) _ (by kernel_rfl) (Bv #[(0,.tmp 6),(1,.tmp 10)] (by kernel_rfl) (by kernel_rfl) l) trivial ?_ aZ;refine aM [10] (by kernel_rfl) (by simp) ?_
  refine r6 10 (some 12) 282 (Value.pointer p :: lat.map (Value.int .u8)) (by kernel_rfl) (by kernel_rfl) ?_ aZ;intro V n b;refine⟨trivial,?_⟩;replace X:=X.keep b;replace b:Below w.heap.size w V:=(Below.refl w.heap.size w).drew.trans b;refine ay 11 (some 13) (.pointer (some ⟨g,0,none⟩)) (by kernel_rfl) (fun _ _=>by kernel_rfl) (fun _ _ _ h=>h) trivial ?_
  refine ay 12 (some 14) (.pointer (some ⟨g,1,none⟩)) (by kernel_rfl) (fun _ _=>by kernel_rfl) (fun _ _ _ h=>h) trivial ?_
  refine aM [13] (by kernel_rfl) (by simp) ?_
  refine dw 13 (V.setCell ⟨g,1,none⟩ (.pointer (some ⟨w.heap.size,0,none⟩))) (by kernel_rfl) (qG 14 12 (v:=.pointer (some ⟨w.heap.size,0,none⟩)) (by kernel_rfl) (by kernel_rfl) (by kernel_rfl) (vV X.c1 (X.free 1))) trivial ?_ aZ;refine bM (by kernel_rfl) ?_
  try simp only[Act.put,List.setIfInBounds_toArray,List.set_cons_zero,List.set_cons_succ]
  replace X:=X.set1 (some ⟨w.heap.size,0,none⟩)
  have f:Hid (But g w (V.setCell ⟨g,1,none⟩ (.pointer (some ⟨w.heap.size,0,none⟩)))):=⟨b.os,b.tape,b.output,by rw[size_set];exact b.size,fun k m c=>by rw[Below.heap_setCell _ _ _ k c];exact b.block k m⟩
  replace n:Box (V.setCell ⟨g,1,none⟩ (.pointer (some ⟨w.heap.size,0,none⟩))) w.heap.size _ _:=n.off (g':=g) (by show w.heap.size≠g;omega) (fun k i=>Below.heap_setCell _ _ _ k i);clear b;generalize V.setCell ⟨g,1,none⟩ (.pointer (some ⟨w.heap.size,0,none⟩))=W at *;have c2:=X.c2;have f2:=X.free 2;have cu:=X.cu;have t:=X.free 259;clear j d l c1 f1;have r:=(X.set2 (aw+256)).setu 0
  have o:Hid (But g w ((W.setCell ⟨g,2,none⟩ (.int .i64 (aw+256))).setCell ⟨g,259,none⟩ (.int .i64 0))):=⟨f.out.os,f.out.tape,f.out.output,by rw[size_set,size_set];exact f.out.size,fun k m c=>by rw[Below.heap_setCell _ _ _ k c,Below.heap_setCell _ _ _ k c];exact f.out.block k m c⟩
  have q:Hid (Box ((W.setCell ⟨g,2,none⟩ (.int .i64 (aw+256))).setCell ⟨g,259,none⟩ (.int .i64 0)) w.heap.size (Value.pointer p :: lat.map (Value.int .u8)) 282):=(n.off (g':=g) (by omega) (fun k i=>Below.heap_setCell _ _ _ k i)).off (g':=g) (by omega) (fun k i=>Below.heap_setCell _ _ _ k i);go_wp2;go_end0;exact⟨rfl,r,q.out,o.out⟩
 ·refine aM [4] (by kernel_rfl) (by simp) ?_
  refine bG 4 (some 6) (.pointer p) _ (by kernel_rfl) (pK 5 (by kernel_rfl) (by kernel_rfl) j) trivial ?_ aZ;refine aM [9] (by kernel_rfl) (by simp) ?_
  refine bG 9 (some 11) (.agg (Value.pointer p :: lat.map (Value.int .u8)).toArray) _ (by kernel_rfl) (Bv #[(0,.tmp 6),(1,.tmp 10)] (by kernel_rfl) (by kernel_rfl) l) trivial ?_ aZ;refine aM [10] (by kernel_rfl) (by simp) ?_
  refine r6 10 (some 12) 282 (Value.pointer p :: lat.map (Value.int .u8)) (by kernel_rfl) (by kernel_rfl) ?_ aZ;intro V n b;refine⟨trivial,?_⟩;replace X:=X.keep b;replace b:Below w.heap.size w V:=(Below.refl w.heap.size w).drew.trans b;refine ay 11 (some 13) (.pointer (some ⟨g,0,none⟩)) (by kernel_rfl) (fun _ _=>by kernel_rfl) (fun _ _ _ h=>h) trivial ?_
  refine ay 12 (some 14) (.pointer (some ⟨g,1,none⟩)) (by kernel_rfl) (fun _ _=>by kernel_rfl) (fun _ _ _ h=>h) trivial ?_
  refine aM [13] (by kernel_rfl) (by simp) ?_
  refine dw 13 (V.setCell ⟨g,1,none⟩ (.pointer (some ⟨w.heap.size,0,none⟩))) (by kernel_rfl) (qG 14 12 (v:=.pointer (some ⟨w.heap.size,0,none⟩)) (by kernel_rfl) (by kernel_rfl) (by kernel_rfl) (vV X.c1 (X.free 1))) trivial ?_ aZ;refine bM (by kernel_rfl) ?_
  try simp only[Act.put,List.setIfInBounds_toArray,List.set_cons_zero,List.set_cons_succ]
  replace X:=X.set1 (some ⟨w.heap.size,0,none⟩)
  have f:Hid (But g w (V.setCell ⟨g,1,none⟩ (.pointer (some ⟨w.heap.size,0,none⟩)))):=⟨b.os,b.tape,b.output,by rw[size_set];exact b.size,fun k m c=>by rw[Below.heap_setCell _ _ _ k c];exact b.block k m⟩
  replace n:Box (V.setCell ⟨g,1,none⟩ (.pointer (some ⟨w.heap.size,0,none⟩))) w.heap.size _ _:=n.off (g':=g) (by show w.heap.size≠g;omega) (fun k i=>Below.heap_setCell _ _ _ k i);clear b;generalize V.setCell ⟨g,1,none⟩ (.pointer (some ⟨w.heap.size,0,none⟩))=W at *;have c2:=X.c2;have f2:=X.free 2;have cu:=X.cu;have t:=X.free 259;clear j d l c1 f1;have r:=(X.set2 (aw+256)).setu 0
  have o:Hid (But g w ((W.setCell ⟨g,2,none⟩ (.int .i64 (aw+256))).setCell ⟨g,259,none⟩ (.int .i64 0))):=⟨f.out.os,f.out.tape,f.out.output,by rw[size_set,size_set];exact f.out.size,fun k m c=>by rw[Below.heap_setCell _ _ _ k c,Below.heap_setCell _ _ _ k c];exact f.out.block k m c⟩
  have q:Hid (Box ((W.setCell ⟨g,2,none⟩ (.int .i64 (aw+256))).setCell ⟨g,259,none⟩ (.int .i64 0)) w.heap.size (Value.pointer p :: lat.map (Value.int .u8)) 282):=(n.off (g':=g) (by omega) (fun k i=>Below.heap_setCell _ _ _ k i)).off (g':=g) (by omega) (fun k i=>Below.heap_setCell _ _ _ k i);go_wp2;go_end0;exact⟨rfl,r,q.out,o.out⟩
end
end
section
open Go.RowKit Lim
section
variable {w w' w1:World}{p ao:Option Addr}{ps l:List Int}{g b o:Nat}{cs:List Value}{err:Int}{v:Value}{ops:Array Oper}{K:Act->World->Prop}
inductive Pc (w:World):Option Addr->List Int->Prop where
 | nil:Pc w none []
 | cons {b:Nat} {p:Option Addr} {ps bs:List Int}:Box w b (.pointer p :: bs.map (Value.int .u8)) 282->bs.length=256->Pc w p ps->Pc w (some ⟨b,0,none⟩) (ps ++ bs)
theorem Pc.off(h:Pc w p ps)(X:Box w g cs 230)(hw:∀ k,k < w.heap.size->k≠g->w'.heap[k]?=w.heap[k]?):Pc w' p ps:=by
 induction h with
 | nil=>exact .nil
 | cons hb hl _ ih =>
  refine .cons ⟨?_⟩ hl ih
  rw[hw _ hb.lt (fun e=>by
   subst e;have a:=hb.blk;rw[X.blk] at a
   simp at a)]
  exact hb.blk
theorem Pc.keep(h:Pc w p ps)(hB:Below w.heap.size w w'):Pc w' p ps:=by
 induction h with
 | nil=>exact .nil
 | cons hb hl _ ih=>exact .cons (hb.keep hB) hl ih
structure WrA(w:World)(g:Nat)(err:Int)(l:List Int):Prop where
 ex:∃ p ps lat,∃ u:Nat,db w g err p (ps.length:Int) lat (u:Int)/\Pc w p ps/\u < 256/\l=ps ++ lat.take u
theorem WrA.lt(h:WrA w g err l):g < w.heap.size:=by
 obtain⟨p,ps,lat,u,X,_⟩:=h.ex;exact X.lt
theorem WrA.keep(h:WrA w g err l)(hB:Below w.heap.size w w'):WrA w' g err l:=by
 obtain⟨p,ps,lat,u,X,P,hu,e⟩:=h.ex;exact⟨p,ps,lat,u,X.keep hB,P.keep hB,hu,e⟩
theorem But.refl(g:Nat)(w:World):But g w w:=⟨rfl,rfl,rfl,Nat.le_refl _,fun _ _ _=>rfl⟩
theorem But.trans{c:World}(h:But g w w1)(a:But g w1 c):But g w c:=⟨a.os.trans h.os,a.tape.trans h.tape,a.output.trans h.output,Nat.le_trans h.size a.size,fun k b d=>(a.block k (Nat.lt_of_lt_of_le b h.size) d).trans (h.block k b d)⟩
theorem But.drew(h:But g w w1):But g w w1.drew:=⟨h.os,h.tape,h.output,h.size,h.block⟩
theorem But.cell(h:But g w w1)(hc:w.cell? ⟨b,o,none⟩=some v)(hb:b≠g):w1.cell? ⟨b,o,none⟩=some v:=by
 rw[World.cell?_of_block (w:=w) (h.block b (aK hc) hb)];exact hc
theorem Ao(err:Int)(p:Option Addr)(aw:Int)(lat ms:List Int)(x:Int)(u:Nat)(h:u+ms.length<=lat.length) :
  splice (dU err p aw lat x) (3+u) (ms.map (Value.int .u8))=dU err p aw (lat.take u ++ ms ++ lat.drop (u+ms.length)) x:=by
 unfold splice dU;rw[show 3+u=u+1+1+1 by omega,List.length_map,show u+1+1+1+ms.length=u+ms.length+1+1+1 by omega];simp only[List.take_succ_cons,List.drop_succ_cons,List.cons_append];rw[List.take_append_of_le_length (by rw[List.length_map];omega),List.drop_append_of_le_length (by rw[List.length_map];omega)];simp
theorem uQ{P:Program}{o:Oper}{a:Act}{Q:Exit->Act->World->Prop}{E:Prop}(k:o.guard=none)(d s:Operand)(i n:TypeId)(q:o.op=.call { callee:=.builtin .copy,args:=#[d,s],argTypes:=#[i,n] })(elem:TypeId)(hu:P.underlying i=some (.slice elem))(l:(P.info? elem).map (·.size)=some 1)(g off dLen dCap:Nat)(ad:Addr)(sLen sCap:Nat)(hd:a.eval d=.slice (some ⟨g,off,none⟩) dLen dCap)(hs:a.eval s=.slice (some ad) sLen sCap)(cur:List Value)(t:TypeId)(p:w.heap[g]?=some (.cells cur.toArray t (0,0)))(cs:List Value)(m:Nat)(hm:cs.length=m)(hn:m=Nat.min sLen dLen)(c:∀ j v,cs[j]?=some v->w.cell? (ad.add j)=some v)(f:off+m<=cur.length)(r:∀ v∈cs,v.oneCell'=true)(h:∀ w',Hid (w'.heap[g]?=some (.cells (splice cur off cs).toArray t (0,0)))->Hid (∀ b,b≠g->w'.heap[b]?=w.heap[b]?)->Hid (w'.os=w.os/\w'.tape=w.tape/\w'.output=w.output/\w'.heap.size=w.heap.size)->K (a.put o.dst (.int .i64 (m:Int))) w') :
  if Region.wanted o (yielded ops a.tmps)=true then Oper.wp P o a w K Q else E:=by
 subst hm
 have hw:Region.wanted o (yielded ops a.tmps)=true:=by simp[Region.wanted,k]
 rw[if_pos hw];have e:=run_copy_row (P:=P) w i n o.type elem g off dLen dCap ad sLen sCap cur.toArray t cs hu l p hn c (by simpa using f) r;unfold Oper.wp;simp[execOp,q,resolve,invoke,builtin,hd,hs,e,Result.andThen];exact h _ (show _=_ by simpa[splice] using setRow_heap w g _ _ t _ p) (fun b hb=>setRow_other w g b _ hb) ⟨rfl,rfl,rfl,by simp[World.setRow]⟩
theorem vZ:(Tryz.prog.info? 5).map (·.size)=some 1:=by kernel_rfl
theorem xJ(g u:Nat)(h:u < 256)(W:World):(Instr.sliceAt 228 (.pointer (some ⟨g,3,none⟩)) (some (.int .i64 (u:Int))) none none).run Tryz.prog W=.ok (.slice (some ⟨g,3+u,none⟩) (256 - u) (256 - u)) W:=by
 have a:Tryz.prog.arrayLen 228=256:=by kernel_rfl
 have b:Tryz.prog.elem 228=5:=by kernel_rfl
 have hu:Tryz.prog.underlying 228=some (.array (Tryz.prog.arrayLen 228) (Tryz.prog.elem 228)):=by kernel_rfl
 have hs:(sizeOf 5).run Tryz.prog W=.ok 1 W:=by kernel_rfl
 rw[run_sliceAt_array_l W 228 ⟨g,3,none⟩ hu .i64 (u:Int) (by omega) (by rw[a];omega),b,hs,a];simp only[Result.andThen,slicedAt,Int.toNat_natCast,Nat.mul_one];rw[if_neg (by omega)];congr 3
 exact addr_add g 3 u
theorem sliceB(ao:Option Addr)(n c m:Nat)(W:World)(hm:m<=n)(hn:n<=c):(Instr.sliceAt 87 (.slice ao n c) (some (.int .i64 (m:Int))) none none).run Tryz.prog W=.ok (.slice (dk ao c m) (n - m) (c - m)) W:=by
 have b:(m:Int)<=n:=by omega
 have d:(m:Int)<=c:=by omega
 unfold dk;split
 ·go_simp
 ·go_simp
def lenV(v:Value):Nat:=match v with
 | .slice _ n _=>n
 | _=>0
theorem wrLay{n c:Nat}{L:List Int}(X:WrA w g 0 L)(ha:AtB w ao b o l)(hl:l.length=n)(hc:n<=c)(hb:b≠g)(hbig:L.length+n<=4611686018427387904) :
  Calls Tryz.prog 232 #[.pointer (some ⟨g,0,none⟩),.slice ao n c] w fun e w'=>e=.returned (.tuple #[])/\WrA w' g 0 (L ++ l)/\But g w w':=by
 have HX:Hid (WrA w g 0 L):=X
 have HA:Hid (AtB w ao b o l):=ha;clear X ha;go_enter Tryz.func232,Tryz.ntmps232;go_wp2_with fail;go_loopw [1] (fun tb wr=>∃ k r T C,Hid (k+r=n)/\tb=.slice T r C/\r<=C/\Hid (0 < r->T=some ⟨b,o+k,none⟩)/\WrA wr g 0 (L ++ l.take k)/\But g w wr) (fun tb _=>lenV tb)
 case atStart=>exact⟨0,n,ao,c,Nat.zero_add n,rfl,hc,fun h=>by
  rcases HA.out.loc with e | e
  ·rw[e] at hl;simp at hl;omega
  ·rw[e];rfl,by simpa using HX.out,But.refl _ _⟩
 case round =>
  obtain⟨k,r,T,C,E,rfl,Z,A,Y,z⟩:=hrel;obtain⟨p,ps,d,u,y,P0,hu,hL⟩:=Y.ex;have HL:=(show Hid _ from hL)
  have hps:(ps.length:Int)<=4611686018427387904:=by have i:=congrArg List.length hL;simp at i;have:=E.out;omega
  have HP:=(show Hid _ from P0)
  have S:=(show Hid _ from z)
  have t:=kx y.c0
  have HY:Hid (WrA wr g 0 (L ++ l.take k)):=Y;clear hL P0 z Y;go_wp2_with fail;refine t.mono ?_
  rintro e w1 ⟨rfl,rfl⟩;clear t;by_cases H:0 < r
  ·obtain rfl:=A.out H
   have hlt':(0:Int) < r:=by omega
   obtain⟨m,hm⟩:∃ m,m=Nat.min r (256 - u):=⟨_,rfl⟩
   have hm1:m<=r:=by rw[hm];exact Nat.min_le_left _ _
   have hm2:m<=256 - u:=by rw[hm];exact Nat.min_le_right _ _
   have hm3:1<=m:=by rw[hm];exact Nat.le_min.2 ⟨H,by omega⟩
   have HM:=(show Hid _ from hm)
   clear hm;obtain⟨ms,x⟩:∃ ms,ms=(l.drop k).take m:=⟨_,rfl⟩
   have J:ms.length=m:=by rw[x,List.length_take,List.length_drop];have:=E.out;omega
   have K:=y.len;have q:=(show Hid _ from J)
   have M:=(show Hid _ from x)
   have HS:Hid (∀ W,But g w W->∀ j v,(ms.map (Value.int .u8))[j]? = some v->W.cell? ((⟨b,o + k,none⟩:Addr).add j)=some v):=fun W hW j v hj=>by
    obtain⟨i,B⟩:=List.getElem?_eq_some_iff.1 hj;rw[List.length_map] at i;rw[List.getElem_map] at B;have hh:=E.out;rw[addr_add];refine hW.cell ?_ hb;rw[<- B,show o+k+j=o+(k+j) by omega,HA.out.cell (k+j) (by omega),<- b8 i,x,dA (by omega),dL]
   have G:=Ao 0 p (ps.length:Int) d ms (u:Int) u (by omega);have aa:=(show Hid _ from G)
   have s:=(show Hid _ from K)
   clear G J x K;have cu:=y.cu;have V:=xJ g u hu
   have HC:Hid (∀ W,(Instr.sliceAt 87 (.slice (some ⟨b,o+k,none⟩) r C) (some (.int .i64 (m:Int))) none none).run Tryz.prog W=.ok (.slice (dk (some ⟨b,o+k,none⟩) C m) (r - m) (C - m)) W):=fun W=>sliceB _ _ _ _ W hm1 Z
   go_wp2_with fail;go_region_law (refine uQ rfl (.tmp 21) (.tmp 22) 87 87 rfl 5 cN vZ g (3+u) (256 - u) (256 - u) ⟨b,o+k,none⟩ r C (by rfl) (by rfl) _ 230 y.blk (ms.map (Value.int .u8)) m (by rw[List.length_map];exact q.out) HM.out (fun j v hj=>HS.out _ S.out.drew j v hj) (by simp[dU,s.out];omega) (by simp[Value.oneCell']) ?_;intro w4 N P f)
   have O:db w4 g 0 p (ps.length:Int) (d.take u ++ ms ++ d.drop (u+ms.length)) (u:Int):=⟨by have:=q.out;have:=s.out;simp;omega,by rw[<- aa.out];exact N.out⟩
   have F:=O.setu ((u:Int)+(m:Int))
   have R:Hid (But g w1 (w4.setCell ⟨g,259,none⟩ (.int .i64 ((u:Int)+(m:Int))))):=⟨f.out.1,f.out.2.1,f.out.2.2.1,by rw[size_set,f.out.2.2.2];exact Nat.le_refl _,fun j i B=>by rw[Below.heap_setCell _ _ _ j B,P.out j B];rfl⟩
   have U:=O.cu;have fu4:=O.free 259;have cu5:=F.cu;have I:=HC.out;clear cu V N P f;by_cases hf:u+m=256
   ·have hq:(((u:Int) + (m:Int)) == 256)=true:=by rw[beq_iff_eq]; omega
    have HF:=(show Hid _ from hf)
    clear hf;go_wp2_with fail;refine(wrPut F (by omega) hps).mono ?_
    rintro e w6 ⟨rfl,Q,XB,D⟩
    have H6:Hid (WrA w6 g 0 (L ++ l.take (k+m))):=by
     have i:=q.out;have B:=s.out;have h3:=HF.out
     have e1:d.drop (u+ms.length)=[]:=List.drop_eq_nil_of_le (by omega)
     have e2:L ++ l.take (k+m)=ps ++ (d.take u ++ ms ++ d.drop (u+ms.length)):=by
      rw[List.take_add,<- List.append_assoc,HL.out,<- M.out,e1,List.append_nil,List.append_assoc]
     refine⟨some ⟨_,0,none⟩,ps ++ (d.take u ++ ms ++ d.drop (u+ms.length)),d.take u ++ ms ++ d.drop (u+ms.length),0,?_,.cons XB Q.len (HP.out.off y.box (R.out.trans D).block),by omega,?_⟩
     ·have e3:(((ps ++ (d.take u ++ ms ++ d.drop (u + ms.length))).length:Nat):Int)=(ps.length:Int) + 256:=by rw[List.length_append,Q.len]; rfl
      rw[e3];exact Q
     ·rw[e2];simp
    have H7:Hid (But g w w6):=S.out.trans (R.out.trans D);clear Q XB D O F U cu5 fu4 hq y I;go_wp2;go_roundw
    case rel=>exact⟨k + m,r - m,_,_,by show _=_; have:=E.out; omega,rfl,by omega,fun h=>by
     unfold dk;rw[if_neg (by omega)];show some ((⟨b,o+k,none⟩:Addr).add m)=_;rw[addr_add,Nat.add_assoc],H6.out,H7.out⟩
    case measure=>simp[lenV];omega
   ·have hq:(((u:Int) + (m:Int)) == 256)=false:=by rw[beq_eq_false_iff_ne]; omega
    have H6:Hid (WrA (w4.setCell ⟨g,259,none⟩ (.int .i64 ((u:Int)+(m:Int)))) g 0 (L ++ l.take (k+m))):=by
     have i:=q.out;have B:=s.out;refine⟨p,ps,_,u+m,F,HP.out.off y.box R.out.block,by omega,?_⟩
     have e4:(d.take u ++ ms ++ d.drop (u+ms.length)).take (u+m)=d.take u ++ ms:=by
      rw[List.take_append_of_le_length (by simp;omega)];exact List.take_of_length_le (by simp;omega)
     rw[e4,List.take_add,<- List.append_assoc,HL.out,<- M.out,List.append_assoc]
    have H7:=(show Hid _ from S.out.trans R.out)
    have HF:=(show Hid _ from hf)
    clear hf O F y;go_wp2;go_roundw
    case rel=>exact⟨k + m,r - m,_,_,by show _=_; have:=E.out; omega,rfl,by omega,fun h=>by
     unfold dk;rw[if_neg (by omega)];show some ((⟨b,o+k,none⟩:Addr).add m)=_;rw[addr_add,Nat.add_assoc],H6.out,H7.out⟩
    case measure=>simp[lenV];omega
  ·obtain rfl:r=0:=by omega
   have HE:Hid (WrA w1 g 0 (L ++ l)):=by
    have i:=HY.out;rw[List.take_of_length_le (by have:=E.out;omega)] at i;exact i
   go_wp2;go_end0;exact⟨rfl,HE.out,S.out⟩
end
end
section
open Go.RowKit Lim
section
variable {x err:Int}{w:World}{g n c b o k m:Nat}{ao:Option Addr}{L l ds:List Int}{cs:List Value}
def be:Nat->Int->List Int
 | 0,_=>[]
 | m+1,x=>x / 256 ^ m % 256 :: be m x
theorem aP(m:Nat)(x:Int):(be m x).length=m:=by
 induction m with
 | zero=>rfl
 | succ m ih=>rw[be,List.length_cons,ih]
theorem BJ(m:Nat)(x:Int):∀ i,i < m->nth (be m x) i=x / 256 ^ (m - 1 - i) % 256:=by
 induction m with
 | zero=>intro i hi;omega
 | succ m ih =>
  intro i hi
  cases i with
  | zero=>rfl
  | succ i =>
   rw[be,dM,ih i (by omega),show m - 1 - i=m+1 - 1 - (i+1) by omega]
theorem fk(m:Nat)(x:Int):bE (be m x):=by
 induction m with
 | zero=>intro y hy;simp[be] at hy
 | succ m ih =>
  intro y hy;rw[be] at hy;rcases List.mem_cons.1 hy with e | e
  ·subst e;exact⟨Int.emod_nonneg _ (by decide),Int.emod_lt_of_pos _ (by decide)⟩
  ·exact ih y e
theorem qX(m:Nat)(hx:0<=x):bU (be m x)=x % 256 ^ m:=by
 induction m with
 | zero=>simp[be,bU]
 | succ m ih=>rw[be,bU,aP,ih,<- mK x hx m]
def wrote(err:Int)(L l:List Int):List Int:=if err=0 then L ++ l else L
theorem wrLayE(X:WrA w g err L)(he:err≠0) :
  Calls Tryz.prog 232 #[.pointer (some ⟨g,0,none⟩),.slice ao n c] w fun e w'=>e=.returned (.tuple #[])/\w'=w:=by
 obtain⟨p,ps,d,u,b,_⟩:=X.ex;have t:=kx b.c0;rw[beq_eq_false_iff_ne.2 he] at t;clear X b he;go_enter Tryz.func232,Tryz.ntmps232;go_wp2_with fail;go_loopw [1] (fun f wr=>f=.slice ao n c/\wr=w) (fun _ _=>0)
 case atStart=>exact⟨rfl,rfl⟩
 case round =>
  obtain⟨rfl,rfl⟩:=hrel;go_wp2_with fail;refine t.mono ?_
  rintro e i ⟨rfl,rfl⟩;clear t;go_wp2;go_end0;exact⟨rfl,rfl⟩
theorem yT(X:WrA w g err L)(d:AtB w ao b o l)(h:l.length=n)(hc:n<=c)(hb:b≠g)(a:L.length+n<=4611686018427387904) :
  Calls Tryz.prog 232 #[.pointer (some ⟨g,0,none⟩),.slice ao n c] w fun e w'=>e=.returned (.tuple #[])/\WrA w' g err (wrote err L l)/\But g w w':=by
 unfold wrote;by_cases he:err=0
 ·subst he;rw[if_pos rfl];exact wrLay X d h hc hb a
 ·rw[if_neg he];refine(wrLayE X he).mono ?_
  rintro e w' ⟨f,i⟩;subst i;exact⟨f,X,But.refl _ _⟩
theorem slice8(g m:Nat)(h:m<=8)(W:World):(Instr.sliceAt 311 (.pointer (some ⟨g,0,none⟩)) none (some (.int .i64 (m:Int))) none).run Tryz.prog W=.ok (.slice (some ⟨g,0,none⟩) m 8) W:=by
 have b:(m:Int)<=8:=by omega
 go_simp
theorem zg{v:Int}(hk:k < ds.length):(ds.set k v).take (k+1)=ds.take k ++ [v]:=by
 rw[dY (by rw[List.length_set];exact hk),dH hk,if_pos rfl,List.take_set_of_le (Nat.le_refl _)]
theorem Box.bytes{t:TypeId}(h:Box w g (ds.map (Value.int .u8)) t){i:Nat}(hi:i < ds.length):w.cell? ⟨g,i,none⟩=some (.int .u8 (nth ds i)):=by
 simp[World.cell?,h.blk,hi,b8 hi]
theorem Box.thaw{t:TypeId}(h:Box w g cs t)(i:Nat):w.frozen? ⟨g,i,none⟩=false:=by simp[World.frozen?,h.blk]
theorem Box.setB{t:TypeId}(h:Box w g (ds.map (Value.int .u8)) t)(i:Nat)(x:Int):Box (w.setCell ⟨g,i,none⟩ (.int .u8 x)) g ((ds.set i x).map (Value.int .u8)) t:=⟨by
 have hb:=h.blk;simp only[World.setCell,Array.getElem?_modify,if_true,hb]
 simp⟩
theorem An(X:WrA w g err L)(hm:m<=8)(z:L.length+8<=4611686018427387904) :
  Calls Tryz.prog 198 #[.pointer (some ⟨g,0,none⟩),.int .u64 x,.int .i64 m] w fun e w'=>e=.returned (.tuple #[])/\WrA w' g err (wrote err L (be m x))/\But g w w':=by
 have K:Hid (WrA w g err L):=X;have O:=X.lt;have N:=iP w ((List.replicate 8 (0:Int)).map (Value.int .u8)) 311;have C:=ae w (.cells #[.int .u8 0,.int .u8 0,.int .u8 0,.int .u8 0,.int .u8 0,.int .u8 0,.int .u8 0,.int .u8 0] 311);have H:=(show Hid _ from N)
 have y:=(show Hid _ from C)
 clear X N C;go_enter Tryz.func198,Tryz.ntmps198;go_wp2_with fail;go_loopw [9] (fun v wr=>∃ (k:Nat) (o:List Int),k<=m/\v=.int .i64 k/\o.length=8/\Hid (o.take k=(be m x).take k)/\Box wr w.heap.size (o.map (Value.int .u8)) 311/\Below w.heap.size w wr) (fun v _=>m - (intOf v).toNat)
 case atStart=>exact⟨0,List.replicate 8 0,Nat.zero_le _,rfl,rfl,rfl,H.out,y.out⟩
 case round =>
  obtain⟨k,o,Q,rfl,hlen,f,d,b⟩:=hrel;by_cases q:k < m
  ·obtain⟨h,P⟩:∃ h:Nat,(m:Int) - 1 - k=h:=⟨m - 1 - k,by omega⟩
   have j:m - 1 - k=h:=by omega
   have F:Hid ((o.set k (x / 2 ^ (8 * h) % 256)).take (k+1)=(be m x).take (k+1)):=by
    have e1:(256:Int) ^ h=2 ^ (8 * h):=by rw[Int.pow_mul];rfl
    show _=_
    rw[zg (by omega),f.out,dY (by rw[aP];exact q),BJ m x k q,j,e1]
   have E:(k:Int) < 8:=by omega
   have D:h < 8:=by omega
   have c1:=d.bytes (i:=k) (by omega);have f1:=d.thaw k;have J:=(show Hid _ from d.setB k (x / 2 ^ (8 * h) % 256))
   have u:=(show Hid _ from b)
   have s:=(show Hid _ from hlen)
   clear j d b f hlen;go_wp2_with fail;refine⟨⟨k+1,_,by omega,by go_num,by rw[List.length_set];exact s.out,F.out,J.out,u.out.setCell (p:=⟨w.heap.size,k,none⟩) (Nat.le_refl _) _⟩,by simp[intOf];omega⟩
  ·obtain rfl:k=m:=by omega
   have A:AtB wr (some ⟨w.heap.size,0,none⟩) w.heap.size 0 (be k x):=⟨.inr rfl,fun i hi=>by
    rw[aP] at hi;have e:=f.out;rw[List.take_of_length_le (l:=be k x) (by rw[aP];exact Nat.le_refl _)] at e
    rw[Nat.zero_add,d.bytes (by omega),<- e,dA hi]⟩
   have t:=yT (n:=k) (c:=8) (K.out.keep b) A (aP k x) hm (by omega) (by omega);have G:=slice8 w.heap.size k hm
   have u:Hid (∀ w',But g wr w'->But g w w'):=fun w' hb=>(⟨b.os,b.tape,b.output,b.size,fun k r _=>b.block k r⟩:But g w wr).trans hb
   clear A d b f;go_wp2_with fail;refine t.mono ?_
   rintro e I ⟨rfl,r,B⟩;have M:=(show Hid _ from u.out I B)
   clear t B;go_wp2;go_end0;exact⟨rfl,r,M.out⟩
theorem Aa(h:n < 256 ^ k):(n:Int) / 2 ^ (8 * k)=0:=by
 have e:(2:Int) ^ (8 * k)=((256 ^ k:Nat):Int):=by rw[Int.pow_mul,Int.natCast_pow];rfl
 rw[e];exact Int.ediv_eq_zero_of_lt (by omega) (by omega)
def fY(m:Nat)(l:List Int):List Int:=be m l.length ++ l
theorem xi(err:Int)(L l r:List Int):wrote err (wrote err L l) r=wrote err L (l ++ r):=by
 unfold wrote;by_cases h:err=0
 ·rw[if_pos h,if_pos h,if_pos h,List.append_assoc]
 ·rw[if_neg h,if_neg h,if_neg h]
theorem xO(err:Int)(L l:List Int):(wrote err L l).length<=L.length+l.length:=by
 unfold wrote;split
 ·rw[List.length_append];exact Nat.le_refl _
 ·exact Nat.le_add_right _ _
theorem But.at{w':World}(h:But g w w')(k:AtB w ao b o l)(hb:b≠g):AtB w' ao b o l:=⟨k.loc,fun i hi=>h.cell (k.cell i hi) hb⟩
theorem wrCnt(X:WrA w g err L)(q:AtB w ao b o l)(r:l.length=n)(hc:n<=c)(hb:b≠g)(hm:m=1\/m=4)(hn:n < 256 ^ m)(p:L.length+n+16<=4611686018427387904) :
  Calls Tryz.prog 233 #[.pointer (some ⟨g,0,none⟩),.slice ao n c,.int .i64 m] w fun e w'=>e=.returned (.tuple #[])/\WrA w' g err (wrote err L (fY m l))/\But g w w':=by
 have t:=An (m:=m) (x:=(n:Int)) X (by omega) (by omega);have z:=Aa hn
 have v:m<=4:=by omega
 have A:=(show Hid _ from hm)
 have C:=(show Hid _ from hn)
 clear X hm hn;go_enter Tryz.func233,Tryz.ntmps233;go_wp2_with fail;refine t.mono ?_
 rintro e D ⟨rfl,s,d⟩;have t2:=yT s (d.at q hb) r hc hb (by have:=xO err L (be m n);rw[aP] at this;omega);rw[xi] at t2
 have u:Hid (be m n ++ l=fY m l):=by show _=_;unfold fY;rw[r]
 have i:=(show Hid _ from d)
 clear t s d q;go_wp2_with fail;refine t2.mono ?_
 rintro e B ⟨rfl,y,f⟩;have j:=(show Hid _ from i.out.trans f)
 clear t2 f;go_wp2;go_end0;exact⟨rfl,by rw[<- u.out];exact y,j.out⟩
theorem Ep(h:256 ^ k<=n):((n:Int) / 2 ^ (8 * k) != 0)=true:=by
 have e:(2:Int) ^ (8 * k)=((256 ^ k:Nat):Int):=by rw[Int.pow_mul,Int.natCast_pow];rfl
 rw[e,bne_iff_ne]
 have a:0 < n / 256 ^ k:=Nat.div_pos h (Nat.pow_pos (by decide))
 have b:(n:Int) / ((256 ^ k:Nat):Int)=((n / 256 ^ k:Nat):Int):=rfl;omega
def long(err:Int):Int:=if err=0 then 42 else err
theorem Ez{e0:Int}(X:WrA w g err L) :
  Calls Tryz.prog 218 #[.pointer (some ⟨g,0,none⟩),.int .i64 e0] w fun e w'=>e=.returned (.tuple #[])/\WrA w' g (if err=0 then e0 else err) L/\But g w w':=by
 obtain⟨p,ps,c,u,a,f,hu,hL⟩:=X.ex;by_cases he:err=0
 ·subst he;rw[if_pos rfl];refine(stMeet a.c0 (a.free 0)).mono ?_
  rintro e w' ⟨b,rfl⟩
  have d:But g w (w.setCell ⟨g,0,none⟩ (.int .i64 e0)):=⟨rfl,rfl,rfl,by rw[size_set];exact Nat.le_refl _,fun k _ h=>Below.heap_setCell _ _ _ k h⟩
  exact⟨b,⟨p,ps,c,u,a.set0 e0,f.off a.box d.block,hu,hL⟩,d⟩
 ·rw[if_neg he];refine(Dj a.c0 (beq_eq_false_iff_ne.2 he)).mono ?_
  rintro e w' ⟨b,rfl⟩;exact⟨b,X,But.refl _ _⟩
theorem xD(X:WrA w g err L)(hc:n<=9223372036854775807)(hm:m<=4)(hn:256 ^ m<=n) :
  Calls Tryz.prog 233 #[.pointer (some ⟨g,0,none⟩),.slice ao n c,.int .i64 m] w fun e w'=>e=.returned (.tuple #[])/\WrA w' g (long err) L/\But g w w':=by
 have t:=Ez (e0:=42) X;have j:=Ep hn;have l:=(show Hid _ from hn)
 clear X hn;go_enter Tryz.func233,Tryz.ntmps233;go_wp2_with fail;refine t.mono ?_
 rintro e o ⟨rfl,f,b⟩;have i:=(show Hid _ from f)
 have d:=(show Hid _ from b)
 clear t f b;go_wp2;(try simp only[Exit.inBlock,Exit.then])
 refine bodyPost_ret (results_none rfl _ _ _) rfl ?_
 exact⟨rfl,i.out,d.out⟩
theorem wrU8(X:WrA w g err L)(d:0<=x)(hx:x < 256)(b:L.length+8<=4611686018427387904) :
  Calls Tryz.prog 199 #[.pointer (some ⟨g,0,none⟩),.int .u8 x] w fun e w'=>e=.returned (.tuple #[])/\WrA w' g err (wrote err L (be 1 x))/\But g w w':=by
 have t:=An (m:=1) (x:=x) X (by decide) b;clear X;go_enter Tryz.func199,Tryz.ntmps199;go_wp2_with fail;refine t.mono ?_
 rintro e i ⟨rfl,f,c⟩;clear t;go_wp2;go_end0;exact⟨rfl,f,c⟩
theorem EM(X:WrA w g err L)(b:L.length+8<=4611686018427387904) :
  Calls Tryz.prog 153 #[.pointer (some ⟨g,0,none⟩),.int .u64 x] w fun e w'=>e=.returned (.tuple #[])/\WrA w' g err (wrote err L (be 8 x))/\But g w w':=by
 have t:=An (m:=8) (x:=x) X (by decide) b;clear X;go_enter Tryz.func153,Tryz.ntmps153;go_wp2_with fail;refine t.mono ?_
 rintro e f ⟨rfl,d,c⟩;clear t;go_wp2;go_end0;exact⟨rfl,d,c⟩
theorem Ax{x:Bool}(X:WrA w g err L)(b:L.length+8<=4611686018427387904) :
  Calls Tryz.prog 155 #[.pointer (some ⟨g,0,none⟩),.bool x] w fun e w'=>e=.returned (.tuple #[])/\WrA w' g err (wrote err L (be 1 (if x then 1 else 0)))/\But g w w':=by
 cases x
 ·have t:=wrU8 (x:=0) X (by decide) (by decide) b;clear X;go_enter Tryz.func155,Tryz.ntmps155;go_wp2_with fail;refine t.mono ?_
  rintro e f ⟨rfl,d,c⟩;clear t;go_wp2;go_end0;exact⟨rfl,d,c⟩
 ·have t:=wrU8 (x:=1) X (by decide) (by decide) b;clear X;go_enter Tryz.func155,Tryz.ntmps155;go_wp2_with fail;refine t.mono ?_
  rintro e f ⟨rfl,d,c⟩;clear t;go_wp2;go_end0;exact⟨rfl,d,c⟩
end
end
section
open Go.RowKit Lim
section
variable {V err:Int}{g n c:Nat}{w:World}{ao:Option Addr}{L:List Int}
def dX(V:Int):List Int:=be ((bitLen V.toNat+7) / 8) V
theorem qB(b:0<=V):IsB (dX V) V:=by
 obtain⟨c,h⟩:=oZ b;unfold dX;generalize (bitLen V.toNat+7) / 8=k at *;refine⟨fk k V,fun a=>?_,by rw[qX k b,Int.emod_eq_of_lt b c]⟩
 have f:k≠0:=fun e=>a (by rw[e];rfl)
 rw[BJ k V 0 (by omega),show k - 1 - 0=k - 1 by omega]
 have d:(0:Int) < 256 ^ (k - 1):=Int.pow_pos (by decide)
 have q1:1<=V / 256 ^ (k - 1):=by rw[Int.le_ediv_iff_mul_le d];have:=h f;omega
 have g:V / 256 ^ (k - 1) < 256:=by
  rw[Int.ediv_lt_iff_lt_mul d,Int.mul_comm,<- Int.pow_succ,show (k - 1).succ=k from by omega];exact c
 rw[Int.emod_eq_of_lt (by omega) g];omega
theorem Bn(V:Int):bE (dX V):=fk _ _
def ia(V err:Int):Int:=if (dX V).length < 256 then err else long err
def ja(V err:Int)(L:List Int):List Int:=if (dX V).length < 256 then wrote err L (fY 1 (dX V)) else L
theorem But.of{w':World}(h:Below w.heap.size w w'):But g w w':=⟨h.os,h.tape,h.output,h.size,fun k h1 _=>h.block k h1⟩
theorem wrNat(X:WrA w g err L)(h:aY w ao n c V)(hn:n<=1099511627776)(A:L.length+8 * n+16<=4611686018427387904) :
  Calls Tryz.prog 200 #[.pointer (some ⟨g,0,none⟩),.slice ao n c] w fun e w'=>e=.returned (.tuple #[])/\WrA w' g (ia V err) (ja V err L)/\But g w w':=by
 obtain⟨b,o,l,D,B,u,F,q⟩:=h.ex;have t:=yj ao n c b o l w D B hn u F;rw[q] at t
 have J:0<=V:=by rw[<- q];exact aO u
 have P:=X.lt
 have K:Hid (WrA w g err L):=X;clear X h D B u F q;go_enter Tryz.func200,Tryz.ntmps200;go_wp2_with fail;refine t.mono ?_
 rintro e Q ⟨v,r,rfl,E,G,-,H,z⟩;obtain⟨p,R,O,I,rfl,s,M,hA,-⟩:=E.is;obtain rfl:=nP G (qB J);have j:=K.out.keep z;have C:=(show Hid _ from z)
 clear t E G z;by_cases d:(dX V).length < 256
 ·have t2:=wrCnt (m:=1) j hA rfl s (by omega) (.inl rfl) (by simpa using d) (by omega)
  have i:Hid (ia V err=err/\ja V err L=wrote err L (fY 1 (dX V))):=by
   unfold ia ja;rw[if_pos d,if_pos d];exact⟨rfl,rfl⟩
  clear j hA d;go_wp2_with fail;refine t2.mono ?_
  rintro e N ⟨rfl,y,f⟩;have x:=(show Hid _ from(But.of (g:=g) C.out).trans f)
  clear t2 f;go_wp2;go_end0;exact⟨rfl,by rw[i.out.1,i.out.2];exact y,x.out⟩
 ·have t2:=xD (ao:=p) (c:=I) (m:=1) (n:=(dX V).length) j (by omega) (by decide) (by omega)
  have i:Hid (ia V err=long err/\ja V err L=L):=by
   unfold ia ja;rw[if_neg d,if_neg d];exact⟨rfl,rfl⟩
  clear j hA d;go_wp2_with fail;refine t2.mono ?_
  rintro e N ⟨rfl,y,f⟩;have x:=(show Hid _ from(But.of (g:=g) C.out).trans f)
  clear t2 f;go_wp2;go_end0;exact⟨rfl,by rw[i.out.1,i.out.2];exact y,x.out⟩
theorem wH(X:WrA w g err L)(h:aY w ao n c V)(hn:n<=1099511627776)(d:L.length+8 * n+16<=4611686018427387904) :
  Calls Tryz.prog 157 #[.pointer (some ⟨g,0,none⟩),.agg #[.slice ao n c]] w fun e w'=>e=.returned (.tuple #[])/\WrA w' g (ia V err) (ja V err L)/\But g w w':=by
 have f:Hid (Below w.heap.size w (w.alloc (.cells #[.slice ao n c] 32))):=ae w _;have t:=wrNat (X.keep f.out) (h.keep f.out) hn d;clear X h;go_enter Tryz.func157,Tryz.ntmps157;go_wp2_with fail;refine t.mono ?_
 rintro e j ⟨rfl,i,b⟩;replace b:=(show Hid _ from(But.of (g:=g) f.out).trans b)
 clear t f;go_wp2;go_end0;exact⟨rfl,i,b.out⟩
end
end
section
open Go.RowKit Lim
section
variable {err:Int}{l:List Int}{w:World}{b g n c m:Nat}{ao:Option Addr}{cs:List Value}{y:Value}
def rdE{α:Type}(r:Int ⊕ α × Nat)(err:Int):Int:=if err=0 then (match r with | .inl e=>e | .inr _=>0) else err
def rdL{α:Type}(r:Int ⊕ α × Nat)(err:Int)(l:List Int):List Int:=if err=0 then (match r with | .inl _=>l | .inr p=>l.drop p.2) else l
def rdV{α:Type}(z:α)(r:Int ⊕ α × Nat)(err:Int):α:=if err=0 then (match r with | .inl _=>z | .inr p=>p.1) else z
def cZ(m:Nat)(l:List Int):Int ⊕ Int × Nat:=if m<=l.length then .inr (bU (l.take m),m) else .inl 40
def bJ(l:List Int):Int ⊕ Bool × Nat:=if 1<=l.length then (if 1 < bU (l.take 1) then .inl 41 else .inr (bU (l.take 1) == 1,1)) else .inl 40
def bZ(m:Nat)(l:List Int):Nat:=(bU (l.take m)).toNat
def bV(l:List Int):Int ⊕ Int × Nat:=if 1<=l.length then (if 1+bZ 1 l<=l.length then (if 0 < bZ 1 l/\nth (l.drop 1) 0=0 then .inl 41 else .inr (bU ((l.drop 1).take (bZ 1 l)),1+bZ 1 l)) else .inl 40) else .inl 40
theorem qh{α:Type}{r:Int ⊕ α × Nat}(h:err≠0):rdE r err=err:=by unfold rdE;rw[if_neg h]
theorem vI{α:Type}{r:Int ⊕ α × Nat}(h:err≠0):rdL r err l=l:=by unfold rdL;rw[if_neg h]
theorem vS{α:Type}{z:α}{r:Int ⊕ α × Nat}(h:err≠0):rdV z r err=z:=by unfold rdV;rw[if_neg h]
theorem Eb(m:Nat)(err:Int)(l:List Int):qC m err l=rdV 0 (cZ m l) err:=by
 unfold qC rdV cZ;by_cases h1:err=0<;>by_cases h2:m<=l.length<;>simp[h1,h2]
theorem ED(m:Nat)(err:Int)(l:List Int):pX m err l=rdE (cZ m l) err:=by
 unfold pX rdE cZ;by_cases h1:err=0<;>by_cases h2:m<=l.length<;>simp[h1,h2]
theorem D0(m:Nat)(err:Int)(l:List Int):qc m err l=rdL (cZ m l) err l:=by
 unfold qc rdL cZ;by_cases h1:err=0<;>by_cases h2:m<=l.length<;>simp[h1,h2]
theorem ByA.but{w':World}(h:ByA w b ao n c l){t:TypeId}(s:Box w g cs t)(hv:∀ v∈cs,∀ x,v≠.int .u8 x)(p:But g w w'):ByA w' b ao n c l:=by
 obtain⟨o,f,k,m,j,a⟩:=h.ex;refine⟨o,f,k,m,j,a.loc,fun i hi=>?_⟩;have hc:=a.cell i hi;refine p.cell hc (fun e=>?_);subst e;simp only[World.cell?,s.blk] at hc
 have d:cs.toArray[o+i]?=some (.int .u8 (nth l i)):=by simpa using hc
 rw[List.getElem?_toArray] at d;exact absurd rfl (hv _ (List.mem_of_getElem? d) _)
theorem RdA.back{w1:World}(e0:Int)(X:Box w g [.int .i64 0,.slice ao n c] 292)(A:ByA w b ao n c l)(a:But g w w1)(Y:Box w1 g [.int .i64 0,y] 292) :
  RdA ((w1.setCell ⟨g,1,none⟩ (.slice ao n c)).setCell ⟨g,0,none⟩ (.int .i64 e0)) g b e0 l/\But g w ((w1.setCell ⟨g,1,none⟩ (.slice ao n c)).setCell ⟨g,0,none⟩ (.int .i64 e0)):=by
 have H:But g w ((w1.setCell ⟨g,1,none⟩ (.slice ao n c)).setCell ⟨g,0,none⟩ (.int .i64 e0)):=⟨a.os,a.tape,a.output,by rw[size_set,size_set];exact a.size,fun k e d=>by rw[Below.heap_setCell _ _ _ k d,Below.heap_setCell _ _ _ k d];exact a.block k e d⟩
 exact⟨⟨ao,n,c,jP (e9 Y _) _,A.but X (lC _ _ _ _) H⟩,H⟩
theorem RdA.lt(h:RdA w g b err l):g < w.heap.size:=by
 obtain⟨_,_,_,X,_⟩:=h.ex;exact X.lt
theorem E4(h:RdA w g b 0 l)(hm:m<=l.length)(h8:m<=8) :
  Calls Tryz.prog 239 #[.pointer (some ⟨g,0,none⟩),.int .u64 m] w fun e w'=>e=.returned (.tuple #[.int .u64 (bU (l.take m)),.int .i64 0])/\RdA w' g b 0 (l.drop m)/\But g w w':=by
 obtain⟨f,n,c,X,A⟩:=h.ex;obtain⟨o,i,a,⟨j,-⟩,-,-⟩:=A.ex;refine(rdNum X A (by omega:m<=n) h8).mono ?_
 rintro e w' ⟨d,rfl⟩
 have H:But g w (w.setCell ⟨g,1,none⟩ (.slice (dk f c m) (n - m) (c - m))):=⟨rfl,rfl,rfl,by rw[size_set];exact Nat.le_refl _,fun k _ a=>Below.heap_setCell _ _ _ k a⟩
 exact⟨d,⟨_,_,_,e9 X _,(A.rest (by omega)).but X (lC _ _ _ _) H⟩,H⟩
theorem zL(h:RdA w g b 0 l)(hm:l.length < m) :
  Calls Tryz.prog 239 #[.pointer (some ⟨g,0,none⟩),.int .u64 m] w fun e w'=>e=.returned (.tuple #[.int .u64 0,.int .i64 40])/\w'=w:=by
 obtain⟨i,n,c,X,A⟩:=h.ex;obtain⟨o,d,f,⟨a,-⟩,-,-⟩:=A.ex;exact Be X (by omega) (by omega)
theorem Bm(h:RdA w g b 0 l)(hm:m<=l.length) :
  Calls Tryz.prog 250 #[.pointer (some ⟨g,0,none⟩),.int .u64 m] w fun e w'=>∃ ao,e=.returned (.tuple #[.slice ao m m,.int .i64 0])/\ByA w' b ao m m (l.take m)/\RdA w' g b 0 (l.drop m)/\But g w w':=by
 obtain⟨ao,n,c,X,A⟩:=h.ex;obtain⟨o,i,a,⟨f,-⟩,-,-⟩:=A.ex;refine(zQ X a f (by omega:m<=n)).mono ?_
 rintro e w' ⟨d,rfl⟩
 have H:But g w (w.setCell ⟨g,1,none⟩ (.slice (dk ao c m) (n - m) (c - m))):=⟨rfl,rfl,rfl,by rw[size_set];exact Nat.le_refl _,fun k _ a=>Below.heap_setCell _ _ _ k a⟩
 exact⟨ao,d,(A.front (by omega)).but X (lC _ _ _ _) H,⟨_,_,_,e9 X _,(A.rest (by omega)).but X (lC _ _ _ _) H⟩,H⟩
theorem DC(h:RdA w g b 0 l)(hm:l.length < m) :
  Calls Tryz.prog 250 #[.pointer (some ⟨g,0,none⟩),.int .u64 m] w fun e w'=>e=.returned (.tuple #[.slice none 0 0,.int .i64 40])/\w'=w:=by
 obtain⟨i,n,c,X,A⟩:=h.ex;obtain⟨o,d,f,⟨a,-⟩,-,-⟩:=A.ex;exact vG X (by omega) (by omega)
theorem RdA.oct(h:RdA w g b err l):bE l:=by
 obtain⟨_,_,_,_,A⟩:=h.ex;obtain⟨o,_,_,_,h4,_⟩:=A.ex;exact h4
theorem rm(h:RdA w g b err l):((bZ m l:Nat):Int)=bU (l.take m):=by
 unfold bZ;rw[Int.toNat_of_nonneg (bS (fun x hx=>h.oct x (List.mem_of_mem_take hx))).1]
theorem Di(h:RdA w g b 0 l) :
  Calls Tryz.prog 215 #[.pointer (some ⟨g,0,none⟩)] w fun e w'=>∃ v,e=.returned (.tuple #[v,.int .i64 (rdE (bJ l) 0)])/\∃ l1,RdA w' g b 0 l1/\But g w w'/\∀ x k,bJ l=.inr (x,k)->l1=l.drop k/\v=.bool x:=by
 by_cases f:1<=l.length
 ·have t:=E4 (m:=1) h f (by decide);by_cases hx:1 < bU (l.take 1)
  ·have c:bJ l=.inl 41:=by unfold bJ; rw[if_pos f,if_pos hx]
   have i:Hid (rdE (bJ l) 0=41):=by show _=_;rw[c];rfl
   have d:=(show Hid _ from c)
   clear c h
   have n:(bU (l.take 1) == 1)=false:=by rw[beq_eq_false_iff_ne];omega
   generalize bU (l.take 1)=X at *;go_enter Tryz.func215,Tryz.ntmps215;go_wp2_with fail;refine t.mono ?_
   rintro e p ⟨rfl,j,o⟩;clear t;go_wp2;go_ret2;exact⟨_,by rw[i.out];rfl,_,j,o,fun x k e=>by rw[d.out] at e;cases e⟩
  ·have c:bJ l=.inr (bU (l.take 1) == 1,1):=by unfold bJ; rw[if_pos f,if_neg hx]
   have i:Hid (rdE (bJ l) 0=0):=by show _=_;rw[c];rfl
   have d:=(show Hid _ from c)
   clear c h;generalize bU (l.take 1)=X at *
   have n:X<=1:=by omega
   clear hx;go_enter Tryz.func215,Tryz.ntmps215;go_wp2_with fail;refine t.mono ?_
   rintro e p ⟨rfl,j,o⟩;clear t;go_wp2;go_ret2;exact⟨_,by rw[i.out];rfl,_,j,o,fun x k e=>by rw[d.out] at e;cases e;exact⟨rfl,rfl⟩⟩
 ·have t:=zL (m:=1) h (by omega)
  have c:bJ l=.inl 40:=by unfold bJ;rw[if_neg f]
  have i:Hid (rdE (bJ l) 0=40):=by show _=_;rw[c];rfl
  have d:=(show Hid _ from c)
  have q:=(show Hid _ from h)
  clear c h f;go_enter Tryz.func215,Tryz.ntmps215;go_wp2_with fail;refine t.mono ?_
  rintro e p ⟨rfl,rfl⟩;clear t;go_wp2;go_ret2;exact⟨_,by rw[i.out];rfl,_,q.out,⟨rfl,rfl,rfl,Nat.le_refl _,fun _ _ _=>rfl⟩,fun x k e=>by rw[d.out] at e;cases e⟩
end
end
section
open Go.RowKit Lim
theorem cO (ao:Option Addr) (n c b o:Nat) (l:List Int) (w:World) (s:l.length=n) (F:n≤1099511627776) (p:ao=none→c=0) (r:AtB w ao b o l) :
    Calls Tryz.prog 212 #[.slice ao n c] w fun e w'=>∃ v,e=.returned v∧fL w' w.heap.size v l∧Below w.heap.size w w':=by
  obtain⟨i0,hi,q,z,B⟩:= info_parts mi
  have I:∀ (w:World) (a:Option Addr) (n c A t:Nat),(binOp .eql 87 (.slice a n c) (.slice none A t)).run Tryz.prog w=.ok (.bool a.isNone) w:=fun w a n c A t=>Lib.run_eql_slice_nil w _ _ a n c A t cN
  cases ao with
  | none =>
    have H : l = [] := by rcases r.loc with e | e
                          · exact e
                          · simp at e
    subst H
    have D:n=0:=s.symm;subst D;have C:=p rfl;subst C
    have d:w.ownsRow w.heap.size 5 1 (.slice none 0 0) 0 []:=World.ownsRow_nil _ _ _ _;go_enter Tryz.func212,Tryz.ntmps212;go_wp2;go_ret;exact⟨_,rfl,d,Below.refl _ _⟩
  | some x =>
    have E:=ae w (.cells #[] 5)
    have d:(w.alloc (.cells #[] 5)).ownsRow w.heap.size 5 1 (.slice (some ⟨w.heap.size,0,none⟩) 0 0) 0 []:=⟨rfl,.inr ⟨w.heap.size,0,#[],rfl,Nat.le_refl _,(iP w [] 5).blk,Nat.le_refl _,by decide,rfl,rfl⟩⟩
    have m:∀ j u,(l.map (Value.int .u8))[j]?=some u→(w.alloc (.cells #[] 5)).cell? (x.add j)=some u:=by
      intro j u hu;rw[List.getElem?_map] at hu
      have f:j < l.length:=by
        rcases Nat.lt_or_ge j l.length with f | f
        · exact f
        · rw[List.getElem?_eq_none f] at hu;simp at hu
      rw[List.getElem?_eq_getElem f] at hu;simp at hu;subst hu
      have hx:x=⟨b,o,none⟩:= by
        rcases r.loc with e | e
        · subst e;simp at f
        · simpa using e
      subst hx;have:=(r.keep E).cell j f;rw[b8 f] at this;rw[addr_add];exact this
    have y:=(show Hid _ from E);clear E;go_enter Tryz.func212,Tryz.ntmps212;go_wp2_with (at_builtin;refine wpList_append_own _ rfl _ _ 87 rfl w.heap.size 5 i0 (.int .u8 0) 1 1 cN hi q z B rfl (by decide) _ _ _ rfl d x n c (l.map (Value.int .u8)) rfl (by simp[s]) ?c1 ?c2 ?c3 ?c4 ?c5 ?_)
    case c1=>exact m
    case c2=>exact ints_oneCell _ _
    case c3=>unfold maxLen;omega
    case c4=>omega
    case c5=>exact y.out.size
    intro G J i g _;go_wp2;go_ret;refine⟨G,rfl,?_,y.out.grown g y.out.size (uf d)⟩;unfold fL;rw[s];simpa using i
theorem Bq {w:World} {g b m:Nat} {err:Int} {l:List Int} (h:RdA w g b err l) (hm:m<=l.length):((bZ m l:Nat):Int) < 256 ^ m:=by
 have:=(bS (l:=l.take m) (fun x hx=>h.oct x (List.mem_of_mem_take hx))).2;rw[List.length_take,Nat.min_eq_left hm] at this;rw[rm h];exact this
end
section
open Go.RowKit Lim
end
section
open Go.RowKit Lim
section
variable {l:List Int}{e0 err:Int}{w w':World}{g b G:Nat}{v:Value}
theorem Ay(h:bJ l=.inl e0):e0≠0:=by
 unfold bJ at h
 repeat' split at h
 all_goals (cases h;try decide)
theorem Ct(h:bV l=.inl e0):e0≠0:=by
 unfold bV at h
 repeat' split at h
 all_goals (cases h;try decide)
theorem enBo{α:Type}{z:α}{p:Int ⊕ α × Nat}{V:α->Value->World->Prop}(h:RdA w g b err l)(s:∀ e0,p=.inl e0->e0≠0)(j:∀ w',V z (.bool false) w')(t:err=0->Calls Tryz.prog 215 #[.pointer (some ⟨g,0,none⟩)] w fun e w'=>∃ v,e=.returned (.tuple #[v,.int .i64 (rdE p 0)])/\∃ l1,RdA w' g b 0 l1/\But g w w'/\∀ x k,p=.inr (x,k)->l1=l.drop k/\V x v w') :
  Calls Tryz.prog 214 #[.pointer (some ⟨g,0,none⟩),.func (.func 215) #[.pointer (some ⟨g,0,none⟩)] #[]] w fun e w'=>∃ v,e=.returned v/\V (rdV z p err) v w'/\RdA w' g b (rdE p err) (rdL p err l)/\But g w w':=by
 obtain⟨y,n,c,X,A⟩:=h.ex;by_cases he:err=0
 ·subst he
  match hq:p with
  | .inl e0 =>
   have f:e0≠0:=s e0 rfl
   have i:Calls Tryz.prog 215 #[.pointer (some ⟨g,0,none⟩)] w fun e w'=>∃ v,e=.returned (.tuple #[v,.int .i64 e0])/\∃ l1,RdA w' g b 0 l1/\But g w w':=(t rfl).mono (by
    rintro e w' ⟨v,e1,l1,a,d,-⟩
    exact⟨v,e1,l1,a,d⟩)
   refine(CR f X (fun v u r=>by
    obtain⟨l1,a,-⟩:=r;obtain⟨_,_,_,Y,_⟩:=a.ex
    exact⟨_,Y⟩) i).mono ?_
   rintro e w' ⟨e1,v,u,⟨l1,a,d⟩,rfl⟩;obtain⟨_,_,_,Y,_⟩:=a.ex;have H:=RdA.back e0 X A d Y;exact⟨_,e1,j _,H.1,H.2⟩
  | .inr (x,k) =>
   have i:Calls Tryz.prog 215 #[.pointer (some ⟨g,0,none⟩)] w fun e w'=>∃ v,e=.returned (.tuple #[v,.int .i64 0])/\(V x v w'/\RdA w' g b 0 (l.drop k)/\But g w w'):=(t rfl).mono (by
    rintro e w' ⟨v,e1,l1,a,d,q⟩;obtain⟨m,o⟩:=q x k rfl;subst m
    exact⟨v,e1,o,a,d⟩)
   exact enBoOk X i
 ·refine(CH X he).mono ?_
  rintro e w' ⟨rfl,rfl⟩;rw[vS he,qh he,vI he];exact⟨_,rfl,j _,h,But.refl _ _⟩
theorem enNa{α:Type}{z:α}{p:Int ⊕ α × Nat}{V:α->Value->World->Prop}(h:RdA w g b err l)(s:∀ e0,p=.inl e0->e0≠0)(j:∀ w',V z (.slice none 0 0) w')(t:err=0->Calls Tryz.prog 241 #[.pointer (some ⟨g,0,none⟩)] w fun e w'=>∃ v,e=.returned (.tuple #[v,.int .i64 (rdE p 0)])/\∃ l1,RdA w' g b 0 l1/\But g w w'/\∀ x k,p=.inr (x,k)->l1=l.drop k/\V x v w') :
  Calls Tryz.prog 240 #[.pointer (some ⟨g,0,none⟩),.func (.func 241) #[.pointer (some ⟨g,0,none⟩)] #[]] w fun e w'=>∃ v,e=.returned v/\V (rdV z p err) v w'/\RdA w' g b (rdE p err) (rdL p err l)/\But g w w':=by
 obtain⟨y,n,c,X,A⟩:=h.ex;by_cases he:err=0
 ·subst he
  match hq:p with
  | .inl e0 =>
   have f:e0≠0:=s e0 rfl
   have i:Calls Tryz.prog 241 #[.pointer (some ⟨g,0,none⟩)] w fun e w'=>∃ v,e=.returned (.tuple #[v,.int .i64 e0])/\∃ l1,RdA w' g b 0 l1/\But g w w':=(t rfl).mono (by
    rintro e w' ⟨v,e1,l1,a,d,-⟩
    exact⟨v,e1,l1,a,d⟩)
   refine(EI f X (fun v u r=>by
    obtain⟨l1,a,-⟩:=r;obtain⟨_,_,_,Y,_⟩:=a.ex
    exact⟨_,Y⟩) i).mono ?_
   rintro e w' ⟨e1,v,u,⟨l1,a,d⟩,rfl⟩;obtain⟨_,_,_,Y,_⟩:=a.ex;have H:=RdA.back e0 X A d Y;exact⟨_,e1,j _,H.1,H.2⟩
  | .inr (x,k) =>
   have i:Calls Tryz.prog 241 #[.pointer (some ⟨g,0,none⟩)] w fun e w'=>∃ v,e=.returned (.tuple #[v,.int .i64 0])/\(V x v w'/\RdA w' g b 0 (l.drop k)/\But g w w'):=(t rfl).mono (by
    rintro e w' ⟨v,e1,l1,a,d,q⟩;obtain⟨m,o⟩:=q x k rfl;subst m
    exact⟨v,e1,o,a,d⟩)
   exact enNaOk X i
 ·refine(Ds X he).mono ?_
  rintro e w' ⟨rfl,rfl⟩;rw[vS he,qh he,vI he];exact⟨_,rfl,j _,h,But.refl _ _⟩
theorem pFix_v{m:Nat}(h:RdA w g b err l):0<=rdV 0 (cZ m l) err/\rdV 0 (cZ m l) err < 256 ^ m:=by
 have c:(0:Int) < 256 ^ m:=Int.pow_pos (by decide);unfold rdV cZ;split
 ·split
  ·exact⟨Int.le_refl _,c⟩
  ·rename_i a;split at a
   ·cases a;have:=bS (l:=l.take m) (fun x hx=>h.oct x (List.mem_of_mem_take hx));rw[List.length_take,Nat.min_eq_left (by assumption)] at this;exact this
   ·cases a
 ·exact⟨Int.le_refl _,c⟩
theorem EY(h:RdA w g b err l) :
  Calls Tryz.prog 175 #[.pointer (some ⟨g,0,none⟩)] w fun e w'=>e=.returned (.int .u64 (rdV 0 (cZ 8 l) err))/\RdA w' g b (rdE (cZ 8 l) err) (rdL (cZ 8 l) err l)/\But g w w':=by
 have t:=DQ (m:=8) h (by decide);obtain⟨f,d⟩:=pFix_v (m:=8) h;rw[show (256:Int) ^ 8=18446744073709551616 by decide] at d;rw[Eb,ED,D0] at t;clear h;generalize rdV 0 (cZ 8 l) err=V at *;generalize rdE (cZ 8 l) err=E at *;generalize rdL (cZ 8 l) err l=R at *;go_enter Tryz.func175,Tryz.ntmps175;go_wp2_with fail;refine t.mono ?_
 rintro e i ⟨rfl,k1,c⟩;clear t;go_wp2;go_ret;exact⟨rfl,k1,c⟩
theorem rdBool(h:RdA w g b err l) :
  Calls Tryz.prog 177 #[.pointer (some ⟨g,0,none⟩)] w fun e w'=>e=.returned (.bool (rdV false (bJ l) err))/\RdA w' g b (rdE (bJ l) err) (rdL (bJ l) err l)/\But g w w':=by
 have t:=enBo (z:=false) (p:=bJ l) (V:=fun x v _=>v=.bool x) h (fun _=>Ay) (fun _=>rfl) (fun e=>by subst e;exact Di h);clear h;generalize rdV false (bJ l) err=V at *;generalize rdE (bJ l) err=E at *;generalize rdL (bJ l) err l=R at *;go_enter Tryz.func177,Tryz.ntmps177;go_wp2_with fail;refine t.mono ?_
 rintro e d ⟨v,rfl,rfl,k1,c⟩;clear t;go_wp2;go_ret;exact⟨rfl,k1,c⟩
theorem Slot.bx{t:TypeId}(s:Slot w g v t):Box w g [v] t:=⟨s.blk⟩
theorem RdA.put(h:RdA w g b err l){u:Value}{t:TypeId}(s:Slot w G v t)(d:G≠g)(hv:∀ x,v≠.int .u8 x):RdA (w.setCell ⟨G,0,none⟩ u) g b err l:=by
 obtain⟨e,n,c,X,A⟩:=h.ex;refine⟨e,n,c,⟨?_⟩,A.box s.bx (fun i a=>by rw[List.mem_singleton] at a;subst a;exact hv) fun k f=>Below.heap_setCell _ _ _ k f⟩;rw[Below.heap_setCell _ _ _ g d.symm];exact X.blk
theorem Slot.but{t:TypeId}(s:Slot w G v t)(h:But g w w')(hG:G≠g):Slot w' G v t:=⟨by
 rw[h.block G s.bx.lt hG]
 exact s.blk⟩
theorem But.put(h:But g w w')(c:w.heap.size<=G)(u:Value):But g w (w'.setCell ⟨G,0,none⟩ u):=⟨h.os,h.tape,h.output,by rw[size_set];exact h.size,fun k a b=>by rw[Below.heap_setCell _ _ _ k (by show k≠G;omega)];exact h.block k a b⟩
theorem rdLeft(h:RdA w g b err l) :
  Calls Tryz.prog 217 #[.pointer (some ⟨g,0,none⟩)] w fun e w'=>e=.returned (.int .i64 l.length)/\w'=w:=by
 obtain⟨f,n,c,X,A⟩:=h.ex;obtain⟨o,d,-⟩:=A.ex;subst d;obtain⟨c1,c2,c3,i⟩:=X.two;clear X A h;go_enter Tryz.func217,Tryz.ntmps217;go_wp2;go_ret;exact⟨rfl,rfl⟩
end
end
section
open Go.RowKit Lim
section
variable {w:World}{g b:Nat}{err:Int}{v:Value}{l:List Int}{ao:Option Addr}
theorem xP{e0:Int}{t:TypeId}(he:err≠0)(X:Box w g [.int .i64 err,v] t) :
  Calls Tryz.prog 218 #[.pointer (some ⟨g,0,none⟩),.int .i64 e0] w fun e w'=>e=.returned (.tuple #[])/\w'=w:=by
 have hb:(err == 0)=false:=beq_eq_false_iff_ne.2 he;have t:=fM X;rw[hb] at t;clear he hb X;go_enter Tryz.func218,Tryz.ntmps218;go_wp2_with fail;refine t.mono ?_
 rintro e w' ⟨rfl,rfl⟩;clear t;go_wp2;go_end0;exact⟨rfl,rfl⟩
def gz(err:Int)(l:List Int):Int:=if err=0 then (if l.length=0 then 0 else 43) else err
theorem EZ(h:RdA w g b err l)(o:l.length<=9223372036854775807) :
  Calls Tryz.prog 180 #[.pointer (some ⟨g,0,none⟩)] w fun e w'=>e=.returned (.int .i64 (gz err l))/\RdA w' g b (gz err l) l/\But g w w':=by
 have d:=rdLeft h;obtain⟨u,n,c,X,A⟩:=h.ex;obtain⟨c1,c2,c3,v⟩:=X.two;by_cases f:l.length=0
 ·have j:Hid (gz err l=err):=by
   show _=_
   unfold gz;by_cases he:err=0
   ·rw[if_pos he,if_pos f,he]
   ·rw[if_neg he]
  have m:=(show Hid _ from h)
  rw[f] at d;clear X A h f;go_enter Tryz.func180,Tryz.ntmps180;go_wp2_with fail;refine d.mono ?_
  rintro e w' ⟨rfl,rfl⟩;clear d;go_wp2;go_ret;rw[j.out];exact⟨rfl,m.out,But.refl _ _⟩
 ·have p:(0:Int) < l.length:=by omega
  by_cases he:err=0
  ·subst he
   have j:Hid (gz 0 l=43):=by show _=_;unfold gz;rw[if_pos rfl,if_neg f]
   have m:Hid (RdA (w.setCell ⟨g,0,none⟩ (.int .i64 43)) g b 43 l):=⟨u,n,c,jP X _,A.box X (lC _ _ _ _) fun k t=>Below.heap_setCell _ _ _ k t⟩
   have d1:=(jP X (.int .i64 43)).two.1
   have q:Hid (But g w (w.setCell ⟨g,0,none⟩ (.int .i64 43))):=⟨rfl,rfl,rfl,by rw[size_set];exact Nat.le_refl _,fun k _ r=>Below.heap_setCell _ _ _ k r⟩
   have i:=pW (e0:=43) X;clear X A h f;generalize l.length=L at *;go_enter Tryz.func180,Tryz.ntmps180;go_wp2_with fail;refine d.mono ?_
   rintro e w' ⟨rfl,rfl⟩;clear d;go_wp2_with fail;refine i.mono ?_
   rintro e s ⟨rfl,rfl⟩;clear i;go_wp2;go_ret;rw[j.out];exact⟨rfl,m.out,q.out⟩
  ·have j:Hid (gz err l=err):=by show _=_; unfold gz; rw[if_neg he]
   have i:=xP (e0:=43) he X;have m:=(show Hid _ from h)
   clear X A h f he;generalize l.length=L at *;go_enter Tryz.func180,Tryz.ntmps180;go_wp2_with fail;refine d.mono ?_
   rintro e w' ⟨rfl,rfl⟩;clear d;go_wp2_with fail;refine i.mono ?_
   rintro e s ⟨rfl,rfl⟩;clear i;go_wp2;go_ret;rw[j.out];exact⟨rfl,m.out,But.refl _ _⟩
theorem fL.bya{B:Nat}(h:fL w B v l)(d:bE l):∃ b ao c,v=.slice ao l.length c/\B<=b/\ByA w b ao l.length c l:=by
 obtain⟨_,f⟩:=h;rcases f with⟨rfl,h0⟩ | ⟨g,cap,cur,rfl,hB,hh,hle,hmx,hsz,htk⟩
 ·have e:l=[]:=List.eq_nil_of_length_eq_zero h0;subst e;exact⟨B,none,0,rfl,Nat.le_refl _,0,rfl,Nat.le_refl _,⟨by decide,fun _=>rfl⟩,d,.inl rfl,fun i hi=>by simp at hi⟩
 ·refine⟨g,_,_,rfl,hB,0,rfl,hle,⟨by unfold maxLen at hmx;omega,fun e=>by cases e⟩,d,.inr rfl,fun i hi=>?_⟩;simp only[World.cell?,hh]
  have e:cur[0+i]?=some (.int .u8 (nth l i)):=by
   have a:(cur.toList.take (l.length * 1))[i]?=some (.int .u8 (nth l i)):=by
    rw[htk,List.getElem?_map,List.getElem?_eq_getElem hi,b8 hi];rfl
   rw[List.getElem?_take] at a;split at a
   ·rw[Nat.zero_add,<- Array.getElem?_toList];exact a
   ·cases a
  simpa using e
theorem ER{n c:Nat}(A:ByA w b ao n c l)(f:n<=1099511627776) :
  Calls Tryz.prog 173 #[.slice ao n c] w fun e w'=>∃ g b',e=.returned (.pointer (some ⟨g,0,none⟩))/\w.heap.size<=g/\w.heap.size<=b'/\RdA w' g b' 0 l/\Below w.heap.size w w':=by
 obtain⟨o,m,C,x,q,r⟩:=A.ex;have t:=cO ao n c b o l w m f x.2 r;have B:=(show Hid _ from q)
 clear m C x q r A;go_enter Tryz.func173,Tryz.ntmps173;go_wp2_with fail;refine t.mono ?_
 rintro e z ⟨v,rfl,p,y⟩;obtain⟨b',d,s,rfl,i,hA⟩:=p.bya B.out;have D:=(show Hid _ from hA)
 have u:=(show Hid _ from y)
 have j:=(show Hid _ from i)
 clear t p y hA i;go_wp2;go_ret;exact⟨z.heap.size,b',rfl,u.out.size,j.out,⟨d,_,s,iP z [.int .i64 0,.slice d l.length s] _,D.out.keep (ae _ _)⟩,aA u.out (ae _ _)⟩
end
end
section
open Pg (ay aQ bR aM bG)
open Go.RowKit Lim
section
variable {w:World}{g:Nat}{L:List Int}{o:Oper}{a:Act}{X:Int}{v:Value}{lo' hi':Option Value}{cur:List Value}
theorem wrOutE{err:Int}(X:WrA w g err L)(he:err≠0) :
  Calls Tryz.prog 159 #[.pointer (some ⟨g,0,none⟩)] w fun e w'=>e=.returned (.tuple #[.slice none 0 0,.int .i64 err])/\Below w.heap.size w w':=by
 obtain⟨p,ps,c,u,b,-⟩:=X.ex;have t:=kx b.c0;have c0:=b.c0;rw[beq_eq_false_iff_ne.2 he] at t;clear X b he;go_enter Tryz.func159,Tryz.ntmps159;go_wp2_with fail;refine t.mono ?_
 rintro e d ⟨rfl,rfl⟩;clear t;go_wp2_with fail;go_quiet (fail);go_wp2;go_ret2;exact⟨rfl,below_drewN (Below.refl _ _) _⟩
theorem ic{o:Nat}{x:Int}(c:w.cell? ⟨g,o,none⟩=some (.int .i64 x)):(loadVar 3 ⟨g,o,none⟩).run Tryz.prog w=.ok (.int .i64 x) w:=by
 go_simp
theorem Cn(x y:Nat){Y:Int}(b:o.op=.binOp .add 3 (.tmp x) (.tmp y) 3)(hx:a.eval (.tmp x)=.int .i64 X)(hy:a.eval (.tmp y)=.int .i64 Y)(d:0<=X+Y)(c:X+Y<=9223372036854775807):(execOp a.eval o).run Tryz.prog w=.ok (.value (.int .i64 (X+Y))) w:=by
 simp only[execOp,b,hx,hy];go_simp;simp[IntKind.wrap,IntKind.bits,IntKind.signed];omega
theorem Dh{x N:Nat}(d:o.op=.makeSlice 87 (.tmp x) (.tmp x))(hx:a.eval (.tmp x)=.int .i64 X)(hX:X=(N:Int))(e:N<=17592186044416):(execOp a.eval o).run Tryz.prog w=.ok (.value (.slice (some ⟨w.heap.size,0,none⟩) N N)) (w.alloc (.cells ((List.replicate N 0).map (Value.int .u8)).toArray 5)):=by
 subst hX;obtain⟨i,hi,c,hs,hb⟩:=info_parts mi;have b:=run_make (P:=Tryz.prog) w 87 5 i (.int .u8 0) cN hi c .i64 .i64 (N:Int) (N:Int) (by omega) (by omega) (by rw[hb];omega) (by omega);simp only[execOp,d,hx];simp[b,Result.andThen,hs,vU]
theorem sB(g u:Nat)(h:u<=256)(W:World):(Instr.sliceAt 228 (.pointer (some ⟨g,3,none⟩)) none (some (.int .i64 (u:Int))) none).run Tryz.prog W=.ok (.slice (some ⟨g,3,none⟩) u 256) W:=by
 have b:(u:Int)<=256:=by omega
 go_simp
theorem qF(g:Nat)(W:World):(Instr.sliceAt 228 (.pointer (some ⟨g,1,none⟩)) none none none).run Tryz.prog W=.ok (.slice (some ⟨g,1,none⟩) 256 256) W:=by
 go_simp
theorem qK{T:TypeId}(x:Operand)(lo hi:Option Operand){X:Value}(d:o.op=.slice T x lo hi none)(hx:a.eval x=X)(c:lo.map a.eval=lo')(b:hi.map a.eval=hi')(h:(Instr.sliceAt T X lo' hi' none).run Tryz.prog w=.ok v w):(execOp a.eval o).run Tryz.prog w=.ok (.value v) w:=by
 subst hx;subst c;subst b;simp only[execOp,d,Option.map_none];simp[h,Result.andThen]
theorem A9(d s:Nat)(h:o.op=.call { callee:=.builtin .copy,args:=#[.tmp d,.tmp s],argTypes:=#[87,87] }){off dLen dCap sLen sCap:Nat}{ad:Addr}(hd:a.eval (.tmp d)=.slice (some ⟨g,off,none⟩) dLen dCap)(hs:a.eval (.tmp s)=.slice (some ad) sLen sCap){t:TypeId}(i:Box w g cur t)(cs:List Value)(m:Nat)(hm:cs.length=m)(hn:m=Nat.min sLen dLen)(c:∀ j v,cs[j]?=some v->w.cell? (ad.add j)=some v)(e:off+m<=cur.length)(f:∀ v∈cs,v.oneCell'=true) :
  (execOp a.eval o).run Tryz.prog w=.ok (.value (.int .i64 (m:Int))) (w.setRow g (splice cur off cs).toArray):=by
 subst hm;have b:=run_copy_row (P:=Tryz.prog) w 87 87 o.type 5 g off dLen dCap ad sLen sCap cur.toArray t cs cN vZ i.blk hn c (by simpa using e) f;simp[execOp,h,resolve,invoke,builtin,hd,hs,b,Result.andThen,splice,goInt]
theorem Ak(X:WrA w g 0 L)(A:L.length<=17592186044416) :
  Calls Tryz.prog 159 #[.pointer (some ⟨g,0,none⟩)] w fun e w'=>e=.returned (.tuple #[.slice (some ⟨w.heap.size,0,none⟩) L.length L.length,.int .i64 0])/\Box w' w.heap.size (L.map (Value.int .u8)) 5/\Below w.heap.size w w':=by
 obtain⟨p,ps,f,u,D,P0,hu,hL⟩:=X.ex;have t:=kx D.c0
 have hlen:L.length=ps.length+u:=by rw[hL,List.length_append,List.length_take,D.len];omega
 obtain⟨N,F⟩:∃ N,N=L.length:=⟨_,rfl⟩
 rw[<- F] at hlen A ⊢;have HL:=(show Hid _ from hL)
 have HP:=(show Hid _ from P0)
 have HN:=(show Hid _ from F)
 have Q:=(show Hid _ from hlen)
 have hps:ps.length<=17592186044416:=by omega
 clear X hL P0 F hlen;go_enter Tryz.func159,Tryz.ntmps159;go_wp2_with fail;refine t.mono ?_
 rintro e d ⟨rfl,rfl⟩;clear t;go_wp2_with fail
 have r:db d.drew g 0 p (ps.length:Int) f (u:Int):=⟨D.len,D.blk⟩
 refine bR (S:=fun w'=>db w' g 0 p (ps.length:Int) f (u:Int)) (by kernel_rfl) r ?_
 refine ay 0 (some 17) (.pointer (some ⟨g,0,none⟩)) (by kernel_rfl) (fun _ _=>by kernel_rfl) (fun _ _ _ h=>h) r ?_
 refine ay 1 (some 18) (.pointer (some ⟨g,0,none⟩)) (by kernel_rfl) (fun _ _=>by kernel_rfl) (fun _ _ _ h=>h) r ?_
 refine ay 2 (some 19) (.pointer (some ⟨g,2,none⟩)) (by kernel_rfl) (fun _ _=>by kernel_rfl) (fun _ _ _ h=>h) r ?_
 refine aQ 3 (some 20) (.int .i64 (ps.length:Int)) 3 19 g 2 (by kernel_rfl) (by kernel_rfl) (by kernel_rfl) (fun w' h=>ic h.c2) (fun _ _ _ h=>h) r ?_
 refine ay 4 (some 21) (.pointer (some ⟨g,0,none⟩)) (by kernel_rfl) (fun _ _=>by kernel_rfl) (fun _ _ _ h=>h) r ?_
 refine ay 5 (some 22) (.pointer (some ⟨g,0,none⟩)) (by kernel_rfl) (fun _ _=>by kernel_rfl) (fun _ _ _ h=>h) r ?_
 refine ay 6 (some 23) (.pointer (some ⟨g,259,none⟩)) (by kernel_rfl) (fun _ _=>by kernel_rfl) (fun _ _ _ h=>h) r ?_
 refine aQ 7 (some 24) (.int .i64 (u:Int)) 3 23 g 259 (by kernel_rfl) (by kernel_rfl) (by kernel_rfl) (fun w' h=>ic h.cu) (fun _ _ _ h=>h) r ?_
 refine ay 8 (some 25) (.int .i64 ((ps.length:Int)+(u:Int))) (by kernel_rfl) (fun _ _=>Cn 20 24 (by kernel_rfl) (by kernel_rfl) (by kernel_rfl) (by omega) (by omega)) (fun _ _ _ h=>h) r ?_
 refine aM [9] (by kernel_rfl) (by simp) ?_
 have z:db (d.drew.alloc (.cells ((List.replicate N 0).map (Value.int .u8)).toArray 5)) g 0 p (ps.length:Int) f (u:Int):=r.keep (ae _ _);refine bG 9 (some 26) (.slice (some ⟨d.heap.size,0,none⟩) N N) (d.drew.alloc (.cells ((List.replicate N 0).map (Value.int .u8)).toArray 5)) (by kernel_rfl) (Dh (x:=25) (N:=N) (X:=(ps.length:Int)+(u:Int)) (by kernel_rfl) (by kernel_rfl) (by have:=Q.out;omega) A) z ?_ aZ;refine ay 10 (some 4) (.slice (some ⟨d.heap.size,0,none⟩) N N) (by kernel_rfl) (fun _ _=>by kernel_rfl) (fun _ _ _ h=>h) z ?_
 refine bM (by kernel_rfl) ?_
 try simp only[Act.put,List.setIfInBounds_toArray,List.set_cons_zero,List.set_cons_succ]
 have hg:=D.lt
 have U:Box (d.drew.alloc (.cells ((List.replicate N 0).map (Value.int .u8)).toArray 5)) d.heap.size ((List.replicate N 0).map (Value.int .u8)) 5:=iP d.drew _ _
 have T:Hid (Below d.heap.size d (d.drew.alloc (.cells ((List.replicate N 0).map (Value.int .u8)).toArray 5))):=(Below.refl d.heap.size d).drew.trans (ae d.drew _);clear r;generalize d.drew.alloc (.cells ((List.replicate N 0).map (Value.int .u8)).toArray 5)=V at *;have aa:=(show Hid _ from D)
 clear D;have c2:=z.c2;have cu:=z.cu;obtain⟨off,n⟩:∃ off,off=if u=0 then 0 else ps.length:=⟨_,rfl⟩
 have y:∀ W,(Instr.sliceAt 87 (.slice (some ⟨d.heap.size,0,none⟩) N N) (some (.int .i64 (ps.length:Int))) none none).run Tryz.prog W=.ok (.slice (some ⟨d.heap.size,off,none⟩) u u) W:=fun W=>by
  have hh:=Q.out;rw[sliceB _ N N ps.length W (by omega) (Nat.le_refl _),show N - ps.length=u by omega,n];unfold dk;by_cases o:u=0
  ·rw[if_pos (by omega),if_pos o]
  ·rw[if_neg (by omega),if_neg o]
   show Result.ok (Value.slice (some ((⟨d.heap.size,0,none⟩:Addr).add ps.length)) u u) W=_
   rw[addr_add,Nat.zero_add]
 have s:=sB g u (by omega)
 have I:Hid (splice ((List.replicate N (0:Int)).map (Value.int .u8)) off ((f.take u).map (Value.int .u8))=(List.replicate ps.length 0 ++ f.take u).map (Value.int .u8)):=by
  have hh:=Q.out;have hl:=z.len
  show _=_
  unfold splice;by_cases o:u=0
  ·rw[n,if_pos o];subst o;simp;omega
  ·rw[n,if_neg o,List.length_map,List.length_take,hl];rw[List.drop_eq_nil_of_le (by simp;omega)];simp;omega
 have H:=(show Hid _ from n)
 have ab:=(show Hid _ from z.len)
 clear n;go_wp2_with fail
 have m:db V.drew g 0 p (ps.length:Int) f (u:Int):=⟨z.len,z.blk⟩
 refine bR (S:=fun w'=>db w' g 0 p (ps.length:Int) f (u:Int)) (by kernel_rfl) m ?_
 refine ay 0 (some 27) (.slice (some ⟨d.heap.size,0,none⟩) N N) (by kernel_rfl) (fun _ _=>by kernel_rfl) (fun _ _ _ h=>h) m ?_
 refine ay 1 (some 28) (.pointer (some ⟨g,0,none⟩)) (by kernel_rfl) (fun _ _=>by kernel_rfl) (fun _ _ _ h=>h) m ?_
 refine ay 2 (some 29) (.pointer (some ⟨g,0,none⟩)) (by kernel_rfl) (fun _ _=>by kernel_rfl) (fun _ _ _ h=>h) m ?_
 refine ay 3 (some 30) (.pointer (some ⟨g,2,none⟩)) (by kernel_rfl) (fun _ _=>by kernel_rfl) (fun _ _ _ h=>h) m ?_
 refine aQ 4 (some 31) (.int .i64 (ps.length:Int)) 3 30 g 2 (by kernel_rfl) (by kernel_rfl) (by kernel_rfl) (fun w' h=>ic h.c2) (fun _ _ _ h=>h) m ?_
 refine ay 5 (some 32) (.slice (some ⟨d.heap.size,off,none⟩) u u) (by kernel_rfl) (fun w' _=>qK (.tmp 27) (some (.tmp 31)) none (by kernel_rfl) (by kernel_rfl) (by kernel_rfl) (by kernel_rfl) (y w')) (fun _ _ _ h=>h) m ?_
 refine ay 6 (some 33) (.pointer (some ⟨g,0,none⟩)) (by kernel_rfl) (fun _ _=>by kernel_rfl) (fun _ _ _ h=>h) m ?_
 refine ay 7 (some 34) (.pointer (some ⟨g,0,none⟩)) (by kernel_rfl) (fun _ _=>by kernel_rfl) (fun _ _ _ h=>h) m ?_
 refine ay 8 (some 35) (.pointer (some ⟨g,3,none⟩)) (by kernel_rfl) (fun _ _=>by kernel_rfl) (fun _ _ _ h=>h) m ?_
 refine ay 9 (some 36) (.pointer (some ⟨g,0,none⟩)) (by kernel_rfl) (fun _ _=>by kernel_rfl) (fun _ _ _ h=>h) m ?_
 refine ay 10 (some 37) (.pointer (some ⟨g,0,none⟩)) (by kernel_rfl) (fun _ _=>by kernel_rfl) (fun _ _ _ h=>h) m ?_
 refine ay 11 (some 38) (.pointer (some ⟨g,259,none⟩)) (by kernel_rfl) (fun _ _=>by kernel_rfl) (fun _ _ _ h=>h) m ?_
 refine aQ 12 (some 39) (.int .i64 (u:Int)) 3 38 g 259 (by kernel_rfl) (by kernel_rfl) (by kernel_rfl) (fun w' h=>ic h.cu) (fun _ _ _ h=>h) m ?_
 refine ay 13 (some 40) (.slice (some ⟨g,3,none⟩) u 256) (by kernel_rfl) (fun w' _=>qK (.tmp 35) none (some (.tmp 39)) (by kernel_rfl) (by kernel_rfl) (by kernel_rfl) (by kernel_rfl) (s w')) (fun _ _ _ h=>h) m ?_
 refine aM [14] (by kernel_rfl) (by simp) ?_
 have O:db (V.drew.setRow d.heap.size (splice ((List.replicate N (0:Int)).map (Value.int .u8)) off ((f.take u).map (Value.int .u8))).toArray) g 0 p (ps.length:Int) f (u:Int):=m.off (g':=d.heap.size) (by omega) (fun k hk=>setRow_other _ _ k _ hk)
 refine bG 14 (some 41) (.int .i64 (u:Int)) (V.drew.setRow d.heap.size (splice ((List.replicate N (0:Int)).map (Value.int .u8)) off ((f.take u).map (Value.int .u8))).toArray) (by kernel_rfl) (A9 32 40 (by kernel_rfl) (g:=d.heap.size) (off:=off) (dLen:=u) (dCap:=u) (sLen:=u) (sCap:=256) (ad:=⟨g,3,none⟩) (by kernel_rfl) (by kernel_rfl) U.drew ((f.take u).map (Value.int .u8)) u (by have:=ab.out; simp; omega) (Nat.min_self u).symm (fun j v P=>by
  obtain⟨h1,h2⟩:=List.getElem?_eq_some_iff.1 P;rw[List.length_map,List.length_take] at h1;rw[addr_add,<- h2,List.getElem_map,List.getElem_take,<- b8 (l:=f) (by omega)]
  exact m.cl j (by omega)) (by have:=Q.out;have:=H.out;rw[List.length_map,List.length_replicate,this];split<;>omega) (ints_oneCell _ _)) O ?_ aZ
 refine bM (by kernel_rfl) ?_
 try simp only[Act.put,List.setIfInBounds_toArray,List.set_cons_zero,List.set_cons_succ]
 have B4:Box (V.drew.setRow d.heap.size (splice ((List.replicate N (0:Int)).map (Value.int .u8)) off ((f.take u).map (Value.int .u8))).toArray) d.heap.size ((List.replicate ps.length 0 ++ f.take u).map (Value.int .u8)) 5:=by
  have:=U.drew.row (ds:=splice ((List.replicate N (0:Int)).map (Value.int .u8)) off ((f.take u).map (Value.int .u8)));rw[I.out] at this ⊢;exact this
 have J:Hid (Below d.heap.size d (V.drew.setRow d.heap.size (splice ((List.replicate N (0:Int)).map (Value.int .u8)) off ((f.take u).map (Value.int .u8))).toArray)):=px T.out.drew (Nat.le_refl _) _;generalize V.drew.setRow d.heap.size (splice ((List.replicate N (0:Int)).map (Value.int .u8)) off ((f.take u).map (Value.int .u8))).toArray=w4 at *;have G:=(show Hid _ from B4)
 clear c2 cu y s U z m B4;have c2:=O.c2;have c1:=O.c1;go_wp2_with fail;go_loopw [5,6] (fun ta tp wr=>∃ q rest fin,tp=.pointer q/\Hid (Pc d q rest)/\Hid (L=rest ++ fin)/\ta=.int .i64 (rest.length:Int)/\Hid (Box wr d.heap.size ((List.replicate rest.length 0 ++ fin).map (Value.int .u8)) 5)/\Hid (Below d.heap.size d wr)) (fun ta _ _=>(intOf ta).toNat)
 case atStart=>exact⟨p,ps,f.take u,rfl,HP.out,HL.out,rfl,G.out,J.out⟩
 case round =>
  clear c2 c1 O G J aa I H;obtain⟨q,rest,fin,rfl,hP,hE,rfl,hB,E⟩:=hrel
  have hP':=hP.out
  cases hP' with
  | nil =>
   have HF:Hid (Box wr d.heap.size (L.map (Value.int .u8)) 5):=by rw[hE.out];exact hB.out
   go_wp2;go_ret2;exact⟨rfl,HF.out,E.out⟩
  | cons hb hbl hp2 =>
   rename_i b p' c i;have C:=hb.keep (E.out.mono (Nat.le_refl _))
   have B:(((c ++ i).length:Nat):Int)=(c.length:Int)+256:=by rw[List.length_append,hbl];rfl
   have F:c.length+256+fin.length=N:=by rw[HN.out,hE.out,List.length_append,List.length_append,hbl]
   rw[B]
   have y:∀ W,(Instr.sliceAt 87 (.slice (some ⟨d.heap.size,0,none⟩) N N) (some (.int .i64 (c.length:Int))) none none).run Tryz.prog W=.ok (.slice (some ⟨d.heap.size,c.length,none⟩) (N - c.length) (N - c.length)) W:=fun W=>by
    rw[sliceB _ N N c.length W (by omega) (Nat.le_refl _)];unfold dk;rw[if_neg (by omega)]
    show Result.ok (Value.slice (some ((⟨d.heap.size,0,none⟩:Addr).add c.length)) _ _) W=_
    rw[addr_add,Nat.zero_add]
   have s:=qF b
   have M:Hid (splice ((List.replicate (c ++ i).length (0:Int) ++ fin).map (Value.int .u8)) c.length (i.map (Value.int .u8))=(List.replicate c.length 0 ++ (i ++ fin)).map (Value.int .u8)):=by
    show _=_
    unfold splice;rw[List.length_map,hbl,List.length_append,hbl,<- List.map_take,<- List.map_drop,List.take_append_of_le_length (by simp),List.drop_append_of_le_length (by simp),List.drop_eq_nil_of_le (by simp),List.take_replicate,Nat.min_eq_left (by omega)];simp
   have Z:Hid (L=c ++ (i ++ fin)):=by show _=_;rw[hE.out,List.append_assoc]
   have K:=(show Hid _ from F)
   have Hb:=(show Hid _ from hbl)
   clear F hbl B
   have hpl:c.length<=17592186044416:=by have:=K.out;omega
   go_wp2_with fail;refine bR (S:=fun _=>True) (by kernel_rfl) trivial ?_
   refine ay 0 (some 58) (.slice (some ⟨d.heap.size,0,none⟩) N N) (by kernel_rfl) (fun _ _=>by kernel_rfl) (fun _ _ _ h=>h) trivial ?_
   refine ay 1 (some 59) (.int .i64 (c.length:Int)) (by kernel_rfl) (fun _ _=>by kernel_rfl) (fun _ _ _ h=>h) trivial ?_
   refine ay 2 (some 60) (.slice (some ⟨d.heap.size,c.length,none⟩) (N - c.length) (N - c.length)) (by kernel_rfl) (fun w' _=>qK (.tmp 58) (some (.tmp 59)) none (by kernel_rfl) (by kernel_rfl) (by kernel_rfl) (by kernel_rfl) (y w')) (fun _ _ _ h=>h) trivial ?_
   refine ay 3 (some 61) (.pointer (some ⟨b,0,none⟩)) (by kernel_rfl) (fun _ _=>by kernel_rfl) (fun _ _ _ h=>h) trivial ?_
   refine ay 4 (some 62) (.pointer (some ⟨b,0,none⟩)) (by kernel_rfl) (fun _ _=>by kernel_rfl) (fun _ _ _ h=>h) trivial ?_
   refine ay 5 (some 63) (.pointer (some ⟨b,1,none⟩)) (by kernel_rfl) (fun _ _=>by kernel_rfl) (fun _ _ _ h=>h) trivial ?_
   refine ay 6 (some 64) (.slice (some ⟨b,1,none⟩) 256 256) (by kernel_rfl) (fun w' _=>qK (.tmp 63) none none (by kernel_rfl) (by kernel_rfl) (by kernel_rfl) (by kernel_rfl) (s w')) (fun _ _ _ h=>h) trivial ?_
   refine aM [7] (by kernel_rfl) (by simp) ?_
   have R:b≠d.heap.size:=by have:=hb.lt;omega
   refine bG 7 (some 65) (.int .i64 ((256:Nat):Int)) (wr.drew.setRow d.heap.size (splice ((List.replicate (c ++ i).length (0:Int) ++ fin).map (Value.int .u8)) c.length (i.map (Value.int .u8))).toArray) (by kernel_rfl) (A9 60 64 (by kernel_rfl) (g:=d.heap.size) (off:=c.length) (dLen:=N - c.length) (dCap:=N - c.length) (sLen:=256) (sCap:=256) (ad:=⟨b,1,none⟩) (by kernel_rfl) (by kernel_rfl) hB.out.drew (i.map (Value.int .u8)) 256 (by rw[List.length_map]; exact Hb.out) (Nat.min_eq_left (by have:=K.out; omega)).symm (fun j v P=>by
    obtain⟨h1,h2⟩:=List.getElem?_eq_some_iff.1 P;have h3:=C.drew.blk;rw[addr_add,Nat.add_comm 1 j];simp only[World.cell?,h3]
    simpa using P) (by have:=Hb.out;simp;omega) (ints_oneCell _ _)) trivial ?_ aZ
   refine bM (by kernel_rfl) ?_
   try simp only[Act.put,List.setIfInBounds_toArray,List.set_cons_zero,List.set_cons_succ]
   have B5:Hid (Box (wr.drew.setRow d.heap.size (splice ((List.replicate (c ++ i).length (0:Int) ++ fin).map (Value.int .u8)) c.length (i.map (Value.int .u8))).toArray) d.heap.size ((List.replicate c.length 0 ++ (i ++ fin)).map (Value.int .u8)) 5):=by
    have:=hB.out.drew.row (ds:=splice ((List.replicate (c ++ i).length (0:Int) ++ fin).map (Value.int .u8)) c.length (i.map (Value.int .u8)));rw[M.out] at this ⊢;exact this
   have ac:Hid (Below d.heap.size d (wr.drew.setRow d.heap.size (splice ((List.replicate (c ++ i).length (0:Int) ++ fin).map (Value.int .u8)) c.length (i.map (Value.int .u8))).toArray)):=px E.out.drew (Nat.le_refl _) _;have X5:=C.drew.off (g':=d.heap.size) R (fun k hk=>setRow_other wr.drew d.heap.size k (splice ((List.replicate (c ++ i).length (0:Int) ++ fin).map (Value.int .u8)) c.length (i.map (Value.int .u8))).toArray hk);clear y s C M;generalize (wr.drew.setRow d.heap.size (splice ((List.replicate (c ++ i).length (0:Int) ++ fin).map (Value.int .u8)) c.length (i.map (Value.int .u8))).toArray)=w5 at *
   have cb:w5.cell? ⟨b,0,none⟩=some (.pointer p'):=by
    have:=X5.blk;simp[World.cell?,this]
   have Y:=(show Hid _ from hp2)
   clear X5 hb hp2;go_wp2;go_roundw
   case rel=>exact⟨p',c,i ++ fin,rfl,Y.out,Z.out,rfl,B5.out,ac.out⟩
   case measure=>simp[intOf];omega
end
end
section
open Go.RowKit Lim
section
variable {w w':World}{b g:Nat}{ao:Option Addr}{l:List Int}
theorem rp:Tryz.zeroCells230=(dU 0 none 0 (List.replicate 256 0) 0).toArray:=by kernel_rfl
theorem AZ(w:World):WrA (w.alloc (.cells Tryz.zeroCells230 230)) w.heap.size 0 []:=by
 rw[rp];exact⟨none,[],List.replicate 256 0,0,⟨by rw[List.length_replicate],(iP w _ _).blk⟩,.nil,by decide,by simp⟩
theorem ByA.butN{n c:Nat}(h:ByA w b ao n c l)(hb:b≠g)(hB:But g w w'):ByA w' b ao n c l:=by
 obtain⟨o,h1,h2,h3,h4,h5⟩:=h.ex;exact⟨o,h1,h2,h3,h4,h5.loc,fun i hi=>hB.cell (h5.cell i hi) hb⟩
theorem RdA.offW{g':Nat}{err:Int}(h:RdA w g b err l)(a:g≠g')(hb:b≠g')(d:But g' w w'):RdA w' g b err l:=by
 obtain⟨e,n,c,X,A⟩:=h.ex;exact⟨e,n,c,⟨by rw[d.block g X.lt a];exact X.blk⟩,A.butN hb d⟩
theorem lO{V:Int}(hV:0<=V)(h:IsB l V):dX V=l:=nP (qB hV) h
theorem natB_0:dX 0=[]:=lO (by decide) ⟨fun x hx=>by simp at hx,fun h=>absurd rfl h,rfl⟩
end
end
section
namespace Rc
open Go.RowKit Go.Lib Pg
attribute [local go_sem] Oper.semAt_some
section
variable {G:Nat→Prop}{rb sb n cc:Nat}{f1 f2 f3:FuncId}{c:Value}{kd:Nat→Nat}{offs:List Nat}{w:World}
theorem aC{p:Prop}(h:p):Hid p:=h
theorem dv(w:World)(o:Obj):(w.alloc o).heap.size=w.heap.size+1:=by
 show (w.heap.push o).size=_
 simp
theorem fA(w:World):Below w.heap.size w w.drew:=⟨rfl,rfl,rfl,Nat.le_refl _,fun _ _=>rfl⟩
structure HC(σ:Type)(Inv:σ->World->Prop)(G:Nat->Prop)(rb:Nat)(f1 f2 f3:FuncId)(c:Value)(nx:Nat->Nat->σ->σ)(kd:Nat->Nat)(ok:σ->Prop):Prop where
 oks:∀ k o s,ok (nx k o s)->ok s
 keep:∀ s w w',Inv s w->Below w.heap.size w w'->Inv s w'
 old:∀ s w b,Inv s w->G b->b < w.heap.size
 e1:∀ args w,(callFunc f1 args).run Tryz.prog w=.ok (.enter f1 args) w
 e2:∀ args w,(callFunc f2 args).run Tryz.prog w=.ok (.enter f2 args) w
 e3:∀ args w,(callFunc f3 args).run Tryz.prog w=.ok (.enter f3 args) w
 u:∀ s w o,Inv s w->ok (nx 0 o s)->kd o=0->Calls Tryz.prog f1 #[.pointer (some ⟨rb,o,none⟩),c] w fun e w'=>e=.returned (.tuple #[])/\Inv (nx 0 o s) w'/\Chg G w w'
 t:∀ s w o,Inv s w->ok (nx 1 o s)->kd o=1->Calls Tryz.prog f2 #[.pointer (some ⟨rb,o,none⟩),c] w fun e w'=>e=.returned (.tuple #[])/\Inv (nx 1 o s) w'/\Chg G w w'
 d:∀ s w o,Inv s w->ok (nx 2 o s)->kd o=2->Calls Tryz.prog f3 #[.pointer (some ⟨rb,o,none⟩),c] w fun e w'=>e=.returned (.tuple #[])/\Inv (nx 2 o s) w'/\Chg G w w'
theorem HC.okf{σ:Type}{Inv:σ->World->Prop}{G:Nat->Prop}{nx:Nat->Nat->σ->σ}{kd:Nat->Nat}{ok:σ->Prop}(H:HC σ Inv G rb f1 f2 f3 c nx kd ok)(k:Nat)(l:List Nat):∀ s,ok (l.foldl (fun s o=>nx k o s) s)->ok s:=by
 induction l with
 | nil=>exact fun _ h=>h
 | cons o l ih=>exact fun s h=>H.oks _ _ _ (ih _ h)
structure Ex(σ:Type)(Inv:σ->World->Prop)(G:Nat->Prop)(s:σ)(w:World)(e:Ending)(w':World):Prop where
 ret:e=.returned (.tuple #[])
 inv:Inv s w'
 chg:Chg G w w'
theorem lF{σ:Type}{Inv:σ→World→Prop}{nx:Nat→Nat→σ→σ}{ok:σ→Prop}{s:σ}(H:HC σ Inv G rb f1 f2 f3 c nx kd ok)(r:Inv s w)(hb:Blk w sb (offs.map fun o=>.pointer (some ⟨rb,o,none⟩)) 232)(x:¬ G sb)(q:∀ o ∈ offs,kd o=0)(b:ok (offs.foldl (fun s o=>nx 0 o s) s))(hn:offs.length=n)(O:n≤1000) :
    Calls Tryz.prog 160 #[.agg #[.func (.func f1) #[] #[c],.func (.func f2) #[] #[c],.func (.func f3) #[] #[c]],.slice (some ⟨sb,0,none⟩) n cc] w (Ex σ Inv G (offs.foldl (fun s o=>nx 0 o s) s) w):=by
  have al:=ae w (.cells #[.func (.func f1) #[] #[c],.func (.func f2) #[] #[c],.func (.func f3) #[] #[c]] 241);have D:=aD w [.func (.func f1) #[] #[c],.func (.func f2) #[] #[c],.func (.func f3) #[] #[c]] 241;have l:=aC H;have K:=aC r;have J:=aC hb;have N:=aC q;have z:=aC hn;have E:=aC b;have B:=aC al;have F:=aC D
  have g:¬ G w.heap.size:=fun h=>by have:=H.old s w _ r h;omega
  have M:=aC x;have v:=aC g;clear H r hb q hn al D x g b;go_enter Tryz.func160,Tryz.ntmps160;go_wp2_with fail;go_loopw [8] (fun p wr=>∃ k:Nat,k≤n∧p=.int .i64 k∧Hid (Inv ((offs.take k).foldl (fun s o=>nx 0 o s) s) wr)∧Hid (Chg G w wr)∧Hid (Blk wr w.heap.size [.func (.func f1) #[] #[c],.func (.func f2) #[] #[c],.func (.func f3) #[] #[c]] 241)) (fun p _=>n - (intOf p).toNat)
  case atStart=>exact⟨0,Nat.zero_le _,rfl,l.out.keep _ _ _ K.out B.out,Chg.of B.out,F.out⟩
  case round =>
    obtain⟨k,q,rfl,H1,m,A⟩:= hrel;by_cases L:k < n
    · obtain⟨o,j⟩:∃ o,Hid (offs[k]?=some o):=⟨offs[k]'(by have:=z.out;omega),List.getElem?_eq_getElem _⟩
      have f:=J.out.chg m.out M.out
      have c1:wr.cell? ⟨sb,k,none⟩=some (.pointer (some ⟨rb,o,none⟩)):=f.cell (i:=k) (by rw[List.getElem?_map,j.out];rfl);have c2:=A.out.cell (i:=0) rfl
      have t:(k:Int) < n:=by omega
      have d:ok (nx 0 o ((offs.take k).foldl (fun s o=>nx 0 o s) s)):=by
        have h:=E.out;rw[← List.take_append_drop (k+1) offs,List.foldl_append] at h;have y:=l.out.okf 0 _ _ h;rw[List.take_add_one,j.out,List.foldl_append] at y;exact y
      have U:=l.out.u _ wr o H1.out d (N.out o (List.mem_of_getElem? j.out));clear f d;go_wp2_with fail;rw[l.out.e1];refine U.mono ?_
      rintro P Q ⟨rfl,I,C⟩;go_wp2_with fail;go_roundw
      case rel=>exact⟨k+1,by omega,by go_num,by show Inv _ _;rw[List.take_add_one,j.out,List.foldl_append];exact I,m.out.trans C (fun _ _ h=>h),A.out.chg C v.out⟩
      case measure=>simp[intOf];omega
    · obtain rfl : k = n := by omega
      have t:¬ ((k:Int) < k):=by omega
      go_wp2;go_end0;refine⟨rfl,?_,m.out⟩;have h:=H1.out;rw[List.take_of_length_le (by have:=z.out;omega)] at h;exact h
theorem qk{σ:Type}{Inv:σ→World→Prop}{nx:Nat→Nat→σ→σ}{ok:σ→Prop}{s:σ}(H:HC σ Inv G rb f1 f2 f3 c nx kd ok)(t:Inv s w)(hb:Blk w sb (offs.map fun o=>.pointer (some ⟨rb,o,none⟩)) 237)(x:¬ G sb)(r:∀ o ∈ offs,kd o=2)(b:ok (offs.foldl (fun s o=>nx 2 o s) s))(hn:offs.length=n)(O:n≤1000) :
    Calls Tryz.prog 184 #[.agg #[.func (.func f1) #[] #[c],.func (.func f2) #[] #[c],.func (.func f3) #[] #[c]],.slice (some ⟨sb,0,none⟩) n cc] w (Ex σ Inv G (offs.foldl (fun s o=>nx 2 o s) s) w):=by
  have al:=ae w (.cells #[.func (.func f1) #[] #[c],.func (.func f2) #[] #[c],.func (.func f3) #[] #[c]] 241);have D:=aD w [.func (.func f1) #[] #[c],.func (.func f2) #[] #[c],.func (.func f3) #[] #[c]] 241;have m:=aC H;have K:=aC t;have J:=aC hb;have N:=aC r;have z:=aC hn;have E:=aC b;have B:=aC al;have F:=aC D
  have j:¬ G w.heap.size:=fun h=>by have:=H.old s w _ t h;omega
  have M:=aC x;have v:=aC j;clear H t hb r hn al D x j b;go_enter Tryz.func184,Tryz.ntmps184;go_wp2_with fail;go_loopw [8] (fun q wr=>∃ k:Nat,k≤n∧q=.int .i64 k∧Hid (Inv ((offs.take k).foldl (fun s o=>nx 2 o s) s) wr)∧Hid (Chg G w wr)∧Hid (Blk wr w.heap.size [.func (.func f1) #[] #[c],.func (.func f2) #[] #[c],.func (.func f3) #[] #[c]] 241)) (fun q _=>n - (intOf q).toNat)
  case atStart=>exact⟨0,Nat.zero_le _,rfl,m.out.keep _ _ _ K.out B.out,Chg.of B.out,F.out⟩
  case round =>
    obtain⟨k,r,rfl,H1,p,A⟩:= hrel;by_cases L:k < n
    · obtain⟨o,l⟩:∃ o,Hid (offs[k]?=some o):=⟨offs[k]'(by have:=z.out;omega),List.getElem?_eq_getElem _⟩
      have g:=J.out.chg p.out M.out
      have c1:wr.cell? ⟨sb,k,none⟩=some (.pointer (some ⟨rb,o,none⟩)):=g.cell (i:=k) (by rw[List.getElem?_map,l.out];rfl);have c2:=A.out.cell (i:=2) rfl
      have u:(k:Int) < n:=by omega
      have f:ok (nx 2 o ((offs.take k).foldl (fun s o=>nx 2 o s) s)):=by
        have h:=E.out;rw[← List.take_append_drop (k+1) offs,List.foldl_append] at h;have y:=m.out.okf 2 _ _ h;rw[List.take_add_one,l.out,List.foldl_append] at y;exact y
      have U:=m.out.d _ wr o H1.out f (N.out o (List.mem_of_getElem? l.out));clear g f;go_wp2_with fail;rw[m.out.e3];refine U.mono ?_
      rintro P Q ⟨rfl,I,C⟩;go_wp2_with fail;go_roundw
      case rel=>exact⟨k+1,by omega,by go_num,by show Inv _ _;rw[List.take_add_one,l.out,List.foldl_append];exact I,p.out.trans C (fun _ _ h=>h),A.out.chg C v.out⟩
      case measure=>simp[intOf];omega
    · obtain rfl : k = n := by omega
      have u:¬ ((k:Int) < k):=by omega
      go_wp2;go_end0;refine⟨rfl,?_,p.out⟩;have h:=H1.out;rw[List.take_of_length_le (by have:=z.out;omega)] at h;exact h
end
end Rc
end
section
open Pg (ay aQ bQ bR aM bG)
namespace Rc
open Go.RowKit Go.Lib Pg
attribute [local go_sem] Oper.semAt_some
section
variable {G:Nat->Prop}{rb:Nat}{f1 f2 f3:FuncId}{c:Value}{kd:Nat->Nat}{w:World}
def thr{σ:Type}(nx:Nat->Nat->σ->σ)(l:List (Nat × Nat))(s:σ):σ:=l.foldl (fun s p=>nx p.1 p.2 s) s
theorem HC.okt{σ:Type}{Inv:σ->World->Prop}{nx:Nat->Nat->σ->σ}{ok:σ->Prop}(H:HC σ Inv G rb f1 f2 f3 c nx kd ok)(l:List (Nat × Nat)):∀ s,ok (thr nx l s)->ok s:=by
 induction l with
 | nil=>exact fun _ h=>h
 | cons o l ih=>exact fun s h=>H.oks _ _ _ (ih _ h)
theorem ld_h{g:Nat}{u v i:Value}(c0:w.cell? ⟨g,0,none⟩=some u)(c1:w.cell? ⟨g,1,none⟩=some v)(c2:w.cell? ⟨g,2,none⟩=some i):(loadVar 241 ⟨g,0,none⟩).run Tryz.prog w=.ok (.agg #[u,v,i]) w:=by go_simp
theorem jc{σ:Type}{Inv:σ->World->Prop}{nx:Nat->Nat->σ->σ}{ok:σ->Prop}{s:σ}(H:HC σ Inv G rb f1 f2 f3 c nx kd ok)(C:Inv s w)(o:∀ p∈[(2,0),(0,1)],kd p.2=p.1)(r:ok (thr nx [(2,0),(0,1)] s)) :
  Calls Tryz.prog 135 #[.pointer (some ⟨rb,0,none⟩),.agg #[.func (.func f1) #[] #[c],.func (.func f2) #[] #[c],.func (.func f3) #[] #[c]]] w (Ex σ Inv G (thr nx [(2,0),(0,1)] s) w):=by
 have b:=ae w (.cells #[.func (.func f1) #[] #[c],.func (.func f2) #[] #[c],.func (.func f3) #[] #[c]] 241);have J:=aC (aD w [.func (.func f1) #[] #[c],.func (.func f2) #[] #[c],.func (.func f3) #[] #[c]] 241);have x:=aC (show ¬ G w.heap.size from fun h=>by have:=H.old s w _ C h;omega);have K:=aC (H.keep _ _ _ C b);have L:=aC (show Chg G w _ from Chg.of b)
 have k0:Hid (kd 0=2):=o (2,0) (by simp)
 have k1:Hid (kd 1=0):=o (0,1) (by simp);have l:=aC H;have I:=aC r;clear H C o b r;go_enter Tryz.func135,Tryz.ntmps135;go_wp2_with fail;obtain⟨j,B⟩:∃ j,Hid (w.alloc (.cells #[.func (.func f1) #[] #[c],.func (.func f2) #[] #[c],.func (.func f3) #[] #[c]] 241)=j):=⟨_,rfl⟩
 rw[B.out] at J K L ⊢;have t:=aC (l.out.keep _ _ _ K.out (fA j));have d:=aC (J.out.keep (fA j));refine bR (S:=fun u=>Blk u w.heap.size [.func (.func f1) #[] #[c],.func (.func f2) #[] #[c],.func (.func f3) #[] #[c]] 241) (by kernel_rfl) d.out ?_
 refine aQ 0 (some 4) (.agg #[.func (.func f1) #[] #[c],.func (.func f2) #[] #[c],.func (.func f3) #[] #[c]]) 241 3 w.heap.size 0 (by kernel_rfl) (by kernel_rfl) (by kernel_rfl) (fun u h=>ld_h (h.cell (i:=0) rfl) (h.cell (i:=1) rfl) (h.cell (i:=2) rfl)) (fun _ _ _ h=>h) d.out ?_
 refine ay 1 (some 5) (.pointer (some ⟨rb,0,none⟩)) (by kernel_rfl) (fun _ _=>by kernel_rfl) (fun _ _ _ h=>h) d.out ?_
 refine ay 2 (some 6) (.pointer (some ⟨rb,0,none⟩)) (by kernel_rfl) (fun _ _=>by kernel_rfl) (fun _ _ _ h=>h) d.out ?_
 refine ay 3 (some 7) (.pointer (some ⟨rb,0,none⟩)) (by kernel_rfl) (fun _ _=>by kernel_rfl) (fun _ _ _ h=>h) d.out ?_
 have b:=ae j.drew (.cells #[.pointer (some ⟨rb,0,none⟩)] 237);have A:=aD j.drew [.pointer (some ⟨rb,0,none⟩)] 237;refine aM [4] (by kernel_rfl) (by simp) (bG 4 (some 8) (.slice (some ⟨j.drew.heap.size,0,none⟩) 1 1) (j.drew.alloc (.cells #[.pointer (some ⟨rb,0,none⟩)] 237)) (by kernel_rfl) (by kernel_rfl) (d.out.keep b) ?_ aZ);refine bQ 5 (some 9) 184 #[.agg #[.func (.func f1) #[] #[c],.func (.func f2) #[] #[c],.func (.func f3) #[] #[c]],.slice (some ⟨j.drew.heap.size,0,none⟩) 1 1] (by kernel_rfl) (by kernel_rfl) (qk (offs:=[0]) l.out (l.out.keep _ _ _ t.out b) A (fun h=>by have:=l.out.old _ _ _ t.out h;omega) (by simp[k0.out]) (l.out.okt [(0,1)] _ I.out) rfl (by decide)) ?_
 rintro R m ⟨rfl,D,n⟩;refine⟨_,rfl,((d.out.keep b).chg n x.out),?_⟩;refine bM (by kernel_rfl) ?_
 simp only[Act.put,List.setIfInBounds_toArray,List.set_cons_zero,List.set_cons_succ];have P:=aC D;have N:=aC ((L.out.trans (Chg.of (F:=G) (aA (fA j) b)) (fun _ _ h=>h)).trans n (fun _ _ h=>h));have z:=aC ((d.out.keep b).chg n x.out);go_wp2_with fail;have v:=aC (l.out.keep _ _ _ P.out (fA m));have f:=aC (z.out.keep (fA m));refine bR (S:=fun u=>Blk u w.heap.size [.func (.func f1) #[] #[c],.func (.func f2) #[] #[c],.func (.func f3) #[] #[c]] 241) (by kernel_rfl) f.out ?_
 refine aQ 0 (some 10) (.agg #[.func (.func f1) #[] #[c],.func (.func f2) #[] #[c],.func (.func f3) #[] #[c]]) 241 3 w.heap.size 0 (by kernel_rfl) (by kernel_rfl) (by kernel_rfl) (fun u h=>ld_h (h.cell (i:=0) rfl) (h.cell (i:=1) rfl) (h.cell (i:=2) rfl)) (fun _ _ _ h=>h) f.out ?_
 refine ay 1 (some 11) (.pointer (some ⟨rb,0,none⟩)) (by kernel_rfl) (fun _ _=>by kernel_rfl) (fun _ _ _ h=>h) f.out ?_
 refine ay 2 (some 12) (.pointer (some ⟨rb,0,none⟩)) (by kernel_rfl) (fun _ _=>by kernel_rfl) (fun _ _ _ h=>h) f.out ?_
 refine ay 3 (some 13) (.pointer (some ⟨rb,1,none⟩)) (by kernel_rfl) (fun _ _=>by kernel_rfl) (fun _ _ _ h=>h) f.out ?_
 have g:=ae m.drew (.cells #[.pointer (some ⟨rb,1,none⟩)] 232);have E:=aD m.drew [.pointer (some ⟨rb,1,none⟩)] 232;refine aM [4] (by kernel_rfl) (by simp) (bG 4 (some 14) (.slice (some ⟨m.drew.heap.size,0,none⟩) 1 1) (m.drew.alloc (.cells #[.pointer (some ⟨rb,1,none⟩)] 232)) (by kernel_rfl) (by kernel_rfl) (f.out.keep g) ?_ aZ);refine bQ 5 (some 15) 160 #[.agg #[.func (.func f1) #[] #[c],.func (.func f2) #[] #[c],.func (.func f3) #[] #[c]],.slice (some ⟨m.drew.heap.size,0,none⟩) 1 1] (by kernel_rfl) (by kernel_rfl) (lF (offs:=[1]) l.out (l.out.keep _ _ _ v.out g) E (fun h=>by have:=l.out.old _ _ _ v.out h;omega) (by simp[k1.out]) (l.out.okt [] _ I.out) rfl (by decide)) ?_
 rintro R T ⟨rfl,y,q⟩;refine⟨_,rfl,((f.out.keep g).chg q x.out),?_⟩;refine bM (by kernel_rfl) ?_
 simp only[Act.put,List.setIfInBounds_toArray,List.set_cons_zero,List.set_cons_succ];have Q:=aC y;have M:=aC ((N.out.trans (Chg.of (F:=G) (aA (fA m) g)) (fun _ _ h=>h)).trans q (fun _ _ h=>h));have O:=aC ((f.out.keep g).chg q x.out);go_wp2_with fail;go_end0;exact⟨rfl,Q.out,M.out⟩
theorem oL{σ:Type}{Inv:σ->World->Prop}{nx:Nat->Nat->σ->σ}{ok:σ->Prop}{s:σ}(H:HC σ Inv G rb f1 f2 f3 c nx kd ok)(r:Inv s w)(j:∀ p∈[(0,0),(0,1)],kd p.2=p.1)(l:ok (thr nx [(0,0),(0,1)] s)) :
  Calls Tryz.prog 100 #[.pointer (some ⟨rb,0,none⟩),.agg #[.func (.func f1) #[] #[c],.func (.func f2) #[] #[c],.func (.func f3) #[] #[c]]] w (Ex σ Inv G (thr nx [(0,0),(0,1)] s) w):=by
 have d:=ae w (.cells #[.func (.func f1) #[] #[c],.func (.func f2) #[] #[c],.func (.func f3) #[] #[c]] 241);have v:=aC (aD w [.func (.func f1) #[] #[c],.func (.func f2) #[] #[c],.func (.func f3) #[] #[c]] 241);have x:=aC (show ¬ G w.heap.size from fun h=>by have:=H.old s w _ r h;omega);have y:=aC (H.keep _ _ _ r d);have z:=aC (show Chg G w _ from Chg.of d)
 have k0:Hid (kd 0=0):=j (0,0) (by simp)
 have k1:Hid (kd 1=0):=j (0,1) (by simp);have n:=aC H;have B:=aC l;clear H r j d l;go_enter Tryz.func100,Tryz.ntmps100;go_wp2_with fail;obtain⟨f,q⟩:∃ f,Hid (w.alloc (.cells #[.func (.func f1) #[] #[c],.func (.func f2) #[] #[c],.func (.func f3) #[] #[c]] 241)=f):=⟨_,rfl⟩
 rw[q.out] at v y z ⊢;have m:=aC (n.out.keep _ _ _ y.out (fA f));have b:=aC (v.out.keep (fA f));refine bR (S:=fun u=>Blk u w.heap.size [.func (.func f1) #[] #[c],.func (.func f2) #[] #[c],.func (.func f3) #[] #[c]] 241) (by kernel_rfl) b.out ?_
 refine aQ 0 (some 4) (.agg #[.func (.func f1) #[] #[c],.func (.func f2) #[] #[c],.func (.func f3) #[] #[c]]) 241 3 w.heap.size 0 (by kernel_rfl) (by kernel_rfl) (by kernel_rfl) (fun u h=>ld_h (h.cell (i:=0) rfl) (h.cell (i:=1) rfl) (h.cell (i:=2) rfl)) (fun _ _ _ h=>h) b.out ?_
 refine ay 1 (some 5) (.pointer (some ⟨rb,0,none⟩)) (by kernel_rfl) (fun _ _=>by kernel_rfl) (fun _ _ _ h=>h) b.out ?_
 refine ay 2 (some 6) (.pointer (some ⟨rb,0,none⟩)) (by kernel_rfl) (fun _ _=>by kernel_rfl) (fun _ _ _ h=>h) b.out ?_
 refine ay 3 (some 7) (.pointer (some ⟨rb,0,none⟩)) (by kernel_rfl) (fun _ _=>by kernel_rfl) (fun _ _ _ h=>h) b.out ?_
 refine ay 4 (some 8) (.pointer (some ⟨rb,0,none⟩)) (by kernel_rfl) (fun _ _=>by kernel_rfl) (fun _ _ _ h=>h) b.out ?_
 refine ay 5 (some 9) (.pointer (some ⟨rb,0,none⟩)) (by kernel_rfl) (fun _ _=>by kernel_rfl) (fun _ _ _ h=>h) b.out ?_
 refine ay 6 (some 10) (.pointer (some ⟨rb,1,none⟩)) (by kernel_rfl) (fun _ _=>by kernel_rfl) (fun _ _ _ h=>h) b.out ?_
 have d:=ae f.drew (.cells #[.pointer (some ⟨rb,0,none⟩),.pointer (some ⟨rb,1,none⟩)] 232);have o:=aD f.drew [.pointer (some ⟨rb,0,none⟩),.pointer (some ⟨rb,1,none⟩)] 232;refine aM [7] (by kernel_rfl) (by simp) (bG 7 (some 11) (.slice (some ⟨f.drew.heap.size,0,none⟩) 2 2) (f.drew.alloc (.cells #[.pointer (some ⟨rb,0,none⟩),.pointer (some ⟨rb,1,none⟩)] 232)) (by kernel_rfl) (by kernel_rfl) (b.out.keep d) ?_ aZ);refine bQ 8 (some 12) 160 #[.agg #[.func (.func f1) #[] #[c],.func (.func f2) #[] #[c],.func (.func f3) #[] #[c]],.slice (some ⟨f.drew.heap.size,0,none⟩) 2 2] (by kernel_rfl) (by kernel_rfl) (lF (offs:=[0,1]) n.out (n.out.keep _ _ _ m.out d) o (fun h=>by have:=n.out.old _ _ _ m.out h;omega) (by simp[k0.out,k1.out]) (n.out.okt [] _ B.out) rfl (by decide)) ?_
 rintro E I ⟨rfl,t,g⟩;refine⟨_,rfl,((b.out.keep d).chg g x.out),?_⟩;refine bM (by kernel_rfl) ?_
 simp only[Act.put,List.setIfInBounds_toArray,List.set_cons_zero,List.set_cons_succ];have C:=aC t;have A:=aC ((z.out.trans (Chg.of (F:=G) (aA (fA f) d)) (fun _ _ h=>h)).trans g (fun _ _ h=>h));have D:=aC ((b.out.keep d).chg g x.out);go_wp2_with fail;go_end0;exact⟨rfl,C.out,A.out⟩
end
end Rc
end
section
namespace Rc
open Go.RowKit Go.Lib Pg
attribute [local go_sem] Oper.semAt_some
def fit (V:Int):Int:=if (dX V).length < 256 then V else 0
theorem iG (V:Int):(dX (fit V)).length < 256:=by
 unfold fit;split
 ·assumption
 ·rw[natB_0];decide
def gX:Nat->Int->List Int
 | 0,x=>be 8 x
 | 1,x=>be 1 x
 | _,x=>fY 1 (dX (fit x))
theorem But.chg {g:Nat} {w w':World} (h:But g w w'):Chg (·=g) w w':=⟨h.os,h.tape,h.output,h.size,fun b hb hne=>h.block b hb hne⟩
theorem lM {w:World} {ao:Option Addr} {n c:Nat} {V:Int} (h:aY w ao n c V) (hn:n<=1000000) :
  Calls Tryz.prog 158 #[.agg #[.slice ao n c]] w fun e w'=>∃ a1 n1 c1,e=.returned (.agg #[.slice a1 n1 c1])/\aY w' a1 n1 c1 (fit V)/\n1<=1000000/\Below w.heap.size w w':=by
 have F:=ae w (.cells #[.slice ao n c] 32);have y:=ae (w.alloc (.cells #[.slice ao n c] 32)) (.cells #[.slice none 0 0] 32);have t:=ae ((w.alloc (.cells #[.slice ao n c] 32)).alloc (.cells #[.slice none 0 0] 32)) (.cells Tryz.zeroCells230 230);have s1:=dv w (.cells #[.slice ao n c] 32);have s2:=dv (w.alloc (.cells #[.slice ao n c] 32)) (.cells #[.slice none 0 0] 32);have x:=((aD w [.slice ao n c] 32).keep y).keep t;have u:=(aD (w.alloc (.cells #[.slice ao n c] 32)) [.slice none 0 0] 32).keep t;have X:=AZ ((w.alloc (.cells #[.slice ao n c] 32)).alloc (.cells #[.slice none 0 0] 32));rw[s2,s1] at X;rw[s1] at u;obtain⟨D,j⟩:∃ D,Hid ((((w.alloc (.cells #[.slice ao n c] 32)).alloc (.cells #[.slice none 0 0] 32)).alloc (.cells Tryz.zeroCells230 230))=D):=⟨_,rfl⟩
 have r:=aA (aA F y) t;rw[j.out] at r x u X;have g:=aC r;have m:=aC x;have o:=aC u;have G:=aC X;have E:=aC (h.keep r);have C:=aC h;have p:=aC (show ¬ (w.heap.size=w.heap.size+1+1) by omega);have q:=aC (show ¬ (w.heap.size+1=w.heap.size+1+1) by omega);clear F y s1 s2 x u t X h r;by_cases hf:(dX V).length < 256
 ·have A:=aC (show ia V 0=0 by unfold ia;rw[if_pos hf]);have v:=aC (show fit V=V by unfold fit;rw[if_pos hf])
  have J:=aC (show (ja V 0 []).length<=17592186044416 by
   unfold ja wrote;rw[if_pos hf,if_pos rfl];simp[fY,aP]
   omega)
  clear hf;go_enter Tryz.func158,Tryz.ntmps158;go_wp2_with fail;rw[j.out];refine(wH G.out E.out (by omega) (by simp;omega)).mono ?_
  rintro z H ⟨rfl,l,d⟩;rw[A.out] at l;go_wp2_with fail;refine(Ak l J.out).mono ?_
  rintro z I ⟨rfl,-,b⟩;have k1:=m.out.chg (But.chg d) p.out;have f:=o.out.chg (But.chg d) q.out;have d1:=(k1.keep b).cell (i:=0) rfl;have d2:=(f.keep b).cell (i:=0) rfl;have f2:=(f.keep b).free 0;have s:=aC ((d.below g.out (by omega) (Nat.le_refl _)).trans (b.mono (by have:=g.out.size;have:=d.size;omega)));have B:=aC (show Slot _ _ _ _ from⟨((f.keep b).setCell (i:=0) (.slice ao n c)).blk⟩);clear k1 f l d b;go_wp2;refine bodyPost_ret (lW rfl rfl B.out) rfl ?_
  refine⟨ao,n,c,rfl,?_,hn,?_⟩
  ·rw[v.out];exact C.out.keep (s.out.setCell (Nat.le_succ _) _)
  ·exact s.out.setCell (Nat.le_succ _) _
 ·have A:=aC (show ia V 0=42 by unfold ia;rw[if_neg hf];rfl);have v:=aC (show fit V=0 by unfold fit;rw[if_neg hf]);clear hf;go_enter Tryz.func158,Tryz.ntmps158;go_wp2_with fail;rw[j.out];refine(wH G.out E.out (by omega) (by simp;omega)).mono ?_
  rintro z H ⟨rfl,l,d⟩;rw[A.out] at l;go_wp2_with fail;refine(wrOutE l (by decide)).mono ?_
  rintro z I ⟨rfl,b⟩;have k1:=m.out.chg (But.chg d) p.out;have f:=o.out.chg (But.chg d) q.out;have d1:=(k1.keep b).cell (i:=0) rfl;have d2:=(f.keep b).cell (i:=0) rfl;have f2:=(f.keep b).free 0;have s:=aC ((d.below g.out (by omega) (Nat.le_refl _)).trans (b.mono (by have:=g.out.size;have:=d.size;omega)));have B:=aC (show Slot _ _ _ _ from⟨((f.keep b).setCell (i:=0) (.slice none 0 0)).blk⟩);clear k1 f l d b;go_wp2;refine bodyPost_ret (lW rfl rfl B.out) rfl ?_
  refine⟨none,0,0,rfl,?_,by decide,?_⟩
  ·rw[v.out];exact(AJ _).a
  ·exact s.out.setCell (Nat.le_succ _) _
end Rc
end
section
namespace Rc
open Go.RowKit Go.Lib Pg
attribute [local go_sem] Oper.semAt_some
section
variable {w0 w:World}{bw rb o n c:Nat}{cs:List Value}{L:List Int}{x:Bool}{y V:Int}{ao:Option Addr}{xs:Nat->Int}
theorem zJ(k:Nat)(x:Int):(gX k x).length<=300:=by
 unfold gX;split
 ·rw[aP];decide
 ·rw[aP];decide
 ·have:=iG x;simp only[fY,List.length_append,aP];omega
def pnx(xs:Nat->Int)(k o:Nat)(L:List Int):List Int:=L ++ gX k (xs o)
theorem l6(xs:Nat->Int)(l:List (Nat × Nat)):∀ L:List Int,(thr (pnx xs) l L).length<=L.length+300 * l.length:=by
 induction l with
 | nil=>intro L;simp[thr]
 | cons p l ih =>
  intro L;have h:=ih (pnx xs p.1 p.2 L);have a:=zJ p.1 (xs p.2)
  have e:thr (pnx xs) (p :: l) L=thr (pnx xs) l (pnx xs p.1 p.2 L):=rfl;rw[e];simp only[pnx,List.length_append] at h;simp only[List.length_cons];simp only[pnx];omega
def okL(L:List Int):Prop:=L.length<=1000000000000
structure PI(w0:World)(bw rb:Nat)(cs:List Value)(T:TypeId)(L:List Int)(w:World):Prop where
 wr:WrA w bw 0 L
 bel:Below w0.heap.size w0 w
 blk:Blk w rb cs T
 hb:w0.heap.size<=bw
 ne:rb≠bw
def AM(w0:World)(kd:Nat->Nat)(cs:List Value)(xs:Nat->Int):Prop:=∀ o,(kd o=0->cs[o]?=some (.int .u64 (xs o)))/\(kd o=1->∃ b:Bool,cs[o]?=some (.bool b)/\xs o=if b then 1 else 0)/\(kd o=2->∃ ao n c,cs[o]?=some (.slice ao n c)/\aY w0 ao n c (xs o)/\n<=1000000)
theorem PI.step{w':World}{T:TypeId}{L':List Int}(h:PI w0 bw rb cs T L w)(X:WrA w' bw 0 L')(B:But bw w w'):PI w0 bw rb cs T L' w' :=
 ⟨X,B.below h.bel h.hb (Nat.le_refl _),h.blk.chg (But.chg B) (fun e=>h.ne e),h.hb,h.ne⟩
def eX(o:Nat):Nat:=([0,0]:List Nat).getD o 9
theorem uD{x:Int}(c:w.cell? ⟨rb,o,none⟩=some (.int .u64 x))(X:WrA w bw 0 L)(hL:L.length<=1000000000000) :
  Calls Tryz.prog 181 #[.pointer (some ⟨rb,o,none⟩),.pointer (some ⟨bw,0,none⟩)] w fun e w'=>e=.returned (.tuple #[])/\WrA w' bw 0 (L ++ gX 0 x)/\But bw w w':=by
 have t:=EM (x:=x) X (by omega);clear X;go_enter Tryz.func181,Tryz.ntmps181;go_wp2_with (go_at_call 153;refine t.mono ?_;rintro f g ⟨rfl,d,b⟩;clear t);go_end0;exact⟨rfl,d,b⟩
theorem uL(hy:(if x then (1:Int) else 0)=y)(c:w.cell? ⟨rb,o,none⟩=some (.bool x))(X:WrA w bw 0 L)(hL:L.length<=1000000000000) :
  Calls Tryz.prog 182 #[.pointer (some ⟨rb,o,none⟩),.pointer (some ⟨bw,0,none⟩)] w fun e w'=>e=.returned (.tuple #[])/\WrA w' bw 0 (L ++ gX 1 y)/\But bw w w':=by
 have t:=Ax (x:=x) X (by omega);rw[hy] at t;clear X hy;go_enter Tryz.func182,Tryz.ntmps182;go_wp2_with (go_at_call 155;refine t.mono ?_;rintro f g ⟨rfl,d,b⟩;clear t);go_end0;exact⟨rfl,d,b⟩
theorem uO(cc:w.cell? ⟨rb,o,none⟩=some (.slice ao n c))(g:aY w ao n c V)(hn:n<=1000000)(X:WrA w bw 0 L)(hL:L.length<=1000000000000) :
  Calls Tryz.prog 183 #[.pointer (some ⟨rb,o,none⟩),.pointer (some ⟨bw,0,none⟩)] w fun e w'=>e=.returned (.tuple #[])/\WrA w' bw 0 (L ++ gX 2 V)/\But bw w w':=by
 have t:=lM g hn;have l:=aC X;clear X g;go_enter Tryz.func183,Tryz.ntmps183;go_wp2_with first
  | (go_at_call 158;refine t.mono ?_;rintro i u ⟨a1,r,c1,rfl,p,m,d⟩;clear t)
  | (go_at_call 157;refine(wH (l.out.keep d) p (by omega) (by omega)).mono ?_;rintro i s ⟨rfl,f,q⟩)
 go_end0
 have j:ia (fit V) 0=0:=by unfold ia;rw[if_pos (iG V)]
 have b:ja (fit V) 0 L=L ++ gX 2 V:=by unfold ja wrote;rw[if_pos (iG V),if_pos rfl];rfl
 rw[j,b] at f;exact⟨rfl,f,(But.of d).trans q⟩
def aX(o:Nat):Nat:=([2,0]:List Nat).getD o 9
theorem uS{T:TypeId}(F:AM w0 aX cs xs):HC (List Int) (PI w0 bw rb cs T) (·=bw) rb 181 182 183 (.pointer (some ⟨bw,0,none⟩)) (pnx xs) aX okL where
 oks:=fun k o L h=>by
  unfold okL pnx at *;rw[List.length_append] at h;omega
 keep:=fun L w i h B=>⟨h.wr.keep B,h.bel.trans (B.mono h.bel.size),h.blk.keep B,h.hb,h.ne⟩
 old:=fun L w b h e=>by have l:b=bw:=e;subst l;exact h.wr.lt
 e1:=fun _ _=>by kernel_rfl
 e2:=fun _ _=>by kernel_rfl
 e3:=fun _ _=>by kernel_rfl
 u:=fun L w o h a f=>by
  have g:L.length<=1000000000000:=by unfold okL pnx at a;rw[List.length_append] at a;omega
  refine(uD (h.blk.cell ((F o).1 f)) h.wr g).mono ?_
  rintro e i ⟨rfl,X,B⟩;exact⟨rfl,h.step X B,But.chg B⟩
 t:=fun L w o h a f=>by
  have g:L.length<=1000000000000:=by unfold okL pnx at a;rw[List.length_append] at a;omega
  obtain⟨b,hb,hx⟩:=(F o).2.1 f;refine(uL hx.symm (h.blk.cell hb) h.wr g).mono ?_
  rintro e i ⟨rfl,X,B⟩;exact⟨rfl,h.step X B,But.chg B⟩
 d:=fun L w o h a f=>by
  have g:L.length<=1000000000000:=by unfold okL pnx at a;rw[List.length_append] at a;omega
  obtain⟨m,n,c,hb,j,hn⟩:=(F o).2.2 f;refine(uO (h.blk.cell hb) (j.keep h.bel) hn h.wr g).mono ?_
  rintro e i ⟨rfl,X,B⟩;exact⟨rfl,h.step X B,But.chg B⟩
theorem pn_Cut{x:Int}(c:w.cell? ⟨rb,o,none⟩=some (.int .u64 x))(X:WrA w bw 0 L)(hL:L.length<=1000000000000) :
  Calls Tryz.prog 152 #[.pointer (some ⟨rb,o,none⟩),.pointer (some ⟨bw,0,none⟩)] w fun e w'=>e=.returned (.tuple #[])/\WrA w' bw 0 (L ++ gX 0 x)/\But bw w w':=by
 have t:=EM (x:=x) X (by omega);clear X;go_enter Tryz.func152,Tryz.ntmps152;go_wp2_with (go_at_call 153;refine t.mono ?_;rintro f g ⟨rfl,d,b⟩;clear t);go_end0;exact⟨rfl,d,b⟩
theorem pt_Cut(hy:(if x then (1:Int) else 0)=y)(c:w.cell? ⟨rb,o,none⟩=some (.bool x))(X:WrA w bw 0 L)(hL:L.length<=1000000000000) :
  Calls Tryz.prog 154 #[.pointer (some ⟨rb,o,none⟩),.pointer (some ⟨bw,0,none⟩)] w fun e w'=>e=.returned (.tuple #[])/\WrA w' bw 0 (L ++ gX 1 y)/\But bw w w':=by
 have t:=Ax (x:=x) X (by omega);rw[hy] at t;clear X hy;go_enter Tryz.func154,Tryz.ntmps154;go_wp2_with (go_at_call 155;refine t.mono ?_;rintro f g ⟨rfl,d,b⟩;clear t);go_end0;exact⟨rfl,d,b⟩
theorem pd_Cut(cc:w.cell? ⟨rb,o,none⟩=some (.slice ao n c))(g:aY w ao n c V)(hn:n<=1000000)(X:WrA w bw 0 L)(hL:L.length<=1000000000000) :
  Calls Tryz.prog 156 #[.pointer (some ⟨rb,o,none⟩),.pointer (some ⟨bw,0,none⟩)] w fun e w'=>e=.returned (.tuple #[])/\WrA w' bw 0 (L ++ gX 2 V)/\But bw w w':=by
 have t:=lM g hn;have l:=aC X;clear X g;go_enter Tryz.func156,Tryz.ntmps156;go_wp2_with first
  | (go_at_call 158;refine t.mono ?_;rintro i u ⟨a1,r,c1,rfl,p,m,d⟩;clear t)
  | (go_at_call 157;refine(wH (l.out.keep d) p (by omega) (by omega)).mono ?_;rintro i s ⟨rfl,f,q⟩)
 go_end0
 have j:ia (fit V) 0=0:=by unfold ia;rw[if_pos (iG V)]
 have b:ja (fit V) 0 L=L ++ gX 2 V:=by unfold ja wrote;rw[if_pos (iG V),if_pos rfl];rfl
 rw[j,b] at f;exact⟨rfl,f,(But.of d).trans q⟩
def cM(o:Nat):Nat:=([0,0]:List Nat).getD o 9
theorem hc_Cut{T:TypeId}(F:AM w0 cM cs xs):HC (List Int) (PI w0 bw rb cs T) (·=bw) rb 152 154 156 (.pointer (some ⟨bw,0,none⟩)) (pnx xs) cM okL where
 oks:=fun k o L h=>by
  unfold okL pnx at *;rw[List.length_append] at h;omega
 keep:=fun L w i h B=>⟨h.wr.keep B,h.bel.trans (B.mono h.bel.size),h.blk.keep B,h.hb,h.ne⟩
 old:=fun L w b h e=>by have l:b=bw:=e;subst l;exact h.wr.lt
 e1:=fun _ _=>by kernel_rfl
 e2:=fun _ _=>by kernel_rfl
 e3:=fun _ _=>by kernel_rfl
 u:=fun L w o h a f=>by
  have g:L.length<=1000000000000:=by unfold okL pnx at a;rw[List.length_append] at a;omega
  refine(pn_Cut (h.blk.cell ((F o).1 f)) h.wr g).mono ?_
  rintro e i ⟨rfl,X,B⟩;exact⟨rfl,h.step X B,But.chg B⟩
 t:=fun L w o h a f=>by
  have g:L.length<=1000000000000:=by unfold okL pnx at a;rw[List.length_append] at a;omega
  obtain⟨b,hb,hx⟩:=(F o).2.1 f;refine(pt_Cut hx.symm (h.blk.cell hb) h.wr g).mono ?_
  rintro e i ⟨rfl,X,B⟩;exact⟨rfl,h.step X B,But.chg B⟩
 d:=fun L w o h a f=>by
  have g:L.length<=1000000000000:=by unfold okL pnx at a;rw[List.length_append] at a;omega
  obtain⟨m,n,c,hb,j,hn⟩:=(F o).2.2 f;refine(pd_Cut (h.blk.cell hb) (j.keep h.bel) hn h.wr g).mono ?_
  rintro e i ⟨rfl,X,B⟩;exact⟨rfl,h.step X B,But.chg B⟩
end
end Rc
end
section
namespace Rc
open Go.RowKit Go.Lib Pg
attribute [local go_sem] Oper.semAt_some
section
variable {w:World}{x0 x1:Int}{a0:Option Addr}{n0 c0:Nat}
theorem fl_Chain : AM w eX [.int .u64 x0, .int .u64 x1] (fun o => ([x0, x1] : List Int).getD o 0) := fun o => match o with
    | 0=>⟨fun _=>rfl,fun h=>absurd h (by decide),fun h=>absurd h (by decide)⟩
    | 1=>⟨fun _=>rfl,fun h=>absurd h (by decide),fun h=>absurd h (by decide)⟩
    | k+2=>⟨fun h=>absurd h (by simp[eX]),fun h=>absurd h (by simp[eX]),fun h=>absurd h (by simp[eX])⟩
theorem ua(a : aY w a0 n0 c0 x0)(m0 : n0 ≤ 1000000) : AM w aX [.slice a0 n0 c0, .int .u64 x1] (fun o => ([x0, x1] : List Int).getD o 0) := fun o => match o with
    | 0=>⟨fun h=>absurd h (by decide),fun h=>absurd h (by decide),fun _=>⟨a0,n0,c0,rfl,a,m0⟩⟩
    | 1=>⟨fun _=>rfl,fun h=>absurd h (by decide),fun h=>absurd h (by decide)⟩
    | k+2=>⟨fun h=>absurd h (by simp[aX]),fun h=>absurd h (by simp[aX]),fun h=>absurd h (by simp[aX])⟩
theorem sP(u:aY w a0 n0 c0 x0)(m0:n0<=1000000) :
  Calls Tryz.prog 134 #[.agg #[.slice a0 n0 c0,.int .u64 x1],.func (.func 135) #[] #[]] w fun e w'=>∃ b n,e=.returned (.slice (some ⟨b,0,none⟩) n n)/\n=(thr (pnx (fun o=>([x0,x1]:List Int).getD o 0)) [(2,0),(0,1)] []).length/\Box w' b ((thr (pnx (fun o=>([x0,x1]:List Int).getD o 0)) [(2,0),(0,1)] []).map (Value.int .u8)) 5/\w.heap.size<=b/\Below w.heap.size w w':=by
 have F:=ua u m0 (x1:=x1) (w:=w);have q:=ae w (.cells #[.slice a0 n0 c0,.int .u64 x1] 109);have f:=ae (w.alloc (.cells #[.slice a0 n0 c0,.int .u64 x1] 109)) (.cells Tryz.zeroCells230 230);have s1:=dv w (.cells #[.slice a0 n0 c0,.int .u64 x1] 109);have X:=AZ (w.alloc (.cells #[.slice a0 n0 c0,.int .u64 x1] 109));have B:=(aD w [.slice a0 n0 c0,.int .u64 x1] 109).keep f;rw[s1] at X;obtain⟨l,c⟩:∃ l,Hid ((w.alloc (.cells #[.slice a0 n0 c0,.int .u64 x1] 109)).alloc (.cells Tryz.zeroCells230 230)=l):=⟨_,rfl⟩
 have i:=aA q f;rw[c.out] at i X B;obtain⟨M,g⟩:∃ M,Hid (thr (pnx (fun o=>([x0,x1]:List Int).getD o 0)) [(2,0),(0,1)] []=M):=⟨_,rfl⟩
 have hlen:M.length<=3000:=by have h:=l6 (fun o=>([x0,x1]:List Int).getD o 0) [(2,0),(0,1)] [];rw[g.out] at h;simp at h;omega
 have U:=jc (uS (bw:=w.heap.size+1) (rb:=w.heap.size) (T:=109) F) (s:=[]) (w:=l) ⟨X,i,B,Nat.le_succ _,by omega⟩ (by simp[aX]) (by rw[g.out];show M.length<=1000000000000;omega);rw[g.out] at U ⊢;have y:=aC U;clear U F q f s1 X B i;go_enter Tryz.func134,Tryz.ntmps134;go_wp2_with fail;rw[c.out];refine y.out.mono ?_
 rintro v x ⟨rfl,d,z⟩;go_wp2_with fail;refine(Ak d.wr (by omega)).mono ?_
 rintro v t ⟨rfl,r,p⟩;have m:=aC (show w.heap.size<=x.heap.size/\Below w.heap.size w t from⟨d.bel.size,aA d.bel p⟩);have j:=aC r;clear d z r p;go_wp2;go_ret;exact⟨_,_,rfl,rfl,j.out,m.out.1,m.out.2⟩
theorem fl_Cut : AM w cM [.int .u64 x0, .int .u64 x1] (fun o => ([x0, x1] : List Int).getD o 0) := fun o => match o with
    | 0=>⟨fun _=>rfl,fun h=>absurd h (by decide),fun h=>absurd h (by decide)⟩
    | 1=>⟨fun _=>rfl,fun h=>absurd h (by decide),fun h=>absurd h (by decide)⟩
    | k+2=>⟨fun h=>absurd h (by simp[cM]),fun h=>absurd h (by simp[cM]),fun h=>absurd h (by simp[cM])⟩
theorem DR :
  Calls Tryz.prog 99 #[.agg #[.int .u64 x0,.int .u64 x1],.func (.func 100) #[] #[]] w fun e w'=>∃ b n,e=.returned (.slice (some ⟨b,0,none⟩) n n)/\n=(thr (pnx (fun o=>([x0,x1]:List Int).getD o 0)) [(0,0),(0,1)] []).length/\Box w' b ((thr (pnx (fun o=>([x0,x1]:List Int).getD o 0)) [(0,0),(0,1)] []).map (Value.int .u8)) 5/\w.heap.size<=b/\Below w.heap.size w w':=by
 have F:=fl_Cut (x0:=x0) (x1:=x1) (w:=w);have q:=ae w (.cells #[.int .u64 x0,.int .u64 x1] 97);have f:=ae (w.alloc (.cells #[.int .u64 x0,.int .u64 x1] 97)) (.cells Tryz.zeroCells230 230);have s1:=dv w (.cells #[.int .u64 x0,.int .u64 x1] 97);have X:=AZ (w.alloc (.cells #[.int .u64 x0,.int .u64 x1] 97));have B:=(aD w [.int .u64 x0,.int .u64 x1] 97).keep f;rw[s1] at X;obtain⟨l,c⟩:∃ l,Hid ((w.alloc (.cells #[.int .u64 x0,.int .u64 x1] 97)).alloc (.cells Tryz.zeroCells230 230)=l):=⟨_,rfl⟩
 have i:=aA q f;rw[c.out] at i X B;obtain⟨M,g⟩:∃ M,Hid (thr (pnx (fun o=>([x0,x1]:List Int).getD o 0)) [(0,0),(0,1)] []=M):=⟨_,rfl⟩
 have hlen:M.length<=3000:=by have h:=l6 (fun o=>([x0,x1]:List Int).getD o 0) [(0,0),(0,1)] [];rw[g.out] at h;simp at h;omega
 have U:=oL (hc_Cut (bw:=w.heap.size+1) (rb:=w.heap.size) (T:=97) F) (s:=[]) (w:=l) ⟨X,i,B,Nat.le_succ _,by omega⟩ (by simp[cM]) (by rw[g.out];show M.length<=1000000000000;omega);rw[g.out] at U ⊢;have x:=aC U;clear U F q f s1 X B i;go_enter Tryz.func99,Tryz.ntmps99;go_wp2_with fail;rw[c.out];refine x.out.mono ?_
 rintro u v ⟨rfl,d,y⟩;go_wp2_with fail;refine(Ak d.wr (by omega)).mono ?_
 rintro u t ⟨rfl,r,p⟩;have m:=aC (show w.heap.size<=v.heap.size/\Below w.heap.size w t from⟨d.bel.size,aA d.bel p⟩);have j:=aC r;clear d y r p;go_wp2;go_ret;exact⟨_,_,rfl,rfl,j.out,m.out.1,m.out.2⟩
end
end Rc
end
section
namespace Rc
open Go.RowKit Go.Lib Pg Lim
attribute [local go_sem] Oper.semAt_some
section
variable {w w':World}{B n c g b:Nat}{ao:Option Addr}{x err:Int}{v:Value}{r l:List Int}
structure fS(w:World)(B:Nat)(ao:Option Addr)(n c:Nat)(x:Int):Prop where
 ex:∃ b o l,l.length=n/\n<=c/\IsN l x/\At w ao b o l/\B<=b
theorem mW(w:World)(B:Nat):fS w B none 0 0 0:=⟨B,0,[],rfl,Nat.le_refl _,jM,⟨.inl rfl,fun i hi=>by simp at hi⟩,Nat.le_refl _⟩
theorem fS.low{B':Nat}(h:fS w B ao n c x)(hB:B'<=B):fS w B' ao n c x:=by
 obtain⟨b,o,l,h1,h2,h3,h4,h5⟩:=h.ex;exact⟨b,o,l,h1,h2,h3,h4,Nat.le_trans hB h5⟩
theorem fS.off(h:fS w B ao n c x)(_hs:w.heap.size<=w'.heap.size)(hw:∀ b,B<=b->b < w.heap.size->w'.heap[b]?=w.heap[b]?):fS w' B ao n c x:=by
 obtain⟨b,o,l,e,f,g,d,a⟩:=h.ex;refine⟨b,o,l,e,f,g,⟨d.loc,fun i hi=>?_⟩,a⟩;have hc:=d.cell i hi;rw[World.cell?_of_block (w:=w) (hw b a (aK hc))];exact hc
theorem newV_w(h:dK w w' v r)(f:IsN r x)(k:B<=w.heap.size):∃ a c,v=.slice a r.length c/\fS w' B a r.length c x:=by
 obtain⟨i,b,o,c,e,d,g,j,l⟩:=h.is;exact⟨i,c,e,b,o,r,rfl,d,f,j,Nat.le_trans k g⟩
theorem ub(h:RdA w g b 0 l) :
  Calls Tryz.prog 241 #[.pointer (some ⟨g,0,none⟩)] w fun e w'=>∃ v,e=.returned (.tuple #[v,.int .i64 (rdE (bV l) 0)])/\∃ l1,RdA w' g b 0 l1/\But g w w'/\∀ x k,bV l=.inr (x,k)->l1=l.drop k/\∃ ao n c,v=.slice ao n c/\fS w' w.heap.size ao n c x/\n<=255:=by
 have f:=rm (m:=1) h;by_cases p:1<=l.length
 ·have t:=E4 (m:=1) h p (by decide);have M:=Bq h p;rw[show (256:Int) ^ 1=256 by decide] at M;rw[<- f] at t;have R:=(show Hid _ from h.oct)
  by_cases hs:1+bZ 1 l<=l.length
  ·by_cases A:0 < bZ 1 l/\nth (l.drop 1) 0=0
   ·have d:bV l=.inl 41:=by unfold bV; rw[if_pos p,if_pos hs,if_pos A]
    have s:Hid (rdE (bV l) 0=41):=by show _=_;rw[d];rfl
    have q:=(show Hid _ from d)
    have B:=(show Hid _ from A)
    clear d h A f;generalize bZ 1 l=N at *;go_enter Tryz.func241,Tryz.ntmps241;go_wp2_with fail;refine t.mono ?_
    rintro e H ⟨rfl,z,y⟩;have t2:=Bm (m:=N) z (by rw[List.length_drop];omega);clear t;go_wp2_with fail;refine t2.mono ?_
    rintro e D ⟨ao,rfl,hA,G,F⟩;obtain⟨o,k1,u,E,j,C⟩:=hA.ex;have t3:=CF ao N N b o _ D k1 B.out.1 C (by rw[dA B.out.1];exact B.out.2);clear t2 k1 u E j C hA;go_wp2_with fail;refine t3.mono ?_
    rintro e O ⟨rfl,rfl⟩;clear t3;go_wp2;go_ret2;exact⟨_,by rw[s.out];rfl,_,G,y.trans F,fun x k e=>by rw[q.out] at e;cases e⟩
   ·have d:bV l=.inr (bU ((l.drop 1).take (bZ 1 l)),1 + bZ 1 l):=by unfold bV; rw[if_pos p,if_pos hs,if_neg A]
    have s:Hid (rdE (bV l) 0=0):=by show _=_;rw[d];rfl
    have q:=(show Hid _ from d)
    have B:=(show Hid _ from A)
    clear d h A f;generalize bZ 1 l=N at *;go_enter Tryz.func241,Tryz.ntmps241;go_wp2_with fail;refine t.mono ?_
    rintro e H ⟨rfl,z,y⟩;have t2:=Bm (m:=N) z (by rw[List.length_drop];omega);clear t;go_wp2_with fail;refine t2.mono ?_
    rintro e D ⟨ao,rfl,hA,G,F⟩;obtain⟨o,k1,u,E,j,C⟩:=hA.ex;have t3:=As ao N N b o _ D k1 (by omega) j C (fun i K=>B.out ⟨i,by rw[dA i] at K;exact K⟩);clear t2 k1 u E j C hA;go_wp2_with fail;refine t3.mono ?_
    rintro e O ⟨v,r,rfl,k1,u,E,j⟩;obtain⟨Q,S,rfl,J⟩:=newV_w k1 u (show w.heap.size<=D.heap.size from(y.trans F).size);have I:=(show Hid _ from J)
    have L:=(show Hid _ from j)
    clear t3 k1 u j J;go_wp2;go_ret2
    exact⟨_,by rw[s.out]; rfl,_,G.keep L.out,(y.trans F).trans (But.of L.out),fun x k e=>by
     rw[q.out] at e
     cases e
     exact⟨by rw[List.drop_drop],_,_,_,rfl,I.out,by omega⟩⟩
  ·have d:bV l=.inl 40:=by unfold bV; rw[if_pos p,if_neg hs]
   have s:Hid (rdE (bV l) 0=40):=by show _=_;rw[d];rfl
   have q:=(show Hid _ from d)
   clear d h f;generalize bZ 1 l=N at *;go_enter Tryz.func241,Tryz.ntmps241;go_wp2_with fail;refine t.mono ?_
   rintro e H ⟨rfl,z,y⟩;have t2:=DC (m:=N) z (by rw[List.length_drop];omega);clear t hs;go_wp2_with fail;refine t2.mono ?_
   rintro e D ⟨rfl,rfl⟩;clear t2;go_wp2;go_ret2;exact⟨_,by rw[s.out];rfl,_,z,y,fun x k e=>by rw[q.out] at e;cases e⟩
 ·have t:=zL (m:=1) h (by omega)
  have d:bV l=.inl 40:=by unfold bV;rw[if_neg p]
  have s:Hid (rdE (bV l) 0=40):=by show _=_;rw[d];rfl
  have q:=(show Hid _ from d)
  have P:=(show Hid _ from h)
  clear d h p f;go_enter Tryz.func241,Tryz.ntmps241;go_wp2_with fail;refine t.mono ?_
  rintro e H ⟨rfl,rfl⟩;clear t;go_wp2;go_ret2;exact⟨_,by rw[s.out];rfl,_,P.out,But.refl _ _,fun x k e=>by rw[q.out] at e;cases e⟩
theorem rdNatW(h:RdA w g b err l) :
  Calls Tryz.prog 216 #[.pointer (some ⟨g,0,none⟩)] w fun e w'=>∃ ao n c,e=.returned (.slice ao n c)/\fS w' w.heap.size ao n c (rdV 0 (bV l) err)/\n<=255/\RdA w' g b (rdE (bV l) err) (rdL (bV l) err l)/\But g w w':=by
 have t:=enNa (z:=(0:Int)) (p:=bV l) (V:=fun x v w'=>∃ ao n c,v=.slice ao n c/\fS w' w.heap.size ao n c x/\n<=255) h (fun _=>Ct) (fun w'=>⟨none,0,0,rfl,mW w' w.heap.size,by decide⟩) (fun e=>by subst e;exact ub h);clear h;generalize rdV 0 (bV l) err=V at *;generalize rdE (bV l) err=E at *;generalize rdL (bV l) err l=R at *;go_enter Tryz.func216,Tryz.ntmps216;go_wp2_with fail;refine t.mono ?_
 rintro e j ⟨v,rfl,⟨ao,n,c,rfl,i,f⟩,k1,d⟩;clear t;go_wp2;go_ret;exact⟨ao,n,c,rfl,i,f,k1,d⟩
theorem Cr(h:RdA w g b err l) :
  Calls Tryz.prog 179 #[.pointer (some ⟨g,0,none⟩)] w fun e w'=>∃ ao n c,e=.returned (.agg #[.slice ao n c])/\fS w' w.heap.size ao n c (rdV 0 (bV l) err)/\n<=255/\RdA w' g b (rdE (bV l) err) (rdL (bV l) err l)/\But g w w':=by
 have f:=(show Hid _ from ae w (.cells #[.slice none 0 0] 32))
 have q:=ff w (.slice none 0 0) 32
 have m:w.heap.size≠g:=by have:=h.lt;omega
 have j:=(show Hid _ from m)
 have t:=rdNatW (h.keep f.out);clear h m;generalize rdV 0 (bV l) err=V at *;generalize rdE (bV l) err=E at *;generalize rdL (bV l) err l=R at *;go_enter Tryz.func179,Tryz.ntmps179;go_wp2_with fail;refine t.mono ?_
 rintro e p ⟨ao,n,c,rfl,o,s,k1,i⟩;have d:=q.but i j.out;have c1:=d.cell;have f1:=d.free;have y:=d.put (.slice ao n c);have v:=(show Hid (fS (p.setCell ⟨w.heap.size,0,none⟩ (.slice ao n c)) w.heap.size ao n c V) from(o.off (w':=p.setCell ⟨w.heap.size,0,none⟩ (.slice ao n c)) (by rw[size_set];exact Nat.le_refl _) (fun b hb _=>Below.heap_setCell _ _ _ b (by have:=dv w (.cells #[.slice none 0 0] 32);show b≠w.heap.size;omega))).low f.out.size)
 have z:=(show Hid _ from k1.put (u:=.slice ao n c) d j.out (fun x e=>by cases e))
 have r:=(show Hid _ from((But.of (g:=g) f.out).trans i).put (Nat.le_refl _) (.slice ao n c))
 clear t q d k1 i o f j;go_wp2;refine bodyPost_ret (lW rfl rfl y) rfl ?_
 exact⟨ao,n,c,rfl,v.out,s,z.out,r.out⟩
end
end Rc
end
section
namespace Rc
open Go.RowKit Go.Lib Pg
attribute [local go_sem] Oper.semAt_some
section
variable {w w0:World}{B g b vb rb o k:Nat}{kd:Nat->Nat}{cs:List Value}{xs:Nat->Int}{l1 l:List Int}{v old:Value}{err:Int}
abbrev RSt:=Int × List Int × (Nat->Int)
def dS(l:List Int):Int ⊕ Int × Nat:=match bJ l with
 | .inl e=>.inl e
 | .inr p=>.inr ((if p.1 then 1 else 0),p.2)
def p1:Nat->List Int->Int ⊕ Int × Nat
 | 0,l=>cZ 8 l
 | 1,l=>dS l
 | _,l=>bV l
theorem mI(l:List Int)(err:Int):rdE (dS l) err=rdE (bJ l) err:=by
 unfold rdE dS
 cases bJ l<;>rfl
theorem nK(l m:List Int)(err:Int):rdL (dS l) err m=rdL (bJ l) err m:=by
 unfold rdL dS
 cases bJ l<;>rfl
theorem nX(l:List Int)(err:Int):rdV 0 (dS l) err=if rdV false (bJ l) err then 1 else 0:=by
 unfold rdV dS;by_cases h:err=0
 ·rw[if_pos h,if_pos h]
  cases bJ l<;>rfl
 ·rw[if_neg h,if_neg h];rfl
def rnx(k o:Nat)(s:RSt):RSt:=(rdE (p1 k s.2.1) s.1,rdL (p1 k s.2.1) s.1 s.2.1,fun i=>if i=o then rdV 0 (p1 k s.2.1) s.1 else s.2.2 i)
def oB(w:World)(B:Nat)(kd:Nat->Nat)(cs:List Value)(xs:Nat->Int):Prop:=∀ o,(kd o=0->cs[o]?=some (.int .u64 (xs o)))/\(kd o=1->∃ b:Bool,cs[o]?=some (.bool b)/\xs o=if b then 1 else 0)/\(kd o=2->∃ ao n c,cs[o]?=some (.slice ao n c)/\fS w B ao n c (xs o)/\n<=255)
theorem oB.off{w':World}(h:oB w B kd cs xs)(hs:w.heap.size<=w'.heap.size)(hw:∀ b,B<=b->b < w.heap.size->w'.heap[b]? = w.heap[b]?):oB w' B kd cs xs:=fun o=>⟨(h o).1,(h o).2.1,fun g=>by
 obtain⟨e,n,c,a,d,f⟩:=(h o).2.2 g
 exact⟨e,n,c,a,d.off hs hw,f⟩⟩
structure RI(w0:World)(B g b vb rb:Nat)(kd:Nat->Nat)(len:Nat)(T vt:TypeId)(s:RSt)(w:World):Prop where
 rd:RdA w g b s.1 s.2.1
 var:Blk w vb [.pointer (some ⟨g,0,none⟩)] vt
 rc:∃ cs,cs.length=len/\Blk w rb cs T/\oB w B kd cs s.2.2
 bel:Below w0.heap.size w0 w
 s1:rb≠g
 s2:vb≠g
 s3:vb≠rb
 s4:b≠rb
 g1:g < B
 r1:rb < B
 g0:w0.heap.size<=g
 r0:w0.heap.size<=rb
theorem Dl(w:World)(g o:Nat)(v:Value):But g w (w.setCell ⟨g,o,none⟩ v):=by
 have h:=(Chg.refl (fun x=>x=g) w).cell (g:=g) (i:=o) (.inl rfl) v;exact⟨h.os,h.tape,h.output,h.size,fun b hb a=>h.same b hb a⟩
theorem RI.step{w1:World}{len:Nat}{T vt:TypeId}{s:RSt}{e1:Int}{x:Int}(h:RI w0 B g b vb rb kd len T vt s w)(D:kd o=k)(E:o < len)(X:RdA w1 g b e1 l1)(p:But g w w1)(hv:(k=0/\v=.int .u64 x)\/(k=1/\∃ t:Bool,v=.bool t/\x=if t then 1 else 0)\/(k=2/\∃ ao n c,v=.slice ao n c/\fS w1 B ao n c x/\n<=255)) :
  RI w0 B g b vb rb kd len T vt (e1,l1,fun i=>if i=o then x else s.2.2 i) (w1.setCell ⟨rb,o,none⟩ v)/\Chg (fun y=>y=g\/y=rb) w (w1.setCell ⟨rb,o,none⟩ v):=by
 have hS:=Dl w1 rb o v;have z:=h.s1;have F:=h.g1;have G:=h.r1
 have j:Chg (·=g) w w1:=But.chg p
 have m:Chg (·=rb) w1 (w1.setCell ⟨rb,o,none⟩ v):=But.chg hS;obtain⟨cs,r,u,hF⟩:=h.rc
 have C:Below w0.heap.size w0 w1:=p.below h.bel h.g0 (Nat.le_refl _)
 have l:∀ y,B<=y->y < w.heap.size->w1.heap[y]?=w.heap[y]?:=fun y hy f=>p.block y f (by omega)
 have d:∀ y,B<=y->y < w1.heap.size->(w1.setCell ⟨rb,o,none⟩ v).heap[y]?=w1.heap[y]?:=fun y hy f=>hS.block y f (by omega)
 refine⟨⟨X.offW (fun e=>z e.symm) h.s4 hS,(h.var.chg j h.s2).chg m h.s3,⟨cs.set o v,by rw[List.length_set];exact r,(u.chg j z).setCell (i:=o) v,?_⟩,hS.below C h.r0 (Nat.le_refl _),h.s1,h.s2,h.s3,h.s4,h.g1,h.r1,h.g0,h.r0⟩,(j.mono (fun _ _ e=>.inl e)).trans m (fun _ _ e=>.inr e)⟩;have q:=hF.off p.size l;intro i;by_cases hi:i=o
 ·subst hi
  have a:(cs.set i v)[i]?=some v:=by rw[List.getElem?_set_self (by omega)]
  rw[a];simp only[if_true];refine⟨fun A=>?_,fun A=>?_,fun A=>?_⟩
  ·rcases hv with⟨_,e⟩ | ⟨e,_⟩ | ⟨e,_⟩
   ·rw[e]
   ·omega
   ·omega
  ·rcases hv with⟨e,_⟩ | ⟨_,t,e,e2⟩ | ⟨e,_⟩
   ·omega
   ·exact⟨t,by rw[e],e2⟩
   ·omega
  ·rcases hv with⟨e,_⟩ | ⟨e,_⟩ | ⟨_,ao,n,c,e,e2,e3⟩
   ·omega
   ·omega
   ·exact⟨ao,n,c,by rw[e],e2.off hS.size d,e3⟩
 ·have a:(cs.set o v)[i]? = cs[i]? := by rw[List.getElem?_set_ne (fun e=>hi e.symm)]
  simp only[if_neg hi];rw[a];exact(q.off hS.size d) i
theorem kl_Chain(h:eX o=k)(hk:k≠9):o < 2:=by
 by_cases ho:o < 2
 ·exact ho
 ·exfalso;have:eX o=9:=by
   unfold eX;rw[List.getD_eq_getElem?_getD,List.getElem?_eq_none (by simp;omega)];rfl
  omega
theorem uZ{T vt:TypeId}(X:RdA w g b err l)(V:Blk w vb [.pointer (some ⟨g,0,none⟩)] vt)(R:Blk w rb cs T)(n:rb≠g)(m:cs[o]?=some old)(hold:∃ y,old=.int .u64 y) :
  Calls Tryz.prog 209 #[.pointer (some ⟨rb,o,none⟩),.pointer (some ⟨vb,0,none⟩)] w fun e w'=>e=.returned (.tuple #[])/\∃ w1,w'=w1.setCell ⟨rb,o,none⟩ (.int .u64 (rdV 0 (p1 0 l) err))/\RdA w1 g b (rdE (p1 0 l) err) (rdL (p1 0 l) err l)/\But g w w1:=by
 obtain⟨y,rfl⟩:=hold;have t:=EY X
 show Calls Tryz.prog _ _ w fun e w'=>e=.returned (.tuple #[])/\∃ w1,w'=w1.setCell ⟨rb,o,none⟩ (.int .u64 (rdV 0 (cZ 8 l) err))/\RdA w1 g b (rdE (cZ 8 l) err) (rdL (cZ 8 l) err l)/\But g w w1
 generalize rdV 0 (cZ 8 l) err=Y at *;generalize rdE (cZ 8 l) err=E at *;generalize rdL (cZ 8 l) err l=v at *;have cv:=V.cell (i:=0) rfl;have q:=aC R;have c:=aC n;have p:=aC m;clear X V R m n;go_enter Tryz.func209,Tryz.ntmps209;go_wp2_with (go_at_call 175;refine t.mono ?_;rintro r w1 ⟨rfl,f,j⟩;clear t;have d:=q.out.chg (But.chg j) c.out;have u:=d.cell p.out;have s:=d.free o;clear d;replace f:=aC f);go_end0;exact⟨rfl,w1,rfl,f.out,j⟩
theorem vf{T vt:TypeId}(X:RdA w g b err l)(V:Blk w vb [.pointer (some ⟨g,0,none⟩)] vt)(R:Blk w rb cs T)(n:rb≠g)(m:cs[o]?=some old)(hold:∃ y,old=.bool y) :
  Calls Tryz.prog 210 #[.pointer (some ⟨rb,o,none⟩),.pointer (some ⟨vb,0,none⟩)] w fun e w'=>e=.returned (.tuple #[])/\∃ w1,w'=w1.setCell ⟨rb,o,none⟩ (.bool (rdV false (bJ l) err))/\RdA w1 g b (rdE (p1 1 l) err) (rdL (p1 1 l) err l)/\But g w w1:=by
 obtain⟨y,rfl⟩:=hold;have t:=rdBool X
 show Calls Tryz.prog _ _ w fun e w'=>e=.returned (.tuple #[])/\∃ w1,w'=w1.setCell ⟨rb,o,none⟩ (.bool (rdV false (bJ l) err))/\RdA w1 g b (rdE (dS l) err) (rdL (dS l) err l)/\But g w w1
 rw[mI,nK];generalize rdV false (bJ l) err=Y at *;generalize rdE (bJ l) err=E at *;generalize rdL (bJ l) err l=v at *;have cv:=V.cell (i:=0) rfl;have q:=aC R;have d:=aC n;have p:=aC m;clear X V R m n;go_enter Tryz.func210,Tryz.ntmps210;go_wp2_with (go_at_call 177;refine t.mono ?_;rintro r w1 ⟨rfl,f,j⟩;clear t;have c:=q.out.chg (But.chg j) d.out;have u:=c.cell p.out;have s:=c.free o;clear c;replace f:=aC f);go_end0;exact⟨rfl,w1,rfl,f.out,j⟩
theorem s8{T vt:TypeId}(X:RdA w g b err l)(V:Blk w vb [.pointer (some ⟨g,0,none⟩)] vt)(R:Blk w rb cs T)(r:rb≠g)(q:cs[o]?=some old)(hold:∃ a n c,old=.slice a n c) :
  Calls Tryz.prog 211 #[.pointer (some ⟨rb,o,none⟩),.pointer (some ⟨vb,0,none⟩)] w fun e w'=>e=.returned (.tuple #[])/\∃ w1 ao n c,w'=w1.setCell ⟨rb,o,none⟩ (.slice ao n c)/\fS w1 w.heap.size ao n c (rdV 0 (p1 2 l) err)/\n<=255/\RdA w1 g b (rdE (p1 2 l) err) (rdL (p1 2 l) err l)/\But g w w1:=by
 obtain⟨y,on,C,rfl⟩:=hold;have t:=Cr X
 show Calls Tryz.prog _ _ w fun e w'=>e=.returned (.tuple #[])/\∃ w1 ao n c,w'=w1.setCell ⟨rb,o,none⟩ (.slice ao n c)/\fS w1 w.heap.size ao n c (rdV 0 (bV l) err)/\n<=255/\RdA w1 g b (rdE (bV l) err) (rdL (bV l) err l)/\But g w w1
 generalize rdV 0 (bV l) err=Y at *;generalize rdE (bV l) err=E at *;generalize rdL (bV l) err l=D at *;have cv:=V.cell (i:=0) rfl;have x:=aC R;have f:=aC r;have s:=aC q;clear X V R q r;go_enter Tryz.func211,Tryz.ntmps211;go_wp2_with (go_at_call 179;refine t.mono ?_;rintro z w1 ⟨a1,u,d1,rfl,v,m,j,p⟩;clear t;have d:=x.out.chg (But.chg p) f.out;have B:=d.cell s.out;have A:=d.free o;clear d;replace j:=aC j);go_end0;exact⟨rfl,w1,a1,u,d1,rfl,v,m,j.out,p⟩
theorem jr(h:aX o=k)(hk:k≠9):o < 2:=by
 by_cases ho:o < 2
 ·exact ho
 ·exfalso;have:aX o=9:=by
   unfold aX;rw[List.getD_eq_getElem?_getD,List.getElem?_eq_none (by simp;omega)];rfl
  omega
theorem sR{T vt:TypeId}:HC RSt (fun s w=>RI w0 B g b vb rb aX 2 T vt s w/\B<=w.heap.size) (fun y=>y=g\/y=rb) rb 209 210 211 (.pointer (some ⟨vb,0,none⟩)) rnx aX (fun _=>True) where
 oks:=fun _ _ _ _=>trivial
 keep:=fun s w r h j=>by
  obtain⟨h,i⟩:=h;obtain⟨cs,p,k,l⟩:=h.rc;exact⟨⟨h.rd.keep j,h.var.keep j,⟨cs,p,k.keep j,l.off j.size (fun y _ hy=>j.block y hy)⟩,h.bel.trans (j.mono h.bel.size),h.s1,h.s2,h.s3,h.s4,h.g1,h.r1,h.g0,h.r0⟩,Nat.le_trans i j.size⟩
 old:=fun s w y h e=>by
  have:=h.1.g1;have:=h.1.r1;have:=h.2;rcases e with e | e<;>omega
 e1:=fun _ _=>by kernel_rfl
 e2:=fun _ _=>by kernel_rfl
 e3:=fun _ _=>by kernel_rfl
 u:=fun s w o h _ a=>by
  obtain⟨h,i⟩:=h;obtain⟨cs,p,k,l⟩:=h.rc;refine(uZ h.rd h.var k h.s1 ((l o).1 a) ⟨_,rfl⟩).mono ?_
  rintro e r ⟨rfl,v,rfl,X,m⟩;obtain⟨r1,f⟩:=h.step a (jr a (by decide)) X m (.inl ⟨rfl,rfl⟩);exact⟨rfl,⟨r1,Nat.le_trans i f.size⟩,f⟩
 t:=fun s w o h _ a=>by
  obtain⟨h,i⟩:=h;obtain⟨cs,p,k,l⟩:=h.rc;obtain⟨t,q,_⟩:=(l o).2.1 a;refine(vf h.rd h.var k h.s1 q ⟨_,rfl⟩).mono ?_
  rintro e r ⟨rfl,v,rfl,X,m⟩;obtain⟨r1,f⟩:=h.step a (jr a (by decide)) X m (x:=rdV 0 (p1 1 s.2.1) s.1) (.inr (.inl ⟨rfl,_,rfl,nX _ _⟩));exact⟨rfl,⟨r1,Nat.le_trans i f.size⟩,f⟩
 d:=fun s w o h _ a=>by
  obtain⟨h,i⟩:=h;obtain⟨cs,p,k,l⟩:=h.rc;obtain⟨C,n,c,q,_⟩:=(l o).2.2 a;refine(s8 h.rd h.var k h.s1 q ⟨_,_,_,rfl⟩).mono ?_
  rintro e r ⟨rfl,v,a1,A,c1,rfl,z,hn,X,m⟩;obtain⟨r1,f⟩:=h.step a (jr a (by decide)) X m (x:=rdV 0 (p1 2 s.2.1) s.1) (.inr (.inr ⟨rfl,_,_,_,rfl,z.low i,hn⟩));exact⟨rfl,⟨r1,Nat.le_trans i f.size⟩,f⟩
theorem rn_Cut{T vt:TypeId}(X:RdA w g b err l)(V:Blk w vb [.pointer (some ⟨g,0,none⟩)] vt)(R:Blk w rb cs T)(n:rb≠g)(m:cs[o]?=some old)(hold:∃ y,old=.int .u64 y) :
  Calls Tryz.prog 174 #[.pointer (some ⟨rb,o,none⟩),.pointer (some ⟨vb,0,none⟩)] w fun e w'=>e=.returned (.tuple #[])/\∃ w1,w'=w1.setCell ⟨rb,o,none⟩ (.int .u64 (rdV 0 (p1 0 l) err))/\RdA w1 g b (rdE (p1 0 l) err) (rdL (p1 0 l) err l)/\But g w w1:=by
 obtain⟨y,rfl⟩:=hold;have t:=EY X
 show Calls Tryz.prog _ _ w fun e w'=>e=.returned (.tuple #[])/\∃ w1,w'=w1.setCell ⟨rb,o,none⟩ (.int .u64 (rdV 0 (cZ 8 l) err))/\RdA w1 g b (rdE (cZ 8 l) err) (rdL (cZ 8 l) err l)/\But g w w1
 generalize rdV 0 (cZ 8 l) err=Y at *;generalize rdE (cZ 8 l) err=E at *;generalize rdL (cZ 8 l) err l=v at *;have cv:=V.cell (i:=0) rfl;have q:=aC R;have c:=aC n;have p:=aC m;clear X V R m n;go_enter Tryz.func174,Tryz.ntmps174;go_wp2_with (go_at_call 175;refine t.mono ?_;rintro r w1 ⟨rfl,f,j⟩;clear t;have d:=q.out.chg (But.chg j) c.out;have u:=d.cell p.out;have s:=d.free o;clear d;replace f:=aC f);go_end0;exact⟨rfl,w1,rfl,f.out,j⟩
theorem rt_Cut{T vt:TypeId}(X:RdA w g b err l)(V:Blk w vb [.pointer (some ⟨g,0,none⟩)] vt)(R:Blk w rb cs T)(n:rb≠g)(m:cs[o]?=some old)(hold:∃ y,old=.bool y) :
  Calls Tryz.prog 176 #[.pointer (some ⟨rb,o,none⟩),.pointer (some ⟨vb,0,none⟩)] w fun e w'=>e=.returned (.tuple #[])/\∃ w1,w'=w1.setCell ⟨rb,o,none⟩ (.bool (rdV false (bJ l) err))/\RdA w1 g b (rdE (p1 1 l) err) (rdL (p1 1 l) err l)/\But g w w1:=by
 obtain⟨y,rfl⟩:=hold;have t:=rdBool X
 show Calls Tryz.prog _ _ w fun e w'=>e=.returned (.tuple #[])/\∃ w1,w'=w1.setCell ⟨rb,o,none⟩ (.bool (rdV false (bJ l) err))/\RdA w1 g b (rdE (dS l) err) (rdL (dS l) err l)/\But g w w1
 rw[mI,nK];generalize rdV false (bJ l) err=Y at *;generalize rdE (bJ l) err=E at *;generalize rdL (bJ l) err l=v at *;have cv:=V.cell (i:=0) rfl;have q:=aC R;have d:=aC n;have p:=aC m;clear X V R m n;go_enter Tryz.func176,Tryz.ntmps176;go_wp2_with (go_at_call 177;refine t.mono ?_;rintro r w1 ⟨rfl,f,j⟩;clear t;have c:=q.out.chg (But.chg j) d.out;have u:=c.cell p.out;have s:=c.free o;clear c;replace f:=aC f);go_end0;exact⟨rfl,w1,rfl,f.out,j⟩
theorem rd_Cut{T vt:TypeId}(X:RdA w g b err l)(V:Blk w vb [.pointer (some ⟨g,0,none⟩)] vt)(R:Blk w rb cs T)(r:rb≠g)(q:cs[o]?=some old)(hold:∃ a n c,old=.slice a n c) :
  Calls Tryz.prog 178 #[.pointer (some ⟨rb,o,none⟩),.pointer (some ⟨vb,0,none⟩)] w fun e w'=>e=.returned (.tuple #[])/\∃ w1 ao n c,w'=w1.setCell ⟨rb,o,none⟩ (.slice ao n c)/\fS w1 w.heap.size ao n c (rdV 0 (p1 2 l) err)/\n<=255/\RdA w1 g b (rdE (p1 2 l) err) (rdL (p1 2 l) err l)/\But g w w1:=by
 obtain⟨y,on,C,rfl⟩:=hold;have t:=Cr X
 show Calls Tryz.prog _ _ w fun e w'=>e=.returned (.tuple #[])/\∃ w1 ao n c,w'=w1.setCell ⟨rb,o,none⟩ (.slice ao n c)/\fS w1 w.heap.size ao n c (rdV 0 (bV l) err)/\n<=255/\RdA w1 g b (rdE (bV l) err) (rdL (bV l) err l)/\But g w w1
 generalize rdV 0 (bV l) err=Y at *;generalize rdE (bV l) err=E at *;generalize rdL (bV l) err l=D at *;have cv:=V.cell (i:=0) rfl;have x:=aC R;have f:=aC r;have s:=aC q;clear X V R q r;go_enter Tryz.func178,Tryz.ntmps178;go_wp2_with (go_at_call 179;refine t.mono ?_;rintro z w1 ⟨a1,u,d1,rfl,v,m,j,p⟩;clear t;have d:=x.out.chg (But.chg p) f.out;have B:=d.cell s.out;have A:=d.free o;clear d;replace j:=aC j);go_end0;exact⟨rfl,w1,a1,u,d1,rfl,v,m,j.out,p⟩
theorem tQ(h:cM o=k)(hk:k≠9):o < 2:=by
 by_cases ho:o < 2
 ·exact ho
 ·exfalso;have:cM o=9:=by
   unfold cM;rw[List.getD_eq_getElem?_getD,List.getElem?_eq_none (by simp;omega)];rfl
  omega
theorem DU{T vt:TypeId}:HC RSt (fun s w=>RI w0 B g b vb rb cM 2 T vt s w/\B<=w.heap.size) (fun y=>y=g\/y=rb) rb 174 176 178 (.pointer (some ⟨vb,0,none⟩)) rnx cM (fun _=>True) where
 oks:=fun _ _ _ _=>trivial
 keep:=fun s w r h j=>by
  obtain⟨h,i⟩:=h;obtain⟨cs,p,k,l⟩:=h.rc;exact⟨⟨h.rd.keep j,h.var.keep j,⟨cs,p,k.keep j,l.off j.size (fun y _ hy=>j.block y hy)⟩,h.bel.trans (j.mono h.bel.size),h.s1,h.s2,h.s3,h.s4,h.g1,h.r1,h.g0,h.r0⟩,Nat.le_trans i j.size⟩
 old:=fun s w y h e=>by
  have:=h.1.g1;have:=h.1.r1;have:=h.2;rcases e with e | e<;>omega
 e1:=fun _ _=>by kernel_rfl
 e2:=fun _ _=>by kernel_rfl
 e3:=fun _ _=>by kernel_rfl
 u:=fun s w o h _ a=>by
  obtain⟨h,i⟩:=h;obtain⟨cs,p,k,l⟩:=h.rc;refine(rn_Cut h.rd h.var k h.s1 ((l o).1 a) ⟨_,rfl⟩).mono ?_
  rintro e r ⟨rfl,v,rfl,X,m⟩;obtain⟨r1,f⟩:=h.step a (tQ a (by decide)) X m (.inl ⟨rfl,rfl⟩);exact⟨rfl,⟨r1,Nat.le_trans i f.size⟩,f⟩
 t:=fun s w o h _ a=>by
  obtain⟨h,i⟩:=h;obtain⟨cs,p,k,l⟩:=h.rc;obtain⟨t,q,_⟩:=(l o).2.1 a;refine(rt_Cut h.rd h.var k h.s1 q ⟨_,rfl⟩).mono ?_
  rintro e r ⟨rfl,v,rfl,X,m⟩;obtain⟨r1,f⟩:=h.step a (tQ a (by decide)) X m (x:=rdV 0 (p1 1 s.2.1) s.1) (.inr (.inl ⟨rfl,_,rfl,nX _ _⟩));exact⟨rfl,⟨r1,Nat.le_trans i f.size⟩,f⟩
 d:=fun s w o h _ a=>by
  obtain⟨h,i⟩:=h;obtain⟨cs,p,k,l⟩:=h.rc;obtain⟨C,n,c,q,_⟩:=(l o).2.2 a;refine(rd_Cut h.rd h.var k h.s1 q ⟨_,_,_,rfl⟩).mono ?_
  rintro e r ⟨rfl,v,a1,A,c1,rfl,z,hn,X,m⟩;obtain⟨r1,f⟩:=h.step a (tQ a (by decide)) X m (x:=rdV 0 (p1 2 s.2.1) s.1) (.inr (.inr ⟨rfl,_,_,_,rfl,z.low i,hn⟩));exact⟨rfl,⟨r1,Nat.le_trans i f.size⟩,f⟩
end
end Rc
end
section
namespace Rc
open Go.RowKit Go.Lib Pg
attribute [local go_sem] Oper.semAt_some
section
variable {w:World}{kd:Nat->Nat}{cs:List Value}{xs:Nat->Int}{tmps:Array Value}{g bb n c:Nat}{y0 y1:Value}{ao:Option Addr}{l:List Int}
theorem C8{α:Type}(p:Int ⊕ α × Nat)(err:Int)(l:List Int):(rdL p err l).length<=l.length:=by
 unfold rdL;split
 ·cases p
  ·exact Nat.le_refl _
  ·simp
 ·exact Nat.le_refl _
theorem wP(a:List (Nat × Nat)):∀ s:RSt,(thr rnx a s).2.1.length<=s.2.1.length:=by
 induction a with
 | nil=>intro s;exact Nat.le_refl _
 | cons p a ih =>
  intro s
  have e:thr rnx (p :: a) s=thr rnx a (rnx p.1 p.2 s):=rfl;rw[e];exact Nat.le_trans (ih _) (C8 _ _ _)
structure qH(w:World)(kd:Nat->Nat)(len:Nat)(mk:List Value->Value)(s:RSt)(e:Ending)(w':World):Prop where
 ex:∃ cs xs r,e=.returned (.tuple #[mk cs,.int .i64 r])/\cs.length=len/\oB w' w.heap.size kd cs xs/\(gz s.1 s.2.1=0->r=0/\xs=s.2.2)/\(gz s.1 s.2.1≠0->r=80/\xs=fun _=>0)
 bel:Below w.heap.size w w'
theorem oB.low{B B':Nat}(h:oB w B kd cs xs)(hB:B'<=B):oB w B' kd cs xs:=fun o=>⟨(h o).1,(h o).2.1,fun hk=>by
 obtain⟨ao,n,c,h1,h2,h3⟩:=(h o).2.2 hk
 exact⟨ao,n,c,h1,h2.low hB,h3⟩⟩
theorem kD{fn:Func}{p u:Tmp}{T:TypeId}(h:fn.results=#[.cell p T,.tmp u]){v x:Value}(d:tmps.getD p undef=.pointer (some ⟨g,0,none⟩))(hu:tmps.getD u undef=x)(c:(loadVar T ⟨g,0,none⟩).run Tryz.prog w=.ok v w):(results fn tmps).run Tryz.prog w=.ok (.tuple #[v,x]) w:=by
 have a:tmps[p]?.getD undef=.pointer (some ⟨g,0,none⟩):=by simpa using d
 have b:tmps[u]?.getD undef=x:=by simpa using hu
 simp[results,h,a,b,asAddr,c]
def mkA(cs:List Value):Value:=.agg cs.toArray
theorem jo(c0:w.cell? ⟨g,0,none⟩=some y0)(c1:w.cell? ⟨g,1,none⟩=some y1):(loadVar 109 ⟨g,0,none⟩).run Tryz.prog w=.ok (.agg #[y0,y1]) w:=by go_simp
theorem pV(A:ByA w bb ao n c l)(hn:n≤1000000000)(hl:l.length=n) :
    Calls Tryz.prog 170 #[.slice ao n c,.func (.func 135) #[] #[]] w (qH w aX 2 mkA (thr rnx [(2,0),(0,1)] (0,l,fun _=>(0:Int)))):=by
  have b1:=ae w (.cells #[.slice none 0 0,.int .u64 0] 109);have Z:=ae (w.alloc (.cells #[.slice none 0 0,.int .u64 0] 109)) (.cells #[.slice none 0 0,.int .u64 0] 109);have S:=ae ((w.alloc (.cells #[.slice none 0 0,.int .u64 0] 109)).alloc (.cells #[.slice none 0 0,.int .u64 0] 109)) (.cells #[.slice none 0 0,.int .u64 0] 109);have z1:=dv w (.cells #[.slice none 0 0,.int .u64 0] 109);have z2:=dv (w.alloc (.cells #[.slice none 0 0,.int .u64 0] 109)) (.cells #[.slice none 0 0,.int .u64 0] 109);have z3:=dv ((w.alloc (.cells #[.slice none 0 0,.int .u64 0] 109)).alloc (.cells #[.slice none 0 0,.int .u64 0] 109)) (.cells #[.slice none 0 0,.int .u64 0] 109);have y1:=((aD w [.slice none 0 0,.int .u64 0] 109).keep Z).keep S;have V:=(aD (w.alloc (.cells #[.slice none 0 0,.int .u64 0] 109)) [.slice none 0 0,.int .u64 0] 109).keep S;have Q:=aD ((w.alloc (.cells #[.slice none 0 0,.int .u64 0] 109)).alloc (.cells #[.slice none 0 0,.int .u64 0] 109)) [.slice none 0 0,.int .u64 0] 109;rw[z2,z1] at Q;rw[z1] at V;rw[z2,z1] at z3;obtain⟨W3,L⟩:∃ W3,Hid ((((w.alloc (.cells #[.slice none 0 0,.int .u64 0] 109)).alloc (.cells #[.slice none 0 0,.int .u64 0] 109)).alloc (.cells #[.slice none 0 0,.int .u64 0] 109))=W3):=⟨_,rfl⟩;have P:=aA (aA b1 Z) S;rw[L.out] at P y1 V Q z3;have HN:=aC (ER (A.keep P) (by omega));have Y1:=aC y1;have Y2:=aC V;have Y3:=aC Q;have Z3:=aC z3;have HBB:=aC P;have HL:=aC hl;clear b1 Z S z1 z2 z3 y1 V Q P A hl;obtain⟨st,E⟩:∃ st,Hid (thr rnx [(2,0),(0,1)] (0,l,fun _=>(0:Int))=st):=⟨_,rfl⟩
  have hsl:st.2.1.length≤n:=by have h:=wP [(2,0),(0,1)] (0,l,fun _=>(0:Int));rw[E.out] at h;rw[HL.out] at h;exact h
  rw[E.out];go_enter Tryz.func170,Tryz.ntmps170;go_wp2_with fail;rw[L.out];refine HN.out.mono ?_
  rintro e' J ⟨g,b',rfl,hg,hb',X4,G⟩;have v:=ae J (.cells #[.pointer (some ⟨g,0,none⟩)] 254);have v5:=aD J [.pointer (some ⟨g,0,none⟩)] 254;have z5:=dv J (.cells #[.pointer (some ⟨g,0,none⟩)] 254);obtain⟨r,M⟩:∃ r,Hid (J.alloc (.cells #[.pointer (some ⟨g,0,none⟩)] 254)=r):=⟨_,rfl⟩;rw[M.out] at v v5 z5;have hgl:=X4.lt;have W:=Z3.out;have hz4:=G.size
  have F0 : oB r r.heap.size aX [.slice none 0 0, .int .u64 0] (fun _ => 0) := fun o => match o with
    | 0=>⟨fun h=>absurd h (by decide),fun h=>absurd h (by decide),fun _=>⟨none,0,0,rfl,mW _ _,by decide⟩⟩
    | 1=>⟨fun _=>rfl,fun h=>absurd h (by decide),fun h=>absurd h (by decide)⟩
    | k+2=>⟨fun h=>absurd h (by simp[aX]),fun h=>absurd h (by simp[aX]),fun h=>absurd h (by simp[aX])⟩
  have U:=jc (sR (w0:=w) (B:=r.heap.size) (g:=g) (b:=b') (vb:=J.heap.size) (rb:=w.heap.size+1) (T:=109) (vt:=254)) (s:=(0,l,fun _=>(0:Int))) (w:=r) ⟨⟨X4.keep v,v5,⟨_,rfl,(Y2.out.keep G).keep v,F0⟩,aA (aA HBB.out G) v,by omega,by omega,by omega,by omega,by omega,by omega,by omega,by omega⟩,Nat.le_refl _⟩ (by simp[aX]) trivial;rw[E.out] at U;have HU:=aC U;have P1:=aC ((Y1.out.keep G).keep v);have P3:=aC ((Y3.out.keep G).keep v);have C:=aC (show w.heap.size≠g∧w.heap.size+1+1≠g∧w.heap.size+1+1≠w.heap.size+1∧w.heap.size≠w.heap.size+1∧w.heap.size≤r.heap.size∧w.heap.size≤g from⟨by omega,by omega,by omega,by omega,by omega,by omega⟩);clear U v v5 z5 hgl W hz4 F0 X4 G hg hb' HN Y1 Y2 Y3;go_wp2_with fail;rw[M.out];refine HU.out.mono ?_
  rintro e' w6 ⟨rfl,⟨t,hB6⟩,C6⟩;have c6:=t.var.cell (i:=0) rfl;go_wp2_with fail;refine(EZ t.rd (by omega)).mono ?_
  rintro e' d ⟨rfl,X7,H⟩;obtain⟨cs6,hl6,R6,I⟩:= t.rc;obtain⟨f,K⟩:∃ f,Hid (st.2.2=f):=⟨_,rfl⟩;rw[K.out] at I;have hF6:=aC I;obtain⟨a0,n0,d0,q0,-,-⟩:= (I 0).2.2 rfl;have q1:=(I 1).1 rfl
  have ecs:cs6=[.slice a0 n0 d0,.int .u64 (f 1)]:=by
    apply List.ext_getElem?;intro i
    match i with
    | 0=>rw[q0];rfl
    | 1=>rw[q1];rfl
    | k+2=>rw[List.getElem?_eq_none (by omega),List.getElem?_eq_none (by simp)]
  subst ecs;have R:=But.chg H;have u:=(P1.out.chg C6 (fun h=>h.elim C.out.1 C.out.2.2.2.1)).chg R C.out.1;have K3:=(P3.out.chg C6 (fun h=>h.elim C.out.2.1 C.out.2.2.1)).chg R C.out.2.1;have Y:=R6.chg R t.s1;have BF:=aC (H.below t.bel C.out.2.2.2.2.2 (Nat.le_refl _));have hF7:=aC ((hF6.out.off (w':=d) H.size (fun y hy X=>H.block y X (by have:=t.g1;omega))));have N:=aC (show w.heap.size < r.heap.size∧w.heap.size < d.heap.size from⟨by have:=t.r1;omega,u.lt⟩);have u0:=u.cell (i:=0) rfl;have f0:=u.free 0;have v0:=Y.cell (i:=0) rfl;have o0:=K3.cell (i:=0) rfl;have u1:=u.cell (i:=1) rfl;have f1:=u.free 1;have v1:=Y.cell (i:=1) rfl;have o1:=K3.cell (i:=1) rfl;have m:=aC (show Blk ((d.setCell ⟨w.heap.size,0,none⟩ (.slice a0 n0 d0)).setCell ⟨w.heap.size,1,none⟩ (.int .u64 (f 1))) w.heap.size [.slice a0 n0 d0,.int .u64 (f 1)] 109 from((u.setCell (i:=0) (.slice a0 n0 d0)).setCell (i:=1) (.int .u64 (f 1))));have q:=aC (show Chg (fun x=>x=w.heap.size) d ((d.setCell ⟨w.heap.size,0,none⟩ (.slice a0 n0 d0)).setCell ⟨w.heap.size,1,none⟩ (.int .u64 (f 1))) from(((Chg.refl (fun x=>x=w.heap.size) d).cell (g:=w.heap.size) (i:=0) (.inl rfl) (.slice a0 n0 d0)).cell (g:=w.heap.size) (i:=1) (.inl rfl) (.int .u64 (f 1))));have F:=aC (show Below w.heap.size w ((d.setCell ⟨w.heap.size,0,none⟩ (.slice a0 n0 d0)).setCell ⟨w.heap.size,1,none⟩ (.int .u64 (f 1))) from((BF.out.setCell (p:=⟨w.heap.size,0,none⟩) (Nat.le_refl _) (.slice a0 n0 d0)).setCell (p:=⟨w.heap.size,1,none⟩) (Nat.le_refl _) (.int .u64 (f 1))));have j:=aC (show Blk ((d.setCell ⟨w.heap.size,0,none⟩ (.slice none 0 0)).setCell ⟨w.heap.size,1,none⟩ (.int .u64 0)) w.heap.size [.slice none 0 0,.int .u64 0] 109 from((u.setCell (i:=0) (.slice none 0 0)).setCell (i:=1) (.int .u64 0)));have KZchg:=aC (show Chg (fun x=>x=w.heap.size) d ((d.setCell ⟨w.heap.size,0,none⟩ (.slice none 0 0)).setCell ⟨w.heap.size,1,none⟩ (.int .u64 0)) from(((Chg.refl (fun x=>x=w.heap.size) d).cell (g:=w.heap.size) (i:=0) (.inl rfl) (.slice none 0 0)).cell (g:=w.heap.size) (i:=1) (.inl rfl) (.int .u64 0)));have z:=aC (show Below w.heap.size w ((d.setCell ⟨w.heap.size,0,none⟩ (.slice none 0 0)).setCell ⟨w.heap.size,1,none⟩ (.int .u64 0)) from((BF.out.setCell (p:=⟨w.heap.size,0,none⟩) (Nat.le_refl _) (.slice none 0 0)).setCell (p:=⟨w.heap.size,1,none⟩) (Nat.le_refl _) (.int .u64 0)));clear u Y K3 t C6 R H X7 R6 hl6 I c6 HU P1 P3 q0 q1;obtain⟨O,D⟩:∃ O,Hid (gz st.1 st.2.1=O):=⟨_,rfl⟩;rw[D.out];by_cases hE:O=0
  · subst hE
    go_wp2;refine bodyPost_ret (kD rfl rfl rfl (jo (m.out.cell (i:=0) rfl) (m.out.cell (i:=1) rfl))) rfl ?_
    exact⟨⟨[.slice a0 n0 d0,.int .u64 (f 1)],f,0,rfl,rfl,(hF7.out.off q.out.size (fun y hy _=>q.out.same y (by assumption) (fun e=>by have e':y=w.heap.size:=e;have:=N.out;omega))).low (by have:=N.out;omega),fun _=>⟨rfl,K.out.symm⟩,fun h=>absurd D.out h⟩,F.out⟩
  · have hE1:¬ (O=0):=hE
    go_wp2;refine bodyPost_ret (kD rfl rfl rfl (jo (j.out.cell (i:=0) rfl) (j.out.cell (i:=1) rfl))) rfl ?_
    exact⟨⟨[.slice none 0 0,.int .u64 0],fun _=>0,80,rfl,rfl,(fun o=>match o with | 0=>⟨fun h=>absurd h (by decide),fun h=>absurd h (by decide),fun _=>⟨none,0,0,rfl,mW _ _,by decide⟩⟩ | 1=>⟨fun _=>rfl,fun h=>absurd h (by decide),fun h=>absurd h (by decide)⟩ | k+2=>⟨fun h=>absurd h (by simp[aX]),fun h=>absurd h (by simp[aX]),fun h=>absurd h (by simp[aX])⟩),fun h=>absurd (D.out.symm.trans h) hE1,fun _=>⟨rfl,rfl⟩⟩,z.out⟩
theorem uK(c0:w.cell? ⟨g,0,none⟩=some y0)(c1:w.cell? ⟨g,1,none⟩=some y1):(loadVar 97 ⟨g,0,none⟩).run Tryz.prog w=.ok (.agg #[y0,y1]) w:=by go_simp
theorem Bt(A:ByA w bb ao n c l)(hn:n≤1000000000)(hl:l.length=n) :
    Calls Tryz.prog 129 #[.slice ao n c,.func (.func 100) #[] #[]] w (qH w cM 2 mkA (thr rnx [(0,0),(0,1)] (0,l,fun _=>(0:Int)))):=by
  have b1:=ae w (.cells #[.int .u64 0,.int .u64 0] 97);have Z:=ae (w.alloc (.cells #[.int .u64 0,.int .u64 0] 97)) (.cells #[.int .u64 0,.int .u64 0] 97);have S:=ae ((w.alloc (.cells #[.int .u64 0,.int .u64 0] 97)).alloc (.cells #[.int .u64 0,.int .u64 0] 97)) (.cells #[.int .u64 0,.int .u64 0] 97);have z1:=dv w (.cells #[.int .u64 0,.int .u64 0] 97);have z2:=dv (w.alloc (.cells #[.int .u64 0,.int .u64 0] 97)) (.cells #[.int .u64 0,.int .u64 0] 97);have z3:=dv ((w.alloc (.cells #[.int .u64 0,.int .u64 0] 97)).alloc (.cells #[.int .u64 0,.int .u64 0] 97)) (.cells #[.int .u64 0,.int .u64 0] 97);have y1:=((aD w [.int .u64 0,.int .u64 0] 97).keep Z).keep S;have V:=(aD (w.alloc (.cells #[.int .u64 0,.int .u64 0] 97)) [.int .u64 0,.int .u64 0] 97).keep S;have Q:=aD ((w.alloc (.cells #[.int .u64 0,.int .u64 0] 97)).alloc (.cells #[.int .u64 0,.int .u64 0] 97)) [.int .u64 0,.int .u64 0] 97;rw[z2,z1] at Q;rw[z1] at V;rw[z2,z1] at z3;obtain⟨W3,L⟩:∃ W3,Hid ((((w.alloc (.cells #[.int .u64 0,.int .u64 0] 97)).alloc (.cells #[.int .u64 0,.int .u64 0] 97)).alloc (.cells #[.int .u64 0,.int .u64 0] 97))=W3):=⟨_,rfl⟩;have P:=aA (aA b1 Z) S;rw[L.out] at P y1 V Q z3;have HN:=aC (ER (A.keep P) (by omega));have Y1:=aC y1;have Y2:=aC V;have Y3:=aC Q;have Z3:=aC z3;have HBB:=aC P;have HL:=aC hl;clear b1 Z S z1 z2 z3 y1 V Q P A hl;obtain⟨st,E⟩:∃ st,Hid (thr rnx [(0,0),(0,1)] (0,l,fun _=>(0:Int))=st):=⟨_,rfl⟩
  have hsl:st.2.1.length≤n:=by have h:=wP [(0,0),(0,1)] (0,l,fun _=>(0:Int));rw[E.out] at h;rw[HL.out] at h;exact h
  rw[E.out];go_enter Tryz.func129,Tryz.ntmps129;go_wp2_with fail;rw[L.out];refine HN.out.mono ?_
  rintro e' J ⟨g,b',rfl,hg,hb',X4,G⟩;have v:=ae J (.cells #[.pointer (some ⟨g,0,none⟩)] 254);have v5:=aD J [.pointer (some ⟨g,0,none⟩)] 254;have z5:=dv J (.cells #[.pointer (some ⟨g,0,none⟩)] 254);obtain⟨r,M⟩:∃ r,Hid (J.alloc (.cells #[.pointer (some ⟨g,0,none⟩)] 254)=r):=⟨_,rfl⟩;rw[M.out] at v v5 z5;have hgl:=X4.lt;have W:=Z3.out;have hz4:=G.size
  have F0 : oB r r.heap.size cM [.int .u64 0, .int .u64 0] (fun _ => 0) := fun o => match o with
    | 0=>⟨fun _=>rfl,fun h=>absurd h (by decide),fun h=>absurd h (by decide)⟩
    | 1=>⟨fun _=>rfl,fun h=>absurd h (by decide),fun h=>absurd h (by decide)⟩
    | k+2=>⟨fun h=>absurd h (by simp[cM]),fun h=>absurd h (by simp[cM]),fun h=>absurd h (by simp[cM])⟩
  have U:=oL (DU (w0:=w) (B:=r.heap.size) (g:=g) (b:=b') (vb:=J.heap.size) (rb:=w.heap.size+1) (T:=97) (vt:=254)) (s:=(0,l,fun _=>(0:Int))) (w:=r) ⟨⟨X4.keep v,v5,⟨_,rfl,(Y2.out.keep G).keep v,F0⟩,aA (aA HBB.out G) v,by omega,by omega,by omega,by omega,by omega,by omega,by omega,by omega⟩,Nat.le_refl _⟩ (by simp[cM]) trivial;rw[E.out] at U;have HU:=aC U;have P1:=aC ((Y1.out.keep G).keep v);have P3:=aC ((Y3.out.keep G).keep v);have C:=aC (show w.heap.size≠g∧w.heap.size+1+1≠g∧w.heap.size+1+1≠w.heap.size+1∧w.heap.size≠w.heap.size+1∧w.heap.size≤r.heap.size∧w.heap.size≤g from⟨by omega,by omega,by omega,by omega,by omega,by omega⟩);clear U v v5 z5 hgl W hz4 F0 X4 G hg hb' HN Y1 Y2 Y3;go_wp2_with fail;rw[M.out];refine HU.out.mono ?_
  rintro e' w6 ⟨rfl,⟨t,hB6⟩,C6⟩;have c6:=t.var.cell (i:=0) rfl;go_wp2_with fail;refine(EZ t.rd (by omega)).mono ?_
  rintro e' f ⟨rfl,X7,H⟩;obtain⟨cs6,hl6,R6,I⟩:= t.rc;obtain⟨d,K⟩:∃ d,Hid (st.2.2=d):=⟨_,rfl⟩;rw[K.out] at I;have hF6:=aC I;have q0:=(I 0).1 rfl;have q1:=(I 1).1 rfl
  have ecs:cs6=[.int .u64 (d 0),.int .u64 (d 1)]:=by
    apply List.ext_getElem?;intro i
    match i with
    | 0=>rw[q0];rfl
    | 1=>rw[q1];rfl
    | k+2=>rw[List.getElem?_eq_none (by omega),List.getElem?_eq_none (by simp)]
  subst ecs;have R:=But.chg H;have u:=(P1.out.chg C6 (fun h=>h.elim C.out.1 C.out.2.2.2.1)).chg R C.out.1;have K3:=(P3.out.chg C6 (fun h=>h.elim C.out.2.1 C.out.2.2.1)).chg R C.out.2.1;have Y:=R6.chg R t.s1;have BF:=aC (H.below t.bel C.out.2.2.2.2.2 (Nat.le_refl _));have hF7:=aC ((hF6.out.off (w':=f) H.size (fun y hy X=>H.block y X (by have:=t.g1;omega))));have N:=aC (show w.heap.size < r.heap.size∧w.heap.size < f.heap.size from⟨by have:=t.r1;omega,u.lt⟩);have u0:=u.cell (i:=0) rfl;have f0:=u.free 0;have v0:=Y.cell (i:=0) rfl;have o0:=K3.cell (i:=0) rfl;have u1:=u.cell (i:=1) rfl;have f1:=u.free 1;have v1:=Y.cell (i:=1) rfl;have o1:=K3.cell (i:=1) rfl;have m:=aC (show Blk ((f.setCell ⟨w.heap.size,0,none⟩ (.int .u64 (d 0))).setCell ⟨w.heap.size,1,none⟩ (.int .u64 (d 1))) w.heap.size [.int .u64 (d 0),.int .u64 (d 1)] 97 from((u.setCell (i:=0) (.int .u64 (d 0))).setCell (i:=1) (.int .u64 (d 1))));have q:=aC (show Chg (fun x=>x=w.heap.size) f ((f.setCell ⟨w.heap.size,0,none⟩ (.int .u64 (d 0))).setCell ⟨w.heap.size,1,none⟩ (.int .u64 (d 1))) from(((Chg.refl (fun x=>x=w.heap.size) f).cell (g:=w.heap.size) (i:=0) (.inl rfl) (.int .u64 (d 0))).cell (g:=w.heap.size) (i:=1) (.inl rfl) (.int .u64 (d 1))));have F:=aC (show Below w.heap.size w ((f.setCell ⟨w.heap.size,0,none⟩ (.int .u64 (d 0))).setCell ⟨w.heap.size,1,none⟩ (.int .u64 (d 1))) from((BF.out.setCell (p:=⟨w.heap.size,0,none⟩) (Nat.le_refl _) (.int .u64 (d 0))).setCell (p:=⟨w.heap.size,1,none⟩) (Nat.le_refl _) (.int .u64 (d 1))));have j:=aC (show Blk ((f.setCell ⟨w.heap.size,0,none⟩ (.int .u64 0)).setCell ⟨w.heap.size,1,none⟩ (.int .u64 0)) w.heap.size [.int .u64 0,.int .u64 0] 97 from((u.setCell (i:=0) (.int .u64 0)).setCell (i:=1) (.int .u64 0)));have KZchg:=aC (show Chg (fun x=>x=w.heap.size) f ((f.setCell ⟨w.heap.size,0,none⟩ (.int .u64 0)).setCell ⟨w.heap.size,1,none⟩ (.int .u64 0)) from(((Chg.refl (fun x=>x=w.heap.size) f).cell (g:=w.heap.size) (i:=0) (.inl rfl) (.int .u64 0)).cell (g:=w.heap.size) (i:=1) (.inl rfl) (.int .u64 0)));have z:=aC (show Below w.heap.size w ((f.setCell ⟨w.heap.size,0,none⟩ (.int .u64 0)).setCell ⟨w.heap.size,1,none⟩ (.int .u64 0)) from((BF.out.setCell (p:=⟨w.heap.size,0,none⟩) (Nat.le_refl _) (.int .u64 0)).setCell (p:=⟨w.heap.size,1,none⟩) (Nat.le_refl _) (.int .u64 0)));clear u Y K3 t C6 R H X7 R6 hl6 I c6 HU P1 P3 q0 q1;obtain⟨O,D⟩:∃ O,Hid (gz st.1 st.2.1=O):=⟨_,rfl⟩;rw[D.out];by_cases hE:O=0
  · subst hE
    go_wp2;refine bodyPost_ret (kD rfl rfl rfl (uK (m.out.cell (i:=0) rfl) (m.out.cell (i:=1) rfl))) rfl ?_
    exact⟨⟨[.int .u64 (d 0),.int .u64 (d 1)],d,0,rfl,rfl,(hF7.out.off q.out.size (fun y hy _=>q.out.same y (by assumption) (fun e=>by have e':y=w.heap.size:=e;have:=N.out;omega))).low (by have:=N.out;omega),fun _=>⟨rfl,K.out.symm⟩,fun h=>absurd D.out h⟩,F.out⟩
  · have hE1:¬ (O=0):=hE
    go_wp2;refine bodyPost_ret (kD rfl rfl rfl (uK (j.out.cell (i:=0) rfl) (j.out.cell (i:=1) rfl))) rfl ?_
    exact⟨⟨[.int .u64 0,.int .u64 0],fun _=>0,80,rfl,rfl,(fun o=>match o with | 0=>⟨fun _=>rfl,fun h=>absurd h (by decide),fun h=>absurd h (by decide)⟩ | 1=>⟨fun _=>rfl,fun h=>absurd h (by decide),fun h=>absurd h (by decide)⟩ | k+2=>⟨fun h=>absurd h (by simp[cM]),fun h=>absurd h (by simp[cM]),fun h=>absurd h (by simp[cM])⟩),fun h=>absurd (D.out.symm.trans h) hE1,fun _=>⟨rfl,rfl⟩⟩,z.out⟩
end
end Rc
end
section
namespace Rc
open Go.RowKit Go.Lib Pg
attribute [local go_sem] Oper.semAt_some
section
variable {w:World}{a0 ao:Option Addr}{x0 x1:Int}{bb n c:Nat}{l:List Int}
theorem nD{n0 c0:Nat}(j:aY w a0 n0 c0 x0)(m0:n0<=1000000) :
  Calls Tryz.prog 82 #[.agg #[.slice a0 n0 c0,.int .u64 x1]] w fun e w'=>∃ b n,e=.returned (.slice (some ⟨b,0,none⟩) n n)/\n=(thr (pnx (fun o=>([x0,x1]:List Int).getD o 0)) [(2,0),(0,1)] []).length/\Box w' b ((thr (pnx (fun o=>([x0,x1]:List Int).getD o 0)) [(2,0),(0,1)] []).map (Value.int .u8)) 5/\w.heap.size<=b/\Below w.heap.size w w':=by
 have d:=ae w (.cells #[.slice a0 n0 c0,.int .u64 x1] 109);have U:=sP (j.keep d) m0 (x1:=x1) (w:=w.alloc (.cells #[.slice a0 n0 c0,.int .u64 x1] 109));have c:=aC d;generalize thr (pnx (fun o=>([x0,x1]:List Int).getD o 0)) [(2,0),(0,1)] []=M at *;have f:=aC U;clear U;go_enter Tryz.func82,Tryz.ntmps82;go_wp2_with fail;refine f.out.mono ?_
 rintro l g ⟨b,n,rfl,hn,X,hb,B⟩;have i:=aC (show n=M.length/\Box g b (M.map (Value.int .u8)) 5/\w.heap.size<=b/\Below w.heap.size w g from⟨hn,X,Nat.le_trans c.out.size hb,aA c.out B⟩);clear hn X hb B f c;go_wp2;go_ret;exact⟨b,n,rfl,i.out⟩
theorem se(A:ByA w bb ao n c l)(hn:n<=1000000000)(z:l.length=n) :
  Calls Tryz.prog 121 #[.slice ao n c] w (qH w aX 2 mkA (thr rnx [(2,0),(0,1)] (0,l,fun _=>(0:Int)))):=by
 have m:=ae w (.cells #[.slice none 0 0,.int .u64 0] 109);have s:=aD w [.slice none 0 0,.int .u64 0] 109;have z1:=dv w (.cells #[.slice none 0 0,.int .u64 0] 109);have U:=pV (A.keep m) hn z;generalize thr rnx [(2,0),(0,1)] (0,l,fun _=>(0:Int))=st at *;obtain⟨v,f⟩:∃ v,Hid (w.alloc (.cells #[.slice none 0 0,.int .u64 0] 109)=v):=⟨_,rfl⟩
 rw[f.out] at m s z1 U;have F:=aC U;have q:=aC m;have D:=aC s;have H:=aC z1;clear A z m s z1 U;go_enter Tryz.func121,Tryz.ntmps121;go_wp2_with fail;rw[f.out];refine F.out.mono ?_
 rintro J d ⟨⟨cs,xs,r,rfl,I,j,C,E⟩,B⟩;obtain⟨a0,n0,d0,q0,-,-⟩:=(j 0).2.2 rfl;have q1:=(j 1).1 rfl
 have t:cs=[.slice a0 n0 d0,.int .u64 (xs 1)]:=by
  apply List.ext_getElem?;intro i
  match i with
  | 0=>rw[q0];rfl
  | 1=>rw[q1];rfl
  | k+2=>rw[List.getElem?_eq_none (by omega),List.getElem?_eq_none (by simp)]
 subst t;have b:=D.out.keep B;have G:=aA q.out B;have M:=b.cell (i:=0) rfl;have f0:=b.free 0;have L:=b.cell (i:=1) rfl;have f1:=b.free 1;have KB:=aC (show Blk ((d.setCell ⟨w.heap.size,0,none⟩ (.slice a0 n0 d0)).setCell ⟨w.heap.size,1,none⟩ (.int .u64 (xs 1))) w.heap.size [.slice a0 n0 d0,.int .u64 (xs 1)] 109 from((b.setCell (i:=0) (.slice a0 n0 d0)).setCell (i:=1) (.int .u64 (xs 1))));have u:=aC (show Chg (fun x=>x=w.heap.size) d ((d.setCell ⟨w.heap.size,0,none⟩ (.slice a0 n0 d0)).setCell ⟨w.heap.size,1,none⟩ (.int .u64 (xs 1))) from(((Chg.refl (fun x=>x=w.heap.size) d).cell (g:=w.heap.size) (i:=0) (.inl rfl) (.slice a0 n0 d0)).cell (g:=w.heap.size) (i:=1) (.inl rfl) (.int .u64 (xs 1))));have K:=aC (show qH w aX 2 mkA st (.returned (.tuple #[.agg #[.slice a0 n0 d0,.int .u64 (xs 1)],.int .i64 r])) ((d.setCell ⟨w.heap.size,0,none⟩ (.slice a0 n0 d0)).setCell ⟨w.heap.size,1,none⟩ (.int .u64 (xs 1))) from⟨⟨[.slice a0 n0 d0,.int .u64 (xs 1)],xs,r,rfl,rfl,(j.off u.out.size (fun y hy o=>u.out.same y o (fun e=>by have J:y=w.heap.size:=e;have:=H.out;omega))).low q.out.size,C,E⟩,((G.setCell (p:=⟨w.heap.size,0,none⟩) (Nat.le_refl _) (.slice a0 n0 d0)).setCell (p:=⟨w.heap.size,1,none⟩) (Nat.le_refl _) (.int .u64 (xs 1)))⟩);clear I j C E B b G F u D q q0 q1;simp only[mkA];go_wp2;refine bodyPost_ret (kD rfl rfl rfl (jo (KB.out.cell (i:=0) rfl) (KB.out.cell (i:=1) rfl))) rfl ?_
 exact K.out
theorem vy :
  Calls Tryz.prog 57 #[.agg #[.int .u64 x0,.int .u64 x1]] w fun e w'=>∃ b n,e=.returned (.slice (some ⟨b,0,none⟩) n n)/\n=(thr (pnx (fun o=>([x0,x1]:List Int).getD o 0)) [(0,0),(0,1)] []).length/\Box w' b ((thr (pnx (fun o=>([x0,x1]:List Int).getD o 0)) [(0,0),(0,1)] []).map (Value.int .u8)) 5/\w.heap.size<=b/\Below w.heap.size w w':=by
 have i:=ae w (.cells #[.int .u64 x0,.int .u64 x1] 97);have U:=DR (x0:=x0) (x1:=x1) (w:=w.alloc (.cells #[.int .u64 x0,.int .u64 x1] 97));have c:=aC i;generalize thr (pnx (fun o=>([x0,x1]:List Int).getD o 0)) [(0,0),(0,1)] []=M at *;have d:=aC U;clear U;go_enter Tryz.func57,Tryz.ntmps57;go_wp2_with fail;refine d.out.mono ?_
 rintro j f ⟨b,n,rfl,hn,X,hb,B⟩;have g:=aC (show n=M.length/\Box f b (M.map (Value.int .u8)) 5/\w.heap.size<=b/\Below w.heap.size w f from⟨hn,X,Nat.le_trans c.out.size hb,aA c.out B⟩);clear hn X hb B d c;go_wp2;go_ret;exact⟨b,n,rfl,g.out⟩
theorem DY(A:ByA w bb ao n c l)(hn:n<=1000000000)(z:l.length=n) :
  Calls Tryz.prog 77 #[.slice ao n c] w (qH w cM 2 mkA (thr rnx [(0,0),(0,1)] (0,l,fun _=>(0:Int)))):=by
 have m:=ae w (.cells #[.int .u64 0,.int .u64 0] 97);have s:=aD w [.int .u64 0,.int .u64 0] 97;have z1:=dv w (.cells #[.int .u64 0,.int .u64 0] 97);have U:=Bt (A.keep m) hn z;generalize thr rnx [(0,0),(0,1)] (0,l,fun _=>(0:Int))=st at *;obtain⟨v,f⟩:∃ v,Hid (w.alloc (.cells #[.int .u64 0,.int .u64 0] 97)=v):=⟨_,rfl⟩
 rw[f.out] at m s z1 U;have F:=aC U;have q:=aC m;have D:=aC s;have H:=aC z1;clear A z m s z1 U;go_enter Tryz.func77,Tryz.ntmps77;go_wp2_with fail;rw[f.out];refine F.out.mono ?_
 rintro J d ⟨⟨cs,xs,r,rfl,I,j,C,E⟩,B⟩;have q0:=(j 0).1 rfl;have q1:=(j 1).1 rfl
 have t:cs=[.int .u64 (xs 0),.int .u64 (xs 1)]:=by
  apply List.ext_getElem?;intro i
  match i with
  | 0=>rw[q0];rfl
  | 1=>rw[q1];rfl
  | k+2=>rw[List.getElem?_eq_none (by omega),List.getElem?_eq_none (by simp)]
 subst t;have b:=D.out.keep B;have G:=aA q.out B;have M:=b.cell (i:=0) rfl;have f0:=b.free 0;have L:=b.cell (i:=1) rfl;have f1:=b.free 1;have KB:=aC (show Blk ((d.setCell ⟨w.heap.size,0,none⟩ (.int .u64 (xs 0))).setCell ⟨w.heap.size,1,none⟩ (.int .u64 (xs 1))) w.heap.size [.int .u64 (xs 0),.int .u64 (xs 1)] 97 from((b.setCell (i:=0) (.int .u64 (xs 0))).setCell (i:=1) (.int .u64 (xs 1))));have u:=aC (show Chg (fun x=>x=w.heap.size) d ((d.setCell ⟨w.heap.size,0,none⟩ (.int .u64 (xs 0))).setCell ⟨w.heap.size,1,none⟩ (.int .u64 (xs 1))) from(((Chg.refl (fun x=>x=w.heap.size) d).cell (g:=w.heap.size) (i:=0) (.inl rfl) (.int .u64 (xs 0))).cell (g:=w.heap.size) (i:=1) (.inl rfl) (.int .u64 (xs 1))));have K:=aC (show qH w cM 2 mkA st (.returned (.tuple #[.agg #[.int .u64 (xs 0),.int .u64 (xs 1)],.int .i64 r])) ((d.setCell ⟨w.heap.size,0,none⟩ (.int .u64 (xs 0))).setCell ⟨w.heap.size,1,none⟩ (.int .u64 (xs 1))) from⟨⟨[.int .u64 (xs 0),.int .u64 (xs 1)],xs,r,rfl,rfl,(j.off u.out.size (fun y hy o=>u.out.same y o (fun e=>by have J:y=w.heap.size:=e;have:=H.out;omega))).low q.out.size,C,E⟩,((G.setCell (p:=⟨w.heap.size,0,none⟩) (Nat.le_refl _) (.int .u64 (xs 0))).setCell (p:=⟨w.heap.size,1,none⟩) (Nat.le_refl _) (.int .u64 (xs 1)))⟩);clear I j C E B b G F u D q q0 q1;simp only[mkA];go_wp2;refine bodyPost_ret (kD rfl rfl rfl (uK (KB.out.cell (i:=0) rfl) (KB.out.cell (i:=1) rfl))) rfl ?_
 exact K.out
end
end Rc
end
section
open Go.RowKit Lim
end
section
open Go.RowKit Lim
end
end Go.Proofs.YtjejmkcjflhoiaaGreatDoor
