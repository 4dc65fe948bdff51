import Derived.Test.YthfepflplbahkaaGreatDoorJal
import Derived.Test.YthfepflplbahkaaGreatDoorJaa
import Derived.Deep.RegionWith
import Derived.OpenShut
import Derived.Laws.AppendOwnNone
import Derived.Deep.RegionLaw
import Derived.Laws.CopyOwn
import Derived.Great.FillDense
import Derived.Lib.SliceRun
import Derived.Test.YthfepflplbahkaaGreatDoorJac
import Derived.Test.YthfepflplbahkaaGreatDoorJaf
import Derived.Lib.SlBytesConst
set_option maxRecDepth 100000
set_option maxHeartbeats 8000000
namespace Go.Proofs.YthfepflplbahkaaGreatDoor
section
open Go.RowKit Lim
section
variable {w:World}{b n c k g:Nat}{ao:Option Addr}{l:List Int}{u v:Value}
structure ByA(w:World)(b:Nat)(ao:Option Addr)(n c:Nat)(l:List Int):Prop where
 ex:∃ o,l.length=n/\n<=c/\(c<=9223372036854775807/\(ao=none->c=0))/\a7 l/\AtB w ao b o l
theorem ByA.keep{w':World}(h:ByA w b ao n c l)(hb:Below w.heap.size w w'):ByA w' b ao n c l:=by
 obtain⟨o,h1,h2,h3,h4,h5⟩:=h.ex;exact⟨o,h1,h2,h3,h4,h5.keep hb⟩
theorem addr_add(b o n:Nat):(⟨b,o,none⟩:Addr).add n=⟨b,o + n,none⟩:=by
 unfold Addr.add;split
 ·subst n; rfl
 ·rfl
def cZ(ao:Option Addr)(c n:Nat):Option Addr:=if c=n then ao else ao.map (·.add n)
theorem rN(h:cZ ao c k=none):ao=none:=by
 unfold cZ at h;split at h
 ·exact h
 ·cases ao with
  | none=>rfl
  | some a=>cases h
theorem ByA.rest(h:ByA w b ao n c l)(p:k<=n):ByA w b (cZ ao c k) (n - k) (c - k) (l.drop k):=by
 obtain⟨o,d,m,a,g,f⟩:=h.ex;by_cases hn:n=k
 ·have e:l.drop k=[]:=List.drop_eq_nil_of_le (by omega);rw[e];exact⟨0,by rw[hn]; simp,by omega,⟨by have:=a.1; omega,fun e=>by have:=a.2 (rN e); omega⟩,fun x hx=>by simp at hx,.inl rfl,fun i hi=>by simp at hi⟩
 ·have j:l≠[]:=fun e=>by rw[e] at d; simp at d; omega
  obtain rfl:ao=some ⟨b,o,none⟩:=by
   rcases f.loc with e | e
   ·exact absurd e j
   ·exact e
  have e:cZ (some ⟨b,o,none⟩) c k=some ⟨b,o + k,none⟩:=by
   unfold cZ;rw[if_neg (by omega)];exact congrArg some (addr_add b o k)
  rw[e];refine⟨o + k,by rw[List.length_drop]; omega,by omega,⟨by have:=a.1; omega,fun e=>by cases e⟩,fun x hx=>g x (List.mem_of_mem_drop hx),.inr rfl,fun i hi => ?_⟩;rw[List.length_drop] at hi;have:=f.cell (k + i) (by omega);rw[show o + k + i=o + (k + i) by omega,this,dC]
theorem ByA.front(h:ByA w b ao n c l)(j:k<=n):ByA w b ao k k (l.take k):=by
 obtain⟨o,g,m,a,f,d⟩:=h.ex;refine⟨o,by rw[List.length_take]; omega,Nat.le_refl _,⟨by have:=a.1; omega,fun e=>by have:=a.2 e; omega⟩,fun x hx=>f x (List.mem_of_mem_take hx),?_,fun i hi => ?_⟩
 ·rcases d.loc with e | e
  ·exact .inl (by rw[e]; simp)
  ·exact .inr e
 ·rw[List.length_take] at hi;rw[d.cell i (by omega),dr (by omega)]
theorem Box.two{t:TypeId}(h:Box w g [u,v] t):w.cell? ⟨g,0,none⟩=some u/\w.cell? ⟨g,1,none⟩=some v/\w.frozen? ⟨g,0,none⟩=false/\w.frozen? ⟨g,1,none⟩=false:=by
 have:=h.blk;simp[World.cell?,World.frozen?,this]
theorem fE{err:Int}{t:TypeId}(X:Box w g [.int .i64 err,v] t) :
  Calls Tryz.prog 198 #[.pointer (some ⟨g,0,none⟩)] w fun e w'=>e=.returned (.bool (err == 0))/\w'=w:=by
 obtain⟨c1,c2,b,c⟩:=X.two;go_enter Tryz.func198,Tryz.ntmps198;go_wp2;go_ret;exact⟨rfl,rfl⟩
theorem qc{e0:Int}{t:TypeId}(X:Box w g [.int .i64 0,v] t) :
  Calls Tryz.prog 223 #[.pointer (some ⟨g,0,none⟩),.int .i64 e0] w fun e w'=>e=.returned (.tuple #[])/\w'=w.setCell ⟨g,0,none⟩ (.int .i64 e0):=by
 obtain⟨c1,c2,b,c⟩:=X.two;go_enter Tryz.func223,Tryz.ntmps223;go_wp2_with fail;refine(fE X).mono ?_
 rintro e w' ⟨rfl,rfl⟩;go_wp2;go_end0;exact⟨rfl,rfl⟩
theorem vz{m:Int}{t:TypeId}(X:Box w g [u,.slice ao n c] t)(hn:n<=9223372036854775807)(hm:(n:Int) < m) :
  Calls Tryz.prog 255 #[.pointer (some ⟨g,0,none⟩),.int .u64 m] w fun e w'=>e=.returned (.tuple #[.slice none 0 0,.int .i64 40])/\w'=w:=by
 obtain⟨c1,c2,b,d⟩:=X.two;go_enter Tryz.func255,Tryz.ntmps255;go_wp2;go_ret2;exact⟨rfl,rfl⟩
theorem AM{m:Nat}{t:TypeId}(X:Box w g [u,.slice ao n c] t)(hc:n<=c)(hn:c<=9223372036854775807)(hm:m<=n) :
  Calls Tryz.prog 255 #[.pointer (some ⟨g,0,none⟩),.int .u64 m] w fun e w'=>e=.returned (.tuple #[.slice ao m m,.int .i64 0])/\w'=w.setCell ⟨g,1,none⟩ (.slice (cZ ao c m) (n - m) (c - m)):=by
 obtain⟨c1,c2,f,i⟩:=X.two
 have b:(m:Int)<=n:=by omega
 have d:(m:Int)<=c:=by omega
 go_enter Tryz.func255,Tryz.ntmps255;go_wp2
 ·go_ret2;exact⟨rfl,by unfold cZ; rw[if_pos rfl]⟩
 ·go_ret2;exact⟨rfl,by unfold cZ; rw[if_neg (by assumption)]⟩
end
end
section
open Go.RowKit Lim
section
variable {w w':World}{ao:Option Addr}{b g n c:Nat}{l:List Int}{cs:List Value}
theorem or8(a b:Int)(c:0<=a)(e:a < 72057594037927936)(d:0<=b)(f:b < 256):bits .or .u64 (a * 256) b=a * 256 + b:=oR (a * 256) b 8 a (by rw[show (2:Int) ^ 8=256 by decide]) c (by omega) d (by omega) (by omega)
theorem tO(l:List Int)(x:Int):bM (l ++ [x])=bM l * 256 + x:=by
 induction l with
 | nil=>simp[bM]
 | cons y l ih =>
  rw[List.cons_append,bM,bM,ih,List.length_append,List.length_singleton,Int.pow_succ];grind
theorem AtB.box{o:Nat}(k:AtB w ao b o l){t:TypeId}(s:Box w g cs t)(hv:∀ v∈cs,∀ x,v≠.int .u8 x)(hw:∀ k,k≠g->w'.heap[k]? = w.heap[k]?):AtB w' ao b o l :=
 ⟨k.loc,fun i hi=>by
  have hc:=k.cell i hi;by_cases e:b=g
  ·subst e;simp only[World.cell?,s.blk] at hc
   have a:cs.toArray[o + i]? = some (.int .u8 (nth l i)):=by simpa using hc
   rw[List.getElem?_toArray] at a;exact absurd rfl (hv _ (List.mem_of_getElem? a) _)
  ·rw[World.cell?_of_block (w:=w) (hw b e)]; exact hc⟩
theorem ByA.box(h:ByA w b ao n c l){t:TypeId}(s:Box w g cs t)(hv:∀ v∈cs,∀ x,v≠.int .u8 x)(hw:∀ k,k≠g->w'.heap[k]? = w.heap[k]?):ByA w' b ao n c l:=by
 obtain⟨o,d,e,f,a,i⟩:=h.ex;exact⟨o,d,e,f,a,i.box s hv hw⟩
theorem kK(err:Int)(ao:Option Addr)(n c:Nat):∀ v∈[Value.int .i64 err,Value.slice ao n c],∀ x,v≠.int .u8 x:=fun v hv x e=>by
 rcases List.mem_cons.1 hv with h | h
 ·subst h; cases e
 ·rw[List.mem_singleton] at h; subst h; cases e
theorem rdNum{m:Nat}{err:Int}{t:TypeId}(X:Box w g [.int .i64 err,.slice ao n c] t)(h:ByA w b ao n c l)(hm:m<=n)(h8:m<=8) :
  Calls Tryz.prog 244 #[.pointer (some ⟨g,0,none⟩),.int .u64 m] w fun e w'=>e=.returned (.tuple #[.int .u64 (bM (l.take m)),.int .i64 0])/\w'=w.setCell ⟨g,1,none⟩ (.slice (cZ ao c m) (n - m) (c - m)):=by
 obtain⟨o,L,C,⟨A,-⟩,v,G⟩:=h.ex
 have hA:ByA (w.setCell ⟨g,1,none⟩ (.slice (cZ ao c m) (n - m) (c - m))) b ao n c l:=h.box X (kK _ _ _ _) fun k s=>Below.heap_setCell _ _ _ k s
 have t:=AM (m:=m) X C A hm;obtain⟨I,-,-,-,-,f⟩:=hA.ex;clear hA G h X
 have u:Hid (a7 l):=v;clear v;go_enter Tryz.func244,Tryz.ntmps244;go_wp2_with fail;refine t.mono ?_
 rintro e w' ⟨rfl,rfl⟩;clear t;generalize hWW:w.setCell ⟨g,1,none⟩ (.slice (cZ ao c m) (n - m) (c - m))=W at *;have j:=(show Hid _ from hWW)
 clear hWW;go_wp2_with fail;go_loop [8,10,19] (fun F N i=>∃ k:Nat,k<=m/\i=.int .i64 k/\F=.int .u64 (bM (l.take k))) (fun _ _ i=>m - (intOf i).toNat)
 case atStart=>exact⟨0,Nat.zero_le _,rfl,rfl⟩
 case round =>
  obtain⟨k,s,rfl,rfl⟩:=hrel;by_cases E:k < m
  ·have d:k < l.length:=by omega
   have p:=f.cell k d;obtain rfl:ao=some ⟨b,I,none⟩:=by
    rcases f.loc with e | e
    ·rw[e] at d; simp at d
    ·exact e
   have K:(k:Int) < m:=by omega
   have z:=u.out.nth k;have y:=bL (l:=l.take k) (fun x hx=>u.out x (List.mem_of_mem_take hx))
   have H:(256:Int) ^ (l.take k).length<=256 ^ 7:=gH (by rw[List.length_take]; omega)
   have r:bM (l.take k) < 72057594037927936:=by
    have M:(256:Int) ^ 7=72057594037927936:=by decide
    omega
   have q:=y.1;have B:=or8 (bM (l.take k)) (nth l k) q r z.1 z.2
   have J:Hid (bM (l.take (k + 1))=bM (l.take k) * 256 + nth l k):=by show _=_; rw[dQ d,tO]
   clear y H;generalize bM (l.take k)=V at *;generalize nth l k=D at *;go_wp2;go_round
   case rel=>exact⟨k + 1,by omega,by go_num,by rw[J.out]⟩
   case measure=>simp[intOf]; omega
  ·obtain rfl:k=m:=by omega
   go_wp2;go_ret2;exact⟨rfl,j.out.symm⟩
end
end
section
open Go.RowKit Lim
section
variable {g n c gr gs:Nat}{w w':World}{a b v fv:Value}{m err x e0:Int}{ao:Option Addr}{Q:World → Prop}{l:List Int}
structure But(g:Nat)(w w':World):Prop where
 os:w'.os=w.os
 tape:w'.tape=w.tape
 output:w'.output=w.output
 size:w.heap.size<=w'.heap.size
 block:∀ k,k < w.heap.size->k≠g->w'.heap[k]? = w.heap[k]?
theorem But.below{B:Nat}{w0:World}(h:But g w w')(b:Below B w0 w)(c:B<=g)(hs:B<=w0.heap.size):Below B w0 w' :=
 ⟨h.os.trans b.os,h.tape.trans b.tape,h.output.trans b.output,Nat.le_trans b.size h.size,fun k a=>(h.block k (Nat.lt_of_lt_of_le (Nat.lt_of_lt_of_le a hs) b.size) (by omega)).trans (b.block k a)⟩
theorem wK{w1 a c:World}(b:Below w.heap.size w w1)(h:∀ k,k≠g->a.heap[k]? = w1.heap[k]?)(l:a.os=w1.os)(d:a.tape=w1.tape)(j:a.output=w1.output)(hs:a.heap.size=w1.heap.size)(e:c=a):But g w c:=by
 subst e;exact⟨l.trans b.os,d.trans b.tape,j.trans b.output,by rw[hs]; exact b.size,fun k i f=>(h k f).trans (b.block k i)⟩
theorem eL{t:TypeId}(h:Box w g [a,b] t)(v:Value):Box (w.setCell ⟨g,1,none⟩ v) g [a,v] t:=⟨by
 have:=h.blk;simp only[World.setCell,Array.getElem?_modify,if_true,this]
 simp⟩
theorem jt{t:TypeId}(h:Box w g [a,b] t)(v:Value):Box (w.setCell ⟨g,0,none⟩ v) g [v,b] t:=⟨by
 have:=h.blk;simp only[World.setCell,Array.getElem?_modify,if_true,this]
 simp⟩
theorem zi{t:TypeId}(X:Box w g [.int .i64 err,.slice ao n c] t)(hn:n<=9223372036854775807)(hm:(n:Int) < m) :
  Calls Tryz.prog 244 #[.pointer (some ⟨g,0,none⟩),.int .u64 m] w fun e w'=>e=.returned (.tuple #[.int .u64 0,.int .i64 40])/\w'=w:=by
 have t:=vz X hn hm;clear hm;go_enter Tryz.func244,Tryz.ntmps244;go_wp2_with fail;refine t.mono ?_
 rintro e w' ⟨rfl,rfl⟩;clear t;go_wp2_with fail;go_loop [8,10,19] (fun d f b=>d=.int .u64 0/\b=.int .i64 0) (fun _ _ _=>0)
 case atStart=>exact⟨rfl,rfl⟩
 case round =>
  obtain⟨rfl,rfl⟩:=hrel;go_wp2;go_ret2;exact⟨rfl,rfl⟩
theorem AB(d : w.cell? ⟨gr, 0, none⟩ = some (.pointer (some ⟨g, 0, none⟩)))(hs : w.cell? ⟨gs, 0, none⟩ = some (.int .u64 m))(b : Calls Tryz.prog 244 #[.pointer (some ⟨g, 0, none⟩), .int .u64 m] w fun e w' => e = .returned (.tuple #[.int .u64 x, .int .i64 e0]) ∧ Q w') :
    Calls Tryz.prog 243 #[.pointer (some ⟨gr, 0, none⟩), .pointer (some ⟨gs, 0, none⟩)] w fun e w' => e = .returned (.tuple #[.int .u64 x, .int .i64 e0]) ∧ Q w' := by
  go_enter Tryz.func243, Tryz.ntmps243;go_wp2_with fail;refine b.mono ?_
  rintro e w' ⟨rfl, c⟩;clear b;go_wp2;go_ret2;exact⟨rfl, c⟩
theorem enBad{t:TypeId}(X:Box w g [.int .i64 err,v] t)(he:err≠0) :
  Calls Tryz.prog 242 #[.pointer (some ⟨g,0,none⟩),fv] w fun e w'=>e=.returned (.int .u64 0)/\w'=w:=by
 have hb:(err == 0)=false:=beq_eq_false_iff_ne.2 he;have t:=fE X;rw[hb] at t;clear he hb;go_enter Tryz.func242,Tryz.ntmps242;go_wp2_with fail;refine t.mono ?_
 rintro e w' ⟨rfl,rfl⟩;clear t;go_wp2;go_ret;exact⟨rfl,rfl⟩
theorem enOk{t:TypeId}{Q:World->Prop}(X:Box w g [.int .i64 0,.slice ao n c] t)(b:Calls Tryz.prog 243 #[.pointer (some ⟨gr,0,none⟩),.pointer (some ⟨gs,0,none⟩)] w fun e w'=>e=.returned (.tuple #[.int .u64 x,.int .i64 0])/\Q w') :
  Calls Tryz.prog 242 #[.pointer (some ⟨g,0,none⟩),.func (.func 243) #[] #[.pointer (some ⟨gr,0,none⟩),.pointer (some ⟨gs,0,none⟩)]] w fun e w'=>e=.returned (.int .u64 x)/\Q w':=by
 obtain⟨c1,c2,f,j⟩:=X.two;have t:=fE X;go_enter Tryz.func242,Tryz.ntmps242;go_wp2_with fail;refine t.mono ?_
 rintro e w' ⟨rfl,rfl⟩;clear t;go_wp2_with fail;refine b.mono ?_
 rintro e i ⟨rfl,d⟩;clear b;go_wp2;go_ret;exact⟨rfl,d⟩
theorem enErr{t:TypeId}(he:e0≠0)(X:Box w g [.int .i64 0,.slice ao n c] t)(d:Calls Tryz.prog 243 #[.pointer (some ⟨gr,0,none⟩),.pointer (some ⟨gs,0,none⟩)] w fun e w'=>e=.returned (.tuple #[.int .u64 x,.int .i64 e0])/\w'=w) :
  Calls Tryz.prog 242 #[.pointer (some ⟨g,0,none⟩),.func (.func 243) #[] #[.pointer (some ⟨gr,0,none⟩),.pointer (some ⟨gs,0,none⟩)]] w fun e w'=>e=.returned (.int .u64 0)/\w'=(w.setCell ⟨g,1,none⟩ (.slice ao n c)).setCell ⟨g,0,none⟩ (.int .i64 e0):=by
 obtain⟨c1,c2,i,j⟩:=X.two
 have f:Box (w.setCell ⟨g,1,none⟩ (.slice ao n c)) g [.int .i64 0,.slice ao n c] t:=eL X _;have b:=fE X
 have hb:(e0 == 0)=false:=beq_eq_false_iff_ne.2 he;clear he;go_enter Tryz.func242,Tryz.ntmps242;go_wp2_with fail;refine b.mono ?_
 rintro e w' ⟨rfl,rfl⟩;clear b;go_wp2_with fail;refine d.mono ?_
 rintro e m ⟨rfl,rfl⟩;clear d;go_wp2_with fail;refine(qc f).mono ?_
 rintro e l ⟨rfl,rfl⟩;go_wp2;go_ret;exact⟨rfl,rfl⟩
structure RdA(w:World)(g b:Nat)(err:Int)(l:List Int):Prop where
 ex:∃ ao n c,Box w g [.int .i64 err,.slice ao n c] 298/\ByA w b ao n c l
theorem RdA.keep{b:Nat}(h:RdA w g b err l)(hb:Below w.heap.size w w'):RdA w' g b err l:=by
 obtain⟨ao,n,c,h1,h2⟩:=h.ex;exact⟨ao,n,c,h1.keep hb,h2.keep hb⟩
def pA(m:Nat)(err:Int)(l:List Int):Int:=if err=0/\m<=l.length then bM (l.take m) else 0
def pM(m:Nat)(err:Int)(l:List Int):Int:=if err=0 then (if m<=l.length then 0 else 40) else err
def p5(m:Nat)(err:Int)(l:List Int):List Int:=if err=0/\m<=l.length then l.drop m else l
theorem size_set(w:World)(p:Addr)(v:Value):(w.setCell p v).heap.size=w.heap.size:=by simp[World.setCell]
theorem Da{b m:Nat}(h:RdA w g b err l)(h8:m<=8) :
  Calls Tryz.prog 218 #[.pointer (some ⟨g,0,none⟩),.int .u64 m] w fun e w'=>e=.returned (.int .u64 (pA m err l))/\RdA w' g b (pM m err l) (p5 m err l)/\But g w w':=by
 have d:=mh w (.cells #[.pointer (some ⟨g,0,none⟩)] 260) (.cells #[.int .u64 m] 22);have y:=(eJ w (.pointer (some ⟨g,0,none⟩)) 260).alloc (.cells #[.int .u64 m] 22);have z:=lV w (.cells #[.pointer (some ⟨g,0,none⟩)] 260) (.int .u64 (m:Int)) 22;have I:=h.ex;obtain⟨G,n,c,v,j⟩:=I;have D:=v.lt;have X:=v.keep d;have hA:=j.keep d;obtain⟨o,A,C,⟨B,-⟩,E,H⟩:=hA.ex;have q1:=y.cell;have u:=z.cell;clear H;by_cases he:err=0
 ·subst he;by_cases hm:m<=n
  ·have t:=enOk X (AB q1 u (rdNum X hA hm h8))
   have s:Hid (pA m 0 l=bM (l.take m)):=by show _=_; unfold pA; rw[if_pos ⟨rfl,by omega⟩]
   have p:Hid (∀ f,f=(((w.alloc (.cells #[.pointer (some ⟨g,0,none⟩)] 260)).alloc (.cells #[.int .u64 m] 22)).setCell ⟨g,1,none⟩ (.slice (cZ G c m) (n - m) (c - m)))->RdA f g b (pM m 0 l) (p5 m 0 l)/\But g w f):=by
    intro f e;subst e;refine⟨?_,?_⟩
    ·unfold pM p5;rw[if_pos rfl,if_pos (by omega),if_pos ⟨rfl,by omega⟩];exact⟨_,_,_,eL X _,(hA.rest hm).box X (kK _ _ _ _) fun k i=>Below.heap_setCell _ _ _ k i⟩
    ·exact wK d (fun k i=>Below.heap_setCell _ _ _ k i) rfl rfl rfl (size_set _ _ _) rfl
   clear v j X hA y z h A C B E q1 u d;go_enter Tryz.func218,Tryz.ntmps218;go_wp2_with fail;refine t.mono ?_
   rintro e F ⟨rfl,q⟩;have x:=(show Hid _ from p.out _ q)
   clear t q p;go_wp2;go_ret;exact⟨by rw[s.out]; rfl,x.out⟩
  ·have t:=enErr (by decide) X (AB q1 u (zi X (by omega) (by omega:(n:Int) < m)))
   have s:Hid (pA m 0 l=0):=by show _=_; unfold pA; rw[if_neg (fun r=>hm (by omega))]
   have p:Hid (∀ f,f=((((w.alloc (.cells #[.pointer (some ⟨g,0,none⟩)] 260)).alloc (.cells #[.int .u64 m] 22)).setCell ⟨g,1,none⟩ (.slice G n c)).setCell ⟨g,0,none⟩ (.int .i64 40))->RdA f g b (pM m 0 l) (p5 m 0 l)/\But g w f):=by
    intro f e;subst e;refine⟨?_,?_⟩
    ·unfold pM p5;rw[if_pos rfl,if_neg (by omega),if_neg (fun r=>hm (by omega))];exact⟨_,_,_,jt (eL X _) _,hA.box X (kK _ _ _ _) fun k i=>by rw[Below.heap_setCell _ _ _ k i,Below.heap_setCell _ _ _ k i]⟩
    ·exact⟨d.os,d.tape,d.output,by rw[size_set,size_set]; exact d.size,fun k i D=>by rw[Below.heap_setCell _ _ _ k D,Below.heap_setCell _ _ _ k D]; exact d.block k i⟩
   clear v j X hA y z h A C B E q1 u d hm;go_enter Tryz.func218,Tryz.ntmps218;go_wp2_with fail;refine t.mono ?_
   rintro e F ⟨rfl,q⟩;have x:=(show Hid _ from p.out _ q)
   clear t q p;go_wp2;go_ret;exact⟨by rw[s.out]; rfl,x.out⟩
 ·have t:=fun fv=>enBad (fv:=fv) X he
  have s:Hid (pA m err l=0):=by show _=_; unfold pA; rw[if_neg (fun r=>he r.1)]
  have p:Hid (∀ f,f=((w.alloc (.cells #[.pointer (some ⟨g,0,none⟩)] 260)).alloc (.cells #[.int .u64 m] 22))->RdA f g b (pM m err l) (p5 m err l)/\But g w f):=by
   intro f e;subst e;refine⟨?_,?_⟩
   ·unfold pM p5;rw[if_neg he,if_neg (fun r=>he r.1)];exact⟨_,_,_,X,hA⟩
   ·exact⟨d.os,d.tape,d.output,d.size,fun k i _=>d.block k i⟩
  clear v j X hA y z h A C B E q1 u d he;go_enter Tryz.func218,Tryz.ntmps218;go_wp2_with fail;refine(t _).mono ?_
  rintro e F ⟨rfl,q⟩;have x:=(show Hid _ from p.out _ q)
  clear t q p;go_wp2;go_ret;exact⟨by rw[s.out]; rfl,x.out⟩
end
end
section
open Go.RowKit Lim
end
section
open Go.RowKit Lim
def uX (w:World) (a:Option Addr) (len cap:Nat) (zs:List Int):Prop :=
 (a=none/\len=0/\cap=0/\zs=[]) \/
 ∃ x,a=some x/\len<=cap/\cap<=maxLen/\zs.length=cap/\(∀ i,i < zs.length->w.cell? (x.add i)=some (.int .u64 (zs.getD i 0)))/\∀ n∈zs,(Lit.int .u64 n).wf=true
theorem uX.open {w:World} {a:Option Addr} {len cap:Nat} {zs:List Int} (h:uX w a len cap zs):∃ b o l,l.length=len/\len<=cap/\len<=9223372036854775807/\Words l/\At w a b o l:=by
 rcases h with⟨rfl,rfl,rfl,rfl⟩ | ⟨x,rfl,h1,h2,h3,h4,h5⟩
 ·exact⟨0,0,[],rfl,Nat.le_refl _,by decide,Words.nil,.inl rfl,fun i hi=>by simp at hi⟩
 ·have hw:Words (zs.take len):=fun y hy=>by
   have:=h5 y (List.mem_of_mem_take hy);have:=bounds_u64 this;omega
  have m:(zs.take len).length=len:=by simp; omega
  have j:len<=9223372036854775807:=by unfold maxLen at h2; omega
  by_cases n:len=0
  ·refine⟨0,0,zs.take len,m,h1,j,hw,.inl (List.eq_nil_of_length_eq_zero (by omega)),fun i hi=>by omega⟩
  ·have hx:=h4 0 (by omega)
   have g:x.spot=none:=by
    rw[show x.add 0=x from rfl] at hx;simp only[World.cell?] at hx
    cases hh:w.heap[x.block]? with
    | none=>rw[hh] at hx; simp at hx
    | some ob =>
     rw[hh] at hx
     cases ob with
     | cells c e f =>
      simp at hx
      cases hs:x.spot with
      | none=>rfl
      | some s=>rw[hs] at hx; simp at hx
     | _=>simp at hx
   obtain⟨b,o,sp⟩:=x;simp at g;subst g;refine⟨b,o,zs.take len,m,h1,j,hw,.inr rfl,fun i hi => ?_⟩;have k:=h4 i (by omega);rw[dr (by omega)]
   have e:(⟨b,o,none⟩:Addr).add i=⟨b,o + i,none⟩:=by
    by_cases d:i=0
    ·subst d; rfl
    ·simp[Addr.add,d]
   rw[e] at k;exact k
end
section
open Go.RowKit Lim
section
variable {l:List Int}{w:World}{v:Value}{xs:List Value}
def fw(w:World)(B:Nat)(v:Value)(l:List Int):Prop:=w.ownsRow B 5 1 v l.length (l.map (Value.int .u8))
def dvI(l:List Int):Int:=l.foldl (fun x c=>10 * x + (c - 48)) 0
def fB(l:List Int):Prop:=∀ c∈l,48<=c/\c<=57
theorem lL(l:List Int)(c:Int):dvI (l ++ [c])=10 * dvI l + (c - 48):=by simp[dvI,List.foldl_append]
theorem fB.snoc{c:Int}(h:fB l)(h1:48<=c)(h2:c<=57):fB (l ++ [c]):=by
 intro x hx;rcases List.mem_append.1 hx with e | e
 ·exact h x e
 ·simp at e; subst e; exact⟨h1,h2⟩
theorem fK(a b:List Int):dvI (a ++ b)=dvI a * 10 ^ b.length + dvI b:=by
 have key:∀ (b:List Int) (x:Int),b.foldl (fun x c=>10 * x + (c - 48)) x=x * 10 ^ b.length + dvI b:=by
  intro b
  induction b with
  | nil=>intro x; simp[dvI]
  | cons c b ih =>
   intro x
   have e:dvI (c :: b)=(c - 48) * 10 ^ b.length + dvI b:=by rw[dvI,List.foldl_cons,ih]; simp
   rw[List.foldl_cons,ih,e,List.length_cons,Int.pow_succ]; grind
 rw[dvI,List.foldl_append,key]; rfl
theorem sy{B:Nat}{e:TypeId}{n:Nat}(h:w.ownsRow B e 1 v n xs):∀ g,v.ownBlock=some g->B<=g:=by
 intro g a;rcases h.2 with⟨rfl,_⟩ | ⟨g',cap,cur,rfl,hB,_⟩
 ·simp[Value.ownBlock] at a
 ·simp[Value.ownBlock] at a; omega
theorem AK(x p:Int)(hp:0 < p):10 * (x / (p * 10)) + x / p % 10=x / p:=by
 rw[<- Int.ediv_ediv_of_nonneg (Int.le_of_lt hp)]; omega
theorem kW(B:Nat)(v:Value)(l:List Int)(x:Int)(w:World)(hB:B<=w.heap.size)(hm:fw w B v l)(S:l.length<=35184372088832)(q:0<=x)(L:x < 10000000000000000000) :
  Calls Tryz.prog 103 #[v,.int .u64 x] w fun e w'=>∃ v' d,e=.returned v'/\fw w' B v' (l ++ d)/\fB d/\d.length=19/\dvI d=x/\Below B w w':=by
 obtain⟨i0,hi,A,J,K⟩:=info_parts lC;have F:=fun wx=>nV 18 wx (by decide)
 rw[show ((18:Nat):Int)=18 from rfl,show (10:Int) ^ 18=1000000000000000000 from by decide] at F;go_enter Tryz.func103,Tryz.ntmps103;go_wp2_with (go_at_call 161; refine(F _).mono ?_; rintro e R ⟨rfl,rfl⟩);clear F;go_loopw [0,5,7] (fun tz tp G wr=>∃ (k:Nat) (p:Int) (d:List Int),k<=19/\G=.int .i64 k/\tp=.int .u64 p/\0<=p/\p<=1000000000000000000/\Hid (k < 19->p * 10 ^ k=1000000000000000000)/\d.length=k/\fB d/\Hid (dvI d=x / 10 ^ (19 - k))/\fw wr B tz (l ++ d)/\Below B R wr) (fun _ _ G _=>19 - (intOf G).toNat)
 case atStart=>exact⟨0,_,[],by decide,rfl,rfl,by decide,by decide,fun _=>by decide,rfl,fun c hc=>by simp at hc,by show _=_; rw[show (10:Int) ^ (19 - 0)=10000000000000000000 from by decide,Int.ediv_eq_zero_of_lt q L]; rfl,by rw[List.append_nil]; exact hm,Below.refl _ _⟩
 case round =>
  obtain⟨k,p,d,hk,rfl,rfl,E,Y,P,H,y,o,m,i⟩:=hrel;have hsz:=i.size;by_cases I:k < 19
  ·have r:=P.out I
   have C:0 < p:=by
    by_cases c:0 < p
    ·exact c
    ·have:p=0:=by omega
     subst this; simp at r
   have b:p=10 ^ (18 - k):=by
    have e:(10:Int) ^ (18 - k) * 10 ^ k=1000000000000000000:=by rw[<- Int.pow_add,show 18 - k + k=18 from by omega]; decide
    have T:(0:Int) < 10 ^ k:=Int.pow_pos (by decide);exact Int.eq_of_mul_eq_mul_right (by omega) (r.trans e.symm)
   have U:=AK x p C
   have O:Hid (10 * dvI d + x / p % 10=x / 10 ^ (19 - (k + 1))):=by
    show _=_
    rw[o.out,show 19 - (k + 1)=18 - k from by omega,<- b,<- U];congr 3
    rw[show 19 - k=(18 - k) + 1 from by omega,Int.pow_succ,<- b]
   have HP:Hid (k + 1 < 19->p / 10 * 10 ^ (k + 1)=1000000000000000000):=by
    intro h;obtain⟨j,X⟩:∃ j,18 - k=j + 1:=⟨17 - k,by omega⟩
    rw[X,Int.pow_succ] at b;have:p / 10=10 ^ j:=by rw[b]; omega
    rw[this,<- Int.pow_add,show j + (k + 1)=18 from by omega]; decide
   have hpb:(p == 0)=false:=beq_eq_false_iff_ne.2 (by omega);have z:=Int.emod_nonneg (x / p) (show (10:Int)≠0 by decide);have t:=Int.emod_lt_of_pos (x / p) (show (0:Int) < 10 by decide)
   have V:0<=x / p:=Int.ediv_nonneg q E
   have Q:x / p<=x:=Int.ediv_le_self p q;have aa:=(show Hid _ from b)
   clear b r U P o;obtain⟨D,Z⟩:∃ D,x / p % 10=D:=⟨_,rfl⟩
   rw[Z] at O z t
   have n:wr.ownsRow B 5 1 _ (l ++ d).length ((l ++ d).map (Value.int .u8)):=m
   have hnn:(l ++ d).length<=35184372088860:=by simp; omega
   generalize hNN:(l ++ d).length=N at *
   have HN:Hid ((l ++ d).length=N):=hNN;clear hNN;go_wp2_with (at_builtin; refine wpList_append_own _ rfl _ _ 96 rfl B 5 i0 (.int .u8 0) 1 1 cA hi A J K rfl (by decide) _ _ _ rfl (n.alloc _) ⟨wr.heap.size,0,none⟩ 1 1 [.int .u8 (48 + D)] rfl rfl ?c1 ?c2 ?c3 ?c4 ?c5 ?_)
   case c1=>exact cell_one_new _ _ _
   case c2=>intro u hu; simp at hu; subst hu; rfl
   case c3=>unfold maxLen; omega
   case c4=>omega
   case c5=>simp; omega
   intro v' M f g _
   have W:fw M B v' (l ++ (d ++ [48 + D])):=by
    unfold fw;rw[show (l ++ (d ++ [48 + D])).length=N + 1 from by rw[<- HN.out]; simp; omega,List.map_append,List.map_append]; exact f
   have HB:Below B R M:=(i.alloc (by omega) _).grown g (by simp; omega) (sy m);clear f g n m i;go_wp2;go_roundw
   case rel=>exact⟨k + 1,p / 10,d ++ [48 + D],by omega,by go_num,rfl,by omega,by omega,HP,by simp; omega,y.snoc (by omega) (by omega),by show _=_; rw[lL,<- O.out]; omega,W,HB⟩
   case measure=>simp[intOf]; omega
  ·have s:k=19:=by omega
   subst s
   have hv:dvI d=x:=by rw[o.out]; simp
   go_wp2;go_ret;exact⟨_,d,rfl,m,y,H,hv,i⟩
end
end
section
open Go.RowKit Lim
end
section
open Go.RowKit Lim
def halves:List Int->List Int
 | []=>[]
 | x :: l=>x % 4294967296 :: x / 4294967296 :: halves l
end
section
open Go.RowKit Lim
end
section
open Go.RowKit Lim
section
variable {w:World}{g n c:Nat}{err e0:Int}{v fv:Value}{ao:Option Addr}{Q:Value->World->Prop}
theorem Cd{t:TypeId}(X:Box w g [.int .i64 err,v] t)(he:err≠0) :
  Calls Tryz.prog 219 #[.pointer (some ⟨g,0,none⟩),fv] w fun e w'=>e=.returned (.bool false)/\w'=w:=by
 have hb:(err == 0)=false:=beq_eq_false_iff_ne.2 he;have t:=fE X;rw[hb] at t;clear he hb;go_enter Tryz.func219,Tryz.ntmps219;go_wp2_with fail;refine t.mono ?_
 rintro e w' ⟨rfl,rfl⟩;clear t;go_wp2;go_ret;exact⟨rfl,rfl⟩
theorem enBoOk{t:TypeId}(X:Box w g [.int .i64 0,.slice ao n c] t)(d:Calls Tryz.prog 220 #[.pointer (some ⟨g,0,none⟩)] w fun e w'=>∃ v,e=.returned (.tuple #[v,.int .i64 0])/\Q v w') :
  Calls Tryz.prog 219 #[.pointer (some ⟨g,0,none⟩),.func (.func 220) #[.pointer (some ⟨g,0,none⟩)] #[]] w fun e w'=>∃ v,e=.returned v/\Q v w':=by
 obtain⟨c1,c2,i,j⟩:=X.two;have t:=fE X;go_enter Tryz.func219,Tryz.ntmps219;go_wp2_with fail;refine t.mono ?_
 rintro e w' ⟨rfl,rfl⟩;clear t;go_wp2_with fail;refine d.mono ?_
 rintro e l ⟨v,rfl,b⟩;have f:=(show Hid _ from b)
 clear d b;go_wp2;go_ret;exact⟨v,rfl,f.out⟩
theorem Cl{t:TypeId}(he:e0≠0)(X:Box w g [.int .i64 0,.slice ao n c] t)(o:∀ v w1,Q v w1->∃ y,Box w1 g [.int .i64 0,y] t)(p:Calls Tryz.prog 220 #[.pointer (some ⟨g,0,none⟩)] w fun e w'=>∃ v,e=.returned (.tuple #[v,.int .i64 e0])/\Q v w') :
  Calls Tryz.prog 219 #[.pointer (some ⟨g,0,none⟩),.func (.func 220) #[.pointer (some ⟨g,0,none⟩)] #[]] w fun e w'=>e=.returned (.bool false)/\∃ v w1,Q v w1/\w'=(w1.setCell ⟨g,1,none⟩ (.slice ao n c)).setCell ⟨g,0,none⟩ (.int .i64 e0):=by
 obtain⟨c1,c2,q,r⟩:=X.two;have j:=fE X
 have hb:(e0 != 0)=true:=bne_iff_ne.2 he;have l:=(show Hid _ from o)
 clear he o;go_enter Tryz.func219,Tryz.ntmps219;go_wp2_with fail;refine j.mono ?_
 rintro e w' ⟨rfl,rfl⟩;clear j;go_wp2_with fail;refine p.mono ?_
 rintro e w1 ⟨v,rfl,b⟩;obtain⟨y,i⟩:=l.out v w1 b;have s:=(show Hid _ from b)
 have m:Box (w1.setCell ⟨g,1,none⟩ (.slice ao n c)) g [.int .i64 0,.slice ao n c] t:=eL i _;obtain⟨d1,d2,d3,d4⟩:=i.two;have t3:=qc (e0:=e0) m;clear p b l X i m c1 c2 q r d1 d3;go_wp2_with fail;refine t3.mono ?_
 rintro e u ⟨rfl,d⟩;have f:=(show Hid _ from d)
 clear t3 d;go_wp2;go_ret;exact⟨rfl,v,w1,s.out,f.out⟩
theorem A7{t:TypeId}(X:Box w g [.int .i64 err,v] t)(he:err≠0) :
  Calls Tryz.prog 245 #[.pointer (some ⟨g,0,none⟩),fv] w fun e w'=>e=.returned (.slice none 0 0)/\w'=w:=by
 have hb:(err == 0)=false:=beq_eq_false_iff_ne.2 he;have t:=fE X;rw[hb] at t;clear he hb;go_enter Tryz.func245,Tryz.ntmps245;go_wp2_with fail;refine t.mono ?_
 rintro e w' ⟨rfl,rfl⟩;clear t;go_wp2;go_ret;exact⟨rfl,rfl⟩
theorem enNaOk{t:TypeId}(X:Box w g [.int .i64 0,.slice ao n c] t)(d:Calls Tryz.prog 246 #[.pointer (some ⟨g,0,none⟩)] w fun e w'=>∃ v,e=.returned (.tuple #[v,.int .i64 0])/\Q v w') :
  Calls Tryz.prog 245 #[.pointer (some ⟨g,0,none⟩),.func (.func 246) #[.pointer (some ⟨g,0,none⟩)] #[]] w fun e w'=>∃ v,e=.returned v/\Q v w':=by
 obtain⟨c1,c2,i,j⟩:=X.two;have t:=fE X;go_enter Tryz.func245,Tryz.ntmps245;go_wp2_with fail;refine t.mono ?_
 rintro e w' ⟨rfl,rfl⟩;clear t;go_wp2_with fail;refine d.mono ?_
 rintro e l ⟨v,rfl,b⟩;have f:=(show Hid _ from b)
 clear d b;go_wp2;go_ret;exact⟨v,rfl,f.out⟩
theorem De{t:TypeId}(he:e0≠0)(X:Box w g [.int .i64 0,.slice ao n c] t)(o:∀ v w1,Q v w1->∃ y,Box w1 g [.int .i64 0,y] t)(p:Calls Tryz.prog 246 #[.pointer (some ⟨g,0,none⟩)] w fun e w'=>∃ v,e=.returned (.tuple #[v,.int .i64 e0])/\Q v w') :
  Calls Tryz.prog 245 #[.pointer (some ⟨g,0,none⟩),.func (.func 246) #[.pointer (some ⟨g,0,none⟩)] #[]] w fun e w'=>e=.returned (.slice none 0 0)/\∃ v w1,Q v w1/\w'=(w1.setCell ⟨g,1,none⟩ (.slice ao n c)).setCell ⟨g,0,none⟩ (.int .i64 e0):=by
 obtain⟨c1,c2,q,r⟩:=X.two;have j:=fE X
 have hb:(e0 != 0)=true:=bne_iff_ne.2 he;have l:=(show Hid _ from o)
 clear he o;go_enter Tryz.func245,Tryz.ntmps245;go_wp2_with fail;refine j.mono ?_
 rintro e w' ⟨rfl,rfl⟩;clear j;go_wp2_with fail;refine p.mono ?_
 rintro e w1 ⟨v,rfl,b⟩;obtain⟨y,i⟩:=l.out v w1 b;have s:=(show Hid _ from b)
 have m:Box (w1.setCell ⟨g,1,none⟩ (.slice ao n c)) g [.int .i64 0,.slice ao n c] t:=eL i _;obtain⟨d1,d2,d3,d4⟩:=i.two;have t3:=qc (e0:=e0) m;clear p b l X i m c1 c2 q r d1 d3;go_wp2_with fail;refine t3.mono ?_
 rintro e u ⟨rfl,d⟩;have f:=(show Hid _ from d)
 clear t3 d;go_wp2;go_ret;exact⟨rfl,v,w1,s.out,f.out⟩
end
end
section
open Go.RowKit Lim
section
variable {w w' w1:World}{g:Nat}{err aw u e0:Int}{p q:Option Addr}{lat l:List Int}{a:Act}{o:Oper}{v:Value}{cs:Array Value}
def dM(err:Int)(p:Option Addr)(aw:Int)(lat:List Int)(u:Int):List Value:=.int .i64 err :: .pointer p :: .int .i64 aw :: (lat.map (Value.int .u8) ++ [.int .i64 u])
structure cN(w:World)(g:Nat)(err:Int)(p:Option Addr)(aw:Int)(lat:List Int)(u:Int):Prop where
 len:lat.length=256
 blk:w.heap[g]? = some (.cells (dM err p aw lat u).toArray 231 (0,0))
theorem cN.box(h:cN w g err p aw lat u):Box w g (dM err p aw lat u) 231:=⟨h.blk⟩
theorem cN.lt(h:cN w g err p aw lat u):g < w.heap.size:=h.box.lt
theorem cN.keep(h:cN w g err p aw lat u)(hb:Below w.heap.size w w'):cN w' g err p aw lat u:=⟨h.len,(h.box.keep hb).blk⟩
theorem cN.off{g':Nat}(h:cN w g err p aw lat u)(hne:g≠g')(hw:∀ k,k≠g'->w'.heap[k]? = w.heap[k]?):cN w' g err p aw lat u:=⟨h.len,by rw[hw g hne]; exact h.blk⟩
theorem cN.free(h:cN w g err p aw lat u)(k:Nat):w.frozen? ⟨g,k,none⟩=false:=by
 have:=h.blk;simp[World.frozen?,this]
theorem cN.c0(h:cN w g err p aw lat u):w.cell? ⟨g,0,none⟩=some (.int .i64 err):=by
 have:=h.blk;simp[World.cell?,this,dM]
theorem cN.c1(h:cN w g err p aw lat u):w.cell? ⟨g,1,none⟩=some (.pointer p):=by
 have:=h.blk;simp[World.cell?,this,dM]
theorem cN.c2(h:cN w g err p aw lat u):w.cell? ⟨g,2,none⟩=some (.int .i64 aw):=by
 have:=h.blk;simp[World.cell?,this,dM]
theorem cN.cl(h:cN w g err p aw lat u)(i:Nat)(hi:i < 256):w.cell? ⟨g,3 + i,none⟩=some (.int .u8 (nth lat i)):=by
 have hb:=h.blk;have a:=h.len;simp only[World.cell?,hb,dM];rw[show 3 + i=i + 1 + 1 + 1 by omega];simp[List.getElem?_append_left,a,hi,bS (l:=lat) (show i < lat.length by omega)]
theorem cN.cu(h:cN w g err p aw lat u):w.cell? ⟨g,259,none⟩=some (.int .i64 u):=by
 have hb:=h.blk;have hl:=h.len;simp only[World.cell?,hb,dM];simp[hl]
theorem cN.set0(h:cN w g err p aw lat u)(x:Int):cN (w.setCell ⟨g,0,none⟩ (.int .i64 x)) g x p aw lat u:=⟨h.len,by
 have:=h.blk;simp only[World.setCell,Array.getElem?_modify,if_true,this]
 simp[dM]⟩
theorem cN.set1(h:cN w g err p aw lat u)(x:Option Addr):cN (w.setCell ⟨g,1,none⟩ (.pointer x)) g err x aw lat u:=⟨h.len,by
 have:=h.blk;simp only[World.setCell,Array.getElem?_modify,if_true,this]
 simp[dM]⟩
theorem cN.set2(h:cN w g err p aw lat u)(x:Int):cN (w.setCell ⟨g,2,none⟩ (.int .i64 x)) g err p x lat u:=⟨h.len,by
 have:=h.blk;simp only[World.setCell,Array.getElem?_modify,if_true,this]
 simp[dM]⟩
theorem cN.setu(h:cN w g err p aw lat u)(x:Int):cN (w.setCell ⟨g,259,none⟩ (.int .i64 x)) g err p aw lat x:=⟨h.len,by
 have hb:=h.blk;have a:=h.len;simp only[World.setCell,Array.getElem?_modify,if_true,hb]
 simp[dM,List.set_append_right,a]⟩
theorem j4(c1:w.cell? ⟨g,0,none⟩=some (.int .i64 err)) :
  Calls Tryz.prog 198 #[.pointer (some ⟨g,0,none⟩)] w fun e w'=>e=.returned (.bool (err == 0))/\w'=w:=by
 go_enter Tryz.func198,Tryz.ntmps198;go_wp2;go_ret;exact⟨rfl,rfl⟩
theorem stMeet(c1:w.cell? ⟨g,0,none⟩=some (.int .i64 0))(c2:w.frozen? ⟨g,0,none⟩=false) :
  Calls Tryz.prog 223 #[.pointer (some ⟨g,0,none⟩),.int .i64 e0] w fun e w'=>e=.returned (.tuple #[])/\w'=w.setCell ⟨g,0,none⟩ (.int .i64 e0):=by
 go_enter Tryz.func223,Tryz.ntmps223;go_wp2_with fail;refine(j4 c1).mono ?_
 rintro e w' ⟨rfl,rfl⟩;go_wp2;go_end0;exact⟨rfl,rfl⟩
theorem BG(c1:w.cell? ⟨g,0,none⟩=some (.int .i64 err))(he:(err == 0)=false) :
  Calls Tryz.prog 223 #[.pointer (some ⟨g,0,none⟩),.int .i64 e0] w fun e w'=>e=.returned (.tuple #[])/\w'=w:=by
 have t:=j4 c1;rw[he] at t;clear he;go_enter Tryz.func223,Tryz.ntmps223;go_wp2_with fail;refine t.mono ?_
 rintro e w' ⟨rfl,rfl⟩;go_wp2;go_end0;exact⟨rfl,rfl⟩
theorem qg{T:TypeId}(k:Nat){off:Nat}(d:o.op=.load T (.tmp k))(b:a.eval (.tmp k)=.pointer (some ⟨g,off,none⟩))(c:(loadVar T ⟨g,off,none⟩).run Tryz.prog w=.ok v w):(execOp a.eval o).run Tryz.prog w=.ok (.value v) w:=by
 simp only[execOp,d,b];simp[Instr.loadAt,Instr.sureAddr,Result.andThen,c]
theorem oW{T:TypeId}(k q:Nat){off:Nat}(d:o.op=.store T (.tmp k) (.tmp q))(b:a.eval (.tmp k)=.pointer (some ⟨g,off,none⟩))(e:a.eval (.tmp q)=v)(c:(storeVar T ⟨g,off,none⟩ v).run Tryz.prog w=.ok () w1):(execOp a.eval o).run Tryz.prog w=.ok .skip w1:=by
 simp only[execOp,d,b,e];simp[Instr.storeAt,Instr.sureAddr,Result.andThen,c]
theorem uv(c:w.cell? ⟨g,1,none⟩=some (.pointer p)):(loadVar 228 ⟨g,1,none⟩).run Tryz.prog w=.ok (.pointer p) w:=by
 go_simp
theorem uQ(c:w.cell? ⟨g,1,none⟩=some (.pointer p))(f:w.frozen? ⟨g,1,none⟩=false):(storeVar 228 ⟨g,1,none⟩ (.pointer q)).run Tryz.prog w=.ok () (w.setCell ⟨g,1,none⟩ (.pointer q)):=by
 go_simp
theorem sF:Tryz.prog.underlying 229=some (.array 256 5):=by kernel_rfl
theorem oA:(Tryz.prog.info? 229).map (·.size)=some 256:=by kernel_rfl
theorem uH{o:Nat}(d:l.length=256)(c:∀ i,i < 256->w.cell? ⟨g,o + i,none⟩=some (.int .u8 (nth l i))):(loadVar 229 ⟨g,o,none⟩).run Tryz.prog w=.ok (.agg (l.map (Value.int .u8)).toArray) w:=by
 have h:=run_loadCells_list (P:=Tryz.prog) w ⟨g,o,none⟩ (l.map (Value.int .u8)) (fun j v hv=>by
  obtain⟨a,e⟩:=List.getElem?_eq_some_iff.1 hv;rw[List.length_map] at a
  rw[addr_add,c j (by omega),<- e,List.getElem_map,bS a])
 rw[List.length_map,d] at h
 cases hi:Tryz.prog.info? 229 with
 | none=>have:=oA; simp[hi] at this
 | some i =>
  have b:i.size=256:=by have:=oA; simpa[hi] using this
  simp[loadVar,isAgg,run_underlying sF,sizeOf,typeInfo,hi,b,h]
def placesOf(P:Program)(d:Option TypeDesc):Option (List (Nat × Nat)):=match d with
 | some (.struct fs)=>fs.toList.mapM (fun f=>(P.info? f.type).map fun i=>(f.offset,i.size))
 | _=>none
theorem wW:placesOf Tryz.prog (Tryz.prog.underlying 281)=some [(0,1),(1,256)]:=by kernel_rfl
theorem CB:((Tryz.prog.info? 281).bind (·.zero)).map (·.cells.size)=some 257:=by kernel_rfl
theorem Au(p:Option Addr)(A:List Value)(hA:A.length=256):Tryz.prog.built 281 [(0,.pointer p),(1,.agg A.toArray)]=some (Value.pointer p :: A).toArray:=by
 have hu:=wW;have b:=CB;unfold Program.built;generalize Tryz.prog.info? 281=I at *;generalize Tryz.prog.underlying 281=U at *
 cases I with
 | none=>simp at b
 | some it =>
  cases h2:it.zero with
  | none=>simp[h2] at b
  | some z =>
   have a:z.cells.size=257:=by simpa[h2] using b
   cases U with
   | none=>simp[placesOf] at hu
   | some d =>
    cases d<;>try (simp[placesOf] at hu; done)
    case struct fs =>
     simp only[placesOf] at hu;simp only[hu,h2]
     have hc:(Value.pointer p).cells=#[.pointer p]:=rfl
     have e:(Value.agg A.toArray).cells=A.toArray:=rfl;simp only[Instr.fill,hc,e];obtain⟨g1,g2⟩:=Great.foldl_set 1 A 0 (z.cells.setIfInBounds 0 (.pointer p));simp[hA,a];apply Array.ext_getElem?;intro k;have c:=g2 k;simp only[Array.size_setIfInBounds,a,hA] at c;rw[Nat.add_zero] at c;rw[c]
     cases k with
     | zero=>rw[if_neg (by omega)]; simp[a]
     | succ k =>
      by_cases f:k < 256
      ·rw[if_pos (by omega)]; simp
      ·rw[if_neg (by omega),Array.getElem?_eq_none (by simp[a]; omega),Array.getElem?_eq_none (by simp[hA]; omega)]
theorem Az{T:TypeId}(ps:Array (Nat × Operand)){L:List (Nat × Value)}(c:o.op=.build T ps)(b:(ps.map fun(i,x)=>(i,a.eval x)).toList=L)(hb:Tryz.prog.built T L=some cs):(execOp a.eval o).run Tryz.prog w=.ok (.value (.agg cs)) w:=by
 subst b;simp only[execOp,c];simp only[Sem.run_bind,run_build w T _ cs hb,Result.andThen_ok];rfl
theorem wrPut(X:cN w g err p aw lat u)(x:0<=aw)(hb:aw<=4611686018427387904) :
  Calls Tryz.prog 250 #[.pointer (some ⟨g,0,none⟩)] w fun e w'=>e=.returned (.tuple #[])/\cN w' g err (some ⟨w.heap.size,0,none⟩) (aw + 256) lat 0/\Box w' w.heap.size (.pointer p :: lat.map (Value.int .u8)) 281/\But g w w':=by
 have Y:=X;have s:=X.lt;have c1:=X.c1;have f1:=X.free 1;have i:=uv X.c1;have f:=uH X.len X.cl;have l:=Au p (lat.map (Value.int .u8)) (by rw[List.length_map]; exact X.len);go_enter Tryz.func250,Tryz.ntmps250;go_wp2_with fail;refine bT (S:=fun _=>True) (by kernel_rfl) trivial ?_
 refine ai 0 (some 2) (.pointer (some ⟨g,0,none⟩)) (by kernel_rfl) (fun _ _=>by kernel_rfl) (fun _ _ _ h=>h) trivial ?_
 refine ai 1 (some 3) (.pointer (some ⟨g,0,none⟩)) (by kernel_rfl) (fun _ _=>by kernel_rfl) (fun _ _ _ h=>h) trivial ?_
 refine ai 2 (some 4) (.pointer (some ⟨g,0,none⟩)) (by kernel_rfl) (fun _ _=>by kernel_rfl) (fun _ _ _ h=>h) trivial ?_
 refine ai 3 (some 5) (.pointer (some ⟨g,1,none⟩)) (by kernel_rfl) (fun _ _=>by kernel_rfl) (fun _ _ _ h=>h) trivial ?_
 refine ai 5 (some 7) (.pointer (some ⟨g,0,none⟩)) (by kernel_rfl) (fun _ _=>by kernel_rfl) (fun _ _ _ h=>h) trivial ?_
 refine ai 6 (some 8) (.pointer (some ⟨g,0,none⟩)) (by kernel_rfl) (fun _ _=>by kernel_rfl) (fun _ _ _ h=>h) trivial ?_
 refine ai 7 (some 9) (.pointer (some ⟨g,3,none⟩)) (by kernel_rfl) (fun _ _=>by kernel_rfl) (fun _ _ _ h=>h) trivial ?_
 refine aK [4,8] (by kernel_rfl) (by simp) ?_
 have X:cN w.drew g err p aw lat u:=⟨Y.len,Y.blk⟩
 have i:=uv X.c1;have f:=uH X.len X.cl;refine bH 4 (some 6) (.pointer p) _ (by kernel_rfl) (qg 5 (by kernel_rfl) (by kernel_rfl) i) trivial ?_ (bH 8 (some 10) (.agg (lat.map (Value.int .u8)).toArray) _ (by kernel_rfl) (qg 9 (by kernel_rfl) (by kernel_rfl) f) trivial ?_ aW)
 ·refine aK [8] (by kernel_rfl) (by simp) ?_
  refine bH 8 (some 10) (.agg (lat.map (Value.int .u8)).toArray) _ (by kernel_rfl) (qg 9 (by kernel_rfl) (by kernel_rfl) f) trivial ?_ aW;refine aK [9] (by kernel_rfl) (by simp) ?_
  refine bH 9 (some 11) (.agg (Value.pointer p :: lat.map (Value.int .u8)).toArray) _ (by kernel_rfl) (Az #[(0,.tmp 6),(1,.tmp 10)] (by kernel_rfl) (by kernel_rfl) l) trivial ?_ aW;refine aK [10] (by kernel_rfl) (by simp) ?_
  refine qS 10 (some 12) 281 (Value.pointer p :: lat.map (Value.int .u8)) (by kernel_rfl) (by kernel_rfl) ?_ aW;intro V n b;refine⟨trivial,?_⟩;replace X:=X.keep b;replace b:Below w.heap.size w V:=(Below.refl w.heap.size w).drew.trans b;refine ai 11 (some 13) (.pointer (some ⟨g,0,none⟩)) (by kernel_rfl) (fun _ _=>by kernel_rfl) (fun _ _ _ h=>h) trivial ?_
  refine ai 12 (some 14) (.pointer (some ⟨g,1,none⟩)) (by kernel_rfl) (fun _ _=>by kernel_rfl) (fun _ _ _ h=>h) trivial ?_
  refine aK [13] (by kernel_rfl) (by simp) ?_
  refine dk 13 (V.setCell ⟨g,1,none⟩ (.pointer (some ⟨w.heap.size,0,none⟩))) (by kernel_rfl) (oW 14 12 (v:=.pointer (some ⟨w.heap.size,0,none⟩)) (by kernel_rfl) (by kernel_rfl) (by kernel_rfl) (uQ X.c1 (X.free 1))) trivial ?_ aW;refine bG (by kernel_rfl) ?_
  try simp only[Act.put,List.setIfInBounds_toArray,List.set_cons_zero,List.set_cons_succ]
  replace X:=X.set1 (some ⟨w.heap.size,0,none⟩)
  have j:Hid (But g w (V.setCell ⟨g,1,none⟩ (.pointer (some ⟨w.heap.size,0,none⟩)))):=⟨b.os,b.tape,b.output,by rw[size_set]; exact b.size,fun k m c=>by rw[Below.heap_setCell _ _ _ k c]; exact b.block k m⟩
  replace n:Box (V.setCell ⟨g,1,none⟩ (.pointer (some ⟨w.heap.size,0,none⟩))) w.heap.size _ _:=n.off (g':=g) (by show w.heap.size≠g; omega) (fun k d=>Below.heap_setCell _ _ _ k d);clear b;generalize V.setCell ⟨g,1,none⟩ (.pointer (some ⟨w.heap.size,0,none⟩))=W at *;have c2:=X.c2;have f2:=X.free 2;have cu:=X.cu;have t:=X.free 259;clear i f l c1 f1;have r:=(X.set2 (aw + 256)).setu 0
  have q:Hid (But g w ((W.setCell ⟨g,2,none⟩ (.int .i64 (aw + 256))).setCell ⟨g,259,none⟩ (.int .i64 0))):=⟨j.out.os,j.out.tape,j.out.output,by rw[size_set,size_set]; exact j.out.size,fun k m c=>by rw[Below.heap_setCell _ _ _ k c,Below.heap_setCell _ _ _ k c]; exact j.out.block k m c⟩
  have o:Hid (Box ((W.setCell ⟨g,2,none⟩ (.int .i64 (aw + 256))).setCell ⟨g,259,none⟩ (.int .i64 0)) w.heap.size (Value.pointer p :: lat.map (Value.int .u8)) 281):=(n.off (g':=g) (by omega) (fun k d=>Below.heap_setCell _ _ _ k d)).off (g':=g) (by omega) (fun k d=>Below.heap_setCell _ _ _ k d);go_wp2;go_end0;exact⟨rfl,r,o.out,q.out⟩
 ·refine aK [4] (by kernel_rfl) (by simp) ?_
  refine bH 4 (some 6) (.pointer p) _ (by kernel_rfl) (qg 5 (by kernel_rfl) (by kernel_rfl) i) trivial ?_ aW;refine aK [9] (by kernel_rfl) (by simp) ?_
  refine bH 9 (some 11) (.agg (Value.pointer p :: lat.map (Value.int .u8)).toArray) _ (by kernel_rfl) (Az #[(0,.tmp 6),(1,.tmp 10)] (by kernel_rfl) (by kernel_rfl) l) trivial ?_ aW;refine aK [10] (by kernel_rfl) (by simp) ?_
  refine qS 10 (some 12) 281 (Value.pointer p :: lat.map (Value.int .u8)) (by kernel_rfl) (by kernel_rfl) ?_ aW;intro V n b;refine⟨trivial,?_⟩;replace X:=X.keep b;replace b:Below w.heap.size w V:=(Below.refl w.heap.size w).drew.trans b;refine ai 11 (some 13) (.pointer (some ⟨g,0,none⟩)) (by kernel_rfl) (fun _ _=>by kernel_rfl) (fun _ _ _ h=>h) trivial ?_
  refine ai 12 (some 14) (.pointer (some ⟨g,1,none⟩)) (by kernel_rfl) (fun _ _=>by kernel_rfl) (fun _ _ _ h=>h) trivial ?_
  refine aK [13] (by kernel_rfl) (by simp) ?_
  refine dk 13 (V.setCell ⟨g,1,none⟩ (.pointer (some ⟨w.heap.size,0,none⟩))) (by kernel_rfl) (oW 14 12 (v:=.pointer (some ⟨w.heap.size,0,none⟩)) (by kernel_rfl) (by kernel_rfl) (by kernel_rfl) (uQ X.c1 (X.free 1))) trivial ?_ aW;refine bG (by kernel_rfl) ?_
  try simp only[Act.put,List.setIfInBounds_toArray,List.set_cons_zero,List.set_cons_succ]
  replace X:=X.set1 (some ⟨w.heap.size,0,none⟩)
  have j:Hid (But g w (V.setCell ⟨g,1,none⟩ (.pointer (some ⟨w.heap.size,0,none⟩)))):=⟨b.os,b.tape,b.output,by rw[size_set]; exact b.size,fun k m c=>by rw[Below.heap_setCell _ _ _ k c]; exact b.block k m⟩
  replace n:Box (V.setCell ⟨g,1,none⟩ (.pointer (some ⟨w.heap.size,0,none⟩))) w.heap.size _ _:=n.off (g':=g) (by show w.heap.size≠g; omega) (fun k d=>Below.heap_setCell _ _ _ k d);clear b;generalize V.setCell ⟨g,1,none⟩ (.pointer (some ⟨w.heap.size,0,none⟩))=W at *;have c2:=X.c2;have f2:=X.free 2;have cu:=X.cu;have t:=X.free 259;clear i f l c1 f1;have r:=(X.set2 (aw + 256)).setu 0
  have q:Hid (But g w ((W.setCell ⟨g,2,none⟩ (.int .i64 (aw + 256))).setCell ⟨g,259,none⟩ (.int .i64 0))):=⟨j.out.os,j.out.tape,j.out.output,by rw[size_set,size_set]; exact j.out.size,fun k m c=>by rw[Below.heap_setCell _ _ _ k c,Below.heap_setCell _ _ _ k c]; exact j.out.block k m c⟩
  have o:Hid (Box ((W.setCell ⟨g,2,none⟩ (.int .i64 (aw + 256))).setCell ⟨g,259,none⟩ (.int .i64 0)) w.heap.size (Value.pointer p :: lat.map (Value.int .u8)) 281):=(n.off (g':=g) (by omega) (fun k d=>Below.heap_setCell _ _ _ k d)).off (g':=g) (by omega) (fun k d=>Below.heap_setCell _ _ _ k d);go_wp2;go_end0;exact⟨rfl,r,o.out,q.out⟩
end
end
section
open Go.RowKit Lim
section
variable {w w' w1:World}{p ao:Option Addr}{ps l:List Int}{g b o:Nat}{cs:List Value}{err:Int}{v:Value}{ops:Array Oper}{K:Act->World->Prop}
def PcL(w:World):List (Nat×List Int)->Option Addr->List Int->Prop
 | [],p,l=>p=none/\l=[]
 | x::r,p,l=>∃ q s,p=some ⟨x.1,0,none⟩/\l=s ++ x.2/\Box w x.1 (.pointer q::x.2.map (Value.int .u8)) 281/\x.2.length=256/\PcL w r q s
structure Pc(w:World)(p:Option Addr)(l:List Int):Prop where
 ex:∃ L,PcL w L p l
theorem Pc.nil{w}:Pc w none []:=⟨[],rfl,rfl⟩
theorem Pc.cons{w b p ps bs}(hb:Box w b (.pointer p::bs.map (Value.int .u8)) 281)(hl:bs.length=256)(h:Pc w p ps):Pc w (some ⟨b,0,none⟩) (ps ++ bs):=h.ex.elim fun L h=>⟨(b,bs)::L,p,ps,rfl,rfl,hb,hl,h⟩
theorem Pc.ind{w}{M:∀ p l,Pc w p l->Prop}(nil:M _ _ .nil)(cons:∀ {b p ps bs} hb hl (h:Pc w p ps),M p ps h->M _ _ (.cons (b:=b) (bs:=bs) hb hl h)){p l}(h:Pc w p l):M p l h:=by
 obtain ⟨L,e⟩:=h.ex
 induction L generalizing p l with
 | nil=>
  obtain ⟨rfl,rfl⟩:=e
  exact nil
 | cons x r ih=>
  obtain ⟨q,s,rfl,rfl,a,b,c⟩:=e
  exact cons a b ⟨r,c⟩ (ih ⟨r,c⟩ c)
theorem Pc.off(h:Pc w p ps)(X:Box w g cs 231)(hw:∀ k,k < w.heap.size->k≠g->w'.heap[k]? = w.heap[k]?):Pc w' p ps:=by
 induction h using Pc.ind with
 | nil=>exact .nil
 | cons hb hl _ ih =>
  refine .cons ⟨?_⟩ hl ih
  rw[hw _ hb.lt (fun e=>by
   subst e;have a:=hb.blk;rw[X.blk] at a
   simp at a)]
  exact hb.blk
theorem Pc.keep(h:Pc w p ps)(hB:Below w.heap.size w w'):Pc w' p ps:=by
 induction h using Pc.ind with
 | nil=>exact .nil
 | cons hb hl _ ih=>exact .cons (hb.keep hB) hl ih
structure WrA(w:World)(g:Nat)(err:Int)(l:List Int):Prop where
 ex:∃ p ps lat,∃ u:Nat,cN w g err p (ps.length:Int) lat (u:Int)/\Pc w p ps/\u < 256/\l=ps ++ lat.take u
theorem WrA.lt(h:WrA w g err l):g < w.heap.size:=by
 obtain⟨p,ps,lat,u,X,_⟩:=h.ex;exact X.lt
theorem WrA.keep(h:WrA w g err l)(hB:Below w.heap.size w w'):WrA w' g err l:=by
 obtain⟨p,ps,lat,u,X,P,hu,e⟩:=h.ex;exact⟨p,ps,lat,u,X.keep hB,P.keep hB,hu,e⟩
theorem But.refl(g:Nat)(w:World):But g w w:=⟨rfl,rfl,rfl,Nat.le_refl _,fun _ _ _=>rfl⟩
theorem But.trans{b:World}(h:But g w w1)(a:But g w1 b):But g w b:=⟨a.os.trans h.os,a.tape.trans h.tape,a.output.trans h.output,Nat.le_trans h.size a.size,fun k c d=>(a.block k (Nat.lt_of_lt_of_le c h.size) d).trans (h.block k c d)⟩
theorem But.drew(h:But g w w1):But g w w1.drew:=⟨h.os,h.tape,h.output,h.size,h.block⟩
theorem But.cell(h:But g w w1)(hc:w.cell? ⟨b,o,none⟩=some v)(hb:b≠g):w1.cell? ⟨b,o,none⟩=some v:=by
 rw[World.cell?_of_block (w:=w) (h.block b (aI hc) hb)]; exact hc
theorem xQ(err:Int)(p:Option Addr)(aw:Int)(lat ms:List Int)(x:Int)(u:Nat)(h:u + ms.length<=lat.length) :
  splice (dM err p aw lat x) (3 + u) (ms.map (Value.int .u8))=dM err p aw (lat.take u ++ ms ++ lat.drop (u + ms.length)) x:=by
 unfold splice dM;rw[show 3 + u=u + 1 + 1 + 1 by omega,List.length_map,show u + 1 + 1 + 1 + ms.length=u + ms.length + 1 + 1 + 1 by omega];simp only[List.take_succ_cons,List.drop_succ_cons,List.cons_append];rw[List.take_append_of_le_length (by rw[List.length_map]; omega),List.drop_append_of_le_length (by rw[List.length_map]; omega)];simp
theorem sD{P:Program}{o:Oper}{a:Act}{Q:Exit->Act->World->Prop}{E:Prop}(k:o.guard=none)(d s:Operand)(i sT:TypeId)(q:o.op=.call { callee:=.builtin .copy,args:=#[d,s],argTypes:=#[i,sT] })(elem:TypeId)(hu:P.underlying i=some (.slice elem))(l:(P.info? elem).map (·.size)=some 1)(g off dLen dCap:Nat)(ad:Addr)(sLen sCap:Nat)(r:a.eval d=.slice (some ⟨g,off,none⟩) dLen dCap)(hs:a.eval s=.slice (some ad) sLen sCap)(cur:List Value)(t:TypeId)(n:w.heap[g]? = some (.cells cur.toArray t (0,0)))(cs:List Value)(m:Nat)(hm:cs.length=m)(hn:m=Nat.min sLen dLen)(f:∀ j v,cs[j]? = some v->w.cell? (ad.add j)=some v)(e:off + m<=cur.length)(p:∀ v∈cs,v.oneCell'=true)(h:∀ w',Hid (w'.heap[g]? = some (.cells (splice cur off cs).toArray t (0,0)))->Hid (∀ b,b≠g->w'.heap[b]? = w.heap[b]?)->Hid (w'.os=w.os/\w'.tape=w.tape/\w'.output=w.output/\w'.heap.size=w.heap.size)->K (a.put o.dst (.int .i64 (m:Int))) w') :
  if Region.wanted o (yielded ops a.tmps)=true then Oper.wp P o a w K Q else E:=by
 subst hm
 have hw:Region.wanted o (yielded ops a.tmps)=true:=by simp[Region.wanted,k]
 rw[if_pos hw];have c:=run_copy_row (P:=P) w i sT o.type elem g off dLen dCap ad sLen sCap cur.toArray t cs hu l n hn f (by simpa using e) p;unfold Oper.wp;simp[execOp,q,resolve,invoke,builtin,r,hs,c,Result.andThen];exact h _ (show _=_ by simpa[splice] using setRow_heap w g _ _ t _ n) (fun b hb=>setRow_other w g b _ hb) ⟨rfl,rfl,rfl,by simp[World.setRow]⟩
theorem vj:(Tryz.prog.info? 5).map (·.size)=some 1:=by kernel_rfl
theorem wR(g u:Nat)(h:u < 256)(W:World):(Instr.sliceAt 229 (.pointer (some ⟨g,3,none⟩)) (some (.int .i64 (u:Int))) none none).run Tryz.prog W=.ok (.slice (some ⟨g,3 + u,none⟩) (256 - u) (256 - u)) W:=by
 have a:Tryz.prog.arrayLen 229=256:=by kernel_rfl
 have b:Tryz.prog.elem 229=5:=by kernel_rfl
 have hu:Tryz.prog.underlying 229=some (.array (Tryz.prog.arrayLen 229) (Tryz.prog.elem 229)):=by kernel_rfl
 have hs:(sizeOf 5).run Tryz.prog W=.ok 1 W:=by kernel_rfl
 rw[run_sliceAt_array_l W 229 ⟨g,3,none⟩ hu .i64 (u:Int) (by omega) (by rw[a]; omega),b,hs,a];simp only[Result.andThen,slicedAt,Int.toNat_natCast,Nat.mul_one];rw[if_neg (by omega)];congr 3
 exact addr_add g 3 u
theorem sliceB(ao:Option Addr)(n c m:Nat)(W:World)(hm:m<=n)(hn:n<=c):(Instr.sliceAt 96 (.slice ao n c) (some (.int .i64 (m:Int))) none none).run Tryz.prog W=.ok (.slice (cZ ao c m) (n - m) (c - m)) W:=by
 have b:(m:Int)<=n:=by omega
 have d:(m:Int)<=c:=by omega
 unfold cZ;split
 ·go_simp
 ·go_simp
def lenV(v:Value):Nat:=match v with
 | .slice _ n _=>n
 | _=>0
theorem wrLay{n c:Nat}{L:List Int}(X:WrA w g 0 L)(ha:AtB w ao b o l)(hl:l.length=n)(hc:n<=c)(hb:b≠g)(hbig:L.length + n<=4611686018427387904) :
  Calls Tryz.prog 228 #[.pointer (some ⟨g,0,none⟩),.slice ao n c] w fun e w'=>e=.returned (.tuple #[])/\WrA w' g 0 (L ++ l)/\But g w w':=by
 have HX:Hid (WrA w g 0 L):=X
 have HA:Hid (AtB w ao b o l):=ha;clear X ha;go_enter Tryz.func228,Tryz.ntmps228;go_wp2_with fail;go_loopw [1] (fun tb wr=>∃ k r T C,Hid (k + r=n)/\tb=.slice T r C/\r<=C/\Hid (0 < r->T=some ⟨b,o + k,none⟩)/\WrA wr g 0 (L ++ l.take k)/\But g w wr) (fun tb _=>lenV tb)
 case atStart=>exact⟨0,n,ao,c,Nat.zero_add n,rfl,hc,fun h=>by
  rcases HA.out.loc with e | e
  ·rw[e] at hl; simp at hl; omega
  ·rw[e]; rfl,by simpa using HX.out,But.refl _ _⟩
 case round =>
  obtain⟨k,r,T,C,E,rfl,U,A,Y,y⟩:=hrel;obtain⟨p,ps,d,u,z,P0,hu,hL⟩:=Y.ex;have HL:=(show Hid _ from hL)
  have hps:(ps.length:Int)<=4611686018427387904:=by have i:=congrArg List.length hL; simp at i; have:=E.out; omega
  have HP:=(show Hid _ from P0)
  have Q:=(show Hid _ from y)
  have t:=j4 z.c0
  have HY:Hid (WrA wr g 0 (L ++ l.take k)):=Y;clear hL P0 y Y;go_wp2_with fail;refine t.mono ?_
  rintro e w1 ⟨rfl,rfl⟩;clear t;by_cases H:0 < r
  ·obtain rfl:=A.out H
   have hlt':(0:Int) < r:=by omega
   obtain⟨m,hm⟩:∃ m,m=Nat.min r (256 - u):=⟨_,rfl⟩
   have hm1:m<=r:=by rw[hm]; exact Nat.min_le_left _ _
   have hm2:m<=256 - u:=by rw[hm]; exact Nat.min_le_right _ _
   have hm3:1<=m:=by rw[hm]; exact Nat.le_min.2 ⟨H,by omega⟩
   have HM:=(show Hid _ from hm)
   clear hm;obtain⟨ms,x⟩:∃ ms,ms=(l.drop k).take m:=⟨_,rfl⟩
   have M:ms.length=m:=by rw[x,List.length_take,List.length_drop]; have:=E.out; omega
   have G:=z.len;have s:=(show Hid _ from M)
   have N:=(show Hid _ from x)
   have HS:Hid (∀ W,But g w W->∀ j v,(ms.map (Value.int .u8))[j]? = some v->W.cell? ((⟨b,o + k,none⟩:Addr).add j)=some v):=fun W hW j v Z=>by
    obtain⟨i,B⟩:=List.getElem?_eq_some_iff.1 Z;rw[List.length_map] at i;rw[List.getElem_map] at B;have hh:=E.out;rw[addr_add];refine hW.cell ?_ hb;rw[<- B,show o + k + j=o + (k + j) by omega,HA.out.cell (k + j) (by omega),<- bS i,x,dr (by omega),dC]
   have K:=xQ 0 p (ps.length:Int) d ms (u:Int) u (by omega);have HSP:=(show Hid _ from K)
   have q:=(show Hid _ from G)
   clear K M x G;have cu:=z.cu;have hsl:=wR g u hu
   have HC:Hid (∀ W,(Instr.sliceAt 96 (.slice (some ⟨b,o + k,none⟩) r C) (some (.int .i64 (m:Int))) none none).run Tryz.prog W=.ok (.slice (cZ (some ⟨b,o + k,none⟩) C m) (r - m) (C - m)) W):=fun W=>sliceB _ _ _ _ W hm1 U
   go_wp2_with fail;go_region_law (refine sD rfl (.tmp 21) (.tmp 22) 96 96 rfl 5 cA vj g (3 + u) (256 - u) (256 - u) ⟨b,o + k,none⟩ r C (by rfl) (by rfl) _ 231 z.blk (ms.map (Value.int .u8)) m (by rw[List.length_map]; exact s.out) HM.out (fun j v Z=>HS.out _ Q.out.drew j v Z) (by simp[dM,q.out]; omega) (by simp[Value.oneCell']) ?_; intro w4 I O f)
   have F:cN w4 g 0 p (ps.length:Int) (d.take u ++ ms ++ d.drop (u + ms.length)) (u:Int):=⟨by have:=s.out; have:=q.out; simp; omega,by rw[<- HSP.out]; exact I.out⟩
   have J:=F.setu ((u:Int) + (m:Int))
   have S:Hid (But g w1 (w4.setCell ⟨g,259,none⟩ (.int .i64 ((u:Int) + (m:Int))))):=⟨f.out.1,f.out.2.1,f.out.2.2.1,by rw[size_set,f.out.2.2.2]; exact Nat.le_refl _,fun j i B=>by rw[Below.heap_setCell _ _ _ j B,O.out j B]; rfl⟩
   have V:=F.cu;have fu4:=F.free 259;have aa:=J.cu;have P:=HC.out;clear cu hsl I O f;by_cases hf:u + m=256
   ·have hq:(((u:Int) + (m:Int)) == 256)=true:=by rw[beq_iff_eq]; omega
    have HF:=(show Hid _ from hf)
    clear hf;go_wp2_with fail;refine(wrPut J (by omega) hps).mono ?_
    rintro e w6 ⟨rfl,R,XB,D⟩
    have H6:Hid (WrA w6 g 0 (L ++ l.take (k + m))):=by
     have i:=s.out;have B:=q.out;have h3:=HF.out
     have e1:d.drop (u + ms.length)=[]:=List.drop_eq_nil_of_le (by omega)
     have e2:L ++ l.take (k + m)=ps ++ (d.take u ++ ms ++ d.drop (u + ms.length)):=by
      rw[List.take_add,<- List.append_assoc,HL.out,<- N.out,e1,List.append_nil,List.append_assoc]
     refine⟨some ⟨_,0,none⟩,ps ++ (d.take u ++ ms ++ d.drop (u + ms.length)),d.take u ++ ms ++ d.drop (u + ms.length),0,?_,.cons XB R.len (HP.out.off z.box (S.out.trans D).block),by omega,?_⟩
     ·have e3:(((ps ++ (d.take u ++ ms ++ d.drop (u + ms.length))).length:Nat):Int)=(ps.length:Int) + 256:=by rw[List.length_append,R.len]; rfl
      rw[e3]; exact R
     ·rw[e2]; simp
    have H7:Hid (But g w w6):=Q.out.trans (S.out.trans D);clear R XB D F J V aa fu4 hq z P;go_wp2;go_roundw
    case rel=>exact⟨k + m,r - m,_,_,by show _=_; have:=E.out; omega,rfl,by omega,fun h=>by
     unfold cZ; rw[if_neg (by omega)]; show some ((⟨b,o + k,none⟩:Addr).add m)=_; rw[addr_add,Nat.add_assoc],H6.out,H7.out⟩
    case measure=>simp[lenV]; omega
   ·have hq:(((u:Int) + (m:Int)) == 256)=false:=by rw[beq_eq_false_iff_ne]; omega
    have H6:Hid (WrA (w4.setCell ⟨g,259,none⟩ (.int .i64 ((u:Int) + (m:Int)))) g 0 (L ++ l.take (k + m))):=by
     have i:=s.out;have B:=q.out;refine⟨p,ps,_,u + m,J,HP.out.off z.box S.out.block,by omega,?_⟩
     have e4:(d.take u ++ ms ++ d.drop (u + ms.length)).take (u + m)=d.take u ++ ms:=by
      rw[List.take_append_of_le_length (by simp; omega)];exact List.take_of_length_le (by simp; omega)
     rw[e4,List.take_add,<- List.append_assoc,HL.out,<- N.out,List.append_assoc]
    have H7:=(show Hid _ from Q.out.trans S.out)
    have HF:=(show Hid _ from hf)
    clear hf F J z;go_wp2;go_roundw
    case rel=>exact⟨k + m,r - m,_,_,by show _=_; have:=E.out; omega,rfl,by omega,fun h=>by
     unfold cZ; rw[if_neg (by omega)]; show some ((⟨b,o + k,none⟩:Addr).add m)=_; rw[addr_add,Nat.add_assoc],H6.out,H7.out⟩
    case measure=>simp[lenV]; omega
  ·obtain rfl:r=0:=by omega
   have HE:Hid (WrA w1 g 0 (L ++ l)):=by
    have i:=HY.out;rw[List.take_of_length_le (by have:=E.out; omega)] at i;exact i
   go_wp2;go_end0;exact⟨rfl,HE.out,Q.out⟩
end
end
section
open Go.RowKit Lim
section
variable {x err:Int}{w:World}{g n c b o k m:Nat}{ao:Option Addr}{L l ds:List Int}{cs:List Value}
def be:Nat->Int->List Int
 | 0,_=>[]
 | m + 1,x=>x / 256 ^ m % 256 :: be m x
theorem aN(m:Nat)(x:Int):(be m x).length=m:=by
 induction m with
 | zero=>rfl
 | succ m ih=>rw[be,List.length_cons,ih]
theorem xq(m:Nat)(x:Int):∀ i,i < m->nth (be m x) i=x / 256 ^ (m - 1 - i) % 256:=by
 induction m with
 | zero=>intro i hi; omega
 | succ m ih =>
  intro i hi
  cases i with
  | zero=>rfl
  | succ i =>
   rw[be,dF,ih i (by omega),show m - 1 - i=m + 1 - 1 - (i + 1) by omega]
theorem eU(m:Nat)(x:Int):a7 (be m x):=by
 induction m with
 | zero=>intro y hy; simp[be] at hy
 | succ m ih =>
  intro y hy;rw[be] at hy;rcases List.mem_cons.1 hy with e | e
  ·subst e; exact⟨Int.emod_nonneg _ (by decide),Int.emod_lt_of_pos _ (by decide)⟩
  ·exact ih y e
theorem qk(m:Nat)(hx:0<=x):bM (be m x)=x % 256 ^ m:=by
 induction m with
 | zero=>simp[be,bM]
 | succ m ih=>rw[be,bM,aN,ih,<- mr x hx m]
def wrote(err:Int)(L l:List Int):List Int:=if err=0 then L ++ l else L
theorem wrLayE(X:WrA w g err L)(he:err≠0) :
  Calls Tryz.prog 228 #[.pointer (some ⟨g,0,none⟩),.slice ao n c] w fun e w'=>e=.returned (.tuple #[])/\w'=w:=by
 obtain⟨p,ps,f,u,b,_⟩:=X.ex;have t:=j4 b.c0;rw[beq_eq_false_iff_ne.2 he] at t;clear X b he;go_enter Tryz.func228,Tryz.ntmps228;go_wp2_with fail;go_loopw [1] (fun d wr=>d=.slice ao n c/\wr=w) (fun _ _=>0)
 case atStart=>exact⟨rfl,rfl⟩
 case round =>
  obtain⟨rfl,rfl⟩:=hrel;go_wp2_with fail;refine t.mono ?_
  rintro e i ⟨rfl,rfl⟩;clear t;go_wp2;go_end0;exact⟨rfl,rfl⟩
theorem zU(X:WrA w g err L)(f:AtB w ao b o l)(i:l.length=n)(hc:n<=c)(hb:b≠g)(a:L.length + n<=4611686018427387904) :
  Calls Tryz.prog 228 #[.pointer (some ⟨g,0,none⟩),.slice ao n c] w fun e w'=>e=.returned (.tuple #[])/\WrA w' g err (wrote err L l)/\But g w w':=by
 unfold wrote;by_cases he:err=0
 ·subst he;rw[if_pos rfl];exact wrLay X f i hc hb a
 ·rw[if_neg he];refine(wrLayE X he).mono ?_
  rintro e w' ⟨d,h⟩;subst h;exact⟨d,X,But.refl _ _⟩
theorem slice8(g m:Nat)(h:m<=8)(W:World):(Instr.sliceAt 308 (.pointer (some ⟨g,0,none⟩)) none (some (.int .i64 (m:Int))) none).run Tryz.prog W=.ok (.slice (some ⟨g,0,none⟩) m 8) W:=by
 have b:(m:Int)<=8:=by omega
 go_simp
theorem yA{v:Int}(hk:k < ds.length):(ds.set k v).take (k + 1)=ds.take k ++ [v]:=by
 rw[dQ (by rw[List.length_set]; exact hk),dy hk,if_pos rfl,List.take_set_of_le (Nat.le_refl _)]
theorem Box.bytes{t:TypeId}(h:Box w g (ds.map (Value.int .u8)) t){i:Nat}(hi:i < ds.length):w.cell? ⟨g,i,none⟩=some (.int .u8 (nth ds i)):=by
 simp[World.cell?,h.blk,hi,bS hi]
theorem Box.thaw{t:TypeId}(h:Box w g cs t)(i:Nat):w.frozen? ⟨g,i,none⟩=false:=by simp[World.frozen?,h.blk]
theorem Box.setB{t:TypeId}(h:Box w g (ds.map (Value.int .u8)) t)(i:Nat)(x:Int):Box (w.setCell ⟨g,i,none⟩ (.int .u8 x)) g ((ds.set i x).map (Value.int .u8)) t:=⟨by
 have hb:=h.blk;simp only[World.setCell,Array.getElem?_modify,if_true,hb]
 simp⟩
theorem Ax(X:WrA w g err L)(hm:m<=8)(C:L.length + 8<=4611686018427387904) :
  Calls Tryz.prog 195 #[.pointer (some ⟨g,0,none⟩),.int .u64 x,.int .i64 m] w fun e w'=>e=.returned (.tuple #[])/\WrA w' g err (wrote err L (be m x))/\But g w w':=by
 have F:Hid (WrA w g err L):=X;have Q:=X.lt;have N:=iB w ((List.replicate 8 (0:Int)).map (Value.int .u8)) 308;have B:=ae w (.cells #[.int .u8 0,.int .u8 0,.int .u8 0,.int .u8 0,.int .u8 0,.int .u8 0,.int .u8 0,.int .u8 0] 308);have H:=(show Hid _ from N)
 have u:=(show Hid _ from B)
 clear X N B;go_enter Tryz.func195,Tryz.ntmps195;go_wp2_with fail;go_loopw [9] (fun r wr=>∃ (k:Nat) (q:List Int),k<=m/\r=.int .i64 k/\q.length=8/\Hid (q.take k=(be m x).take k)/\Box wr w.heap.size (q.map (Value.int .u8)) 308/\Below w.heap.size w wr) (fun r _=>m - (intOf r).toNat)
 case atStart=>exact⟨0,List.replicate 8 0,Nat.zero_le _,rfl,rfl,rfl,H.out,u.out⟩
 case round =>
  obtain⟨k,q,P,rfl,hlen,f,d,b⟩:=hrel;by_cases j:k < m
  ·obtain⟨h,O⟩:∃ h:Nat,(m:Int) - 1 - k=h:=⟨m - 1 - k,by omega⟩
   have o:m - 1 - k=h:=by omega
   have G:Hid ((q.set k (x / 2 ^ (8 * h) % 256)).take (k + 1)=(be m x).take (k + 1)):=by
    have e1:(256:Int) ^ h=2 ^ (8 * h):=by rw[Int.pow_mul]; rfl
    show _=_
    rw[yA (by omega),f.out,dQ (by rw[aN]; exact j),xq m x k j,o,e1]
   have E:(k:Int) < 8:=by omega
   have K:h < 8:=by omega
   have c1:=d.bytes (i:=k) (by omega);have f1:=d.thaw k;have M:=(show Hid _ from d.setB k (x / 2 ^ (8 * h) % 256))
   have v:=(show Hid _ from b)
   have y:=(show Hid _ from hlen)
   clear o d b f hlen;go_wp2_with fail;refine⟨⟨k + 1,_,by omega,by go_num,by rw[List.length_set]; exact y.out,G.out,M.out,v.out.setCell (p:=⟨w.heap.size,k,none⟩) (Nat.le_refl _) _⟩,by simp[intOf]; omega⟩
  ·obtain rfl:k=m:=by omega
   have A:AtB wr (some ⟨w.heap.size,0,none⟩) w.heap.size 0 (be k x):=⟨.inr rfl,fun i hi=>by
    rw[aN] at hi;have e:=f.out;rw[List.take_of_length_le (l:=be k x) (by rw[aN]; exact Nat.le_refl _)] at e
    rw[Nat.zero_add,d.bytes (by omega),<- e,dr hi]⟩
   have t:=zU (n:=k) (c:=8) (F.out.keep b) A (aN k x) hm (by omega) (by omega);have D:=slice8 w.heap.size k hm
   have v:Hid (∀ w',But g wr w'->But g w w'):=fun w' hb=>(⟨b.os,b.tape,b.output,b.size,fun k s _=>b.block k s⟩:But g w wr).trans hb
   clear A d b f;go_wp2_with fail;refine t.mono ?_
   rintro e J ⟨rfl,s,z⟩;have I:=(show Hid _ from v.out J z)
   clear t z;go_wp2;go_end0;exact⟨rfl,s,I.out⟩
theorem xp(h:n < 256 ^ k):(n:Int) / 2 ^ (8 * k)=0:=by
 have e:(2:Int) ^ (8 * k)=((256 ^ k:Nat):Int):=by rw[Int.pow_mul,Int.natCast_pow]; rfl
 rw[e];exact Int.ediv_eq_zero_of_lt (by omega) (by omega)
def fM(m:Nat)(l:List Int):List Int:=be m l.length ++ l
theorem wV(err:Int)(L l r:List Int):wrote err (wrote err L l) r=wrote err L (l ++ r):=by
 unfold wrote;by_cases h:err=0
 ·rw[if_pos h,if_pos h,if_pos h,List.append_assoc]
 ·rw[if_neg h,if_neg h,if_neg h]
theorem wQ(err:Int)(L l:List Int):(wrote err L l).length<=L.length + l.length:=by
 unfold wrote;split
 ·rw[List.length_append]; exact Nat.le_refl _
 ·exact Nat.le_add_right _ _
theorem But.at{w':World}(h:But g w w')(k:AtB w ao b o l)(hb:b≠g):AtB w' ao b o l:=⟨k.loc,fun i hi=>h.cell (k.cell i hi) hb⟩
theorem wrCnt(X:WrA w g err L)(q:AtB w ao b o l)(r:l.length=n)(hc:n<=c)(hb:b≠g)(hm:m=1\/m=4)(hn:n < 256 ^ m)(s:L.length + n + 16<=4611686018427387904) :
  Calls Tryz.prog 229 #[.pointer (some ⟨g,0,none⟩),.slice ao n c,.int .i64 m] w fun e w'=>e=.returned (.tuple #[])/\WrA w' g err (wrote err L (fM m l))/\But g w w':=by
 have t:=Ax (m:=m) (x:=(n:Int)) X (by omega) (by omega);have z:=xp hn
 have u:m<=4:=by omega
 have B:=(show Hid _ from hm)
 have C:=(show Hid _ from hn)
 clear X hm hn;go_enter Tryz.func229,Tryz.ntmps229;go_wp2_with fail;refine t.mono ?_
 rintro e D ⟨rfl,p,d⟩;have t2:=zU p (d.at q hb) r hc hb (by have:=wQ err L (be m n); rw[aN] at this; omega);rw[wV] at t2
 have y:Hid (be m n ++ l=fM m l):=by show _=_; unfold fM; rw[r]
 have i:=(show Hid _ from d)
 clear t p d q;go_wp2_with fail;refine t2.mono ?_
 rintro e A ⟨rfl,v,f⟩;have j:=(show Hid _ from i.out.trans f)
 clear t2 f;go_wp2;go_end0;exact⟨rfl,by rw[<- y.out]; exact v,j.out⟩
theorem CO(h:256 ^ k<=n):((n:Int) / 2 ^ (8 * k) != 0)=true:=by
 have e:(2:Int) ^ (8 * k)=((256 ^ k:Nat):Int):=by rw[Int.pow_mul,Int.natCast_pow]; rfl
 rw[e,bne_iff_ne]
 have a:0 < n / 256 ^ k:=Nat.div_pos h (Nat.pow_pos (by decide))
 have b:(n:Int) / ((256 ^ k:Nat):Int)=((n / 256 ^ k:Nat):Int):=rfl;omega
def long(err:Int):Int:=if err=0 then 42 else err
theorem C8{e0:Int}(X:WrA w g err L) :
  Calls Tryz.prog 223 #[.pointer (some ⟨g,0,none⟩),.int .i64 e0] w fun e w'=>e=.returned (.tuple #[])/\WrA w' g (if err=0 then e0 else err) L/\But g w w':=by
 obtain⟨p,ps,c,u,a,f,hu,hL⟩:=X.ex;by_cases he:err=0
 ·subst he;rw[if_pos rfl];refine(stMeet a.c0 (a.free 0)).mono ?_
  rintro e w' ⟨b,rfl⟩
  have d:But g w (w.setCell ⟨g,0,none⟩ (.int .i64 e0)):=⟨rfl,rfl,rfl,by rw[size_set]; exact Nat.le_refl _,fun k _ h=>Below.heap_setCell _ _ _ k h⟩
  exact⟨b,⟨p,ps,c,u,a.set0 e0,f.off a.box d.block,hu,hL⟩,d⟩
 ·rw[if_neg he];refine(BG a.c0 (beq_eq_false_iff_ne.2 he)).mono ?_
  rintro e w' ⟨b,rfl⟩;exact⟨b,X,But.refl _ _⟩
theorem xd(X:WrA w g err L)(hc:n<=9223372036854775807)(hm:m<=4)(hn:256 ^ m<=n) :
  Calls Tryz.prog 229 #[.pointer (some ⟨g,0,none⟩),.slice ao n c,.int .i64 m] w fun e w'=>e=.returned (.tuple #[])/\WrA w' g (long err) L/\But g w w':=by
 have t:=C8 (e0:=42) X;have j:=CO hn;have l:=(show Hid _ from hn)
 clear X hn;go_enter Tryz.func229,Tryz.ntmps229;go_wp2_with fail;refine t.mono ?_
 rintro e o ⟨rfl,f,b⟩;have i:=(show Hid _ from f)
 have d:=(show Hid _ from b)
 clear t f b;go_wp2;(try simp only[Exit.inBlock,Exit.then])
 refine bodyPost_ret (results_none rfl _ _ _) rfl ?_
 exact⟨rfl,i.out,d.out⟩
theorem wrU8(X:WrA w g err L)(d:0<=x)(hx:x < 256)(b:L.length + 8<=4611686018427387904) :
  Calls Tryz.prog 196 #[.pointer (some ⟨g,0,none⟩),.int .u8 x] w fun e w'=>e=.returned (.tuple #[])/\WrA w' g err (wrote err L (be 1 x))/\But g w w':=by
 have t:=Ax (m:=1) (x:=x) X (by decide) b;clear X;go_enter Tryz.func196,Tryz.ntmps196;go_wp2_with fail;refine t.mono ?_
 rintro e i ⟨rfl,f,c⟩;clear t;go_wp2;go_end0;exact⟨rfl,f,c⟩
theorem DR(X:WrA w g err L)(b:L.length + 8<=4611686018427387904) :
  Calls Tryz.prog 152 #[.pointer (some ⟨g,0,none⟩),.int .u64 x] w fun e w'=>e=.returned (.tuple #[])/\WrA w' g err (wrote err L (be 8 x))/\But g w w':=by
 have t:=Ax (m:=8) (x:=x) X (by decide) b;clear X;go_enter Tryz.func152,Tryz.ntmps152;go_wp2_with fail;refine t.mono ?_
 rintro e f ⟨rfl,d,c⟩;clear t;go_wp2;go_end0;exact⟨rfl,d,c⟩
theorem AN{x:Bool}(X:WrA w g err L)(b:L.length + 8<=4611686018427387904) :
  Calls Tryz.prog 154 #[.pointer (some ⟨g,0,none⟩),.bool x] w fun e w'=>e=.returned (.tuple #[])/\WrA w' g err (wrote err L (be 1 (if x then 1 else 0)))/\But g w w':=by
 cases x
 ·have t:=wrU8 (x:=0) X (by decide) (by decide) b;clear X;go_enter Tryz.func154,Tryz.ntmps154;go_wp2_with fail;refine t.mono ?_
  rintro e f ⟨rfl,d,c⟩;clear t;go_wp2;go_end0;exact⟨rfl,d,c⟩
 ·have t:=wrU8 (x:=1) X (by decide) (by decide) b;clear X;go_enter Tryz.func154,Tryz.ntmps154;go_wp2_with fail;refine t.mono ?_
  rintro e f ⟨rfl,d,c⟩;clear t;go_wp2;go_end0;exact⟨rfl,d,c⟩
end
end
section
open Go.RowKit Lim
section
variable {V err:Int}{g n c:Nat}{w:World}{ao:Option Addr}{L:List Int}
def dO(V:Int):List Int:=be ((bitLen V.toNat + 7) / 8) V
theorem pI(a:0<=V):IsB (dO V) V:=by
 obtain⟨c,g⟩:=oe a;unfold dO;generalize (bitLen V.toNat + 7) / 8=k at *;refine⟨eU k V,fun b => ?_,by rw[qk k a,Int.emod_eq_of_lt a c]⟩
 have h:k≠0:=fun e=>b (by rw[e]; rfl)
 rw[xq k V 0 (by omega),show k - 1 - 0=k - 1 by omega]
 have d:(0:Int) < 256 ^ (k - 1):=Int.pow_pos (by decide)
 have q1:1<=V / 256 ^ (k - 1):=by rw[Int.le_ediv_iff_mul_le d]; have:=g h; omega
 have f:V / 256 ^ (k - 1) < 256:=by
  rw[Int.ediv_lt_iff_lt_mul d,Int.mul_comm,<- Int.pow_succ,show (k - 1).succ=k from by omega]; exact c
 rw[Int.emod_eq_of_lt (by omega) f]; omega
theorem zd(V:Int):a7 (dO V):=eU _ _
def gG(V err:Int):Int:=if (dO V).length < 256 then err else long err
def iG(V err:Int)(L:List Int):List Int:=if (dO V).length < 256 then wrote err L (fM 1 (dO V)) else L
theorem But.of{w':World}(h:Below w.heap.size w w'):But g w w':=⟨h.os,h.tape,h.output,h.size,fun k h1 _=>h.block k h1⟩
theorem wrNat(X:WrA w g err L)(h:aV w ao n c V)(hn:n<=1099511627776)(G:L.length + 8 * n + 16<=4611686018427387904) :
  Calls Tryz.prog 197 #[.pointer (some ⟨g,0,none⟩),.slice ao n c] w fun e w'=>e=.returned (.tuple #[])/\WrA w' g (gG V err) (iG V err L)/\But g w w':=by
 obtain⟨b,o,l,A,B,p,E,y⟩:=h.ex;have t:=wC ao n c b o l w A B hn p E;rw[y] at t
 have I:0<=V:=by rw[<- y]; exact aL p
 have O:=X.lt
 have K:Hid (WrA w g err L):=X;clear X h A B p E y;go_enter Tryz.func197,Tryz.ntmps197;go_wp2_with fail;refine t.mono ?_
 rintro e R ⟨v,r,rfl,D,C,-,M,x⟩;obtain⟨s,Q,P,J,rfl,u,N,hA,-⟩:=D.is;obtain rfl:=mK C (pI I);have j:=K.out.keep x;have F:=(show Hid _ from x)
 clear t D C x;by_cases d:(dO V).length < 256
 ·have t2:=wrCnt (m:=1) j hA rfl u (by omega) (.inl rfl) (by simpa using d) (by omega)
  have i:Hid (gG V err=err/\iG V err L=wrote err L (fM 1 (dO V))):=by
   unfold gG iG;rw[if_pos d,if_pos d]; exact⟨rfl,rfl⟩
  clear j hA d;go_wp2_with fail;refine t2.mono ?_
  rintro e H ⟨rfl,q,f⟩;have z:=(show Hid _ from(But.of (g:=g) F.out).trans f)
  clear t2 f;go_wp2;go_end0;exact⟨rfl,by rw[i.out.1,i.out.2]; exact q,z.out⟩
 ·have t2:=xd (ao:=s) (c:=J) (m:=1) (n:=(dO V).length) j (by omega) (by decide) (by omega)
  have i:Hid (gG V err=long err/\iG V err L=L):=by
   unfold gG iG;rw[if_neg d,if_neg d]; exact⟨rfl,rfl⟩
  clear j hA d;go_wp2_with fail;refine t2.mono ?_
  rintro e H ⟨rfl,q,f⟩;have z:=(show Hid _ from(But.of (g:=g) F.out).trans f)
  clear t2 f;go_wp2;go_end0;exact⟨rfl,by rw[i.out.1,i.out.2]; exact q,z.out⟩
theorem uI(X:WrA w g err L)(h:aV w ao n c V)(hn:n<=1099511627776)(d:L.length + 8 * n + 16<=4611686018427387904) :
  Calls Tryz.prog 156 #[.pointer (some ⟨g,0,none⟩),.agg #[.slice ao n c]] w fun e w'=>e=.returned (.tuple #[])/\WrA w' g (gG V err) (iG V err L)/\But g w w':=by
 have f:Hid (Below w.heap.size w (w.alloc (.cells #[.slice ao n c] 32))):=ae w _;have t:=wrNat (X.keep f.out) (h.keep f.out) hn d;clear X h;go_enter Tryz.func156,Tryz.ntmps156;go_wp2_with fail;refine t.mono ?_
 rintro e j ⟨rfl,i,b⟩;replace b:=(show Hid _ from(But.of (g:=g) f.out).trans b)
 clear t f;go_wp2;go_end0;exact⟨rfl,i,b.out⟩
end
end
section
open Go.RowKit Lim
section
variable {err:Int}{l:List Int}{w:World}{b g n c m:Nat}{ao:Option Addr}{cs:List Value}{y:Value}
def rdE{α:Type}(r:Int ⊕ α × Nat)(err:Int):Int:=if err=0 then (match r with | .inl e=>e | .inr _=>0) else err
def rdL{α:Type}(r:Int ⊕ α × Nat)(err:Int)(l:List Int):List Int:=if err=0 then (match r with | .inl _=>l | .inr p=>l.drop p.2) else l
def rdV{α:Type}(z:α)(r:Int ⊕ α × Nat)(err:Int):α:=if err=0 then (match r with | .inl _=>z | .inr p=>p.1) else z
def cM(m:Nat)(l:List Int):Int ⊕ Int × Nat:=if m<=l.length then .inr (bM (l.take m),m) else .inl 40
def bE(l:List Int):Int ⊕ Bool × Nat:=if 1<=l.length then (if 1 < bM (l.take 1) then .inl 41 else .inr (bM (l.take 1) == 1,1)) else .inl 40
def bR(m:Nat)(l:List Int):Nat:=(bM (l.take m)).toNat
def bP(l:List Int):Int ⊕ Int × Nat:=if 1<=l.length then (if 1 + bR 1 l<=l.length then (if 0 < bR 1 l/\nth (l.drop 1) 0=0 then .inl 41 else .inr (bM ((l.drop 1).take (bR 1 l)),1 + bR 1 l)) else .inl 40) else .inl 40
theorem pD{α:Type}{r:Int ⊕ α × Nat}(h:err≠0):rdE r err=err:=by unfold rdE; rw[if_neg h]
theorem uu{α:Type}{r:Int ⊕ α × Nat}(h:err≠0):rdL r err l=l:=by unfold rdL; rw[if_neg h]
theorem u4{α:Type}{z:α}{r:Int ⊕ α × Nat}(h:err≠0):rdV z r err=z:=by unfold rdV; rw[if_neg h]
theorem Bw(m:Nat)(err:Int)(l:List Int):pA m err l=rdV 0 (cM m l) err:=by
 unfold pA rdV cM;by_cases h1:err=0<;>by_cases h2:m<=l.length<;>simp[h1,h2]
theorem Cu(m:Nat)(err:Int)(l:List Int):pM m err l=rdE (cM m l) err:=by
 unfold pM rdE cM;by_cases h1:err=0<;>by_cases h2:m<=l.length<;>simp[h1,h2]
theorem Dh(m:Nat)(err:Int)(l:List Int):p5 m err l=rdL (cM m l) err l:=by
 unfold p5 rdL cM;by_cases h1:err=0<;>by_cases h2:m<=l.length<;>simp[h1,h2]
theorem ByA.but{w':World}(h:ByA w b ao n c l){t:TypeId}(s:Box w g cs t)(hv:∀ v∈cs,∀ x,v≠.int .u8 x)(p:But g w w'):ByA w' b ao n c l:=by
 obtain⟨o,f,m,j,k,d⟩:=h.ex;refine⟨o,f,m,j,k,d.loc,fun i hi => ?_⟩;have hc:=d.cell i hi;refine p.cell hc (fun e => ?_);subst e;simp only[World.cell?,s.blk] at hc
 have a:cs.toArray[o + i]? = some (.int .u8 (nth l i)):=by simpa using hc
 rw[List.getElem?_toArray] at a;exact absurd rfl (hv _ (List.mem_of_getElem? a) _)
theorem RdA.back{w1:World}(e0:Int)(X:Box w g [.int .i64 0,.slice ao n c] 298)(A:ByA w b ao n c l)(a:But g w w1)(Y:Box w1 g [.int .i64 0,y] 298) :
  RdA ((w1.setCell ⟨g,1,none⟩ (.slice ao n c)).setCell ⟨g,0,none⟩ (.int .i64 e0)) g b e0 l/\But g w ((w1.setCell ⟨g,1,none⟩ (.slice ao n c)).setCell ⟨g,0,none⟩ (.int .i64 e0)):=by
 have H:But g w ((w1.setCell ⟨g,1,none⟩ (.slice ao n c)).setCell ⟨g,0,none⟩ (.int .i64 e0)):=⟨a.os,a.tape,a.output,by rw[size_set,size_set]; exact a.size,fun k e d=>by rw[Below.heap_setCell _ _ _ k d,Below.heap_setCell _ _ _ k d]; exact a.block k e d⟩
 exact⟨⟨ao,n,c,jt (eL Y _) _,A.but X (kK _ _ _ _) H⟩,H⟩
theorem RdA.lt(h:RdA w g b err l):g < w.heap.size:=by
 obtain⟨_,_,_,X,_⟩:=h.ex;exact X.lt
theorem Eb(h:RdA w g b 0 l)(hm:m<=l.length)(h8:m<=8) :
  Calls Tryz.prog 244 #[.pointer (some ⟨g,0,none⟩),.int .u64 m] w fun e w'=>e=.returned (.tuple #[.int .u64 (bM (l.take m)),.int .i64 0])/\RdA w' g b 0 (l.drop m)/\But g w w':=by
 obtain⟨f,n,c,X,A⟩:=h.ex;obtain⟨o,i,a,⟨j,-⟩,-,-⟩:=A.ex;refine(rdNum X A (by omega:m<=n) h8).mono ?_
 rintro e w' ⟨d,rfl⟩
 have H:But g w (w.setCell ⟨g,1,none⟩ (.slice (cZ f c m) (n - m) (c - m))):=⟨rfl,rfl,rfl,by rw[size_set]; exact Nat.le_refl _,fun k _ a=>Below.heap_setCell _ _ _ k a⟩
 exact⟨d,⟨_,_,_,eL X _,(A.rest (by omega)).but X (kK _ _ _ _) H⟩,H⟩
theorem AF(h:RdA w g b 0 l)(hm:l.length < m) :
  Calls Tryz.prog 244 #[.pointer (some ⟨g,0,none⟩),.int .u64 m] w fun e w'=>e=.returned (.tuple #[.int .u64 0,.int .i64 40])/\w'=w:=by
 obtain⟨a,n,c,X,A⟩:=h.ex;obtain⟨o,d,f,⟨i,-⟩,-,-⟩:=A.ex;exact zi X (by omega) (by omega)
theorem AQ(h:RdA w g b 0 l)(hm:m<=l.length) :
  Calls Tryz.prog 255 #[.pointer (some ⟨g,0,none⟩),.int .u64 m] w fun e w'=>∃ ao,e=.returned (.tuple #[.slice ao m m,.int .i64 0])/\ByA w' b ao m m (l.take m)/\RdA w' g b 0 (l.drop m)/\But g w w':=by
 obtain⟨ao,n,c,X,A⟩:=h.ex;obtain⟨o,i,a,⟨d,-⟩,-,-⟩:=A.ex;refine(AM X a d (by omega:m<=n)).mono ?_
 rintro e w' ⟨f,rfl⟩
 have H:But g w (w.setCell ⟨g,1,none⟩ (.slice (cZ ao c m) (n - m) (c - m))):=⟨rfl,rfl,rfl,by rw[size_set]; exact Nat.le_refl _,fun k _ a=>Below.heap_setCell _ _ _ k a⟩
 exact⟨ao,f,(A.front (by omega)).but X (kK _ _ _ _) H,⟨_,_,_,eL X _,(A.rest (by omega)).but X (kK _ _ _ _) H⟩,H⟩
theorem BP(h:RdA w g b 0 l)(hm:l.length < m) :
  Calls Tryz.prog 255 #[.pointer (some ⟨g,0,none⟩),.int .u64 m] w fun e w'=>e=.returned (.tuple #[.slice none 0 0,.int .i64 40])/\w'=w:=by
 obtain⟨a,n,c,X,A⟩:=h.ex;obtain⟨o,d,f,⟨i,-⟩,-,-⟩:=A.ex;exact vz X (by omega) (by omega)
theorem RdA.oct(h:RdA w g b err l):a7 l:=by
 obtain⟨_,_,_,_,A⟩:=h.ex;obtain⟨o,_,_,_,h4,_⟩:=A.ex;exact h4
theorem qy(h:RdA w g b err l):((bR m l:Nat):Int)=bM (l.take m):=by
 unfold bR;rw[Int.toNat_of_nonneg (bL (fun x hx=>h.oct x (List.mem_of_mem_take hx))).1]
theorem Cz(h:RdA w g b 0 l) :
  Calls Tryz.prog 220 #[.pointer (some ⟨g,0,none⟩)] w fun e w'=>∃ v,e=.returned (.tuple #[v,.int .i64 (rdE (bE l) 0)])/\∃ l1,RdA w' g b 0 l1/\But g w w'/\∀ x k,bE l=.inr (x,k)->l1=l.drop k/\v=.bool x:=by
 by_cases i:1<=l.length
 ·have t:=Eb (m:=1) h i (by decide);by_cases hx:1 < bM (l.take 1)
  ·have c:bE l=.inl 41:=by unfold bE; rw[if_pos i,if_pos hx]
   have f:Hid (rdE (bE l) 0=41):=by show _=_; rw[c]; rfl
   have d:=(show Hid _ from c)
   clear c h
   have o:(bM (l.take 1) == 1)=false:=by rw[beq_eq_false_iff_ne]; omega
   generalize bM (l.take 1)=X at *;go_enter Tryz.func220,Tryz.ntmps220;go_wp2_with fail;refine t.mono ?_
   rintro e p ⟨rfl,j,n⟩;clear t;go_wp2;go_ret2;exact⟨_,by rw[f.out]; rfl,_,j,n,fun x k e=>by rw[d.out] at e; cases e⟩
  ·have c:bE l=.inr (bM (l.take 1) == 1,1):=by unfold bE; rw[if_pos i,if_neg hx]
   have f:Hid (rdE (bE l) 0=0):=by show _=_; rw[c]; rfl
   have d:=(show Hid _ from c)
   clear c h;generalize bM (l.take 1)=X at *
   have o:X<=1:=by omega
   clear hx;go_enter Tryz.func220,Tryz.ntmps220;go_wp2_with fail;refine t.mono ?_
   rintro e p ⟨rfl,j,n⟩;clear t;go_wp2;go_ret2;exact⟨_,by rw[f.out]; rfl,_,j,n,fun x k e=>by rw[d.out] at e; cases e; exact⟨rfl,rfl⟩⟩
 ·have t:=AF (m:=1) h (by omega)
  have c:bE l=.inl 40:=by unfold bE; rw[if_neg i]
  have f:Hid (rdE (bE l) 0=40):=by show _=_; rw[c]; rfl
  have d:=(show Hid _ from c)
  have q:=(show Hid _ from h)
  clear c h i;go_enter Tryz.func220,Tryz.ntmps220;go_wp2_with fail;refine t.mono ?_
  rintro e p ⟨rfl,rfl⟩;clear t;go_wp2;go_ret2;exact⟨_,by rw[f.out]; rfl,_,q.out,⟨rfl,rfl,rfl,Nat.le_refl _,fun _ _ _=>rfl⟩,fun x k e=>by rw[d.out] at e; cases e⟩
end
end
section
open Go.RowKit Lim
theorem cC (ao : Option Addr) (n c b o : Nat) (l : List Int) (w : World) (E : l.length = n) (F : n ≤ 1099511627776) (m : ao = none → c = 0) (D : AtB w ao b o l) :
    Calls Tryz.prog 217 #[.slice ao n c] w fun e w' => ∃ v, e = .returned v ∧ fw w' w.heap.size v l ∧ Below w.heap.size w w' := by
  obtain⟨i0, hi, s, y, A⟩:= info_parts lC
  have I : ∀ (w : World) (a : Option Addr) (n c B z : Nat), (binOp .eql 96 (.slice a n c) (.slice none B z)).run Tryz.prog w = .ok (.bool a.isNone) w := fun w a n c B z => Lib.run_eql_slice_nil w _ _ a n c B z cA
  cases ao with
  | none =>
    have H : l = [] := by rcases D.loc with e | e
                          · exact e
                          · simp at e
    subst H
    have r : n = 0 := E.symm;subst r;have q := m rfl;subst q
    have d : w.ownsRow w.heap.size 5 1 (.slice none 0 0) 0 [] := World.ownsRow_nil _ _ _ _;go_enter Tryz.func217, Tryz.ntmps217;go_wp2;go_ret;exact⟨_, rfl, d, Below.refl _ _⟩
  | some x =>
    have t := ae w (.cells #[] 5)
    have d : (w.alloc (.cells #[] 5)).ownsRow w.heap.size 5 1 (.slice (some ⟨w.heap.size, 0, none⟩) 0 0) 0 [] := ⟨rfl, .inr ⟨w.heap.size, 0, #[], rfl, Nat.le_refl _, (iB w [] 5).blk, Nat.le_refl _, by decide, rfl, rfl⟩⟩
    have p : ∀ j u, (l.map (Value.int .u8))[j]? = some u → (w.alloc (.cells #[] 5)).cell? (x.add j) = some u := by
      intro j u hu;rw[List.getElem?_map] at hu
      have f : j < l.length := by
        rcases Nat.lt_or_ge j l.length with f | f
        · exact f
        · rw[List.getElem?_eq_none f] at hu; simp at hu
      rw[List.getElem?_eq_getElem f] at hu;simp at hu;subst hu
      have hx : x = ⟨b, o, none⟩:= by
        rcases D.loc with e | e
        · subst e; simp at f
        · simpa using e
      subst hx;have := (D.keep t).cell j f;rw[bS f] at this;rw[addr_add];exact this
    have C := (show Hid _ from t);clear t;go_enter Tryz.func217, Tryz.ntmps217;go_wp2_with (at_builtin; refine wpList_append_own _ rfl _ _ 96 rfl w.heap.size 5 i0 (.int .u8 0) 1 1 cA hi s y A rfl (by decide) _ _ _ rfl d x n c (l.map (Value.int .u8)) rfl (by simp[E]) ?c1 ?c2 ?c3 ?c4 ?c5 ?_)
    case c1 => exact p
    case c2 => exact ints_oneCell _ _
    case c3 => unfold maxLen; omega
    case c4 => omega
    case c5 => exact C.out.size
    intro G J i g _;go_wp2;go_ret;refine⟨G, rfl, ?_, C.out.grown g C.out.size (sy d)⟩;unfold fw;rw[E];simpa using i
theorem Ak {w:World} {g b m:Nat} {err:Int} {l:List Int} (h:RdA w g b err l) (hm:m<=l.length):((bR m l:Nat):Int) < 256 ^ m:=by
 have:=(bL (l:=l.take m) (fun x hx=>h.oct x (List.mem_of_mem_take hx))).2;rw[List.length_take,Nat.min_eq_left hm] at this;rw[qy h];exact this
end
section
open Go.RowKit Lim
end
section
open Go.RowKit Lim
section
variable {l:List Int}{e0 err:Int}{w w':World}{g b G:Nat}{v:Value}
theorem zX(h:bE l=.inl e0):e0≠0:=by
 unfold bE at h
 repeat' split at h
 all_goals (cases h; try decide)
theorem Bc(h:bP l=.inl e0):e0≠0:=by
 unfold bP at h
 repeat' split at h
 all_goals (cases h; try decide)
theorem enBo{α:Type}{z:α}{p:Int ⊕ α × Nat}{V:α->Value->World->Prop}(h:RdA w g b err l)(s:∀ e0,p=.inl e0->e0≠0)(j:∀ w',V z (.bool false) w')(t:err=0->Calls Tryz.prog 220 #[.pointer (some ⟨g,0,none⟩)] w fun e w'=>∃ v,e=.returned (.tuple #[v,.int .i64 (rdE p 0)])/\∃ l1,RdA w' g b 0 l1/\But g w w'/\∀ x k,p=.inr (x,k)->l1=l.drop k/\V x v w') :
  Calls Tryz.prog 219 #[.pointer (some ⟨g,0,none⟩),.func (.func 220) #[.pointer (some ⟨g,0,none⟩)] #[]] w fun e w'=>∃ v,e=.returned v/\V (rdV z p err) v w'/\RdA w' g b (rdE p err) (rdL p err l)/\But g w w':=by
 obtain⟨y,n,c,X,A⟩:=h.ex;by_cases he:err=0
 ·subst he
  match hq:p with
  | .inl e0 =>
   have f:e0≠0:=s e0 rfl
   have i:Calls Tryz.prog 220 #[.pointer (some ⟨g,0,none⟩)] w fun e w'=>∃ v,e=.returned (.tuple #[v,.int .i64 e0])/\∃ l1,RdA w' g b 0 l1/\But g w w':=(t rfl).mono (by
    rintro e w' ⟨v,e1,l1,a,d,-⟩
    exact⟨v,e1,l1,a,d⟩)
   refine(Cl f X (fun v u o=>by
    obtain⟨l1,a,-⟩:=o;obtain⟨_,_,_,Y,_⟩:=a.ex
    exact⟨_,Y⟩) i).mono ?_
   rintro e w' ⟨e1,v,u,⟨l1,a,d⟩,rfl⟩;obtain⟨_,_,_,Y,_⟩:=a.ex;have H:=RdA.back e0 X A d Y;exact⟨_,e1,j _,H.1,H.2⟩
  | .inr (x,k) =>
   have i:Calls Tryz.prog 220 #[.pointer (some ⟨g,0,none⟩)] w fun e w'=>∃ v,e=.returned (.tuple #[v,.int .i64 0])/\(V x v w'/\RdA w' g b 0 (l.drop k)/\But g w w'):=(t rfl).mono (by
    rintro e w' ⟨v,e1,l1,a,d,m⟩;obtain⟨r,q⟩:=m x k rfl;subst r
    exact⟨v,e1,q,a,d⟩)
   exact enBoOk X i
 ·refine(Cd X he).mono ?_
  rintro e w' ⟨rfl,rfl⟩;rw[u4 he,pD he,uu he];exact⟨_,rfl,j _,h,But.refl _ _⟩
theorem enNa{α:Type}{z:α}{p:Int ⊕ α × Nat}{V:α->Value->World->Prop}(h:RdA w g b err l)(s:∀ e0,p=.inl e0->e0≠0)(j:∀ w',V z (.slice none 0 0) w')(t:err=0->Calls Tryz.prog 246 #[.pointer (some ⟨g,0,none⟩)] w fun e w'=>∃ v,e=.returned (.tuple #[v,.int .i64 (rdE p 0)])/\∃ l1,RdA w' g b 0 l1/\But g w w'/\∀ x k,p=.inr (x,k)->l1=l.drop k/\V x v w') :
  Calls Tryz.prog 245 #[.pointer (some ⟨g,0,none⟩),.func (.func 246) #[.pointer (some ⟨g,0,none⟩)] #[]] w fun e w'=>∃ v,e=.returned v/\V (rdV z p err) v w'/\RdA w' g b (rdE p err) (rdL p err l)/\But g w w':=by
 obtain⟨y,n,c,X,A⟩:=h.ex;by_cases he:err=0
 ·subst he
  match hq:p with
  | .inl e0 =>
   have f:e0≠0:=s e0 rfl
   have i:Calls Tryz.prog 246 #[.pointer (some ⟨g,0,none⟩)] w fun e w'=>∃ v,e=.returned (.tuple #[v,.int .i64 e0])/\∃ l1,RdA w' g b 0 l1/\But g w w':=(t rfl).mono (by
    rintro e w' ⟨v,e1,l1,a,d,-⟩
    exact⟨v,e1,l1,a,d⟩)
   refine(De f X (fun v u o=>by
    obtain⟨l1,a,-⟩:=o;obtain⟨_,_,_,Y,_⟩:=a.ex
    exact⟨_,Y⟩) i).mono ?_
   rintro e w' ⟨e1,v,u,⟨l1,a,d⟩,rfl⟩;obtain⟨_,_,_,Y,_⟩:=a.ex;have H:=RdA.back e0 X A d Y;exact⟨_,e1,j _,H.1,H.2⟩
  | .inr (x,k) =>
   have i:Calls Tryz.prog 246 #[.pointer (some ⟨g,0,none⟩)] w fun e w'=>∃ v,e=.returned (.tuple #[v,.int .i64 0])/\(V x v w'/\RdA w' g b 0 (l.drop k)/\But g w w'):=(t rfl).mono (by
    rintro e w' ⟨v,e1,l1,a,d,m⟩;obtain⟨r,q⟩:=m x k rfl;subst r
    exact⟨v,e1,q,a,d⟩)
   exact enNaOk X i
 ·refine(A7 X he).mono ?_
  rintro e w' ⟨rfl,rfl⟩;rw[u4 he,pD he,uu he];exact⟨_,rfl,j _,h,But.refl _ _⟩
theorem pFix_v{m:Nat}(h:RdA w g b err l):0<=rdV 0 (cM m l) err/\rdV 0 (cM m l) err < 256 ^ m:=by
 have c:(0:Int) < 256 ^ m:=Int.pow_pos (by decide);unfold rdV cM;split
 ·split
  ·exact⟨Int.le_refl _,c⟩
  ·rename_i a;split at a
   ·cases a;have:=bL (l:=l.take m) (fun x hx=>h.oct x (List.mem_of_mem_take hx));rw[List.length_take,Nat.min_eq_left (by assumption)] at this;exact this
   ·cases a
 ·exact⟨Int.le_refl _,c⟩
theorem D8(h:RdA w g b err l) :
  Calls Tryz.prog 180 #[.pointer (some ⟨g,0,none⟩)] w fun e w'=>e=.returned (.int .u64 (rdV 0 (cM 8 l) err))/\RdA w' g b (rdE (cM 8 l) err) (rdL (cM 8 l) err l)/\But g w w':=by
 have t:=Da (m:=8) h (by decide);obtain⟨d,c⟩:=pFix_v (m:=8) h;rw[show (256:Int) ^ 8=18446744073709551616 by decide] at c;rw[Bw,Cu,Dh] at t;clear h;generalize rdV 0 (cM 8 l) err=V at *;generalize rdE (cM 8 l) err=E at *;generalize rdL (cM 8 l) err l=R at *;go_enter Tryz.func180,Tryz.ntmps180;go_wp2_with fail;refine t.mono ?_
 rintro e f ⟨rfl,k1,k2⟩;clear t;go_wp2;go_ret;exact⟨rfl,k1,k2⟩
theorem rdBool(h:RdA w g b err l) :
  Calls Tryz.prog 182 #[.pointer (some ⟨g,0,none⟩)] w fun e w'=>e=.returned (.bool (rdV false (bE l) err))/\RdA w' g b (rdE (bE l) err) (rdL (bE l) err l)/\But g w w':=by
 have t:=enBo (z:=false) (p:=bE l) (V:=fun x v _=>v=.bool x) h (fun _=>zX) (fun _=>rfl) (fun e=>by subst e; exact Cz h);clear h;generalize rdV false (bE l) err=V at *;generalize rdE (bE l) err=E at *;generalize rdL (bE l) err l=R at *;go_enter Tryz.func182,Tryz.ntmps182;go_wp2_with fail;refine t.mono ?_
 rintro e c ⟨v,rfl,rfl,k1,k2⟩;clear t;go_wp2;go_ret;exact⟨rfl,k1,k2⟩
theorem Slot.bx{t:TypeId}(s:Slot w g v t):Box w g [v] t:=⟨s.blk⟩
theorem RdA.put(h:RdA w g b err l){u:Value}{t:TypeId}(s:Slot w G v t)(d:G≠g)(hv:∀ x,v≠.int .u8 x):RdA (w.setCell ⟨G,0,none⟩ u) g b err l:=by
 obtain⟨f,n,c,X,A⟩:=h.ex;refine⟨f,n,c,⟨?_⟩,A.box s.bx (fun i a=>by rw[List.mem_singleton] at a; subst a; exact hv) fun k e=>Below.heap_setCell _ _ _ k e⟩;rw[Below.heap_setCell _ _ _ g d.symm];exact X.blk
theorem Slot.but{t:TypeId}(s:Slot w G v t)(h:But g w w')(hG:G≠g):Slot w' G v t:=⟨by
 rw[h.block G s.bx.lt hG]
 exact s.blk⟩
theorem But.put(h:But g w w')(c:w.heap.size<=G)(u:Value):But g w (w'.setCell ⟨G,0,none⟩ u):=⟨h.os,h.tape,h.output,by rw[size_set]; exact h.size,fun k a b=>by rw[Below.heap_setCell _ _ _ k (by show k≠G; omega)]; exact h.block k a b⟩
theorem rdLeft(h:RdA w g b err l) :
  Calls Tryz.prog 222 #[.pointer (some ⟨g,0,none⟩)] w fun e w'=>e=.returned (.int .i64 l.length)/\w'=w:=by
 obtain⟨j,n,c,X,A⟩:=h.ex;obtain⟨o,d,-⟩:=A.ex;subst d;obtain⟨c1,c2,f,i⟩:=X.two;clear X A h;go_enter Tryz.func222,Tryz.ntmps222;go_wp2;go_ret;exact⟨rfl,rfl⟩
end
end
section
open Go.RowKit Lim
section
variable {w:World}{g b:Nat}{err:Int}{v:Value}{l:List Int}{ao:Option Addr}
theorem wH{e0:Int}{t:TypeId}(he:err≠0)(X:Box w g [.int .i64 err,v] t) :
  Calls Tryz.prog 223 #[.pointer (some ⟨g,0,none⟩),.int .i64 e0] w fun e w'=>e=.returned (.tuple #[])/\w'=w:=by
 have hb:(err == 0)=false:=beq_eq_false_iff_ne.2 he;have t:=fE X;rw[hb] at t;clear he hb X;go_enter Tryz.func223,Tryz.ntmps223;go_wp2_with fail;refine t.mono ?_
 rintro e w' ⟨rfl,rfl⟩;clear t;go_wp2;go_end0;exact⟨rfl,rfl⟩
def fT(err:Int)(l:List Int):Int:=if err=0 then (if l.length=0 then 0 else 43) else err
theorem DK(h:RdA w g b err l)(p:l.length<=9223372036854775807) :
  Calls Tryz.prog 185 #[.pointer (some ⟨g,0,none⟩)] w fun e w'=>e=.returned (.int .i64 (fT err l))/\RdA w' g b (fT err l) l/\But g w w':=by
 have d:=rdLeft h;obtain⟨t,n,c,X,A⟩:=h.ex;obtain⟨c1,c2,v,x⟩:=X.two;by_cases f:l.length=0
 ·have m:Hid (fT err l=err):=by
   show _=_
   unfold fT;by_cases he:err=0
   ·rw[if_pos he,if_pos f,he]
   ·rw[if_neg he]
  have j:=(show Hid _ from h)
  rw[f] at d;clear X A h f;go_enter Tryz.func185,Tryz.ntmps185;go_wp2_with fail;refine d.mono ?_
  rintro e w' ⟨rfl,rfl⟩;clear d;go_wp2;go_ret;rw[m.out];exact⟨rfl,j.out,But.refl _ _⟩
 ·have o:(0:Int) < l.length:=by omega
  by_cases he:err=0
  ·subst he
   have m:Hid (fT 0 l=43):=by show _=_; unfold fT; rw[if_pos rfl,if_neg f]
   have j:Hid (RdA (w.setCell ⟨g,0,none⟩ (.int .i64 43)) g b 43 l):=⟨t,n,c,jt X _,A.box X (kK _ _ _ _) fun k r=>Below.heap_setCell _ _ _ k r⟩
   have d1:=(jt X (.int .i64 43)).two.1
   have u:Hid (But g w (w.setCell ⟨g,0,none⟩ (.int .i64 43))):=⟨rfl,rfl,rfl,by rw[size_set]; exact Nat.le_refl _,fun k _ q=>Below.heap_setCell _ _ _ k q⟩
   have i:=qc (e0:=43) X;clear X A h f;generalize l.length=L at *;go_enter Tryz.func185,Tryz.ntmps185;go_wp2_with fail;refine d.mono ?_
   rintro e w' ⟨rfl,rfl⟩;clear d;go_wp2_with fail;refine i.mono ?_
   rintro e s ⟨rfl,rfl⟩;clear i;go_wp2;go_ret;rw[m.out];exact⟨rfl,j.out,u.out⟩
  ·have m:Hid (fT err l=err):=by show _=_; unfold fT; rw[if_neg he]
   have i:=wH (e0:=43) he X;have j:=(show Hid _ from h)
   clear X A h f he;generalize l.length=L at *;go_enter Tryz.func185,Tryz.ntmps185;go_wp2_with fail;refine d.mono ?_
   rintro e w' ⟨rfl,rfl⟩;clear d;go_wp2_with fail;refine i.mono ?_
   rintro e s ⟨rfl,rfl⟩;clear i;go_wp2;go_ret;rw[m.out];exact⟨rfl,j.out,But.refl _ _⟩
theorem fw.bya{B:Nat}(h:fw w B v l)(d:a7 l):∃ b ao c,v=.slice ao l.length c/\B<=b/\ByA w b ao l.length c l:=by
 obtain⟨_,f⟩:=h;rcases f with⟨rfl,h0⟩ | ⟨g,cap,cur,rfl,hB,hh,hle,hmx,hsz,htk⟩
 ·have e:l=[]:=List.eq_nil_of_length_eq_zero h0;subst e;exact⟨B,none,0,rfl,Nat.le_refl _,0,rfl,Nat.le_refl _,⟨by decide,fun _=>rfl⟩,d,.inl rfl,fun i hi=>by simp at hi⟩
 ·refine⟨g,_,_,rfl,hB,0,rfl,hle,⟨by unfold maxLen at hmx; omega,fun e=>by cases e⟩,d,.inr rfl,fun i hi => ?_⟩;simp only[World.cell?,hh]
  have e:cur[0 + i]? = some (.int .u8 (nth l i)):=by
   have a:(cur.toList.take (l.length * 1))[i]? = some (.int .u8 (nth l i)):=by
    rw[htk,List.getElem?_map,List.getElem?_eq_getElem hi,bS hi];rfl
   rw[List.getElem?_take] at a;split at a
   ·rw[Nat.zero_add,<- Array.getElem?_toList];exact a
   ·cases a
  simpa using e
theorem DZ{n c:Nat}(A:ByA w b ao n c l)(i:n<=1099511627776) :
  Calls Tryz.prog 178 #[.slice ao n c] w fun e w'=>∃ g b',e=.returned (.pointer (some ⟨g,0,none⟩))/\w.heap.size<=g/\w.heap.size<=b'/\RdA w' g b' 0 l/\Below w.heap.size w w':=by
 obtain⟨o,m,B,p,q,z⟩:=A.ex;have t:=cC ao n c b o l w m i p.2 z;have C:=(show Hid _ from q)
 clear m B p q z A;go_enter Tryz.func178,Tryz.ntmps178;go_wp2_with fail;refine t.mono ?_
 rintro e r ⟨v,rfl,y,s⟩;obtain⟨b',d,x,rfl,f,hA⟩:=y.bya C.out;have D:=(show Hid _ from hA)
 have u:=(show Hid _ from s)
 have j:=(show Hid _ from f)
 clear t y s hA f;go_wp2;go_ret;exact⟨r.heap.size,b',rfl,u.out.size,j.out,⟨d,_,x,iB r [.int .i64 0,.slice d l.length x] _,D.out.keep (ae _ _)⟩,aj u.out (ae _ _)⟩
end
end
section
open Go.RowKit Lim
section
variable {w:World}{g:Nat}{L:List Int}{o:Oper}{a:Act}{X:Int}{v:Value}{lo' hi':Option Value}{cur:List Value}
theorem wrOutE{err:Int}(X:WrA w g err L)(he:err≠0) :
  Calls Tryz.prog 158 #[.pointer (some ⟨g,0,none⟩)] w fun e w'=>e=.returned (.tuple #[.slice none 0 0,.int .i64 err])/\Below w.heap.size w w':=by
 obtain⟨p,ps,c,u,b,-⟩:=X.ex;have t:=j4 b.c0;have c0:=b.c0;rw[beq_eq_false_iff_ne.2 he] at t;clear X b he;go_enter Tryz.func158,Tryz.ntmps158;go_wp2_with fail;refine t.mono ?_
 rintro e d ⟨rfl,rfl⟩;clear t;go_wp2_with fail;go_quiet (fail);go_wp2;go_ret2;exact⟨rfl,below_drewN (Below.refl _ _) _⟩
theorem ia{o:Nat}{x:Int}(c:w.cell? ⟨g,o,none⟩=some (.int .i64 x)):(loadVar 3 ⟨g,o,none⟩).run Tryz.prog w=.ok (.int .i64 x) w:=by
 go_simp
theorem Ac(x y:Nat){Y:Int}(b:o.op=.binOp .add 3 (.tmp x) (.tmp y) 3)(hx:a.eval (.tmp x)=.int .i64 X)(hy:a.eval (.tmp y)=.int .i64 Y)(d:0<=X + Y)(c:X + Y<=9223372036854775807):(execOp a.eval o).run Tryz.prog w=.ok (.value (.int .i64 (X + Y))) w:=by
 simp only[execOp,b,hx,hy];go_simp;simp[IntKind.wrap,IntKind.bits,IntKind.signed];omega
theorem CR{x N:Nat}(d:o.op=.makeSlice 96 (.tmp x) (.tmp x))(hx:a.eval (.tmp x)=.int .i64 X)(hX:X=(N:Int))(e:N<=17592186044416):(execOp a.eval o).run Tryz.prog w=.ok (.value (.slice (some ⟨w.heap.size,0,none⟩) N N)) (w.alloc (.cells ((List.replicate N 0).map (Value.int .u8)).toArray 5)):=by
 subst hX;obtain⟨i,hi,c,hs,hb⟩:=info_parts lC;have b:=run_make (P:=Tryz.prog) w 96 5 i (.int .u8 0) cA hi c .i64 .i64 (N:Int) (N:Int) (by omega) (by omega) (by rw[hb]; omega) (by omega);simp only[execOp,d,hx];simp[b,Result.andThen,hs,uS]
theorem rE(g u:Nat)(h:u<=256)(W:World):(Instr.sliceAt 229 (.pointer (some ⟨g,3,none⟩)) none (some (.int .i64 (u:Int))) none).run Tryz.prog W=.ok (.slice (some ⟨g,3,none⟩) u 256) W:=by
 have b:(u:Int)<=256:=by omega
 go_simp
theorem qh(g:Nat)(W:World):(Instr.sliceAt 229 (.pointer (some ⟨g,1,none⟩)) none none none).run Tryz.prog W=.ok (.slice (some ⟨g,1,none⟩) 256 256) W:=by
 go_simp
theorem pO{T:TypeId}(x:Operand)(lo hi:Option Operand){X:Value}(d:o.op=.slice T x lo hi none)(hx:a.eval x=X)(b:lo.map a.eval=lo')(c:hi.map a.eval=hi')(h:(Instr.sliceAt T X lo' hi' none).run Tryz.prog w=.ok v w):(execOp a.eval o).run Tryz.prog w=.ok (.value v) w:=by
 subst hx;subst b;subst c;simp only[execOp,d,Option.map_none];simp[h,Result.andThen]
theorem xy(d s:Nat)(i:o.op=.call { callee:=.builtin .copy,args:=#[.tmp d,.tmp s],argTypes:=#[96,96] }){off dLen dCap sLen sCap:Nat}{ad:Addr}(k:a.eval (.tmp d)=.slice (some ⟨g,off,none⟩) dLen dCap)(hs:a.eval (.tmp s)=.slice (some ad) sLen sCap){t:TypeId}(h:Box w g cur t)(cs:List Value)(m:Nat)(hm:cs.length=m)(hn:m=Nat.min sLen dLen)(e:∀ j v,cs[j]? = some v->w.cell? (ad.add j)=some v)(c:off + m<=cur.length)(f:∀ v∈cs,v.oneCell'=true) :
  (execOp a.eval o).run Tryz.prog w=.ok (.value (.int .i64 (m:Int))) (w.setRow g (splice cur off cs).toArray):=by
 subst hm;have b:=run_copy_row (P:=Tryz.prog) w 96 96 o.type 5 g off dLen dCap ad sLen sCap cur.toArray t cs cA vj h.blk hn e (by simpa using c) f;simp[execOp,i,resolve,invoke,builtin,k,hs,b,Result.andThen,splice,goInt]
theorem yF(X:WrA w g 0 L)(A:L.length<=17592186044416) :
  Calls Tryz.prog 158 #[.pointer (some ⟨g,0,none⟩)] w fun e w'=>e=.returned (.tuple #[.slice (some ⟨w.heap.size,0,none⟩) L.length L.length,.int .i64 0])/\Box w' w.heap.size (L.map (Value.int .u8)) 5/\Below w.heap.size w w':=by
 obtain⟨p,ps,f,u,E,P0,hu,hL⟩:=X.ex;have t:=j4 E.c0
 have hlen:L.length=ps.length + u:=by rw[hL,List.length_append,List.length_take,E.len]; omega
 obtain⟨N,F⟩:∃ N,N=L.length:=⟨_,rfl⟩
 rw[<- F] at hlen A ⊢;have HL:=(show Hid _ from hL)
 have HP:=(show Hid _ from P0)
 have HN:=(show Hid _ from F)
 have Q:=(show Hid _ from hlen)
 have hps:ps.length<=17592186044416:=by omega
 clear X hL P0 F hlen;go_enter Tryz.func158,Tryz.ntmps158;go_wp2_with fail;refine t.mono ?_
 rintro e d ⟨rfl,rfl⟩;clear t;go_wp2_with fail
 have r:cN d.drew g 0 p (ps.length:Int) f (u:Int):=⟨E.len,E.blk⟩
 refine bT (S:=fun w'=>cN w' g 0 p (ps.length:Int) f (u:Int)) (by kernel_rfl) r ?_
 refine ai 0 (some 17) (.pointer (some ⟨g,0,none⟩)) (by kernel_rfl) (fun _ _=>by kernel_rfl) (fun _ _ _ h=>h) r ?_
 refine ai 1 (some 18) (.pointer (some ⟨g,0,none⟩)) (by kernel_rfl) (fun _ _=>by kernel_rfl) (fun _ _ _ h=>h) r ?_
 refine ai 2 (some 19) (.pointer (some ⟨g,2,none⟩)) (by kernel_rfl) (fun _ _=>by kernel_rfl) (fun _ _ _ h=>h) r ?_
 refine aO 3 (some 20) (.int .i64 (ps.length:Int)) 3 19 g 2 (by kernel_rfl) (by kernel_rfl) (by kernel_rfl) (fun w' h=>ia h.c2) (fun _ _ _ h=>h) r ?_
 refine ai 4 (some 21) (.pointer (some ⟨g,0,none⟩)) (by kernel_rfl) (fun _ _=>by kernel_rfl) (fun _ _ _ h=>h) r ?_
 refine ai 5 (some 22) (.pointer (some ⟨g,0,none⟩)) (by kernel_rfl) (fun _ _=>by kernel_rfl) (fun _ _ _ h=>h) r ?_
 refine ai 6 (some 23) (.pointer (some ⟨g,259,none⟩)) (by kernel_rfl) (fun _ _=>by kernel_rfl) (fun _ _ _ h=>h) r ?_
 refine aO 7 (some 24) (.int .i64 (u:Int)) 3 23 g 259 (by kernel_rfl) (by kernel_rfl) (by kernel_rfl) (fun w' h=>ia h.cu) (fun _ _ _ h=>h) r ?_
 refine ai 8 (some 25) (.int .i64 ((ps.length:Int) + (u:Int))) (by kernel_rfl) (fun _ _=>Ac 20 24 (by kernel_rfl) (by kernel_rfl) (by kernel_rfl) (by omega) (by omega)) (fun _ _ _ h=>h) r ?_
 refine aK [9] (by kernel_rfl) (by simp) ?_
 have z:cN (d.drew.alloc (.cells ((List.replicate N 0).map (Value.int .u8)).toArray 5)) g 0 p (ps.length:Int) f (u:Int):=r.keep (ae _ _);refine bH 9 (some 26) (.slice (some ⟨d.heap.size,0,none⟩) N N) (d.drew.alloc (.cells ((List.replicate N 0).map (Value.int .u8)).toArray 5)) (by kernel_rfl) (CR (x:=25) (N:=N) (X:=(ps.length:Int) + (u:Int)) (by kernel_rfl) (by kernel_rfl) (by have:=Q.out; omega) A) z ?_ aW;refine ai 10 (some 4) (.slice (some ⟨d.heap.size,0,none⟩) N N) (by kernel_rfl) (fun _ _=>by kernel_rfl) (fun _ _ _ h=>h) z ?_
 refine bG (by kernel_rfl) ?_
 try simp only[Act.put,List.setIfInBounds_toArray,List.set_cons_zero,List.set_cons_succ]
 have hg:=E.lt
 have B0:Box (d.drew.alloc (.cells ((List.replicate N 0).map (Value.int .u8)).toArray 5)) d.heap.size ((List.replicate N 0).map (Value.int .u8)) 5:=iB d.drew _ _
 have HB0:Hid (Below d.heap.size d (d.drew.alloc (.cells ((List.replicate N 0).map (Value.int .u8)).toArray 5))):=(Below.refl d.heap.size d).drew.trans (ae d.drew _);clear r;generalize d.drew.alloc (.cells ((List.replicate N 0).map (Value.int .u8)).toArray 5)=V at *;have aa:=(show Hid _ from E)
 clear E;have c2:=z.c2;have cu:=z.cu;obtain⟨off,n⟩:∃ off,off=if u=0 then 0 else ps.length:=⟨_,rfl⟩
 have y:∀ W,(Instr.sliceAt 96 (.slice (some ⟨d.heap.size,0,none⟩) N N) (some (.int .i64 (ps.length:Int))) none none).run Tryz.prog W=.ok (.slice (some ⟨d.heap.size,off,none⟩) u u) W:=fun W=>by
  have hh:=Q.out;rw[sliceB _ N N ps.length W (by omega) (Nat.le_refl _),show N - ps.length=u by omega,n];unfold cZ;by_cases o:u=0
  ·rw[if_pos (by omega),if_pos o]
  ·rw[if_neg (by omega),if_neg o]
   show Result.ok (Value.slice (some ((⟨d.heap.size,0,none⟩:Addr).add ps.length)) u u) W=_
   rw[addr_add,Nat.zero_add]
 have s:=rE g u (by omega)
 have J:Hid (splice ((List.replicate N (0:Int)).map (Value.int .u8)) off ((f.take u).map (Value.int .u8))=(List.replicate ps.length 0 ++ f.take u).map (Value.int .u8)):=by
  have hh:=Q.out;have hl:=z.len
  show _=_
  unfold splice;by_cases o:u=0
  ·rw[n,if_pos o];subst o;simp;omega
  ·rw[n,if_neg o,List.length_map,List.length_take,hl];rw[List.drop_eq_nil_of_le (by simp; omega)];simp;omega
 have I:=(show Hid _ from n)
 have Y:=(show Hid _ from z.len)
 clear n;go_wp2_with fail
 have m:cN V.drew g 0 p (ps.length:Int) f (u:Int):=⟨z.len,z.blk⟩
 refine bT (S:=fun w'=>cN w' g 0 p (ps.length:Int) f (u:Int)) (by kernel_rfl) m ?_
 refine ai 0 (some 27) (.slice (some ⟨d.heap.size,0,none⟩) N N) (by kernel_rfl) (fun _ _=>by kernel_rfl) (fun _ _ _ h=>h) m ?_
 refine ai 1 (some 28) (.pointer (some ⟨g,0,none⟩)) (by kernel_rfl) (fun _ _=>by kernel_rfl) (fun _ _ _ h=>h) m ?_
 refine ai 2 (some 29) (.pointer (some ⟨g,0,none⟩)) (by kernel_rfl) (fun _ _=>by kernel_rfl) (fun _ _ _ h=>h) m ?_
 refine ai 3 (some 30) (.pointer (some ⟨g,2,none⟩)) (by kernel_rfl) (fun _ _=>by kernel_rfl) (fun _ _ _ h=>h) m ?_
 refine aO 4 (some 31) (.int .i64 (ps.length:Int)) 3 30 g 2 (by kernel_rfl) (by kernel_rfl) (by kernel_rfl) (fun w' h=>ia h.c2) (fun _ _ _ h=>h) m ?_
 refine ai 5 (some 32) (.slice (some ⟨d.heap.size,off,none⟩) u u) (by kernel_rfl) (fun w' _=>pO (.tmp 27) (some (.tmp 31)) none (by kernel_rfl) (by kernel_rfl) (by kernel_rfl) (by kernel_rfl) (y w')) (fun _ _ _ h=>h) m ?_
 refine ai 6 (some 33) (.pointer (some ⟨g,0,none⟩)) (by kernel_rfl) (fun _ _=>by kernel_rfl) (fun _ _ _ h=>h) m ?_
 refine ai 7 (some 34) (.pointer (some ⟨g,0,none⟩)) (by kernel_rfl) (fun _ _=>by kernel_rfl) (fun _ _ _ h=>h) m ?_
 refine ai 8 (some 35) (.pointer (some ⟨g,3,none⟩)) (by kernel_rfl) (fun _ _=>by kernel_rfl) (fun _ _ _ h=>h) m ?_
 refine ai 9 (some 36) (.pointer (some ⟨g,0,none⟩)) (by kernel_rfl) (fun _ _=>by kernel_rfl) (fun _ _ _ h=>h) m ?_
 refine ai 10 (some 37) (.pointer (some ⟨g,0,none⟩)) (by kernel_rfl) (fun _ _=>by kernel_rfl) (fun _ _ _ h=>h) m ?_
 refine ai 11 (some 38) (.pointer (some ⟨g,259,none⟩)) (by kernel_rfl) (fun _ _=>by kernel_rfl) (fun _ _ _ h=>h) m ?_
 refine aO 12 (some 39) (.int .i64 (u:Int)) 3 38 g 259 (by kernel_rfl) (by kernel_rfl) (by kernel_rfl) (fun w' h=>ia h.cu) (fun _ _ _ h=>h) m ?_
 refine ai 13 (some 40) (.slice (some ⟨g,3,none⟩) u 256) (by kernel_rfl) (fun w' _=>pO (.tmp 35) none (some (.tmp 39)) (by kernel_rfl) (by kernel_rfl) (by kernel_rfl) (by kernel_rfl) (s w')) (fun _ _ _ h=>h) m ?_
 refine aK [14] (by kernel_rfl) (by simp) ?_
 have P:cN (V.drew.setRow d.heap.size (splice ((List.replicate N (0:Int)).map (Value.int .u8)) off ((f.take u).map (Value.int .u8))).toArray) g 0 p (ps.length:Int) f (u:Int):=m.off (g':=d.heap.size) (by omega) (fun k T=>setRow_other _ _ k _ T)
 refine bH 14 (some 41) (.int .i64 (u:Int)) (V.drew.setRow d.heap.size (splice ((List.replicate N (0:Int)).map (Value.int .u8)) off ((f.take u).map (Value.int .u8))).toArray) (by kernel_rfl) (xy 32 40 (by kernel_rfl) (g:=d.heap.size) (off:=off) (dLen:=u) (dCap:=u) (sLen:=u) (sCap:=256) (ad:=⟨g,3,none⟩) (by kernel_rfl) (by kernel_rfl) B0.drew ((f.take u).map (Value.int .u8)) u (by have:=Y.out; simp; omega) (Nat.min_self u).symm (fun j v O=>by
  obtain⟨h1,h2⟩:=List.getElem?_eq_some_iff.1 O;rw[List.length_map,List.length_take] at h1;rw[addr_add,<- h2,List.getElem_map,List.getElem_take,<- bS (l:=f) (by omega)]
  exact m.cl j (by omega)) (by have:=Q.out; have:=I.out; rw[List.length_map,List.length_replicate,this]; split<;>omega) (ints_oneCell _ _)) P ?_ aW
 refine bG (by kernel_rfl) ?_
 try simp only[Act.put,List.setIfInBounds_toArray,List.set_cons_zero,List.set_cons_succ]
 have B4:Box (V.drew.setRow d.heap.size (splice ((List.replicate N (0:Int)).map (Value.int .u8)) off ((f.take u).map (Value.int .u8))).toArray) d.heap.size ((List.replicate ps.length 0 ++ f.take u).map (Value.int .u8)) 5:=by
  have:=B0.drew.row (ds:=splice ((List.replicate N (0:Int)).map (Value.int .u8)) off ((f.take u).map (Value.int .u8)));rw[J.out] at this ⊢;exact this
 have G:Hid (Below d.heap.size d (V.drew.setRow d.heap.size (splice ((List.replicate N (0:Int)).map (Value.int .u8)) off ((f.take u).map (Value.int .u8))).toArray)):=oD HB0.out.drew (Nat.le_refl _) _;generalize V.drew.setRow d.heap.size (splice ((List.replicate N (0:Int)).map (Value.int .u8)) off ((f.take u).map (Value.int .u8))).toArray=w4 at *;have M:=(show Hid _ from B4)
 clear c2 cu y s B0 z m B4;have c2:=P.c2;have c1:=P.c1;go_wp2_with fail;go_loopw [5,6] (fun ta tp wr=>∃ q rest fin,tp=.pointer q/\Hid (Pc d q rest)/\Hid (L=rest ++ fin)/\ta=.int .i64 (rest.length:Int)/\Hid (Box wr d.heap.size ((List.replicate rest.length 0 ++ fin).map (Value.int .u8)) 5)/\Hid (Below d.heap.size d wr)) (fun ta _ _=>(intOf ta).toNat)
 case atStart=>exact⟨p,ps,f.take u,rfl,HP.out,HL.out,rfl,M.out,G.out⟩
 case round =>
  clear c2 c1 P M G aa J I;obtain⟨q,rest,fin,rfl,hP,U,rfl,hB,C⟩:=hrel
  have hP':=hP.out
  induction hP' using Pc.ind with
  | nil =>
   have HF:Hid (Box wr d.heap.size (L.map (Value.int .u8)) 5):=by rw[U.out]; exact hB.out
   go_wp2;go_ret2;exact⟨rfl,HF.out,C.out⟩
  | cons hb hbl hp2 ih0=>
   clear ih0
   rename_i b p' c i;have D:=hb.keep (C.out.mono (Nat.le_refl _))
   have B:(((c ++ i).length:Nat):Int)=(c.length:Int) + 256:=by rw[List.length_append,hbl]; rfl
   have F:c.length + 256 + fin.length=N:=by rw[HN.out,U.out,List.length_append,List.length_append,hbl]
   rw[B]
   have y:∀ W,(Instr.sliceAt 96 (.slice (some ⟨d.heap.size,0,none⟩) N N) (some (.int .i64 (c.length:Int))) none none).run Tryz.prog W=.ok (.slice (some ⟨d.heap.size,c.length,none⟩) (N - c.length) (N - c.length)) W:=fun W=>by
    rw[sliceB _ N N c.length W (by omega) (Nat.le_refl _)];unfold cZ;rw[if_neg (by omega)]
    show Result.ok (Value.slice (some ((⟨d.heap.size,0,none⟩:Addr).add c.length)) _ _) W=_
    rw[addr_add,Nat.zero_add]
   have s:=qh b
   have K:Hid (splice ((List.replicate (c ++ i).length (0:Int) ++ fin).map (Value.int .u8)) c.length (i.map (Value.int .u8))=(List.replicate c.length 0 ++ (i ++ fin)).map (Value.int .u8)):=by
    show _=_
    unfold splice;rw[List.length_map,hbl,List.length_append,hbl,<- List.map_take,<- List.map_drop,List.take_append_of_le_length (by simp),List.drop_append_of_le_length (by simp),List.drop_eq_nil_of_le (by simp),List.take_replicate,Nat.min_eq_left (by omega)];simp
   have HLE:Hid (L=c ++ (i ++ fin)):=by show _=_; rw[U.out,List.append_assoc]
   have H:=(show Hid _ from F)
   have Hb:=(show Hid _ from hbl)
   clear F hbl B
   have hpl:c.length<=17592186044416:=by have:=H.out; omega
   go_wp2_with fail;refine bT (S:=fun _=>True) (by kernel_rfl) trivial ?_
   refine ai 0 (some 58) (.slice (some ⟨d.heap.size,0,none⟩) N N) (by kernel_rfl) (fun _ _=>by kernel_rfl) (fun _ _ _ h=>h) trivial ?_
   refine ai 1 (some 59) (.int .i64 (c.length:Int)) (by kernel_rfl) (fun _ _=>by kernel_rfl) (fun _ _ _ h=>h) trivial ?_
   refine ai 2 (some 60) (.slice (some ⟨d.heap.size,c.length,none⟩) (N - c.length) (N - c.length)) (by kernel_rfl) (fun w' _=>pO (.tmp 58) (some (.tmp 59)) none (by kernel_rfl) (by kernel_rfl) (by kernel_rfl) (by kernel_rfl) (y w')) (fun _ _ _ h=>h) trivial ?_
   refine ai 3 (some 61) (.pointer (some ⟨b,0,none⟩)) (by kernel_rfl) (fun _ _=>by kernel_rfl) (fun _ _ _ h=>h) trivial ?_
   refine ai 4 (some 62) (.pointer (some ⟨b,0,none⟩)) (by kernel_rfl) (fun _ _=>by kernel_rfl) (fun _ _ _ h=>h) trivial ?_
   refine ai 5 (some 63) (.pointer (some ⟨b,1,none⟩)) (by kernel_rfl) (fun _ _=>by kernel_rfl) (fun _ _ _ h=>h) trivial ?_
   refine ai 6 (some 64) (.slice (some ⟨b,1,none⟩) 256 256) (by kernel_rfl) (fun w' _=>pO (.tmp 63) none none (by kernel_rfl) (by kernel_rfl) (by kernel_rfl) (by kernel_rfl) (s w')) (fun _ _ _ h=>h) trivial ?_
   refine aK [7] (by kernel_rfl) (by simp) ?_
   have R:b≠d.heap.size:=by have:=hb.lt; omega
   refine bH 7 (some 65) (.int .i64 ((256:Nat):Int)) (wr.drew.setRow d.heap.size (splice ((List.replicate (c ++ i).length (0:Int) ++ fin).map (Value.int .u8)) c.length (i.map (Value.int .u8))).toArray) (by kernel_rfl) (xy 60 64 (by kernel_rfl) (g:=d.heap.size) (off:=c.length) (dLen:=N - c.length) (dCap:=N - c.length) (sLen:=256) (sCap:=256) (ad:=⟨b,1,none⟩) (by kernel_rfl) (by kernel_rfl) hB.out.drew (i.map (Value.int .u8)) 256 (by rw[List.length_map]; exact Hb.out) (Nat.min_eq_left (by have:=H.out; omega)).symm (fun j v O=>by
    obtain⟨h1,h2⟩:=List.getElem?_eq_some_iff.1 O;have h3:=D.drew.blk;rw[addr_add,Nat.add_comm 1 j];simp only[World.cell?,h3]
    simpa using O) (by have:=Hb.out; simp; omega) (ints_oneCell _ _)) trivial ?_ aW
   refine bG (by kernel_rfl) ?_
   try simp only[Act.put,List.setIfInBounds_toArray,List.set_cons_zero,List.set_cons_succ]
   have B5:Hid (Box (wr.drew.setRow d.heap.size (splice ((List.replicate (c ++ i).length (0:Int) ++ fin).map (Value.int .u8)) c.length (i.map (Value.int .u8))).toArray) d.heap.size ((List.replicate c.length 0 ++ (i ++ fin)).map (Value.int .u8)) 5):=by
    have:=hB.out.drew.row (ds:=splice ((List.replicate (c ++ i).length (0:Int) ++ fin).map (Value.int .u8)) c.length (i.map (Value.int .u8)));rw[K.out] at this ⊢;exact this
   have Z:Hid (Below d.heap.size d (wr.drew.setRow d.heap.size (splice ((List.replicate (c ++ i).length (0:Int) ++ fin).map (Value.int .u8)) c.length (i.map (Value.int .u8))).toArray)):=oD C.out.drew (Nat.le_refl _) _;have X5:=D.drew.off (g':=d.heap.size) R (fun k T=>setRow_other wr.drew d.heap.size k (splice ((List.replicate (c ++ i).length (0:Int) ++ fin).map (Value.int .u8)) c.length (i.map (Value.int .u8))).toArray T);clear y s D K;generalize (wr.drew.setRow d.heap.size (splice ((List.replicate (c ++ i).length (0:Int) ++ fin).map (Value.int .u8)) c.length (i.map (Value.int .u8))).toArray)=w5 at *
   have cb:w5.cell? ⟨b,0,none⟩=some (.pointer p'):=by
    have:=X5.blk;simp[World.cell?,this]
   have HP2:=(show Hid _ from hp2)
   clear X5 hb hp2;go_wp2;go_roundw
   case rel=>exact⟨p',c,i ++ fin,rfl,HP2.out,HLE.out,rfl,B5.out,Z.out⟩
   case measure=>simp[intOf]; omega
end
end
section
open Go.RowKit Lim
section
variable {w w':World}{b g:Nat}{ao:Option Addr}{l:List Int}
theorem rK:Tryz.zeroCells231=(dM 0 none 0 (List.replicate 256 0) 0).toArray:=by kernel_rfl
theorem yi(w:World):WrA (w.alloc (.cells Tryz.zeroCells231 231)) w.heap.size 0 []:=by
 rw[rK];exact⟨none,[],List.replicate 256 0,0,⟨by rw[List.length_replicate],(iB w _ _).blk⟩,.nil,by decide,by simp⟩
theorem ByA.butN{n c:Nat}(h:ByA w b ao n c l)(hb:b≠g)(hB:But g w w'):ByA w' b ao n c l:=by
 obtain⟨o,h1,h2,h3,h4,h5⟩:=h.ex;exact⟨o,h1,h2,h3,h4,h5.loc,fun i hi=>hB.cell (h5.cell i hi) hb⟩
theorem RdA.offW{g':Nat}{err:Int}(h:RdA w g b err l)(a:g≠g')(hb:b≠g')(d:But g' w w'):RdA w' g b err l:=by
 obtain⟨e,n,c,X,A⟩:=h.ex;exact⟨e,n,c,⟨by rw[d.block g X.lt a]; exact X.blk⟩,A.butN hb d⟩
theorem kV{V:Int}(hV:0<=V)(h:IsB l V):dO V=l:=mK (pI hV) h
theorem natB_0:dO 0=[]:=kV (by decide) ⟨fun x hx=>by simp at hx,fun h=>absurd rfl h,rfl⟩
end
end
section
namespace Rc
open Go.RowKit Go.Lib Pg
attribute [local go_sem] Oper.semAt_some
section
variable {G:Nat → Prop}{rb sb n cc:Nat}{f1 f2 f3:FuncId}{c:Value}{kd:Nat → Nat}{offs:List Nat}{w:World}
theorem aB{p:Prop}(h:p):Hid p:=h
theorem dn(w:World)(o:Obj):(w.alloc o).heap.size=w.heap.size + 1:=by
 show (w.heap.push o).size=_
 simp
theorem fg(w:World):Below w.heap.size w w.drew:=⟨rfl,rfl,rfl,Nat.le_refl _,fun _ _=>rfl⟩
structure HC(σ:Type)(Inv:σ->World->Prop)(G:Nat->Prop)(rb:Nat)(f1 f2 f3:FuncId)(c:Value)(nx:Nat->Nat->σ->σ)(kd:Nat->Nat)(ok:σ->Prop):Prop where
 oks:∀ k o s,ok (nx k o s)->ok s
 keep:∀ s w w',Inv s w->Below w.heap.size w w'->Inv s w'
 old:∀ s w b,Inv s w->G b->b < w.heap.size
 e1:∀ args w,(callFunc f1 args).run Tryz.prog w=.ok (.enter f1 args) w
 e2:∀ args w,(callFunc f2 args).run Tryz.prog w=.ok (.enter f2 args) w
 e3:∀ args w,(callFunc f3 args).run Tryz.prog w=.ok (.enter f3 args) w
 u:∀ s w o,Inv s w->ok (nx 0 o s)->kd o=0->Calls Tryz.prog f1 #[.pointer (some ⟨rb,o,none⟩),c] w fun e w'=>e=.returned (.tuple #[])/\Inv (nx 0 o s) w'/\Chg G w w'
 t:∀ s w o,Inv s w->ok (nx 1 o s)->kd o=1->Calls Tryz.prog f2 #[.pointer (some ⟨rb,o,none⟩),c] w fun e w'=>e=.returned (.tuple #[])/\Inv (nx 1 o s) w'/\Chg G w w'
 d:∀ s w o,Inv s w->ok (nx 2 o s)->kd o=2->Calls Tryz.prog f3 #[.pointer (some ⟨rb,o,none⟩),c] w fun e w'=>e=.returned (.tuple #[])/\Inv (nx 2 o s) w'/\Chg G w w'
theorem HC.okf{σ:Type}{Inv:σ->World->Prop}{G:Nat->Prop}{nx:Nat->Nat->σ->σ}{kd:Nat->Nat}{ok:σ->Prop}(H:HC σ Inv G rb f1 f2 f3 c nx kd ok)(k:Nat)(l:List Nat):∀ s,ok (l.foldl (fun s o=>nx k o s) s)->ok s:=by
 induction l with
 | nil=>exact fun _ h=>h
 | cons o l ih=>exact fun s h=>H.oks _ _ _ (ih _ h)
structure Dp(σ:Type)(Inv:σ->World->Prop)(G:Nat->Prop)(s:σ)(w:World)(e:Ending)(w':World):Prop where
 ret:e=.returned (.tuple #[])
 inv:Inv s w'
 chg:Chg G w w'
theorem kM{σ : Type}{Inv : σ → World → Prop}{nx : Nat → Nat → σ → σ}{ok : σ → Prop}{s : σ}(H : HC σ Inv G rb f1 f2 f3 c nx kd ok)(p : Inv s w)(hb : Blk w sb (offs.map fun o => .pointer (some ⟨rb, o, none⟩)) 233)(x : ¬ G sb)(q : ∀ o ∈ offs, kd o = 0)(d : ok (offs.foldl (fun s o => nx 0 o s) s))(hn : offs.length = n)(M : n ≤ 1000) :
    Calls Tryz.prog 159 #[.agg #[.func (.func f1) #[] #[c], .func (.func f2) #[] #[c], .func (.func f3) #[] #[c]], .slice (some ⟨sb, 0, none⟩) n cc] w (Dp σ Inv G (offs.foldl (fun s o => nx 0 o s) s) w) := by
  have al := ae w (.cells #[.func (.func f1) #[] #[c], .func (.func f2) #[] #[c], .func (.func f3) #[] #[c]] 242);have D := aC w [.func (.func f1) #[] #[c], .func (.func f2) #[] #[c], .func (.func f3) #[] #[c]] 242;have j := aB H;have E := aB p;have N := aB hb;have F := aB q;have B := aB hn;have J := aB d;have z := aB al;have L := aB D
  have b : ¬ G w.heap.size := fun h => by have := H.old s w _ p h; omega
  have K := aB x;have r := aB b;clear H p hb q hn al D x b d;go_enter Tryz.func159, Tryz.ntmps159;go_wp2_with fail;go_loopw [8] (fun m wr => ∃ k : Nat, k ≤ n ∧ m = .int .i64 k ∧ Hid (Inv ((offs.take k).foldl (fun s o => nx 0 o s) s) wr) ∧ Hid (Chg G w wr) ∧ Hid (Blk wr w.heap.size [.func (.func f1) #[] #[c], .func (.func f2) #[] #[c], .func (.func f3) #[] #[c]] 242)) (fun m _ => n - (intOf m).toNat)
  case atStart => exact⟨0, Nat.zero_le _, rfl, j.out.keep _ _ _ E.out z.out, Chg.of z.out, L.out⟩
  case round =>
    obtain⟨k, q, rfl, H1, t, A⟩:= hrel;by_cases I : k < n
    · obtain⟨o, l⟩ : ∃ o, Hid (offs[k]? = some o) := ⟨offs[k]'(by have := B.out; omega), List.getElem?_eq_getElem _⟩
      have f := N.out.chg t.out K.out
      have c1 : wr.cell? ⟨sb, k, none⟩ = some (.pointer (some ⟨rb, o, none⟩)) := f.cell (i := k) (by rw[List.getElem?_map, l.out]; rfl);have c2 := A.out.cell (i := 0) rfl
      have v : (k : Int) < n := by omega
      have g : ok (nx 0 o ((offs.take k).foldl (fun s o => nx 0 o s) s)) := by
        have h := J.out;rw[← List.take_append_drop (k + 1) offs, List.foldl_append] at h;have y := j.out.okf 0 _ _ h;rw[List.take_add_one, l.out, List.foldl_append] at y;exact y
      have U := j.out.u _ wr o H1.out g (F.out o (List.mem_of_getElem? l.out));clear f g;go_wp2_with fail;rw[j.out.e1];refine U.mono ?_
      rintro Q P ⟨rfl, O, C⟩;go_wp2_with fail;go_roundw
      case rel => exact⟨k + 1, by omega, by go_num, by show Inv _ _; rw[List.take_add_one, l.out, List.foldl_append]; exact O, t.out.trans C (fun _ _ h => h), A.out.chg C r.out⟩
      case measure => simp[intOf]; omega
    · obtain rfl : k = n := by omega
      have v : ¬ ((k : Int) < k) := by omega
      go_wp2;go_end0;refine⟨rfl, ?_, t.out⟩;have h := H1.out;rw[List.take_of_length_le (by have := B.out; omega)] at h;exact h
theorem oN{σ : Type}{Inv : σ → World → Prop}{nx : Nat → Nat → σ → σ}{ok : σ → Prop}{s : σ}(H : HC σ Inv G rb f1 f2 f3 c nx kd ok)(q : Inv s w)(hb : Blk w sb (offs.map fun o => .pointer (some ⟨rb, o, none⟩)) 238)(x : ¬ G sb)(r : ∀ o ∈ offs, kd o = 2)(f : ok (offs.foldl (fun s o => nx 2 o s) s))(hn : offs.length = n)(M : n ≤ 1000) :
    Calls Tryz.prog 189 #[.agg #[.func (.func f1) #[] #[c], .func (.func f2) #[] #[c], .func (.func f3) #[] #[c]], .slice (some ⟨sb, 0, none⟩) n cc] w (Dp σ Inv G (offs.foldl (fun s o => nx 2 o s) s) w) := by
  have al := ae w (.cells #[.func (.func f1) #[] #[c], .func (.func f2) #[] #[c], .func (.func f3) #[] #[c]] 242);have D := aC w [.func (.func f1) #[] #[c], .func (.func f2) #[] #[c], .func (.func f3) #[] #[c]] 242;have l := aB H;have E := aB q;have N := aB hb;have F := aB r;have B := aB hn;have J := aB f;have z := aB al;have L := aB D
  have b : ¬ G w.heap.size := fun h => by have := H.old s w _ q h; omega
  have K := aB x;have t := aB b;clear H q hb r hn al D x b f;go_enter Tryz.func189, Tryz.ntmps189;go_wp2_with fail;go_loopw [8] (fun p wr => ∃ k : Nat, k ≤ n ∧ p = .int .i64 k ∧ Hid (Inv ((offs.take k).foldl (fun s o => nx 2 o s) s) wr) ∧ Hid (Chg G w wr) ∧ Hid (Blk wr w.heap.size [.func (.func f1) #[] #[c], .func (.func f2) #[] #[c], .func (.func f3) #[] #[c]] 242)) (fun p _ => n - (intOf p).toNat)
  case atStart => exact⟨0, Nat.zero_le _, rfl, l.out.keep _ _ _ E.out z.out, Chg.of z.out, L.out⟩
  case round =>
    obtain⟨k, r, rfl, H1, u, A⟩:= hrel;by_cases I : k < n
    · obtain⟨o, m⟩ : ∃ o, Hid (offs[k]? = some o) := ⟨offs[k]'(by have := B.out; omega), List.getElem?_eq_getElem _⟩
      have g := N.out.chg u.out K.out
      have c1 : wr.cell? ⟨sb, k, none⟩ = some (.pointer (some ⟨rb, o, none⟩)) := g.cell (i := k) (by rw[List.getElem?_map, m.out]; rfl);have c2 := A.out.cell (i := 2) rfl
      have v : (k : Int) < n := by omega
      have j : ok (nx 2 o ((offs.take k).foldl (fun s o => nx 2 o s) s)) := by
        have h := J.out;rw[← List.take_append_drop (k + 1) offs, List.foldl_append] at h;have y := l.out.okf 2 _ _ h;rw[List.take_add_one, m.out, List.foldl_append] at y;exact y
      have U := l.out.d _ wr o H1.out j (F.out o (List.mem_of_getElem? m.out));clear g j;go_wp2_with fail;rw[l.out.e3];refine U.mono ?_
      rintro Q P ⟨rfl, O, C⟩;go_wp2_with fail;go_roundw
      case rel => exact⟨k + 1, by omega, by go_num, by show Inv _ _; rw[List.take_add_one, m.out, List.foldl_append]; exact O, u.out.trans C (fun _ _ h => h), A.out.chg C t.out⟩
      case measure => simp[intOf]; omega
    · obtain rfl : k = n := by omega
      have v : ¬ ((k : Int) < k) := by omega
      go_wp2;go_end0;refine⟨rfl, ?_, u.out⟩;have h := H1.out;rw[List.take_of_length_le (by have := B.out; omega)] at h;exact h
end
end Rc
end
section
namespace Rc
open Go.RowKit Go.Lib Pg
attribute [local go_sem] Oper.semAt_some
section
variable {G:Nat->Prop}{rb:Nat}{f1 f2 f3:FuncId}{c:Value}{kd:Nat->Nat}{w:World}
def thr{σ:Type}(nx:Nat->Nat->σ->σ)(l:List (Nat × Nat))(s:σ):σ:=l.foldl (fun s p=>nx p.1 p.2 s) s
theorem HC.okt{σ:Type}{Inv:σ->World->Prop}{nx:Nat->Nat->σ->σ}{ok:σ->Prop}(H:HC σ Inv G rb f1 f2 f3 c nx kd ok)(l:List (Nat × Nat)):∀ s,ok (thr nx l s)->ok s:=by
 induction l with
 | nil=>exact fun _ h=>h
 | cons o l ih=>exact fun s h=>H.oks _ _ _ (ih _ h)
theorem ld_h{g:Nat}{u v i:Value}(c0:w.cell? ⟨g,0,none⟩=some u)(c1:w.cell? ⟨g,1,none⟩=some v)(c2:w.cell? ⟨g,2,none⟩=some i):(loadVar 242 ⟨g,0,none⟩).run Tryz.prog w=.ok (.agg #[u,v,i]) w:=by go_simp
theorem iI{σ:Type}{Inv:σ->World->Prop}{nx:Nat->Nat->σ->σ}{ok:σ->Prop}{s:σ}(H:HC σ Inv G rb f1 f2 f3 c nx kd ok)(A:Inv s w)(n:∀ p∈[(2,0),(0,1)],kd p.2=p.1)(t:ok (thr nx [(2,0),(0,1)] s)) :
  Calls Tryz.prog 141 #[.pointer (some ⟨rb,0,none⟩),.agg #[.func (.func f1) #[] #[c],.func (.func f2) #[] #[c],.func (.func f3) #[] #[c]]] w (Dp σ Inv G (thr nx [(2,0),(0,1)] s) w):=by
 have b:=ae w (.cells #[.func (.func f1) #[] #[c],.func (.func f2) #[] #[c],.func (.func f3) #[] #[c]] 242);have I:=aB (aC w [.func (.func f1) #[] #[c],.func (.func f2) #[] #[c],.func (.func f3) #[] #[c]] 242);have x:=aB (show ¬ G w.heap.size from fun h=>by have:=H.old s w _ A h; omega);have L:=aB (H.keep _ _ _ A b);have J:=aB (show Chg G w _ from Chg.of b)
 have k0:Hid (kd 0=2):=n (2,0) (by simp)
 have k1:Hid (kd 1=0):=n (0,1) (by simp);have l:=aB H;have K:=aB t;clear H A n b t;go_enter Tryz.func141,Tryz.ntmps141;go_wp2_with fail;obtain⟨j,z⟩:∃ j,Hid (w.alloc (.cells #[.func (.func f1) #[] #[c],.func (.func f2) #[] #[c],.func (.func f3) #[] #[c]] 242)=j):=⟨_,rfl⟩
 rw[z.out] at I L J ⊢;have v:=aB (l.out.keep _ _ _ L.out (fg j));have f:=aB (I.out.keep (fg j));refine bT (S:=fun u=>Blk u w.heap.size [.func (.func f1) #[] #[c],.func (.func f2) #[] #[c],.func (.func f3) #[] #[c]] 242) (by kernel_rfl) f.out ?_
 refine aO 0 (some 4) (.agg #[.func (.func f1) #[] #[c],.func (.func f2) #[] #[c],.func (.func f3) #[] #[c]]) 242 3 w.heap.size 0 (by kernel_rfl) (by kernel_rfl) (by kernel_rfl) (fun u h=>ld_h (h.cell (i:=0) rfl) (h.cell (i:=1) rfl) (h.cell (i:=2) rfl)) (fun _ _ _ h=>h) f.out ?_
 refine ai 1 (some 5) (.pointer (some ⟨rb,0,none⟩)) (by kernel_rfl) (fun _ _=>by kernel_rfl) (fun _ _ _ h=>h) f.out ?_
 refine ai 2 (some 6) (.pointer (some ⟨rb,0,none⟩)) (by kernel_rfl) (fun _ _=>by kernel_rfl) (fun _ _ _ h=>h) f.out ?_
 refine ai 3 (some 7) (.pointer (some ⟨rb,0,none⟩)) (by kernel_rfl) (fun _ _=>by kernel_rfl) (fun _ _ _ h=>h) f.out ?_
 have b:=ae j.drew (.cells #[.pointer (some ⟨rb,0,none⟩)] 238);have y:=aC j.drew [.pointer (some ⟨rb,0,none⟩)] 238;refine aK [4] (by kernel_rfl) (by simp) (bH 4 (some 8) (.slice (some ⟨j.drew.heap.size,0,none⟩) 1 1) (j.drew.alloc (.cells #[.pointer (some ⟨rb,0,none⟩)] 238)) (by kernel_rfl) (by kernel_rfl) (f.out.keep b) ?_ aW);refine bO 5 (some 9) 189 #[.agg #[.func (.func f1) #[] #[c],.func (.func f2) #[] #[c],.func (.func f3) #[] #[c]],.slice (some ⟨j.drew.heap.size,0,none⟩) 1 1] (by kernel_rfl) (by kernel_rfl) (oN (offs:=[0]) l.out (l.out.keep _ _ _ v.out b) y (fun h=>by have:=l.out.old _ _ _ v.out h; omega) (by simp[k0.out]) (l.out.okt [(0,1)] _ K.out) rfl (by decide)) ?_
 rintro P m ⟨rfl,D,o⟩;refine⟨_,rfl,((f.out.keep b).chg o x.out),?_⟩;refine bG (by kernel_rfl) ?_
 simp only[Act.put,List.setIfInBounds_toArray,List.set_cons_zero,List.set_cons_succ];have N:=aB D;have O:=aB ((J.out.trans (Chg.of (F:=G) (aj (fg j) b)) (fun _ _ h=>h)).trans o (fun _ _ h=>h));have C:=aB ((f.out.keep b).chg o x.out);go_wp2_with fail;have r:=aB (l.out.keep _ _ _ N.out (fg m));have d:=aB (C.out.keep (fg m));refine bT (S:=fun u=>Blk u w.heap.size [.func (.func f1) #[] #[c],.func (.func f2) #[] #[c],.func (.func f3) #[] #[c]] 242) (by kernel_rfl) d.out ?_
 refine aO 0 (some 10) (.agg #[.func (.func f1) #[] #[c],.func (.func f2) #[] #[c],.func (.func f3) #[] #[c]]) 242 3 w.heap.size 0 (by kernel_rfl) (by kernel_rfl) (by kernel_rfl) (fun u h=>ld_h (h.cell (i:=0) rfl) (h.cell (i:=1) rfl) (h.cell (i:=2) rfl)) (fun _ _ _ h=>h) d.out ?_
 refine ai 1 (some 11) (.pointer (some ⟨rb,0,none⟩)) (by kernel_rfl) (fun _ _=>by kernel_rfl) (fun _ _ _ h=>h) d.out ?_
 refine ai 2 (some 12) (.pointer (some ⟨rb,0,none⟩)) (by kernel_rfl) (fun _ _=>by kernel_rfl) (fun _ _ _ h=>h) d.out ?_
 refine ai 3 (some 13) (.pointer (some ⟨rb,1,none⟩)) (by kernel_rfl) (fun _ _=>by kernel_rfl) (fun _ _ _ h=>h) d.out ?_
 have g:=ae m.drew (.cells #[.pointer (some ⟨rb,1,none⟩)] 233);have E:=aC m.drew [.pointer (some ⟨rb,1,none⟩)] 233;refine aK [4] (by kernel_rfl) (by simp) (bH 4 (some 14) (.slice (some ⟨m.drew.heap.size,0,none⟩) 1 1) (m.drew.alloc (.cells #[.pointer (some ⟨rb,1,none⟩)] 233)) (by kernel_rfl) (by kernel_rfl) (d.out.keep g) ?_ aW);refine bO 5 (some 15) 159 #[.agg #[.func (.func f1) #[] #[c],.func (.func f2) #[] #[c],.func (.func f3) #[] #[c]],.slice (some ⟨m.drew.heap.size,0,none⟩) 1 1] (by kernel_rfl) (by kernel_rfl) (kM (offs:=[1]) l.out (l.out.keep _ _ _ r.out g) E (fun h=>by have:=l.out.old _ _ _ r.out h; omega) (by simp[k1.out]) (l.out.okt [] _ K.out) rfl (by decide)) ?_
 rintro P T ⟨rfl,B,q⟩;refine⟨_,rfl,((d.out.keep g).chg q x.out),?_⟩;refine bG (by kernel_rfl) ?_
 simp only[Act.put,List.setIfInBounds_toArray,List.set_cons_zero,List.set_cons_succ];have M:=aB B;have Q:=aB ((O.out.trans (Chg.of (F:=G) (aj (fg m) g)) (fun _ _ h=>h)).trans q (fun _ _ h=>h));have R:=aB ((d.out.keep g).chg q x.out);go_wp2_with fail;go_end0;exact⟨rfl,M.out,Q.out⟩
theorem nQ{σ:Type}{Inv:σ->World->Prop}{nx:Nat->Nat->σ->σ}{ok:σ->Prop}{s:σ}(H:HC σ Inv G rb f1 f2 f3 c nx kd ok)(r:Inv s w)(g:∀ p∈[(0,0),(0,1)],kd p.2=p.1)(l:ok (thr nx [(0,0),(0,1)] s)) :
  Calls Tryz.prog 100 #[.pointer (some ⟨rb,0,none⟩),.agg #[.func (.func f1) #[] #[c],.func (.func f2) #[] #[c],.func (.func f3) #[] #[c]]] w (Dp σ Inv G (thr nx [(0,0),(0,1)] s) w):=by
 have d:=ae w (.cells #[.func (.func f1) #[] #[c],.func (.func f2) #[] #[c],.func (.func f3) #[] #[c]] 242);have v:=aB (aC w [.func (.func f1) #[] #[c],.func (.func f2) #[] #[c],.func (.func f3) #[] #[c]] 242);have y:=aB (show ¬ G w.heap.size from fun h=>by have:=H.old s w _ r h; omega);have z:=aB (H.keep _ _ _ r d);have x:=aB (show Chg G w _ from Chg.of d)
 have k0:Hid (kd 0=0):=g (0,0) (by simp)
 have k1:Hid (kd 1=0):=g (0,1) (by simp);have m:=aB H;have C:=aB l;clear H r g d l;go_enter Tryz.func100,Tryz.ntmps100;go_wp2_with fail;obtain⟨f,q⟩:∃ f,Hid (w.alloc (.cells #[.func (.func f1) #[] #[c],.func (.func f2) #[] #[c],.func (.func f3) #[] #[c]] 242)=f):=⟨_,rfl⟩
 rw[q.out] at v z x ⊢;have n:=aB (m.out.keep _ _ _ z.out (fg f));have b:=aB (v.out.keep (fg f));refine bT (S:=fun u=>Blk u w.heap.size [.func (.func f1) #[] #[c],.func (.func f2) #[] #[c],.func (.func f3) #[] #[c]] 242) (by kernel_rfl) b.out ?_
 refine aO 0 (some 4) (.agg #[.func (.func f1) #[] #[c],.func (.func f2) #[] #[c],.func (.func f3) #[] #[c]]) 242 3 w.heap.size 0 (by kernel_rfl) (by kernel_rfl) (by kernel_rfl) (fun u h=>ld_h (h.cell (i:=0) rfl) (h.cell (i:=1) rfl) (h.cell (i:=2) rfl)) (fun _ _ _ h=>h) b.out ?_
 refine ai 1 (some 5) (.pointer (some ⟨rb,0,none⟩)) (by kernel_rfl) (fun _ _=>by kernel_rfl) (fun _ _ _ h=>h) b.out ?_
 refine ai 2 (some 6) (.pointer (some ⟨rb,0,none⟩)) (by kernel_rfl) (fun _ _=>by kernel_rfl) (fun _ _ _ h=>h) b.out ?_
 refine ai 3 (some 7) (.pointer (some ⟨rb,0,none⟩)) (by kernel_rfl) (fun _ _=>by kernel_rfl) (fun _ _ _ h=>h) b.out ?_
 refine ai 4 (some 8) (.pointer (some ⟨rb,0,none⟩)) (by kernel_rfl) (fun _ _=>by kernel_rfl) (fun _ _ _ h=>h) b.out ?_
 refine ai 5 (some 9) (.pointer (some ⟨rb,0,none⟩)) (by kernel_rfl) (fun _ _=>by kernel_rfl) (fun _ _ _ h=>h) b.out ?_
 refine ai 6 (some 10) (.pointer (some ⟨rb,1,none⟩)) (by kernel_rfl) (fun _ _=>by kernel_rfl) (fun _ _ _ h=>h) b.out ?_
 have d:=ae f.drew (.cells #[.pointer (some ⟨rb,0,none⟩),.pointer (some ⟨rb,1,none⟩)] 233);have o:=aC f.drew [.pointer (some ⟨rb,0,none⟩),.pointer (some ⟨rb,1,none⟩)] 233;refine aK [7] (by kernel_rfl) (by simp) (bH 7 (some 11) (.slice (some ⟨f.drew.heap.size,0,none⟩) 2 2) (f.drew.alloc (.cells #[.pointer (some ⟨rb,0,none⟩),.pointer (some ⟨rb,1,none⟩)] 233)) (by kernel_rfl) (by kernel_rfl) (b.out.keep d) ?_ aW);refine bO 8 (some 12) 159 #[.agg #[.func (.func f1) #[] #[c],.func (.func f2) #[] #[c],.func (.func f3) #[] #[c]],.slice (some ⟨f.drew.heap.size,0,none⟩) 2 2] (by kernel_rfl) (by kernel_rfl) (kM (offs:=[0,1]) m.out (m.out.keep _ _ _ n.out d) o (fun h=>by have:=m.out.old _ _ _ n.out h; omega) (by simp[k0.out,k1.out]) (m.out.okt [] _ C.out) rfl (by decide)) ?_
 rintro I E ⟨rfl,t,j⟩;refine⟨_,rfl,((b.out.keep d).chg j y.out),?_⟩;refine bG (by kernel_rfl) ?_
 simp only[Act.put,List.setIfInBounds_toArray,List.set_cons_zero,List.set_cons_succ];have A:=aB t;have B:=aB ((x.out.trans (Chg.of (F:=G) (aj (fg f) d)) (fun _ _ h=>h)).trans j (fun _ _ h=>h));have D:=aB ((b.out.keep d).chg j y.out);go_wp2_with fail;go_end0;exact⟨rfl,A.out,B.out⟩
end
end Rc
end
section
namespace Rc
open Go.RowKit Go.Lib Pg
attribute [local go_sem] Oper.semAt_some
def fit (V:Int):Int:=if (dO V).length < 256 then V else 0
theorem iu (V:Int):(dO (fit V)).length < 256:=by
 unfold fit;split
 ·assumption
 ·rw[natB_0]; decide
def gm:Nat->Int->List Int
 | 0,x=>be 8 x
 | 1,x=>be 1 x
 | _,x=>fM 1 (dO (fit x))
theorem But.chg {g:Nat} {w w':World} (h:But g w w'):Chg (· = g) w w':=⟨h.os,h.tape,h.output,h.size,fun b hb hne=>h.block b hb hne⟩
theorem kO {w:World} {ao:Option Addr} {n c:Nat} {V:Int} (h:aV w ao n c V) (hn:n<=1000000) :
  Calls Tryz.prog 157 #[.agg #[.slice ao n c]] w fun e w'=>∃ a1 n1 c1,e=.returned (.agg #[.slice a1 n1 c1])/\aV w' a1 n1 c1 (fit V)/\n1<=1000000/\Below w.heap.size w w':=by
 have b1:=ae w (.cells #[.slice ao n c] 32);have b2:=ae (w.alloc (.cells #[.slice ao n c] 32)) (.cells #[.slice none 0 0] 32);have b3:=ae ((w.alloc (.cells #[.slice ao n c] 32)).alloc (.cells #[.slice none 0 0] 32)) (.cells Tryz.zeroCells231 231);have s1:=dn w (.cells #[.slice ao n c] 32);have s2:=dn (w.alloc (.cells #[.slice ao n c] 32)) (.cells #[.slice none 0 0] 32);have u:=((aC w [.slice ao n c] 32).keep b2).keep b3;have q:=(aC (w.alloc (.cells #[.slice ao n c] 32)) [.slice none 0 0] 32).keep b3;have X:=yi ((w.alloc (.cells #[.slice ao n c] 32)).alloc (.cells #[.slice none 0 0] 32));rw[s2,s1] at X;rw[s1] at q;obtain⟨A,j⟩:∃ A,Hid ((((w.alloc (.cells #[.slice ao n c] 32)).alloc (.cells #[.slice none 0 0] 32)).alloc (.cells Tryz.zeroCells231 231))=A):=⟨_,rfl⟩
 have s:=aj (aj b1 b2) b3;rw[j.out] at s u q X;have f:=aB s;have l:=aB u;have o:=aB q;have B:=aB X;have C:=aB (h.keep s);have t:=aB h;have m:=aB (show ¬ (w.heap.size=w.heap.size + 1 + 1) by omega);have p:=aB (show ¬ (w.heap.size + 1=w.heap.size + 1 + 1) by omega);clear b1 b2 s1 s2 u q b3 X h s;by_cases hf:(dO V).length < 256
 ·have z:=aB (show gG V 0=0 by unfold gG; rw[if_pos hf]);have y:=aB (show fit V=V by unfold fit; rw[if_pos hf])
  have D:=aB (show (iG V 0 []).length<=17592186044416 by
   unfold iG wrote;rw[if_pos hf,if_pos rfl];simp[fM,aN]
   omega)
  clear hf;go_enter Tryz.func157,Tryz.ntmps157;go_wp2_with fail;rw[j.out];refine(uI B.out C.out (by omega) (by simp; omega)).mono ?_
  rintro v E ⟨rfl,g,d⟩;rw[z.out] at g;go_wp2_with fail;refine(yF g D.out).mono ?_
  rintro v F ⟨rfl,-,b⟩;have k1:=l.out.chg (But.chg d) m.out;have k2:=o.out.chg (But.chg d) p.out;have d1:=(k1.keep b).cell (i:=0) rfl;have d2:=(k2.keep b).cell (i:=0) rfl;have f2:=(k2.keep b).free 0;have r:=aB ((d.below f.out (by omega) (Nat.le_refl _)).trans (b.mono (by have:=f.out.size; have:=d.size; omega)));have x:=aB (show Slot _ _ _ _ from⟨((k2.keep b).setCell (i:=0) (.slice ao n c)).blk⟩);clear k1 k2 g d b;go_wp2;refine bodyPost_ret (ly rfl rfl x.out) rfl ?_
  refine⟨ao,n,c,rfl,?_,hn,?_⟩
  ·rw[y.out];exact t.out.keep (r.out.setCell (Nat.le_succ _) _)
  ·exact r.out.setCell (Nat.le_succ _) _
 ·have z:=aB (show gG V 0=42 by unfold gG; rw[if_neg hf]; rfl);have y:=aB (show fit V=0 by unfold fit; rw[if_neg hf]);clear hf;go_enter Tryz.func157,Tryz.ntmps157;go_wp2_with fail;rw[j.out];refine(uI B.out C.out (by omega) (by simp; omega)).mono ?_
  rintro v E ⟨rfl,g,d⟩;rw[z.out] at g;go_wp2_with fail;refine(wrOutE g (by decide)).mono ?_
  rintro v F ⟨rfl,b⟩;have k1:=l.out.chg (But.chg d) m.out;have k2:=o.out.chg (But.chg d) p.out;have d1:=(k1.keep b).cell (i:=0) rfl;have d2:=(k2.keep b).cell (i:=0) rfl;have f2:=(k2.keep b).free 0;have r:=aB ((d.below f.out (by omega) (Nat.le_refl _)).trans (b.mono (by have:=f.out.size; have:=d.size; omega)));have x:=aB (show Slot _ _ _ _ from⟨((k2.keep b).setCell (i:=0) (.slice none 0 0)).blk⟩);clear k1 k2 g d b;go_wp2;refine bodyPost_ret (ly rfl rfl x.out) rfl ?_
  refine⟨none,0,0,rfl,?_,by decide,?_⟩
  ·rw[y.out];exact(Ao _).a
  ·exact r.out.setCell (Nat.le_succ _) _
end Rc
end
section
namespace Rc
open Go.RowKit Go.Lib Pg
attribute [local go_sem] Oper.semAt_some
section
variable {w0 w:World}{bw rb o n c:Nat}{cs:List Value}{L:List Int}{x:Bool}{y V:Int}{ao:Option Addr}{xs:Nat->Int}
theorem AA(k:Nat)(x:Int):(gm k x).length<=300:=by
 unfold gm;split
 ·rw[aN]; decide
 ·rw[aN]; decide
 ·have:=iu x;simp only[fM,List.length_append,aN];omega
def pnx(xs:Nat->Int)(k o:Nat)(L:List Int):List Int:=L ++ gm k (xs o)
theorem lh(xs:Nat->Int)(l:List (Nat × Nat)):∀ L:List Int,(thr (pnx xs) l L).length<=L.length + 300 * l.length:=by
 induction l with
 | nil=>intro L; simp[thr]
 | cons p l ih =>
  intro L;have h:=ih (pnx xs p.1 p.2 L);have a:=AA p.1 (xs p.2)
  have e:thr (pnx xs) (p :: l) L=thr (pnx xs) l (pnx xs p.1 p.2 L):=rfl;rw[e];simp only[pnx,List.length_append] at h;simp only[List.length_cons];simp only[pnx];omega
def okL(L:List Int):Prop:=L.length<=1000000000000
structure PI(w0:World)(bw rb:Nat)(cs:List Value)(T:TypeId)(L:List Int)(w:World):Prop where
 wr:WrA w bw 0 L
 bel:Below w0.heap.size w0 w
 blk:Blk w rb cs T
 hb:w0.heap.size<=bw
 ne:rb≠bw
def ye(w0:World)(kd:Nat->Nat)(cs:List Value)(xs:Nat->Int):Prop:=∀ o,(kd o=0->cs[o]? = some (.int .u64 (xs o)))/\(kd o=1->∃ b:Bool,cs[o]? = some (.bool b)/\xs o=if b then 1 else 0)/\(kd o=2->∃ ao n c,cs[o]? = some (.slice ao n c)/\aV w0 ao n c (xs o)/\n<=1000000)
theorem PI.step{w':World}{T:TypeId}{L':List Int}(h:PI w0 bw rb cs T L w)(X:WrA w' bw 0 L')(B:But bw w w'):PI w0 bw rb cs T L' w' :=
 ⟨X,B.below h.bel h.hb (Nat.le_refl _),h.blk.chg (But.chg B) (fun e=>h.ne e),h.hb,h.ne⟩
def eK(o:Nat):Nat:=([0,0]:List Nat).getD o 9
theorem um{x:Int}(c:w.cell? ⟨rb,o,none⟩=some (.int .u64 x))(X:WrA w bw 0 L)(hL:L.length<=1000000000000) :
  Calls Tryz.prog 186 #[.pointer (some ⟨rb,o,none⟩),.pointer (some ⟨bw,0,none⟩)] w fun e w'=>e=.returned (.tuple #[])/\WrA w' bw 0 (L ++ gm 0 x)/\But bw w w':=by
 have t:=DR (x:=x) X (by omega);clear X;go_enter Tryz.func186,Tryz.ntmps186;go_wp2_with (go_at_call 152; refine t.mono ?_; rintro g f ⟨rfl,d,b⟩; clear t);go_end0;exact⟨rfl,d,b⟩
theorem tH(hy:(if x then (1:Int) else 0)=y)(c:w.cell? ⟨rb,o,none⟩=some (.bool x))(X:WrA w bw 0 L)(hL:L.length<=1000000000000) :
  Calls Tryz.prog 187 #[.pointer (some ⟨rb,o,none⟩),.pointer (some ⟨bw,0,none⟩)] w fun e w'=>e=.returned (.tuple #[])/\WrA w' bw 0 (L ++ gm 1 y)/\But bw w w':=by
 have t:=AN (x:=x) X (by omega);rw[hy] at t;clear X hy;go_enter Tryz.func187,Tryz.ntmps187;go_wp2_with (go_at_call 154; refine t.mono ?_; rintro g f ⟨rfl,d,b⟩; clear t);go_end0;exact⟨rfl,d,b⟩
theorem sc(cc:w.cell? ⟨rb,o,none⟩=some (.slice ao n c))(f:aV w ao n c V)(hn:n<=1000000)(X:WrA w bw 0 L)(hL:L.length<=1000000000000) :
  Calls Tryz.prog 188 #[.pointer (some ⟨rb,o,none⟩),.pointer (some ⟨bw,0,none⟩)] w fun e w'=>e=.returned (.tuple #[])/\WrA w' bw 0 (L ++ gm 2 V)/\But bw w w':=by
 have t:=kO f hn;have j:=aB X;clear X f;go_enter Tryz.func188,Tryz.ntmps188;go_wp2_with first
  | (go_at_call 157; refine t.mono ?_; rintro p s ⟨a1,u,c1,rfl,m,l,g⟩; clear t)
  | (go_at_call 156; refine(uI (j.out.keep g) m (by omega) (by omega)).mono ?_; rintro p r ⟨rfl,d,i⟩)
 go_end0
 have q:gG (fit V) 0=0:=by unfold gG; rw[if_pos (iu V)]
 have b:iG (fit V) 0 L=L ++ gm 2 V:=by unfold iG wrote; rw[if_pos (iu V),if_pos rfl]; rfl
 rw[q,b] at d;exact⟨rfl,d,(But.of g).trans i⟩
def aU(o:Nat):Nat:=([2,0]:List Nat).getD o 9
theorem tY{T:TypeId}(F:ye w0 aU cs xs):HC (List Int) (PI w0 bw rb cs T) (· = bw) rb 186 187 188 (.pointer (some ⟨bw,0,none⟩)) (pnx xs) aU okL where
 oks:=fun k o L h=>by
  unfold okL pnx at *;rw[List.length_append] at h;omega
 keep:=fun L w i h B=>⟨h.wr.keep B,h.bel.trans (B.mono h.bel.size),h.blk.keep B,h.hb,h.ne⟩
 old:=fun L w b h e=>by have l:b=bw:=e; subst l; exact h.wr.lt
 e1:=fun _ _=>by kernel_rfl
 e2:=fun _ _=>by kernel_rfl
 e3:=fun _ _=>by kernel_rfl
 u:=fun L w o h a f=>by
  have g:L.length<=1000000000000:=by unfold okL pnx at a; rw[List.length_append] at a; omega
  refine(um (h.blk.cell ((F o).1 f)) h.wr g).mono ?_
  rintro e i ⟨rfl,X,B⟩;exact⟨rfl,h.step X B,But.chg B⟩
 t:=fun L w o h a f=>by
  have g:L.length<=1000000000000:=by unfold okL pnx at a; rw[List.length_append] at a; omega
  obtain⟨b,hb,hx⟩:=(F o).2.1 f;refine(tH hx.symm (h.blk.cell hb) h.wr g).mono ?_
  rintro e i ⟨rfl,X,B⟩;exact⟨rfl,h.step X B,But.chg B⟩
 d:=fun L w o h a f=>by
  have g:L.length<=1000000000000:=by unfold okL pnx at a; rw[List.length_append] at a; omega
  obtain⟨m,n,c,hb,j,hn⟩:=(F o).2.2 f;refine(sc (h.blk.cell hb) (j.keep h.bel) hn h.wr g).mono ?_
  rintro e i ⟨rfl,X,B⟩;exact⟨rfl,h.step X B,But.chg B⟩
theorem pn_Cut{x:Int}(c:w.cell? ⟨rb,o,none⟩=some (.int .u64 x))(X:WrA w bw 0 L)(hL:L.length<=1000000000000) :
  Calls Tryz.prog 151 #[.pointer (some ⟨rb,o,none⟩),.pointer (some ⟨bw,0,none⟩)] w fun e w'=>e=.returned (.tuple #[])/\WrA w' bw 0 (L ++ gm 0 x)/\But bw w w':=by
 have t:=DR (x:=x) X (by omega);clear X;go_enter Tryz.func151,Tryz.ntmps151;go_wp2_with (go_at_call 152; refine t.mono ?_; rintro g f ⟨rfl,d,b⟩; clear t);go_end0;exact⟨rfl,d,b⟩
theorem pt_Cut(hy:(if x then (1:Int) else 0)=y)(c:w.cell? ⟨rb,o,none⟩=some (.bool x))(X:WrA w bw 0 L)(hL:L.length<=1000000000000) :
  Calls Tryz.prog 153 #[.pointer (some ⟨rb,o,none⟩),.pointer (some ⟨bw,0,none⟩)] w fun e w'=>e=.returned (.tuple #[])/\WrA w' bw 0 (L ++ gm 1 y)/\But bw w w':=by
 have t:=AN (x:=x) X (by omega);rw[hy] at t;clear X hy;go_enter Tryz.func153,Tryz.ntmps153;go_wp2_with (go_at_call 154; refine t.mono ?_; rintro g f ⟨rfl,d,b⟩; clear t);go_end0;exact⟨rfl,d,b⟩
theorem pd_Cut(cc:w.cell? ⟨rb,o,none⟩=some (.slice ao n c))(f:aV w ao n c V)(hn:n<=1000000)(X:WrA w bw 0 L)(hL:L.length<=1000000000000) :
  Calls Tryz.prog 155 #[.pointer (some ⟨rb,o,none⟩),.pointer (some ⟨bw,0,none⟩)] w fun e w'=>e=.returned (.tuple #[])/\WrA w' bw 0 (L ++ gm 2 V)/\But bw w w':=by
 have t:=kO f hn;have j:=aB X;clear X f;go_enter Tryz.func155,Tryz.ntmps155;go_wp2_with first
  | (go_at_call 157; refine t.mono ?_; rintro p s ⟨a1,u,c1,rfl,m,l,g⟩; clear t)
  | (go_at_call 156; refine(uI (j.out.keep g) m (by omega) (by omega)).mono ?_; rintro p r ⟨rfl,d,i⟩)
 go_end0
 have q:gG (fit V) 0=0:=by unfold gG; rw[if_pos (iu V)]
 have b:iG (fit V) 0 L=L ++ gm 2 V:=by unfold iG wrote; rw[if_pos (iu V),if_pos rfl]; rfl
 rw[q,b] at d;exact⟨rfl,d,(But.of g).trans i⟩
def cn(o:Nat):Nat:=([0,0]:List Nat).getD o 9
theorem hc_Cut{T:TypeId}(F:ye w0 cn cs xs):HC (List Int) (PI w0 bw rb cs T) (· = bw) rb 151 153 155 (.pointer (some ⟨bw,0,none⟩)) (pnx xs) cn okL where
 oks:=fun k o L h=>by
  unfold okL pnx at *;rw[List.length_append] at h;omega
 keep:=fun L w i h B=>⟨h.wr.keep B,h.bel.trans (B.mono h.bel.size),h.blk.keep B,h.hb,h.ne⟩
 old:=fun L w b h e=>by have l:b=bw:=e; subst l; exact h.wr.lt
 e1:=fun _ _=>by kernel_rfl
 e2:=fun _ _=>by kernel_rfl
 e3:=fun _ _=>by kernel_rfl
 u:=fun L w o h a f=>by
  have g:L.length<=1000000000000:=by unfold okL pnx at a; rw[List.length_append] at a; omega
  refine(pn_Cut (h.blk.cell ((F o).1 f)) h.wr g).mono ?_
  rintro e i ⟨rfl,X,B⟩;exact⟨rfl,h.step X B,But.chg B⟩
 t:=fun L w o h a f=>by
  have g:L.length<=1000000000000:=by unfold okL pnx at a; rw[List.length_append] at a; omega
  obtain⟨b,hb,hx⟩:=(F o).2.1 f;refine(pt_Cut hx.symm (h.blk.cell hb) h.wr g).mono ?_
  rintro e i ⟨rfl,X,B⟩;exact⟨rfl,h.step X B,But.chg B⟩
 d:=fun L w o h a f=>by
  have g:L.length<=1000000000000:=by unfold okL pnx at a; rw[List.length_append] at a; omega
  obtain⟨m,n,c,hb,j,hn⟩:=(F o).2.2 f;refine(pd_Cut (h.blk.cell hb) (j.keep h.bel) hn h.wr g).mono ?_
  rintro e i ⟨rfl,X,B⟩;exact⟨rfl,h.step X B,But.chg B⟩
end
end Rc
end
section
namespace Rc
open Go.RowKit Go.Lib Pg
attribute [local go_sem] Oper.semAt_some
section
variable {w:World}{x0 x1:Int}{a0:Option Addr}{n0 c0:Nat}
theorem fl_Chain : ye w eK [.int .u64 x0, .int .u64 x1] (fun o => ([x0, x1] : List Int).getD o 0) := fun o => match o with
    | 0 => ⟨fun _ => rfl, fun h => absurd h (by decide), fun h => absurd h (by decide)⟩
    | 1 => ⟨fun _ => rfl, fun h => absurd h (by decide), fun h => absurd h (by decide)⟩
    | k + 2 => ⟨fun h => absurd h (by simp[eK]), fun h => absurd h (by simp[eK]), fun h => absurd h (by simp[eK])⟩
theorem sR(a : aV w a0 n0 c0 x0)(m0 : n0 ≤ 1000000) : ye w aU [.slice a0 n0 c0, .int .u64 x1] (fun o => ([x0, x1] : List Int).getD o 0) := fun o => match o with
    | 0 => ⟨fun h => absurd h (by decide), fun h => absurd h (by decide), fun _ => ⟨a0, n0, c0, rfl, a, m0⟩⟩
    | 1 => ⟨fun _ => rfl, fun h => absurd h (by decide), fun h => absurd h (by decide)⟩
    | k + 2 => ⟨fun h => absurd h (by simp[aU]), fun h => absurd h (by simp[aU]), fun h => absurd h (by simp[aU])⟩
theorem qF(x:aV w a0 n0 c0 x0)(m0:n0<=1000000) :
  Calls Tryz.prog 140 #[.agg #[.slice a0 n0 c0,.int .u64 x1],.func (.func 141) #[] #[]] w fun e w'=>∃ b n,e=.returned (.slice (some ⟨b,0,none⟩) n n)/\n=(thr (pnx (fun o=>([x0,x1]:List Int).getD o 0)) [(2,0),(0,1)] []).length/\Box w' b ((thr (pnx (fun o=>([x0,x1]:List Int).getD o 0)) [(2,0),(0,1)] []).map (Value.int .u8)) 5/\w.heap.size<=b/\Below w.heap.size w w':=by
 have F:=sR x m0 (x1:=x1) (w:=w);have b1:=ae w (.cells #[.slice a0 n0 c0,.int .u64 x1] 116);have b2:=ae (w.alloc (.cells #[.slice a0 n0 c0,.int .u64 x1] 116)) (.cells Tryz.zeroCells231 231);have s1:=dn w (.cells #[.slice a0 n0 c0,.int .u64 x1] 116);have X:=yi (w.alloc (.cells #[.slice a0 n0 c0,.int .u64 x1] 116));have B:=(aC w [.slice a0 n0 c0,.int .u64 x1] 116).keep b2;rw[s1] at X;obtain⟨g,c⟩:∃ g,Hid ((w.alloc (.cells #[.slice a0 n0 c0,.int .u64 x1] 116)).alloc (.cells Tryz.zeroCells231 231)=g):=⟨_,rfl⟩
 have f:=aj b1 b2;rw[c.out] at f X B;obtain⟨M,i⟩:∃ M,Hid (thr (pnx (fun o=>([x0,x1]:List Int).getD o 0)) [(2,0),(0,1)] []=M):=⟨_,rfl⟩
 have hlen:M.length<=3000:=by have h:=lh (fun o=>([x0,x1]:List Int).getD o 0) [(2,0),(0,1)] []; rw[i.out] at h; simp at h; omega
 have U:=iI (tY (bw:=w.heap.size + 1) (rb:=w.heap.size) (T:=116) F) (s:=[]) (w:=g) ⟨X,f,B,Nat.le_succ _,by omega⟩ (by simp[aU]) (by rw[i.out]; show M.length<=1000000000000; omega);rw[i.out] at U ⊢;have v:=aB U;clear U F b1 b2 s1 X B f;go_enter Tryz.func140,Tryz.ntmps140;go_wp2_with fail;rw[c.out];refine v.out.mono ?_
 rintro r q ⟨rfl,d,u⟩;go_wp2_with fail;refine(yF d.wr (by omega)).mono ?_
 rintro r t ⟨rfl,l,p⟩;have m:=aB (show w.heap.size<=q.heap.size/\Below w.heap.size w t from⟨d.bel.size,aj d.bel p⟩);have j:=aB l;clear d u l p;go_wp2;go_ret;exact⟨_,_,rfl,rfl,j.out,m.out.1,m.out.2⟩
theorem fl_Cut : ye w cn [.int .u64 x0, .int .u64 x1] (fun o => ([x0, x1] : List Int).getD o 0) := fun o => match o with
    | 0 => ⟨fun _ => rfl, fun h => absurd h (by decide), fun h => absurd h (by decide)⟩
    | 1 => ⟨fun _ => rfl, fun h => absurd h (by decide), fun h => absurd h (by decide)⟩
    | k + 2 => ⟨fun h => absurd h (by simp[cn]), fun h => absurd h (by simp[cn]), fun h => absurd h (by simp[cn])⟩
theorem Bh :
  Calls Tryz.prog 99 #[.agg #[.int .u64 x0,.int .u64 x1],.func (.func 100) #[] #[]] w fun e w'=>∃ b n,e=.returned (.slice (some ⟨b,0,none⟩) n n)/\n=(thr (pnx (fun o=>([x0,x1]:List Int).getD o 0)) [(0,0),(0,1)] []).length/\Box w' b ((thr (pnx (fun o=>([x0,x1]:List Int).getD o 0)) [(0,0),(0,1)] []).map (Value.int .u8)) 5/\w.heap.size<=b/\Below w.heap.size w w':=by
 have F:=fl_Cut (x0:=x0) (x1:=x1) (w:=w);have b1:=ae w (.cells #[.int .u64 x0,.int .u64 x1] 111);have b2:=ae (w.alloc (.cells #[.int .u64 x0,.int .u64 x1] 111)) (.cells Tryz.zeroCells231 231);have s1:=dn w (.cells #[.int .u64 x0,.int .u64 x1] 111);have X:=yi (w.alloc (.cells #[.int .u64 x0,.int .u64 x1] 111));have B:=(aC w [.int .u64 x0,.int .u64 x1] 111).keep b2;rw[s1] at X;obtain⟨g,c⟩:∃ g,Hid ((w.alloc (.cells #[.int .u64 x0,.int .u64 x1] 111)).alloc (.cells Tryz.zeroCells231 231)=g):=⟨_,rfl⟩
 have f:=aj b1 b2;rw[c.out] at f X B;obtain⟨M,i⟩:∃ M,Hid (thr (pnx (fun o=>([x0,x1]:List Int).getD o 0)) [(0,0),(0,1)] []=M):=⟨_,rfl⟩
 have hlen:M.length<=3000:=by have h:=lh (fun o=>([x0,x1]:List Int).getD o 0) [(0,0),(0,1)] []; rw[i.out] at h; simp at h; omega
 have U:=nQ (hc_Cut (bw:=w.heap.size + 1) (rb:=w.heap.size) (T:=111) F) (s:=[]) (w:=g) ⟨X,f,B,Nat.le_succ _,by omega⟩ (by simp[cn]) (by rw[i.out]; show M.length<=1000000000000; omega);rw[i.out] at U ⊢;have v:=aB U;clear U F b1 b2 s1 X B f;go_enter Tryz.func99,Tryz.ntmps99;go_wp2_with fail;rw[c.out];refine v.out.mono ?_
 rintro r q ⟨rfl,d,u⟩;go_wp2_with fail;refine(yF d.wr (by omega)).mono ?_
 rintro r t ⟨rfl,l,p⟩;have m:=aB (show w.heap.size<=q.heap.size/\Below w.heap.size w t from⟨d.bel.size,aj d.bel p⟩);have j:=aB l;clear d u l p;go_wp2;go_ret;exact⟨_,_,rfl,rfl,j.out,m.out.1,m.out.2⟩
end
end Rc
end
section
namespace Rc
open Go.RowKit Go.Lib Pg Lim
attribute [local go_sem] Oper.semAt_some
section
variable {w w':World}{B n c g b:Nat}{ao:Option Addr}{x err:Int}{v:Value}{r l:List Int}
structure fC(w:World)(B:Nat)(ao:Option Addr)(n c:Nat)(x:Int):Prop where
 ex:∃ b o l,l.length=n/\n<=c/\IsN l x/\At w ao b o l/\B<=b
theorem mU(w:World)(B:Nat):fC w B none 0 0 0:=⟨B,0,[],rfl,Nat.le_refl _,je,⟨.inl rfl,fun i hi=>by simp at hi⟩,Nat.le_refl _⟩
theorem fC.low{B':Nat}(h:fC w B ao n c x)(hB:B'<=B):fC w B' ao n c x:=by
 obtain⟨b,o,l,h1,h2,h3,h4,h5⟩:=h.ex;exact⟨b,o,l,h1,h2,h3,h4,Nat.le_trans hB h5⟩
theorem fC.off(h:fC w B ao n c x)(_hs:w.heap.size<=w'.heap.size)(hw:∀ b,B<=b->b < w.heap.size->w'.heap[b]? = w.heap[b]?):fC w' B ao n c x:=by
 obtain⟨b,o,l,e,g,f,a,d⟩:=h.ex;refine⟨b,o,l,e,g,f,⟨a.loc,fun i hi => ?_⟩,d⟩;have hc:=a.cell i hi;rw[World.cell?_of_block (w:=w) (hw b d (aI hc))];exact hc
theorem newV_w(h:dE w w' v r)(i:IsN r x)(f:B<=w.heap.size):∃ a c,v=.slice a r.length c/\fC w' B a r.length c x:=by
 obtain⟨j,b,o,c,e,d,k,g,l⟩:=h.is;exact⟨j,c,e,b,o,r,rfl,d,i,g,Nat.le_trans f k⟩
theorem r9(h:RdA w g b 0 l) :
  Calls Tryz.prog 246 #[.pointer (some ⟨g,0,none⟩)] w fun e w'=>∃ v,e=.returned (.tuple #[v,.int .i64 (rdE (bP l) 0)])/\∃ l1,RdA w' g b 0 l1/\But g w w'/\∀ x k,bP l=.inr (x,k)->l1=l.drop k/\∃ ao n c,v=.slice ao n c/\fC w' w.heap.size ao n c x/\n<=255:=by
 have f:=qy (m:=1) h;by_cases q:1<=l.length
 ·have t:=Eb (m:=1) h q (by decide);have L:=Ak h q;rw[show (256:Int) ^ 1=256 by decide] at L;rw[<- f] at t;have P:=(show Hid _ from h.oct)
  by_cases hs:1 + bR 1 l<=l.length
  ·by_cases y:0 < bR 1 l/\nth (l.drop 1) 0=0
   ·have d:bP l=.inl 41:=by unfold bP; rw[if_pos q,if_pos hs,if_pos y]
    have j:Hid (rdE (bP l) 0=41):=by show _=_; rw[d]; rfl
    have p:=(show Hid _ from d)
    have C:=(show Hid _ from y)
    clear d h y f;generalize bR 1 l=N at *;go_enter Tryz.func246,Tryz.ntmps246;go_wp2_with fail;refine t.mono ?_
    rintro e G ⟨rfl,u,z⟩;have t2:=AQ (m:=N) u (by rw[List.length_drop]; omega);clear t;go_wp2_with fail;refine t2.mono ?_
    rintro e A ⟨ao,rfl,hA,E,D⟩;obtain⟨o,k1,k2,k3,s,B⟩:=hA.ex;have t3:=CV ao N N b o _ A k1 C.out.1 B (by rw[dr C.out.1]; exact C.out.2);clear t2 k1 k2 k3 s B hA;go_wp2_with fail;refine t3.mono ?_
    rintro e K ⟨rfl,rfl⟩;clear t3;go_wp2;go_ret2;exact⟨_,by rw[j.out]; rfl,_,E,z.trans D,fun x k e=>by rw[p.out] at e; cases e⟩
   ·have d:bP l=.inr (bM ((l.drop 1).take (bR 1 l)),1 + bR 1 l):=by unfold bP; rw[if_pos q,if_pos hs,if_neg y]
    have j:Hid (rdE (bP l) 0=0):=by show _=_; rw[d]; rfl
    have p:=(show Hid _ from d)
    have C:=(show Hid _ from y)
    clear d h y f;generalize bR 1 l=N at *;go_enter Tryz.func246,Tryz.ntmps246;go_wp2_with fail;refine t.mono ?_
    rintro e G ⟨rfl,u,z⟩;have t2:=AQ (m:=N) u (by rw[List.length_drop]; omega);clear t;go_wp2_with fail;refine t2.mono ?_
    rintro e A ⟨ao,rfl,hA,E,D⟩;obtain⟨o,k1,k2,k3,s,B⟩:=hA.ex;have t3:=xj ao N N b o _ A k1 (by omega) s B (fun i J=>C.out ⟨i,by rw[dr i] at J; exact J⟩);clear t2 k1 k2 k3 s B hA;go_wp2_with fail;refine t3.mono ?_
    rintro e K ⟨v,r,rfl,k1,k2,k3,s⟩;obtain⟨O,Q,rfl,H⟩:=newV_w k1 k2 (show w.heap.size<=A.heap.size from(z.trans D).size);have F:=(show Hid _ from H)
    have I:=(show Hid _ from s)
    clear t3 k1 k2 s H;go_wp2;go_ret2
    exact⟨_,by rw[j.out]; rfl,_,E.keep I.out,(z.trans D).trans (But.of I.out),fun x k e=>by
     rw[p.out] at e
     cases e
     exact⟨by rw[List.drop_drop],_,_,_,rfl,F.out,by omega⟩⟩
  ·have d:bP l=.inl 40:=by unfold bP; rw[if_pos q,if_neg hs]
   have j:Hid (rdE (bP l) 0=40):=by show _=_; rw[d]; rfl
   have p:=(show Hid _ from d)
   clear d h f;generalize bR 1 l=N at *;go_enter Tryz.func246,Tryz.ntmps246;go_wp2_with fail;refine t.mono ?_
   rintro e G ⟨rfl,u,z⟩;have t2:=BP (m:=N) u (by rw[List.length_drop]; omega);clear t hs;go_wp2_with fail;refine t2.mono ?_
   rintro e A ⟨rfl,rfl⟩;clear t2;go_wp2;go_ret2;exact⟨_,by rw[j.out]; rfl,_,u,z,fun x k e=>by rw[p.out] at e; cases e⟩
 ·have t:=AF (m:=1) h (by omega)
  have d:bP l=.inl 40:=by unfold bP; rw[if_neg q]
  have j:Hid (rdE (bP l) 0=40):=by show _=_; rw[d]; rfl
  have p:=(show Hid _ from d)
  have M:=(show Hid _ from h)
  clear d h q f;go_enter Tryz.func246,Tryz.ntmps246;go_wp2_with fail;refine t.mono ?_
  rintro e G ⟨rfl,rfl⟩;clear t;go_wp2;go_ret2;exact⟨_,by rw[j.out]; rfl,_,M.out,But.refl _ _,fun x k e=>by rw[p.out] at e; cases e⟩
theorem rdNatW(h:RdA w g b err l) :
  Calls Tryz.prog 221 #[.pointer (some ⟨g,0,none⟩)] w fun e w'=>∃ ao n c,e=.returned (.slice ao n c)/\fC w' w.heap.size ao n c (rdV 0 (bP l) err)/\n<=255/\RdA w' g b (rdE (bP l) err) (rdL (bP l) err l)/\But g w w':=by
 have t:=enNa (z:=(0:Int)) (p:=bP l) (V:=fun x v w'=>∃ ao n c,v=.slice ao n c/\fC w' w.heap.size ao n c x/\n<=255) h (fun _=>Bc) (fun w'=>⟨none,0,0,rfl,mU w' w.heap.size,by decide⟩) (fun e=>by subst e; exact r9 h);clear h;generalize rdV 0 (bP l) err=V at *;generalize rdE (bP l) err=E at *;generalize rdL (bP l) err l=R at *;go_enter Tryz.func221,Tryz.ntmps221;go_wp2_with fail;refine t.mono ?_
 rintro e f ⟨v,rfl,⟨ao,n,c,rfl,k3,d⟩,k1,k2⟩;clear t;go_wp2;go_ret;exact⟨ao,n,c,rfl,k3,d,k1,k2⟩
theorem zJ(h:RdA w g b err l) :
  Calls Tryz.prog 184 #[.pointer (some ⟨g,0,none⟩)] w fun e w'=>∃ ao n c,e=.returned (.agg #[.slice ao n c])/\fC w' w.heap.size ao n c (rdV 0 (bP l) err)/\n<=255/\RdA w' g b (rdE (bP l) err) (rdL (bP l) err l)/\But g w w':=by
 have f:=(show Hid _ from ae w (.cells #[.slice none 0 0] 32))
 have j:=eJ w (.slice none 0 0) 32
 have m:w.heap.size≠g:=by have:=h.lt; omega
 have i:=(show Hid _ from m)
 have t:=rdNatW (h.keep f.out);clear h m;generalize rdV 0 (bP l) err=V at *;generalize rdE (bP l) err=E at *;generalize rdL (bP l) err l=R at *;go_enter Tryz.func184,Tryz.ntmps184;go_wp2_with fail;refine t.mono ?_
 rintro e o ⟨ao,n,c,rfl,k3,s,k1,k2⟩;have d:=j.but k2 i.out;have c1:=d.cell;have f1:=d.free;have r:=d.put (.slice ao n c);have q:=(show Hid (fC (o.setCell ⟨w.heap.size,0,none⟩ (.slice ao n c)) w.heap.size ao n c V) from(k3.off (w':=o.setCell ⟨w.heap.size,0,none⟩ (.slice ao n c)) (by rw[size_set]; exact Nat.le_refl _) (fun b hb _=>Below.heap_setCell _ _ _ b (by have:=dn w (.cells #[.slice none 0 0] 32); show b≠w.heap.size; omega))).low f.out.size)
 have p:=(show Hid _ from k1.put (u:=.slice ao n c) d i.out (fun x e=>by cases e))
 have v:=(show Hid _ from((But.of (g:=g) f.out).trans k2).put (Nat.le_refl _) (.slice ao n c))
 clear t j d k1 k2 k3 f i;go_wp2;refine bodyPost_ret (ly rfl rfl r) rfl ?_
 exact⟨ao,n,c,rfl,q.out,s,p.out,v.out⟩
end
end Rc
end
section
namespace Rc
open Go.RowKit Go.Lib Pg
attribute [local go_sem] Oper.semAt_some
section
variable {w w0:World}{B g b vb rb o k:Nat}{kd:Nat->Nat}{cs:List Value}{xs:Nat->Int}{l1 l:List Int}{v old:Value}{err:Int}
abbrev RSt:=Int × List Int × (Nat->Int)
def dL(l:List Int):Int ⊕ Int × Nat:=match bE l with
 | .inl e=>.inl e
 | .inr p=>.inr ((if p.1 then 1 else 0),p.2)
def p1:Nat->List Int->Int ⊕ Int × Nat
 | 0,l=>cM 8 l
 | 1,l=>dL l
 | _,l=>bP l
theorem l6(l:List Int)(err:Int):rdE (dL l) err=rdE (bE l) err:=by
 unfold rdE dL
 cases bE l<;>rfl
theorem lZ(l m:List Int)(err:Int):rdL (dL l) err m=rdL (bE l) err m:=by
 unfold rdL dL
 cases bE l<;>rfl
theorem mY(l:List Int)(err:Int):rdV 0 (dL l) err=if rdV false (bE l) err then 1 else 0:=by
 unfold rdV dL;by_cases h:err=0
 ·rw[if_pos h,if_pos h]
  cases bE l<;>rfl
 ·rw[if_neg h,if_neg h];rfl
def rnx(k o:Nat)(s:RSt):RSt:=(rdE (p1 k s.2.1) s.1,rdL (p1 k s.2.1) s.1 s.2.1,fun i=>if i=o then rdV 0 (p1 k s.2.1) s.1 else s.2.2 i)
def np(w:World)(B:Nat)(kd:Nat->Nat)(cs:List Value)(xs:Nat->Int):Prop:=∀ o,(kd o=0->cs[o]? = some (.int .u64 (xs o)))/\(kd o=1->∃ b:Bool,cs[o]? = some (.bool b)/\xs o=if b then 1 else 0)/\(kd o=2->∃ ao n c,cs[o]? = some (.slice ao n c)/\fC w B ao n c (xs o)/\n<=255)
theorem np.off{w':World}(h:np w B kd cs xs)(hs:w.heap.size<=w'.heap.size)(hw:∀ b,B<=b->b < w.heap.size->w'.heap[b]? = w.heap[b]?):np w' B kd cs xs:=fun o=>⟨(h o).1,(h o).2.1,fun e=>by
 obtain⟨f,n,c,a,g,d⟩:=(h o).2.2 e
 exact⟨f,n,c,a,g.off hs hw,d⟩⟩
structure RI(w0:World)(B g b vb rb:Nat)(kd:Nat->Nat)(len:Nat)(T vt:TypeId)(s:RSt)(w:World):Prop where
 rd:RdA w g b s.1 s.2.1
 var:Blk w vb [.pointer (some ⟨g,0,none⟩)] vt
 rc:∃ cs,cs.length=len/\Blk w rb cs T/\np w B kd cs s.2.2
 bel:Below w0.heap.size w0 w
 s1:rb≠g
 s2:vb≠g
 s3:vb≠rb
 s4:b≠rb
 g1:g < B
 r1:rb < B
 g0:w0.heap.size<=g
 r0:w0.heap.size<=rb
theorem BH(w:World)(g o:Nat)(v:Value):But g w (w.setCell ⟨g,o,none⟩ v):=by
 have h:=(Chg.refl (fun x=>x=g) w).cell (g:=g) (i:=o) (.inl rfl) v;exact⟨h.os,h.tape,h.output,h.size,fun b hb a=>h.same b hb a⟩
theorem RI.step{w1:World}{len:Nat}{T vt:TypeId}{s:RSt}{e1:Int}{x:Int}(h:RI w0 B g b vb rb kd len T vt s w)(E:kd o=k)(F:o < len)(X:RdA w1 g b e1 l1)(p:But g w w1)(hv:(k=0/\v=.int .u64 x)\/(k=1/\∃ t:Bool,v=.bool t/\x=if t then 1 else 0)\/(k=2/\∃ ao n c,v=.slice ao n c/\fC w1 B ao n c x/\n<=255)) :
  RI w0 B g b vb rb kd len T vt (e1,l1,fun i=>if i=o then x else s.2.2 i) (w1.setCell ⟨rb,o,none⟩ v)/\Chg (fun y=>y=g\/y=rb) w (w1.setCell ⟨rb,o,none⟩ v):=by
 have hS:=BH w1 rb o v;have z:=h.s1;have C:=h.g1;have D:=h.r1
 have j:Chg (· = g) w w1:=But.chg p
 have l:Chg (· = rb) w1 (w1.setCell ⟨rb,o,none⟩ v):=But.chg hS;obtain⟨cs,u,q,hF⟩:=h.rc
 have b1:Below w0.heap.size w0 w1:=p.below h.bel h.g0 (Nat.le_refl _)
 have m:∀ y,B<=y->y < w.heap.size->w1.heap[y]? = w.heap[y]? := fun y hy f=>p.block y f (by omega)
 have d:∀ y,B<=y->y < w1.heap.size->(w1.setCell ⟨rb,o,none⟩ v).heap[y]? = w1.heap[y]? := fun y hy f=>hS.block y f (by omega)
 refine⟨⟨X.offW (fun e=>z e.symm) h.s4 hS,(h.var.chg j h.s2).chg l h.s3,⟨cs.set o v,by rw[List.length_set]; exact u,(q.chg j z).setCell (i:=o) v,?_⟩,hS.below b1 h.r0 (Nat.le_refl _),h.s1,h.s2,h.s3,h.s4,h.g1,h.r1,h.g0,h.r0⟩,(j.mono (fun _ _ e=>.inl e)).trans l (fun _ _ e=>.inr e)⟩;have r:=hF.off p.size m;intro i;by_cases hi:i=o
 ·subst hi
  have a:(cs.set i v)[i]? = some v:=by rw[List.getElem?_set_self (by omega)]
  rw[a];simp only[if_true];refine⟨fun A => ?_,fun A => ?_,fun A => ?_⟩
  ·rcases hv with⟨_,e⟩ | ⟨e,_⟩ | ⟨e,_⟩
   ·rw[e]
   ·omega
   ·omega
  ·rcases hv with⟨e,_⟩ | ⟨_,t,e,e2⟩ | ⟨e,_⟩
   ·omega
   ·exact⟨t,by rw[e],e2⟩
   ·omega
  ·rcases hv with⟨e,_⟩ | ⟨e,_⟩ | ⟨_,ao,n,c,e,e2,e3⟩
   ·omega
   ·omega
   ·exact⟨ao,n,c,by rw[e],e2.off hS.size d,e3⟩
 ·have a:(cs.set o v)[i]? = cs[i]? := by rw[List.getElem?_set_ne (fun e=>hi e.symm)]
  simp only[if_neg hi];rw[a];exact(r.off hS.size d) i
theorem kl_Chain(h:eK o=k)(hk:k≠9):o < 2:=by
 by_cases ho:o < 2
 ·exact ho
 ·exfalso;have:eK o=9:=by
   unfold eK;rw[List.getD_eq_getElem?_getD,List.getElem?_eq_none (by simp; omega)];rfl
  omega
theorem tf{T vt:TypeId}(X:RdA w g b err l)(V:Blk w vb [.pointer (some ⟨g,0,none⟩)] vt)(R:Blk w rb cs T)(m:rb≠g)(j:cs[o]? = some old)(hold:∃ y,old=.int .u64 y) :
  Calls Tryz.prog 214 #[.pointer (some ⟨rb,o,none⟩),.pointer (some ⟨vb,0,none⟩)] w fun e w'=>e=.returned (.tuple #[])/\∃ w1,w'=w1.setCell ⟨rb,o,none⟩ (.int .u64 (rdV 0 (p1 0 l) err))/\RdA w1 g b (rdE (p1 0 l) err) (rdL (p1 0 l) err l)/\But g w w1:=by
 obtain⟨y,rfl⟩:=hold;have t:=D8 X
 show Calls Tryz.prog _ _ w fun e w'=>e=.returned (.tuple #[])/\∃ w1,w'=w1.setCell ⟨rb,o,none⟩ (.int .u64 (rdV 0 (cM 8 l) err))/\RdA w1 g b (rdE (cM 8 l) err) (rdL (cM 8 l) err l)/\But g w w1
 generalize rdV 0 (cM 8 l) err=Y at *;generalize rdE (cM 8 l) err=E at *;generalize rdL (cM 8 l) err l=v at *;have cv:=V.cell (i:=0) rfl;have p:=aB R;have f:=aB m;have q:=aB j;clear X V R j m;go_enter Tryz.func214,Tryz.ntmps214;go_wp2_with (go_at_call 180; refine t.mono ?_; rintro u w1 ⟨rfl,c,n⟩; clear t; have d:=p.out.chg (But.chg n) f.out; have s:=d.cell q.out; have r:=d.free o; clear d; replace c:=aB c);go_end0;exact⟨rfl,w1,rfl,c.out,n⟩
theorem sZ{T vt:TypeId}(X:RdA w g b err l)(V:Blk w vb [.pointer (some ⟨g,0,none⟩)] vt)(R:Blk w rb cs T)(n:rb≠g)(j:cs[o]? = some old)(hold:∃ y,old=.bool y) :
  Calls Tryz.prog 215 #[.pointer (some ⟨rb,o,none⟩),.pointer (some ⟨vb,0,none⟩)] w fun e w'=>e=.returned (.tuple #[])/\∃ w1,w'=w1.setCell ⟨rb,o,none⟩ (.bool (rdV false (bE l) err))/\RdA w1 g b (rdE (p1 1 l) err) (rdL (p1 1 l) err l)/\But g w w1:=by
 obtain⟨y,rfl⟩:=hold;have t:=rdBool X
 show Calls Tryz.prog _ _ w fun e w'=>e=.returned (.tuple #[])/\∃ w1,w'=w1.setCell ⟨rb,o,none⟩ (.bool (rdV false (bE l) err))/\RdA w1 g b (rdE (dL l) err) (rdL (dL l) err l)/\But g w w1
 rw[l6,lZ];generalize rdV false (bE l) err=Y at *;generalize rdE (bE l) err=E at *;generalize rdL (bE l) err l=v at *;have cv:=V.cell (i:=0) rfl;have p:=aB R;have f:=aB n;have q:=aB j;clear X V R j n;go_enter Tryz.func215,Tryz.ntmps215;go_wp2_with (go_at_call 182; refine t.mono ?_; rintro u w1 ⟨rfl,c,m⟩; clear t; have d:=p.out.chg (But.chg m) f.out; have s:=d.cell q.out; have r:=d.free o; clear d; replace c:=aB c);go_end0;exact⟨rfl,w1,rfl,c.out,m⟩
theorem sn{T vt:TypeId}(X:RdA w g b err l)(V:Blk w vb [.pointer (some ⟨g,0,none⟩)] vt)(R:Blk w rb cs T)(r:rb≠g)(p:cs[o]? = some old)(hold:∃ a n c,old=.slice a n c) :
  Calls Tryz.prog 216 #[.pointer (some ⟨rb,o,none⟩),.pointer (some ⟨vb,0,none⟩)] w fun e w'=>e=.returned (.tuple #[])/\∃ w1 ao n c,w'=w1.setCell ⟨rb,o,none⟩ (.slice ao n c)/\fC w1 w.heap.size ao n c (rdV 0 (p1 2 l) err)/\n<=255/\RdA w1 g b (rdE (p1 2 l) err) (rdL (p1 2 l) err l)/\But g w w1:=by
 obtain⟨z,on,A,rfl⟩:=hold;have t:=zJ X
 show Calls Tryz.prog _ _ w fun e w'=>e=.returned (.tuple #[])/\∃ w1 ao n c,w'=w1.setCell ⟨rb,o,none⟩ (.slice ao n c)/\fC w1 w.heap.size ao n c (rdV 0 (bP l) err)/\n<=255/\RdA w1 g b (rdE (bP l) err) (rdL (bP l) err l)/\But g w w1
 generalize rdV 0 (bP l) err=Y at *;generalize rdE (bP l) err=E at *;generalize rdL (bP l) err l=D at *;have cv:=V.cell (i:=0) rfl;have u:=aB R;have m:=aB r;have v:=aB p;clear X V R p r;go_enter Tryz.func216,Tryz.ntmps216;go_wp2_with (go_at_call 184; refine t.mono ?_; rintro C w1 ⟨a1,x,d1,rfl,s,j,d,q⟩; clear t; have f:=u.out.chg (But.chg q) m.out; have B:=f.cell v.out; have y:=f.free o; clear f; replace d:=aB d);go_end0;exact⟨rfl,w1,a1,x,d1,rfl,s,j,d.out,q⟩
theorem iT(h:aU o=k)(hk:k≠9):o < 2:=by
 by_cases ho:o < 2
 ·exact ho
 ·exfalso;have:aU o=9:=by
   unfold aU;rw[List.getD_eq_getElem?_getD,List.getElem?_eq_none (by simp; omega)];rfl
  omega
theorem rU{T vt:TypeId}:HC RSt (fun s w=>RI w0 B g b vb rb aU 2 T vt s w/\B<=w.heap.size) (fun y=>y=g\/y=rb) rb 214 215 216 (.pointer (some ⟨vb,0,none⟩)) rnx aU (fun _=>True) where
 oks:=fun _ _ _ _=>trivial
 keep:=fun s w r h k=>by
  obtain⟨h,i⟩:=h;obtain⟨cs,p,l,j⟩:=h.rc;exact⟨⟨h.rd.keep k,h.var.keep k,⟨cs,p,l.keep k,j.off k.size (fun y _ hy=>k.block y hy)⟩,h.bel.trans (k.mono h.bel.size),h.s1,h.s2,h.s3,h.s4,h.g1,h.r1,h.g0,h.r0⟩,Nat.le_trans i k.size⟩
 old:=fun s w y h e=>by
  have:=h.1.g1;have:=h.1.r1;have:=h.2;rcases e with e | e<;>omega
 e1:=fun _ _=>by kernel_rfl
 e2:=fun _ _=>by kernel_rfl
 e3:=fun _ _=>by kernel_rfl
 u:=fun s w o h _ a=>by
  obtain⟨h,i⟩:=h;obtain⟨cs,p,l,j⟩:=h.rc;refine(tf h.rd h.var l h.s1 ((j o).1 a) ⟨_,rfl⟩).mono ?_
  rintro e r ⟨rfl,v,rfl,X,m⟩;obtain⟨r1,f⟩:=h.step a (iT a (by decide)) X m (.inl ⟨rfl,rfl⟩);exact⟨rfl,⟨r1,Nat.le_trans i f.size⟩,f⟩
 t:=fun s w o h _ a=>by
  obtain⟨h,i⟩:=h;obtain⟨cs,p,l,j⟩:=h.rc;obtain⟨t,q,_⟩:=(j o).2.1 a;refine(sZ h.rd h.var l h.s1 q ⟨_,rfl⟩).mono ?_
  rintro e r ⟨rfl,v,rfl,X,m⟩;obtain⟨r1,f⟩:=h.step a (iT a (by decide)) X m (x:=rdV 0 (p1 1 s.2.1) s.1) (.inr (.inl ⟨rfl,_,rfl,mY _ _⟩));exact⟨rfl,⟨r1,Nat.le_trans i f.size⟩,f⟩
 d:=fun s w o h _ a=>by
  obtain⟨h,i⟩:=h;obtain⟨cs,p,l,j⟩:=h.rc;obtain⟨C,n,c,q,_⟩:=(j o).2.2 a;refine(sn h.rd h.var l h.s1 q ⟨_,_,_,rfl⟩).mono ?_
  rintro e r ⟨rfl,v,a1,A,c1,rfl,z,hn,X,m⟩;obtain⟨r1,f⟩:=h.step a (iT a (by decide)) X m (x:=rdV 0 (p1 2 s.2.1) s.1) (.inr (.inr ⟨rfl,_,_,_,rfl,z.low i,hn⟩));exact⟨rfl,⟨r1,Nat.le_trans i f.size⟩,f⟩
theorem rn_Cut{T vt:TypeId}(X:RdA w g b err l)(V:Blk w vb [.pointer (some ⟨g,0,none⟩)] vt)(R:Blk w rb cs T)(m:rb≠g)(j:cs[o]? = some old)(hold:∃ y,old=.int .u64 y) :
  Calls Tryz.prog 179 #[.pointer (some ⟨rb,o,none⟩),.pointer (some ⟨vb,0,none⟩)] w fun e w'=>e=.returned (.tuple #[])/\∃ w1,w'=w1.setCell ⟨rb,o,none⟩ (.int .u64 (rdV 0 (p1 0 l) err))/\RdA w1 g b (rdE (p1 0 l) err) (rdL (p1 0 l) err l)/\But g w w1:=by
 obtain⟨y,rfl⟩:=hold;have t:=D8 X
 show Calls Tryz.prog _ _ w fun e w'=>e=.returned (.tuple #[])/\∃ w1,w'=w1.setCell ⟨rb,o,none⟩ (.int .u64 (rdV 0 (cM 8 l) err))/\RdA w1 g b (rdE (cM 8 l) err) (rdL (cM 8 l) err l)/\But g w w1
 generalize rdV 0 (cM 8 l) err=Y at *;generalize rdE (cM 8 l) err=E at *;generalize rdL (cM 8 l) err l=v at *;have cv:=V.cell (i:=0) rfl;have p:=aB R;have f:=aB m;have q:=aB j;clear X V R j m;go_enter Tryz.func179,Tryz.ntmps179;go_wp2_with (go_at_call 180; refine t.mono ?_; rintro u w1 ⟨rfl,c,n⟩; clear t; have d:=p.out.chg (But.chg n) f.out; have s:=d.cell q.out; have r:=d.free o; clear d; replace c:=aB c);go_end0;exact⟨rfl,w1,rfl,c.out,n⟩
theorem rt_Cut{T vt:TypeId}(X:RdA w g b err l)(V:Blk w vb [.pointer (some ⟨g,0,none⟩)] vt)(R:Blk w rb cs T)(n:rb≠g)(j:cs[o]? = some old)(hold:∃ y,old=.bool y) :
  Calls Tryz.prog 181 #[.pointer (some ⟨rb,o,none⟩),.pointer (some ⟨vb,0,none⟩)] w fun e w'=>e=.returned (.tuple #[])/\∃ w1,w'=w1.setCell ⟨rb,o,none⟩ (.bool (rdV false (bE l) err))/\RdA w1 g b (rdE (p1 1 l) err) (rdL (p1 1 l) err l)/\But g w w1:=by
 obtain⟨y,rfl⟩:=hold;have t:=rdBool X
 show Calls Tryz.prog _ _ w fun e w'=>e=.returned (.tuple #[])/\∃ w1,w'=w1.setCell ⟨rb,o,none⟩ (.bool (rdV false (bE l) err))/\RdA w1 g b (rdE (dL l) err) (rdL (dL l) err l)/\But g w w1
 rw[l6,lZ];generalize rdV false (bE l) err=Y at *;generalize rdE (bE l) err=E at *;generalize rdL (bE l) err l=v at *;have cv:=V.cell (i:=0) rfl;have p:=aB R;have f:=aB n;have q:=aB j;clear X V R j n;go_enter Tryz.func181,Tryz.ntmps181;go_wp2_with (go_at_call 182; refine t.mono ?_; rintro u w1 ⟨rfl,c,m⟩; clear t; have d:=p.out.chg (But.chg m) f.out; have s:=d.cell q.out; have r:=d.free o; clear d; replace c:=aB c);go_end0;exact⟨rfl,w1,rfl,c.out,m⟩
theorem rd_Cut{T vt:TypeId}(X:RdA w g b err l)(V:Blk w vb [.pointer (some ⟨g,0,none⟩)] vt)(R:Blk w rb cs T)(r:rb≠g)(p:cs[o]? = some old)(hold:∃ a n c,old=.slice a n c) :
  Calls Tryz.prog 183 #[.pointer (some ⟨rb,o,none⟩),.pointer (some ⟨vb,0,none⟩)] w fun e w'=>e=.returned (.tuple #[])/\∃ w1 ao n c,w'=w1.setCell ⟨rb,o,none⟩ (.slice ao n c)/\fC w1 w.heap.size ao n c (rdV 0 (p1 2 l) err)/\n<=255/\RdA w1 g b (rdE (p1 2 l) err) (rdL (p1 2 l) err l)/\But g w w1:=by
 obtain⟨z,on,A,rfl⟩:=hold;have t:=zJ X
 show Calls Tryz.prog _ _ w fun e w'=>e=.returned (.tuple #[])/\∃ w1 ao n c,w'=w1.setCell ⟨rb,o,none⟩ (.slice ao n c)/\fC w1 w.heap.size ao n c (rdV 0 (bP l) err)/\n<=255/\RdA w1 g b (rdE (bP l) err) (rdL (bP l) err l)/\But g w w1
 generalize rdV 0 (bP l) err=Y at *;generalize rdE (bP l) err=E at *;generalize rdL (bP l) err l=D at *;have cv:=V.cell (i:=0) rfl;have u:=aB R;have m:=aB r;have v:=aB p;clear X V R p r;go_enter Tryz.func183,Tryz.ntmps183;go_wp2_with (go_at_call 184; refine t.mono ?_; rintro C w1 ⟨a1,x,d1,rfl,s,j,d,q⟩; clear t; have f:=u.out.chg (But.chg q) m.out; have B:=f.cell v.out; have y:=f.free o; clear f; replace d:=aB d);go_end0;exact⟨rfl,w1,a1,x,d1,rfl,s,j,d.out,q⟩
theorem tw(h:cn o=k)(hk:k≠9):o < 2:=by
 by_cases ho:o < 2
 ·exact ho
 ·exfalso;have:cn o=9:=by
   unfold cn;rw[List.getD_eq_getElem?_getD,List.getElem?_eq_none (by simp; omega)];rfl
  omega
theorem BJ{T vt:TypeId}:HC RSt (fun s w=>RI w0 B g b vb rb cn 2 T vt s w/\B<=w.heap.size) (fun y=>y=g\/y=rb) rb 179 181 183 (.pointer (some ⟨vb,0,none⟩)) rnx cn (fun _=>True) where
 oks:=fun _ _ _ _=>trivial
 keep:=fun s w r h k=>by
  obtain⟨h,i⟩:=h;obtain⟨cs,p,l,j⟩:=h.rc;exact⟨⟨h.rd.keep k,h.var.keep k,⟨cs,p,l.keep k,j.off k.size (fun y _ hy=>k.block y hy)⟩,h.bel.trans (k.mono h.bel.size),h.s1,h.s2,h.s3,h.s4,h.g1,h.r1,h.g0,h.r0⟩,Nat.le_trans i k.size⟩
 old:=fun s w y h e=>by
  have:=h.1.g1;have:=h.1.r1;have:=h.2;rcases e with e | e<;>omega
 e1:=fun _ _=>by kernel_rfl
 e2:=fun _ _=>by kernel_rfl
 e3:=fun _ _=>by kernel_rfl
 u:=fun s w o h _ a=>by
  obtain⟨h,i⟩:=h;obtain⟨cs,p,l,j⟩:=h.rc;refine(rn_Cut h.rd h.var l h.s1 ((j o).1 a) ⟨_,rfl⟩).mono ?_
  rintro e r ⟨rfl,v,rfl,X,m⟩;obtain⟨r1,f⟩:=h.step a (tw a (by decide)) X m (.inl ⟨rfl,rfl⟩);exact⟨rfl,⟨r1,Nat.le_trans i f.size⟩,f⟩
 t:=fun s w o h _ a=>by
  obtain⟨h,i⟩:=h;obtain⟨cs,p,l,j⟩:=h.rc;obtain⟨t,q,_⟩:=(j o).2.1 a;refine(rt_Cut h.rd h.var l h.s1 q ⟨_,rfl⟩).mono ?_
  rintro e r ⟨rfl,v,rfl,X,m⟩;obtain⟨r1,f⟩:=h.step a (tw a (by decide)) X m (x:=rdV 0 (p1 1 s.2.1) s.1) (.inr (.inl ⟨rfl,_,rfl,mY _ _⟩));exact⟨rfl,⟨r1,Nat.le_trans i f.size⟩,f⟩
 d:=fun s w o h _ a=>by
  obtain⟨h,i⟩:=h;obtain⟨cs,p,l,j⟩:=h.rc;obtain⟨C,n,c,q,_⟩:=(j o).2.2 a;refine(rd_Cut h.rd h.var l h.s1 q ⟨_,_,_,rfl⟩).mono ?_
  rintro e r ⟨rfl,v,a1,A,c1,rfl,z,hn,X,m⟩;obtain⟨r1,f⟩:=h.step a (tw a (by decide)) X m (x:=rdV 0 (p1 2 s.2.1) s.1) (.inr (.inr ⟨rfl,_,_,_,rfl,z.low i,hn⟩));exact⟨rfl,⟨r1,Nat.le_trans i f.size⟩,f⟩
end
end Rc
end
section
namespace Rc
open Go.RowKit Go.Lib Pg
attribute [local go_sem] Oper.semAt_some
section
variable {w:World}{kd:Nat->Nat}{cs:List Value}{xs:Nat->Int}{tmps:Array Value}{g bb n c:Nat}{y0 y1:Value}{ao:Option Addr}{l:List Int}
theorem Bo{α:Type}(p:Int ⊕ α × Nat)(err:Int)(l:List Int):(rdL p err l).length<=l.length:=by
 unfold rdL;split
 ·cases p
  ·exact Nat.le_refl _
  ·simp
 ·exact Nat.le_refl _
theorem uF(a:List (Nat × Nat)):∀ s:RSt,(thr rnx a s).2.1.length<=s.2.1.length:=by
 induction a with
 | nil=>intro s; exact Nat.le_refl _
 | cons p a ih =>
  intro s
  have e:thr rnx (p :: a) s=thr rnx a (rnx p.1 p.2 s):=rfl;rw[e];exact Nat.le_trans (ih _) (Bo _ _ _)
structure qq(w:World)(kd:Nat->Nat)(len:Nat)(mk:List Value->Value)(s:RSt)(e:Ending)(w':World):Prop where
 ex:∃ cs xs r,e=.returned (.tuple #[mk cs,.int .i64 r])/\cs.length=len/\np w' w.heap.size kd cs xs/\(fT s.1 s.2.1=0->r=0/\xs=s.2.2)/\(fT s.1 s.2.1≠0->r=80/\xs=fun _=>0)
 bel:Below w.heap.size w w'
theorem np.low{B B':Nat}(h:np w B kd cs xs)(hB:B'<=B):np w B' kd cs xs:=fun o=>⟨(h o).1,(h o).2.1,fun hk=>by
 obtain⟨ao,n,c,h1,h2,h3⟩:=(h o).2.2 hk
 exact⟨ao,n,c,h1,h2.low hB,h3⟩⟩
theorem kF{fn:Func}{p u:Tmp}{T:TypeId}(h:fn.results=#[.cell p T,.tmp u]){v x:Value}(c:tmps.getD p undef=.pointer (some ⟨g,0,none⟩))(hu:tmps.getD u undef=x)(d:(loadVar T ⟨g,0,none⟩).run Tryz.prog w=.ok v w):(results fn tmps).run Tryz.prog w=.ok (.tuple #[v,x]) w:=by
 have b:tmps[p]?.getD undef=.pointer (some ⟨g,0,none⟩):=by simpa using c
 have a:tmps[u]?.getD undef=x:=by simpa using hu
 simp[results,h,b,a,asAddr,d]
def mkA(cs:List Value):Value:=.agg cs.toArray
theorem iY(c0:w.cell? ⟨g,0,none⟩=some y0)(c1:w.cell? ⟨g,1,none⟩=some y1):(loadVar 116 ⟨g,0,none⟩).run Tryz.prog w=.ok (.agg #[y0,y1]) w:=by go_simp
theorem pY(A : ByA w bb ao n c l)(hn : n ≤ 1000000000)(hl : l.length = n) :
    Calls Tryz.prog 175 #[.slice ao n c, .func (.func 141) #[] #[]] w (qq w aU 2 mkA (thr rnx [(2, 0), (0, 1)] (0, l, fun _ => (0 : Int)))) := by
  have b1 := ae w (.cells #[.slice none 0 0, .int .u64 0] 116);have b2 := ae (w.alloc (.cells #[.slice none 0 0, .int .u64 0] 116)) (.cells #[.slice none 0 0, .int .u64 0] 116);have b3 := ae ((w.alloc (.cells #[.slice none 0 0, .int .u64 0] 116)).alloc (.cells #[.slice none 0 0, .int .u64 0] 116)) (.cells #[.slice none 0 0, .int .u64 0] 116);have z1 := dn w (.cells #[.slice none 0 0, .int .u64 0] 116);have z2 := dn (w.alloc (.cells #[.slice none 0 0, .int .u64 0] 116)) (.cells #[.slice none 0 0, .int .u64 0] 116);have z3 := dn ((w.alloc (.cells #[.slice none 0 0, .int .u64 0] 116)).alloc (.cells #[.slice none 0 0, .int .u64 0] 116)) (.cells #[.slice none 0 0, .int .u64 0] 116);have y1 := ((aC w [.slice none 0 0, .int .u64 0] 116).keep b2).keep b3;have y2 := (aC (w.alloc (.cells #[.slice none 0 0, .int .u64 0] 116)) [.slice none 0 0, .int .u64 0] 116).keep b3;have y3 := aC ((w.alloc (.cells #[.slice none 0 0, .int .u64 0] 116)).alloc (.cells #[.slice none 0 0, .int .u64 0] 116)) [.slice none 0 0, .int .u64 0] 116;rw[z2, z1] at y3;rw[z1] at y2;rw[z2, z1] at z3;obtain⟨W3, N⟩ : ∃ W3, Hid ((((w.alloc (.cells #[.slice none 0 0, .int .u64 0] 116)).alloc (.cells #[.slice none 0 0, .int .u64 0] 116)).alloc (.cells #[.slice none 0 0, .int .u64 0] 116)) = W3) := ⟨_, rfl⟩;have Q := aj (aj b1 b2) b3;rw[N.out] at Q y1 y2 y3 z3;have HN := aB (DZ (A.keep Q) (by omega));have Y1 := aB y1;have Y2 := aB y2;have Y3 := aB y3;have Z3 := aB z3;have HBB := aB Q;have HL := aB hl;clear b1 b2 b3 z1 z2 z3 y1 y2 y3 Q A hl;obtain⟨st, z⟩ : ∃ st, Hid (thr rnx [(2, 0), (0, 1)] (0, l, fun _ => (0 : Int)) = st) := ⟨_, rfl⟩
  have hsl : st.2.1.length ≤ n := by have h := uF [(2, 0), (0, 1)] (0, l, fun _ => (0 : Int)); rw[z.out] at h; rw[HL.out] at h; exact h
  rw[z.out];go_enter Tryz.func175, Tryz.ntmps175;go_wp2_with fail;rw[N.out];refine HN.out.mono ?_
  rintro e' J ⟨g, b', rfl, hg, hb', R, G⟩;have v := ae J (.cells #[.pointer (some ⟨g, 0, none⟩)] 260);have v5 := aC J [.pointer (some ⟨g, 0, none⟩)] 260;have z5 := dn J (.cells #[.pointer (some ⟨g, 0, none⟩)] 260);obtain⟨u, H⟩ : ∃ u, Hid (J.alloc (.cells #[.pointer (some ⟨g, 0, none⟩)] 260) = u) := ⟨_, rfl⟩;rw[H.out] at v v5 z5;have S := R.lt;have hz3 := Z3.out;have hz4 := G.size
  have F0 : np u u.heap.size aU [.slice none 0 0, .int .u64 0] (fun _ => 0) := fun o => match o with
    | 0 => ⟨fun h => absurd h (by decide), fun h => absurd h (by decide), fun _ => ⟨none, 0, 0, rfl, mU _ _, by decide⟩⟩
    | 1 => ⟨fun _ => rfl, fun h => absurd h (by decide), fun h => absurd h (by decide)⟩
    | k + 2 => ⟨fun h => absurd h (by simp[aU]), fun h => absurd h (by simp[aU]), fun h => absurd h (by simp[aU])⟩
  have U := iI (rU (w0 := w) (B := u.heap.size) (g := g) (b := b') (vb := J.heap.size) (rb := w.heap.size + 1) (T := 116) (vt := 260)) (s := (0, l, fun _ => (0 : Int))) (w := u) ⟨⟨R.keep v, v5, ⟨_, rfl, (Y2.out.keep G).keep v, F0⟩, aj (aj HBB.out G) v, by omega, by omega, by omega, by omega, by omega, by omega, by omega, by omega⟩, Nat.le_refl _⟩ (by simp[aU]) trivial;rw[z.out] at U;have HU := aB U;have P1 := aB ((Y1.out.keep G).keep v);have P3 := aB ((Y3.out.keep G).keep v);have C := aB (show w.heap.size ≠ g ∧ w.heap.size + 1 + 1 ≠ g ∧ w.heap.size + 1 + 1 ≠ w.heap.size + 1 ∧ w.heap.size ≠ w.heap.size + 1 ∧ w.heap.size ≤ u.heap.size ∧ w.heap.size ≤ g from⟨by omega, by omega, by omega, by omega, by omega, by omega⟩);clear U v v5 z5 S hz3 hz4 F0 R G hg hb' HN Y1 Y2 Y3;go_wp2_with fail;rw[H.out];refine HU.out.mono ?_
  rintro e' w6 ⟨rfl, ⟨t, hB6⟩, C6⟩;have c6 := t.var.cell (i := 0) rfl;go_wp2_with fail;refine(DK t.rd (by omega)).mono ?_
  rintro e' d ⟨rfl, X7, K⟩;obtain⟨aa, hl6, R6, L⟩:= t.rc;obtain⟨f, I⟩ : ∃ f, Hid (st.2.2 = f) := ⟨_, rfl⟩;rw[I.out] at L;have V := aB L;obtain⟨a0, n0, d0, q0, -, -⟩:= (L 0).2.2 rfl;have q1 := (L 1).1 rfl
  have W : aa = [.slice a0 n0 d0, .int .u64 (f 1)] := by
    apply List.ext_getElem?;intro i
    match i with
    | 0 => rw[q0]; rfl
    | 1 => rw[q1]; rfl
    | k + 2 => rw[List.getElem?_eq_none (by omega), List.getElem?_eq_none (by simp)]
  subst W;have P := But.chg K;have r := (P1.out.chg C6 (fun h => h.elim C.out.1 C.out.2.2.2.1)).chg P C.out.1;have Y := (P3.out.chg C6 (fun h => h.elim C.out.2.1 C.out.2.2.1)).chg P C.out.2.1;have Z := R6.chg P t.s1;have BF := aB (K.below t.bel C.out.2.2.2.2.2 (Nat.le_refl _));have hF7 := aB ((V.out.off (w' := d) K.size (fun y hy ab => K.block y ab (by have := t.g1; omega))));have M := aB (show w.heap.size < u.heap.size ∧ w.heap.size < d.heap.size from⟨by have := t.r1; omega, r.lt⟩);have u0 := r.cell (i := 0) rfl;have f0 := r.free 0;have v0 := Z.cell (i := 0) rfl;have o0 := Y.cell (i := 0) rfl;have u1 := r.cell (i := 1) rfl;have f1 := r.free 1;have v1 := Z.cell (i := 1) rfl;have o1 := Y.cell (i := 1) rfl;have j := aB (show Blk ((d.setCell ⟨w.heap.size, 0, none⟩ (.slice a0 n0 d0)).setCell ⟨w.heap.size, 1, none⟩ (.int .u64 (f 1))) w.heap.size [.slice a0 n0 d0, .int .u64 (f 1)] 116 from((r.setCell (i := 0) (.slice a0 n0 d0)).setCell (i := 1) (.int .u64 (f 1))));have m := aB (show Chg (fun x => x = w.heap.size) d ((d.setCell ⟨w.heap.size, 0, none⟩ (.slice a0 n0 d0)).setCell ⟨w.heap.size, 1, none⟩ (.int .u64 (f 1))) from(((Chg.refl (fun x => x = w.heap.size) d).cell (g := w.heap.size) (i := 0) (.inl rfl) (.slice a0 n0 d0)).cell (g := w.heap.size) (i := 1) (.inl rfl) (.int .u64 (f 1))));have F := aB (show Below w.heap.size w ((d.setCell ⟨w.heap.size, 0, none⟩ (.slice a0 n0 d0)).setCell ⟨w.heap.size, 1, none⟩ (.int .u64 (f 1))) from((BF.out.setCell (p := ⟨w.heap.size, 0, none⟩) (Nat.le_refl _) (.slice a0 n0 d0)).setCell (p := ⟨w.heap.size, 1, none⟩) (Nat.le_refl _) (.int .u64 (f 1))));have q := aB (show Blk ((d.setCell ⟨w.heap.size, 0, none⟩ (.slice none 0 0)).setCell ⟨w.heap.size, 1, none⟩ (.int .u64 0)) w.heap.size [.slice none 0 0, .int .u64 0] 116 from((r.setCell (i := 0) (.slice none 0 0)).setCell (i := 1) (.int .u64 0)));have X := aB (show Chg (fun x => x = w.heap.size) d ((d.setCell ⟨w.heap.size, 0, none⟩ (.slice none 0 0)).setCell ⟨w.heap.size, 1, none⟩ (.int .u64 0)) from(((Chg.refl (fun x => x = w.heap.size) d).cell (g := w.heap.size) (i := 0) (.inl rfl) (.slice none 0 0)).cell (g := w.heap.size) (i := 1) (.inl rfl) (.int .u64 0)));have D := aB (show Below w.heap.size w ((d.setCell ⟨w.heap.size, 0, none⟩ (.slice none 0 0)).setCell ⟨w.heap.size, 1, none⟩ (.int .u64 0)) from((BF.out.setCell (p := ⟨w.heap.size, 0, none⟩) (Nat.le_refl _) (.slice none 0 0)).setCell (p := ⟨w.heap.size, 1, none⟩) (Nat.le_refl _) (.int .u64 0)));clear r Z Y t C6 P K X7 R6 hl6 L c6 HU P1 P3 q0 q1;obtain⟨O, E⟩ : ∃ O, Hid (fT st.1 st.2.1 = O) := ⟨_, rfl⟩;rw[E.out];by_cases hE : O = 0
  · subst hE
    go_wp2;refine bodyPost_ret (kF rfl rfl rfl (iY (j.out.cell (i := 0) rfl) (j.out.cell (i := 1) rfl))) rfl ?_
    exact⟨⟨[.slice a0 n0 d0, .int .u64 (f 1)], f, 0, rfl, rfl, (hF7.out.off m.out.size (fun y hy _ => m.out.same y (by assumption) (fun e => by have e' : y = w.heap.size := e; have := M.out; omega))).low (by have := M.out; omega), fun _ => ⟨rfl, I.out.symm⟩, fun h => absurd E.out h⟩, F.out⟩
  · have hE1 : ¬ (O = 0) := hE
    go_wp2;refine bodyPost_ret (kF rfl rfl rfl (iY (q.out.cell (i := 0) rfl) (q.out.cell (i := 1) rfl))) rfl ?_
    exact⟨⟨[.slice none 0 0, .int .u64 0], fun _ => 0, 80, rfl, rfl, (fun o => match o with | 0 => ⟨fun h => absurd h (by decide), fun h => absurd h (by decide), fun _ => ⟨none, 0, 0, rfl, mU _ _, by decide⟩⟩ | 1 => ⟨fun _ => rfl, fun h => absurd h (by decide), fun h => absurd h (by decide)⟩ | k + 2 => ⟨fun h => absurd h (by simp[aU]), fun h => absurd h (by simp[aU]), fun h => absurd h (by simp[aU])⟩), fun h => absurd (E.out.symm.trans h) hE1, fun _ => ⟨rfl, rfl⟩⟩, D.out⟩
theorem sM(c0:w.cell? ⟨g,0,none⟩=some y0)(c1:w.cell? ⟨g,1,none⟩=some y1):(loadVar 111 ⟨g,0,none⟩).run Tryz.prog w=.ok (.agg #[y0,y1]) w:=by go_simp
theorem zm(A : ByA w bb ao n c l)(hn : n ≤ 1000000000)(hl : l.length = n) :
    Calls Tryz.prog 138 #[.slice ao n c, .func (.func 100) #[] #[]] w (qq w cn 2 mkA (thr rnx [(0, 0), (0, 1)] (0, l, fun _ => (0 : Int)))) := by
  have b1 := ae w (.cells #[.int .u64 0, .int .u64 0] 111);have b2 := ae (w.alloc (.cells #[.int .u64 0, .int .u64 0] 111)) (.cells #[.int .u64 0, .int .u64 0] 111);have b3 := ae ((w.alloc (.cells #[.int .u64 0, .int .u64 0] 111)).alloc (.cells #[.int .u64 0, .int .u64 0] 111)) (.cells #[.int .u64 0, .int .u64 0] 111);have z1 := dn w (.cells #[.int .u64 0, .int .u64 0] 111);have z2 := dn (w.alloc (.cells #[.int .u64 0, .int .u64 0] 111)) (.cells #[.int .u64 0, .int .u64 0] 111);have z3 := dn ((w.alloc (.cells #[.int .u64 0, .int .u64 0] 111)).alloc (.cells #[.int .u64 0, .int .u64 0] 111)) (.cells #[.int .u64 0, .int .u64 0] 111);have y1 := ((aC w [.int .u64 0, .int .u64 0] 111).keep b2).keep b3;have y2 := (aC (w.alloc (.cells #[.int .u64 0, .int .u64 0] 111)) [.int .u64 0, .int .u64 0] 111).keep b3;have y3 := aC ((w.alloc (.cells #[.int .u64 0, .int .u64 0] 111)).alloc (.cells #[.int .u64 0, .int .u64 0] 111)) [.int .u64 0, .int .u64 0] 111;rw[z2, z1] at y3;rw[z1] at y2;rw[z2, z1] at z3;obtain⟨W3, N⟩ : ∃ W3, Hid ((((w.alloc (.cells #[.int .u64 0, .int .u64 0] 111)).alloc (.cells #[.int .u64 0, .int .u64 0] 111)).alloc (.cells #[.int .u64 0, .int .u64 0] 111)) = W3) := ⟨_, rfl⟩;have Q := aj (aj b1 b2) b3;rw[N.out] at Q y1 y2 y3 z3;have HN := aB (DZ (A.keep Q) (by omega));have Y1 := aB y1;have Y2 := aB y2;have Y3 := aB y3;have Z3 := aB z3;have HBB := aB Q;have HL := aB hl;clear b1 b2 b3 z1 z2 z3 y1 y2 y3 Q A hl;obtain⟨st, z⟩ : ∃ st, Hid (thr rnx [(0, 0), (0, 1)] (0, l, fun _ => (0 : Int)) = st) := ⟨_, rfl⟩
  have hsl : st.2.1.length ≤ n := by have h := uF [(0, 0), (0, 1)] (0, l, fun _ => (0 : Int)); rw[z.out] at h; rw[HL.out] at h; exact h
  rw[z.out];go_enter Tryz.func138, Tryz.ntmps138;go_wp2_with fail;rw[N.out];refine HN.out.mono ?_
  rintro e' J ⟨g, b', rfl, hg, hb', R, G⟩;have v := ae J (.cells #[.pointer (some ⟨g, 0, none⟩)] 260);have v5 := aC J [.pointer (some ⟨g, 0, none⟩)] 260;have z5 := dn J (.cells #[.pointer (some ⟨g, 0, none⟩)] 260);obtain⟨u, H⟩ : ∃ u, Hid (J.alloc (.cells #[.pointer (some ⟨g, 0, none⟩)] 260) = u) := ⟨_, rfl⟩;rw[H.out] at v v5 z5;have S := R.lt;have hz3 := Z3.out;have hz4 := G.size
  have F0 : np u u.heap.size cn [.int .u64 0, .int .u64 0] (fun _ => 0) := fun o => match o with
    | 0 => ⟨fun _ => rfl, fun h => absurd h (by decide), fun h => absurd h (by decide)⟩
    | 1 => ⟨fun _ => rfl, fun h => absurd h (by decide), fun h => absurd h (by decide)⟩
    | k + 2 => ⟨fun h => absurd h (by simp[cn]), fun h => absurd h (by simp[cn]), fun h => absurd h (by simp[cn])⟩
  have U := nQ (BJ (w0 := w) (B := u.heap.size) (g := g) (b := b') (vb := J.heap.size) (rb := w.heap.size + 1) (T := 111) (vt := 260)) (s := (0, l, fun _ => (0 : Int))) (w := u) ⟨⟨R.keep v, v5, ⟨_, rfl, (Y2.out.keep G).keep v, F0⟩, aj (aj HBB.out G) v, by omega, by omega, by omega, by omega, by omega, by omega, by omega, by omega⟩, Nat.le_refl _⟩ (by simp[cn]) trivial;rw[z.out] at U;have HU := aB U;have P1 := aB ((Y1.out.keep G).keep v);have P3 := aB ((Y3.out.keep G).keep v);have C := aB (show w.heap.size ≠ g ∧ w.heap.size + 1 + 1 ≠ g ∧ w.heap.size + 1 + 1 ≠ w.heap.size + 1 ∧ w.heap.size ≠ w.heap.size + 1 ∧ w.heap.size ≤ u.heap.size ∧ w.heap.size ≤ g from⟨by omega, by omega, by omega, by omega, by omega, by omega⟩);clear U v v5 z5 S hz3 hz4 F0 R G hg hb' HN Y1 Y2 Y3;go_wp2_with fail;rw[H.out];refine HU.out.mono ?_
  rintro e' w6 ⟨rfl, ⟨t, hB6⟩, C6⟩;have c6 := t.var.cell (i := 0) rfl;go_wp2_with fail;refine(DK t.rd (by omega)).mono ?_
  rintro e' f ⟨rfl, X7, K⟩;obtain⟨aa, hl6, R6, L⟩:= t.rc;obtain⟨d, I⟩ : ∃ d, Hid (st.2.2 = d) := ⟨_, rfl⟩;rw[I.out] at L;have V := aB L;have q0 := (L 0).1 rfl;have q1 := (L 1).1 rfl
  have W : aa = [.int .u64 (d 0), .int .u64 (d 1)] := by
    apply List.ext_getElem?;intro i
    match i with
    | 0 => rw[q0]; rfl
    | 1 => rw[q1]; rfl
    | k + 2 => rw[List.getElem?_eq_none (by omega), List.getElem?_eq_none (by simp)]
  subst W;have P := But.chg K;have r := (P1.out.chg C6 (fun h => h.elim C.out.1 C.out.2.2.2.1)).chg P C.out.1;have Y := (P3.out.chg C6 (fun h => h.elim C.out.2.1 C.out.2.2.1)).chg P C.out.2.1;have Z := R6.chg P t.s1;have BF := aB (K.below t.bel C.out.2.2.2.2.2 (Nat.le_refl _));have hF7 := aB ((V.out.off (w' := f) K.size (fun y hy ab => K.block y ab (by have := t.g1; omega))));have M := aB (show w.heap.size < u.heap.size ∧ w.heap.size < f.heap.size from⟨by have := t.r1; omega, r.lt⟩);have u0 := r.cell (i := 0) rfl;have f0 := r.free 0;have v0 := Z.cell (i := 0) rfl;have o0 := Y.cell (i := 0) rfl;have u1 := r.cell (i := 1) rfl;have f1 := r.free 1;have v1 := Z.cell (i := 1) rfl;have o1 := Y.cell (i := 1) rfl;have j := aB (show Blk ((f.setCell ⟨w.heap.size, 0, none⟩ (.int .u64 (d 0))).setCell ⟨w.heap.size, 1, none⟩ (.int .u64 (d 1))) w.heap.size [.int .u64 (d 0), .int .u64 (d 1)] 111 from((r.setCell (i := 0) (.int .u64 (d 0))).setCell (i := 1) (.int .u64 (d 1))));have m := aB (show Chg (fun x => x = w.heap.size) f ((f.setCell ⟨w.heap.size, 0, none⟩ (.int .u64 (d 0))).setCell ⟨w.heap.size, 1, none⟩ (.int .u64 (d 1))) from(((Chg.refl (fun x => x = w.heap.size) f).cell (g := w.heap.size) (i := 0) (.inl rfl) (.int .u64 (d 0))).cell (g := w.heap.size) (i := 1) (.inl rfl) (.int .u64 (d 1))));have F := aB (show Below w.heap.size w ((f.setCell ⟨w.heap.size, 0, none⟩ (.int .u64 (d 0))).setCell ⟨w.heap.size, 1, none⟩ (.int .u64 (d 1))) from((BF.out.setCell (p := ⟨w.heap.size, 0, none⟩) (Nat.le_refl _) (.int .u64 (d 0))).setCell (p := ⟨w.heap.size, 1, none⟩) (Nat.le_refl _) (.int .u64 (d 1))));have q := aB (show Blk ((f.setCell ⟨w.heap.size, 0, none⟩ (.int .u64 0)).setCell ⟨w.heap.size, 1, none⟩ (.int .u64 0)) w.heap.size [.int .u64 0, .int .u64 0] 111 from((r.setCell (i := 0) (.int .u64 0)).setCell (i := 1) (.int .u64 0)));have X := aB (show Chg (fun x => x = w.heap.size) f ((f.setCell ⟨w.heap.size, 0, none⟩ (.int .u64 0)).setCell ⟨w.heap.size, 1, none⟩ (.int .u64 0)) from(((Chg.refl (fun x => x = w.heap.size) f).cell (g := w.heap.size) (i := 0) (.inl rfl) (.int .u64 0)).cell (g := w.heap.size) (i := 1) (.inl rfl) (.int .u64 0)));have D := aB (show Below w.heap.size w ((f.setCell ⟨w.heap.size, 0, none⟩ (.int .u64 0)).setCell ⟨w.heap.size, 1, none⟩ (.int .u64 0)) from((BF.out.setCell (p := ⟨w.heap.size, 0, none⟩) (Nat.le_refl _) (.int .u64 0)).setCell (p := ⟨w.heap.size, 1, none⟩) (Nat.le_refl _) (.int .u64 0)));clear r Z Y t C6 P K X7 R6 hl6 L c6 HU P1 P3 q0 q1;obtain⟨O, E⟩ : ∃ O, Hid (fT st.1 st.2.1 = O) := ⟨_, rfl⟩;rw[E.out];by_cases hE : O = 0
  · subst hE
    go_wp2;refine bodyPost_ret (kF rfl rfl rfl (sM (j.out.cell (i := 0) rfl) (j.out.cell (i := 1) rfl))) rfl ?_
    exact⟨⟨[.int .u64 (d 0), .int .u64 (d 1)], d, 0, rfl, rfl, (hF7.out.off m.out.size (fun y hy _ => m.out.same y (by assumption) (fun e => by have e' : y = w.heap.size := e; have := M.out; omega))).low (by have := M.out; omega), fun _ => ⟨rfl, I.out.symm⟩, fun h => absurd E.out h⟩, F.out⟩
  · have hE1 : ¬ (O = 0) := hE
    go_wp2;refine bodyPost_ret (kF rfl rfl rfl (sM (q.out.cell (i := 0) rfl) (q.out.cell (i := 1) rfl))) rfl ?_
    exact⟨⟨[.int .u64 0, .int .u64 0], fun _ => 0, 80, rfl, rfl, (fun o => match o with | 0 => ⟨fun _ => rfl, fun h => absurd h (by decide), fun h => absurd h (by decide)⟩ | 1 => ⟨fun _ => rfl, fun h => absurd h (by decide), fun h => absurd h (by decide)⟩ | k + 2 => ⟨fun h => absurd h (by simp[cn]), fun h => absurd h (by simp[cn]), fun h => absurd h (by simp[cn])⟩), fun h => absurd (E.out.symm.trans h) hE1, fun _ => ⟨rfl, rfl⟩⟩, D.out⟩
end
end Rc
end
section
namespace Rc
open Go.RowKit Go.Lib Pg
attribute [local go_sem] Oper.semAt_some
section
variable {w:World}{a0 ao:Option Addr}{x0 x1:Int}{bb n c:Nat}{l:List Int}
theorem lP{n0 c0:Nat}(g:aV w a0 n0 c0 x0)(m0:n0<=1000000) :
  Calls Tryz.prog 88 #[.agg #[.slice a0 n0 c0,.int .u64 x1]] w fun e w'=>∃ b n,e=.returned (.slice (some ⟨b,0,none⟩) n n)/\n=(thr (pnx (fun o=>([x0,x1]:List Int).getD o 0)) [(2,0),(0,1)] []).length/\Box w' b ((thr (pnx (fun o=>([x0,x1]:List Int).getD o 0)) [(2,0),(0,1)] []).map (Value.int .u8)) 5/\w.heap.size<=b/\Below w.heap.size w w':=by
 have b1:=ae w (.cells #[.slice a0 n0 c0,.int .u64 x1] 116);have U:=qF (g.keep b1) m0 (x1:=x1) (w:=w.alloc (.cells #[.slice a0 n0 c0,.int .u64 x1] 116));have c:=aB b1;generalize thr (pnx (fun o=>([x0,x1]:List Int).getD o 0)) [(2,0),(0,1)] []=M at *;have f:=aB U;clear U;go_enter Tryz.func88,Tryz.ntmps88;go_wp2_with fail;refine f.out.mono ?_
 rintro j d ⟨b,n,rfl,hn,X,hb,B⟩;have i:=aB (show n=M.length/\Box d b (M.map (Value.int .u8)) 5/\w.heap.size<=b/\Below w.heap.size w d from⟨hn,X,Nat.le_trans c.out.size hb,aj c.out B⟩);clear hn X hb B f c;go_wp2;go_ret;exact⟨b,n,rfl,i.out⟩
theorem rO(A:ByA w bb ao n c l)(hn:n<=1000000000)(E:l.length=n) :
  Calls Tryz.prog 128 #[.slice ao n c] w (qq w aU 2 mkA (thr rnx [(2,0),(0,1)] (0,l,fun _=>(0:Int)))):=by
 have b1:=ae w (.cells #[.slice none 0 0,.int .u64 0] 116);have y1:=aC w [.slice none 0 0,.int .u64 0] 116;have z1:=dn w (.cells #[.slice none 0 0,.int .u64 0] 116);have U:=pY (A.keep b1) hn E;generalize thr rnx [(2,0),(0,1)] (0,l,fun _=>(0:Int))=st at *;obtain⟨t,f⟩:∃ t,Hid (w.alloc (.cells #[.slice none 0 0,.int .u64 0] 116)=t):=⟨_,rfl⟩
 rw[f.out] at b1 y1 z1 U;have D:=aB U;have s:=aB b1;have C:=aB y1;have H:=aB z1;clear A E b1 y1 z1 U;go_enter Tryz.func128,Tryz.ntmps128;go_wp2_with fail;rw[f.out];refine D.out.mono ?_
 rintro G d ⟨⟨cs,xs,r,rfl,F,j,u,z⟩,B⟩;obtain⟨a0,n0,d0,q0,-,-⟩:=(j 0).2.2 rfl;have q1:=(j 1).1 rfl
 have o:cs=[.slice a0 n0 d0,.int .u64 (xs 1)]:=by
  apply List.ext_getElem?;intro i
  match i with
  | 0=>rw[q0]; rfl
  | 1=>rw[q1]; rfl
  | k + 2=>rw[List.getElem?_eq_none (by omega),List.getElem?_eq_none (by simp)]
 subst o;have b:=C.out.keep B;have v:=aj s.out B;have J:=b.cell (i:=0) rfl;have f0:=b.free 0;have K:=b.cell (i:=1) rfl;have f1:=b.free 1;have KB:=aB (show Blk ((d.setCell ⟨w.heap.size,0,none⟩ (.slice a0 n0 d0)).setCell ⟨w.heap.size,1,none⟩ (.int .u64 (xs 1))) w.heap.size [.slice a0 n0 d0,.int .u64 (xs 1)] 116 from((b.setCell (i:=0) (.slice a0 n0 d0)).setCell (i:=1) (.int .u64 (xs 1))));have q:=aB (show Chg (fun x=>x=w.heap.size) d ((d.setCell ⟨w.heap.size,0,none⟩ (.slice a0 n0 d0)).setCell ⟨w.heap.size,1,none⟩ (.int .u64 (xs 1))) from(((Chg.refl (fun x=>x=w.heap.size) d).cell (g:=w.heap.size) (i:=0) (.inl rfl) (.slice a0 n0 d0)).cell (g:=w.heap.size) (i:=1) (.inl rfl) (.int .u64 (xs 1))));have I:=aB (show qq w aU 2 mkA st (.returned (.tuple #[.agg #[.slice a0 n0 d0,.int .u64 (xs 1)],.int .i64 r])) ((d.setCell ⟨w.heap.size,0,none⟩ (.slice a0 n0 d0)).setCell ⟨w.heap.size,1,none⟩ (.int .u64 (xs 1))) from⟨⟨[.slice a0 n0 d0,.int .u64 (xs 1)],xs,r,rfl,rfl,(j.off q.out.size (fun y hy m=>q.out.same y m (fun e=>by have G:y=w.heap.size:=e; have:=H.out; omega))).low s.out.size,u,z⟩,((v.setCell (p:=⟨w.heap.size,0,none⟩) (Nat.le_refl _) (.slice a0 n0 d0)).setCell (p:=⟨w.heap.size,1,none⟩) (Nat.le_refl _) (.int .u64 (xs 1)))⟩);clear F j u z B b v D q C s q0 q1;simp only[mkA];go_wp2;refine bodyPost_ret (kF rfl rfl rfl (iY (KB.out.cell (i:=0) rfl) (KB.out.cell (i:=1) rfl))) rfl ?_
 exact I.out
theorem sd :
  Calls Tryz.prog 66 #[.agg #[.int .u64 x0,.int .u64 x1]] w fun e w'=>∃ b n,e=.returned (.slice (some ⟨b,0,none⟩) n n)/\n=(thr (pnx (fun o=>([x0,x1]:List Int).getD o 0)) [(0,0),(0,1)] []).length/\Box w' b ((thr (pnx (fun o=>([x0,x1]:List Int).getD o 0)) [(0,0),(0,1)] []).map (Value.int .u8)) 5/\w.heap.size<=b/\Below w.heap.size w w':=by
 have b1:=ae w (.cells #[.int .u64 x0,.int .u64 x1] 111);have U:=Bh (x0:=x0) (x1:=x1) (w:=w.alloc (.cells #[.int .u64 x0,.int .u64 x1] 111));have c:=aB b1;generalize thr (pnx (fun o=>([x0,x1]:List Int).getD o 0)) [(0,0),(0,1)] []=M at *;have f:=aB U;clear U;go_enter Tryz.func66,Tryz.ntmps66;go_wp2_with fail;refine f.out.mono ?_
 rintro i d ⟨b,n,rfl,hn,X,hb,B⟩;have g:=aB (show n=M.length/\Box d b (M.map (Value.int .u8)) 5/\w.heap.size<=b/\Below w.heap.size w d from⟨hn,X,Nat.le_trans c.out.size hb,aj c.out B⟩);clear hn X hb B f c;go_wp2;go_ret;exact⟨b,n,rfl,g.out⟩
theorem Dd(A:ByA w bb ao n c l)(hn:n<=1000000000)(E:l.length=n) :
  Calls Tryz.prog 85 #[.slice ao n c] w (qq w cn 2 mkA (thr rnx [(0,0),(0,1)] (0,l,fun _=>(0:Int)))):=by
 have b1:=ae w (.cells #[.int .u64 0,.int .u64 0] 111);have y1:=aC w [.int .u64 0,.int .u64 0] 111;have z1:=dn w (.cells #[.int .u64 0,.int .u64 0] 111);have U:=zm (A.keep b1) hn E;generalize thr rnx [(0,0),(0,1)] (0,l,fun _=>(0:Int))=st at *;obtain⟨t,f⟩:∃ t,Hid (w.alloc (.cells #[.int .u64 0,.int .u64 0] 111)=t):=⟨_,rfl⟩
 rw[f.out] at b1 y1 z1 U;have D:=aB U;have s:=aB b1;have C:=aB y1;have H:=aB z1;clear A E b1 y1 z1 U;go_enter Tryz.func85,Tryz.ntmps85;go_wp2_with fail;rw[f.out];refine D.out.mono ?_
 rintro G d ⟨⟨cs,xs,r,rfl,F,j,u,z⟩,B⟩;have q0:=(j 0).1 rfl;have q1:=(j 1).1 rfl
 have o:cs=[.int .u64 (xs 0),.int .u64 (xs 1)]:=by
  apply List.ext_getElem?;intro i
  match i with
  | 0=>rw[q0]; rfl
  | 1=>rw[q1]; rfl
  | k + 2=>rw[List.getElem?_eq_none (by omega),List.getElem?_eq_none (by simp)]
 subst o;have b:=C.out.keep B;have v:=aj s.out B;have J:=b.cell (i:=0) rfl;have f0:=b.free 0;have K:=b.cell (i:=1) rfl;have f1:=b.free 1;have KB:=aB (show Blk ((d.setCell ⟨w.heap.size,0,none⟩ (.int .u64 (xs 0))).setCell ⟨w.heap.size,1,none⟩ (.int .u64 (xs 1))) w.heap.size [.int .u64 (xs 0),.int .u64 (xs 1)] 111 from((b.setCell (i:=0) (.int .u64 (xs 0))).setCell (i:=1) (.int .u64 (xs 1))));have q:=aB (show Chg (fun x=>x=w.heap.size) d ((d.setCell ⟨w.heap.size,0,none⟩ (.int .u64 (xs 0))).setCell ⟨w.heap.size,1,none⟩ (.int .u64 (xs 1))) from(((Chg.refl (fun x=>x=w.heap.size) d).cell (g:=w.heap.size) (i:=0) (.inl rfl) (.int .u64 (xs 0))).cell (g:=w.heap.size) (i:=1) (.inl rfl) (.int .u64 (xs 1))));have I:=aB (show qq w cn 2 mkA st (.returned (.tuple #[.agg #[.int .u64 (xs 0),.int .u64 (xs 1)],.int .i64 r])) ((d.setCell ⟨w.heap.size,0,none⟩ (.int .u64 (xs 0))).setCell ⟨w.heap.size,1,none⟩ (.int .u64 (xs 1))) from⟨⟨[.int .u64 (xs 0),.int .u64 (xs 1)],xs,r,rfl,rfl,(j.off q.out.size (fun y hy m=>q.out.same y m (fun e=>by have G:y=w.heap.size:=e; have:=H.out; omega))).low s.out.size,u,z⟩,((v.setCell (p:=⟨w.heap.size,0,none⟩) (Nat.le_refl _) (.int .u64 (xs 0))).setCell (p:=⟨w.heap.size,1,none⟩) (Nat.le_refl _) (.int .u64 (xs 1)))⟩);clear F j u z B b v D q C s q0 q1;simp only[mkA];go_wp2;refine bodyPost_ret (kF rfl rfl rfl (sM (KB.out.cell (i:=0) rfl) (KB.out.cell (i:=1) rfl))) rfl ?_
 exact I.out
end
end Rc
end
section
open Go.RowKit Lim
end
section
open Go.RowKit Lim
structure Stp where
 what:Int
 num:Int
 na:Option Addr
 nn:Nat
 nc:Nat
 V:Int
 ba:Option Addr
 bn:Nat
 bc:Nat
 bb:Nat
 bl:List Int
 most:Int
end
end Go.Proofs.YthfepflplbahkaaGreatDoor
