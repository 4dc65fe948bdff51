/- Several texts, joined: Enc0, Enc1, Enc2, GcdOne, Small, Groups, CopyN, RefD, RefB, Enc8, Enc3, Enc4, Enc5, Enc6, Enc9, EncA, EncB, EncC, EncD, Enc7, EncE, RcA, RcB, RcC, RcD, RcE, RcF, RcG, RcH, RcI, EncF, EncG. -/
import Derived.Test.YthfepflplbahkaaGreatDoorJal
import Derived.Test.YthfepflplbahkaaGreatDoorJaa
import Derived.Deep.RegionWith
import Derived.OpenShut
import Derived.Laws.AppendOwnNone
import Derived.Deep.RegionLaw
import Derived.Laws.CopyOwn
import Derived.Great.FillDense
import Derived.Lib.SliceRun
import Derived.Test.YthfepflplbahkaaGreatDoorJac
import Derived.Test.YthfepflplbahkaaGreatDoorJaf
import Derived.Lib.SlBytesConst
set_option maxRecDepth 100000
set_option maxHeartbeats 8000000
namespace Go.Proofs.YthfepflplbahkaaGreatDoor
section
open Go.RowKit Lim
section
variable {w:World}{b n c k g:Nat}{ao:Option Addr}{l:List Int}{u v:Value}
structure ByA(w:World)(b:Nat)(ao:Option Addr)(n c:Nat)(l:List Int):Prop where
 ex:∃ o,l.length=n/\n<=c/\(c<=9223372036854775807/\(ao=none->c=0))/\bh l/\AtB w ao b o l
theorem ByA.keep{w':World}(h:ByA w b ao n c l)(hb:Below w.heap.size w w'):ByA w' b ao n c l:=by
 obtain⟨o,h1,h2,h3,h4,h5⟩:=h.ex;exact⟨o,h1,h2,h3,h4,h5.keep hb⟩
theorem addr_add(b o n:Nat):(⟨b,o,none⟩:Addr).add n=⟨b,o + n,none⟩:=by
 unfold Addr.add;split
 ·subst n; rfl
 ·rfl
def db(ao:Option Addr)(c n:Nat):Option Addr:=if c=n then ao else ao.map (·.add n)
theorem qV(h:db ao c k=none):ao=none:=by
 unfold db at h;split at h
 ·exact h
 ·cases ao with
  | none=>rfl
  | some a=>cases h
theorem ByA.rest(h:ByA w b ao n c l)(p:k<=n):ByA w b (db ao c k) (n - k) (c - k) (l.drop k):=by
 obtain⟨o,f,m,a,g,d⟩:=h.ex;by_cases hn:n=k
 ·have e:l.drop k=[]:=List.drop_eq_nil_of_le (by omega);rw[e];exact⟨0,by rw[hn]; simp,by omega,⟨by have:=a.1; omega,fun e=>by have:=a.2 (qV e); omega⟩,fun x hx=>by simp at hx,.inl rfl,fun i hi=>by simp at hi⟩
 ·have j:l≠[]:=fun e=>by rw[e] at f; simp at f; omega
  obtain rfl:ao=some ⟨b,o,none⟩:=by
   rcases d.loc with e | e
   ·exact absurd e j
   ·exact e
  have e:db (some ⟨b,o,none⟩) c k=some ⟨b,o + k,none⟩:=by
   unfold db;rw[if_neg (by omega)];exact congrArg some (addr_add b o k)
  rw[e];refine⟨o + k,by rw[List.length_drop]; omega,by omega,⟨by have:=a.1; omega,fun e=>by cases e⟩,fun x hx=>g x (List.mem_of_mem_drop hx),.inr rfl,fun i hi => ?_⟩;rw[List.length_drop] at hi;have:=d.cell (k + i) (by omega);rw[show o + k + i=o + (k + i) by omega,this,dG]
theorem ByA.front(h:ByA w b ao n c l)(m:k<=n):ByA w b ao k k (l.take k):=by
 obtain⟨o,j,g,d,f,a⟩:=h.ex;refine⟨o,by rw[List.length_take]; omega,Nat.le_refl _,⟨by have:=d.1; omega,fun e=>by have:=d.2 e; omega⟩,fun x hx=>f x (List.mem_of_mem_take hx),?_,fun i hi => ?_⟩
 ·rcases a.loc with e | e
  ·exact .inl (by rw[e]; simp)
  ·exact .inr e
 ·rw[List.length_take] at hi;rw[a.cell i (by omega),dr (by omega)]
theorem Box.two{t:TypeId}(h:Box w g [u,v] t):w.cell? ⟨g,0,none⟩=some u/\w.cell? ⟨g,1,none⟩=some v/\w.frozen? ⟨g,0,none⟩=false/\w.frozen? ⟨g,1,none⟩=false:=by
 have:=h.blk;simp[World.cell?,World.frozen?,this]
theorem fG{err:Int}{t:TypeId}(X:Box w g [.int .i64 err,v] t) :
  Calls Tryz.prog 198 #[.pointer (some ⟨g,0,none⟩)] w fun e w'=>e=.returned (.bool (err == 0))/\w'=w:=by
 obtain⟨c1,c2,b,a⟩:=X.two;go_enter Tryz.func198,Tryz.ntmps198;go_wp2;go_ret;exact⟨rfl,rfl⟩
theorem qt{e0:Int}{t:TypeId}(X:Box w g [.int .i64 0,v] t) :
  Calls Tryz.prog 223 #[.pointer (some ⟨g,0,none⟩),.int .i64 e0] w fun e w'=>e=.returned (.tuple #[])/\w'=w.setCell ⟨g,0,none⟩ (.int .i64 e0):=by
 obtain⟨c1,c2,b,a⟩:=X.two;go_enter Tryz.func223,Tryz.ntmps223;go_wp2_with fail;refine(fG X).mono ?_
 rintro e w' ⟨rfl,rfl⟩;go_wp2;go_end0;exact⟨rfl,rfl⟩
theorem vw{m:Int}{t:TypeId}(X:Box w g [u,.slice ao n c] t)(hn:n<=9223372036854775807)(hm:(n:Int) < m) :
  Calls Tryz.prog 255 #[.pointer (some ⟨g,0,none⟩),.int .u64 m] w fun e w'=>e=.returned (.tuple #[.slice none 0 0,.int .i64 40])/\w'=w:=by
 obtain⟨c1,c2,b,a⟩:=X.two;go_enter Tryz.func255,Tryz.ntmps255;go_wp2;go_ret2;exact⟨rfl,rfl⟩
theorem AB{m:Nat}{t:TypeId}(X:Box w g [u,.slice ao n c] t)(hc:n<=c)(hn:c<=9223372036854775807)(hm:m<=n) :
  Calls Tryz.prog 255 #[.pointer (some ⟨g,0,none⟩),.int .u64 m] w fun e w'=>e=.returned (.tuple #[.slice ao m m,.int .i64 0])/\w'=w.setCell ⟨g,1,none⟩ (.slice (db ao c m) (n - m) (c - m)):=by
 obtain⟨c1,c2,f,d⟩:=X.two
 have b:(m:Int)<=n:=by omega
 have a:(m:Int)<=c:=by omega
 go_enter Tryz.func255,Tryz.ntmps255;go_wp2
 ·go_ret2;exact⟨rfl,by unfold db; rw[if_pos rfl]⟩
 ·go_ret2;exact⟨rfl,by unfold db; rw[if_neg (by assumption)]⟩
end
end
section
open Go.RowKit Lim
section
variable {w w':World}{ao:Option Addr}{b g n c:Nat}{l:List Int}{cs:List Value}
theorem or8(a b:Int)(c:0<=a)(e:a < 72057594037927936)(d:0<=b)(f:b < 256):bits .or .u64 (a * 256) b=a * 256 + b:=qh (a * 256) b 8 a (by rw[show (2:Int) ^ 8=256 by decide]) c (by omega) d (by omega) (by omega)
theorem se(l:List Int)(x:Int):bO (l ++ [x])=bO l * 256 + x:=by
 induction l with
 | nil=>simp[bO]
 | cons y l ih =>
  rw[List.cons_append,bO,bO,ih,List.length_append,List.length_singleton,Int.pow_succ];grind
theorem AtB.box{o:Nat}(k:AtB w ao b o l){t:TypeId}(s:Box w g cs t)(hv:∀ v∈cs,∀ x,v≠.int .u8 x)(hw:∀ k,k≠g->w'.heap[k]? = w.heap[k]?):AtB w' ao b o l :=
 ⟨k.loc,fun i hi=>by
  have hc:=k.cell i hi;by_cases e:b=g
  ·subst e;simp only[World.cell?,s.blk] at hc
   have a:cs.toArray[o + i]? = some (.int .u8 (nth l i)):=by simpa using hc
   rw[List.getElem?_toArray] at a;exact absurd rfl (hv _ (List.mem_of_getElem? a) _)
  ·rw[World.cell?_of_block (w:=w) (hw b e)]; exact hc⟩
theorem ByA.box(h:ByA w b ao n c l){t:TypeId}(s:Box w g cs t)(hv:∀ v∈cs,∀ x,v≠.int .u8 x)(hw:∀ k,k≠g->w'.heap[k]? = w.heap[k]?):ByA w' b ao n c l:=by
 obtain⟨o,d,e,i,f,a⟩:=h.ex;exact⟨o,d,e,i,f,a.box s hv hw⟩
theorem kM(err:Int)(ao:Option Addr)(n c:Nat):∀ v∈[Value.int .i64 err,Value.slice ao n c],∀ x,v≠.int .u8 x:=fun v hv x e=>by
 rcases List.mem_cons.1 hv with h | h
 ·subst h; cases e
 ·rw[List.mem_singleton] at h; subst h; cases e
theorem rdNum{m:Nat}{err:Int}{t:TypeId}(X:Box w g [.int .i64 err,.slice ao n c] t)(h:ByA w b ao n c l)(hm:m<=n)(h8:m<=8) :
  Calls Tryz.prog 244 #[.pointer (some ⟨g,0,none⟩),.int .u64 m] w fun e w'=>e=.returned (.tuple #[.int .u64 (bO (l.take m)),.int .i64 0])/\w'=w.setCell ⟨g,1,none⟩ (.slice (db ao c m) (n - m) (c - m)):=by
 obtain⟨o,L,B,⟨E,-⟩,s,I⟩:=h.ex
 have hA:ByA (w.setCell ⟨g,1,none⟩ (.slice (db ao c m) (n - m) (c - m))) b ao n c l:=h.box X (kM _ _ _ _) fun k y=>Below.heap_setCell _ _ _ k y
 have t:=AB (m:=m) X B E hm;obtain⟨H,-,-,-,-,d⟩:=hA.ex;clear hA I h X
 have v:Hid (bh l):=s;clear s;go_enter Tryz.func244,Tryz.ntmps244;go_wp2_with fail;refine t.mono ?_
 rintro e w' ⟨rfl,rfl⟩;clear t;generalize hWW:w.setCell ⟨g,1,none⟩ (.slice (db ao c m) (n - m) (c - m))=W at *;have p:=(show Hid _ from hWW)
 clear hWW;go_wp2_with fail;go_loop [8,10,19] (fun J K j=>∃ k:Nat,k<=m/\j=.int .i64 k/\J=.int .u64 (bO (l.take k))) (fun _ _ j=>m - (intOf j).toNat)
 case atStart=>exact⟨0,Nat.zero_le _,rfl,rfl⟩
 case round =>
  obtain⟨k,y,rfl,rfl⟩:=hrel;by_cases G:k < m
  ·have a:k < l.length:=by omega
   have i:=d.cell k a;obtain rfl:ao=some ⟨b,H,none⟩:=by
    rcases d.loc with e | e
    ·rw[e] at a; simp at a
    ·exact e
   have C:(k:Int) < m:=by omega
   have u:=v.out.nth k;have r:=bM (l:=l.take k) (fun x hx=>v.out x (List.mem_of_mem_take hx))
   have A:(256:Int) ^ (l.take k).length<=256 ^ 7:=gK (by rw[List.length_take]; omega)
   have f:bO (l.take k) < 72057594037927936:=by
    have M:(256:Int) ^ 7=72057594037927936:=by decide
    omega
   have q:=r.1;have F:=or8 (bO (l.take k)) (nth l k) q f u.1 u.2
   have z:Hid (bO (l.take (k + 1))=bO (l.take k) * 256 + nth l k):=by show _=_; rw[dR a,se]
   clear r A;generalize bO (l.take k)=V at *;generalize nth l k=D at *;go_wp2;go_round
   case rel=>exact⟨k + 1,by omega,by go_num,by rw[z.out]⟩
   case measure=>simp[intOf]; omega
  ·obtain rfl:k=m:=by omega
   go_wp2;go_ret2;exact⟨rfl,p.out.symm⟩
end
end
section
open Go.RowKit Lim
section
variable {g n c gr gs:Nat}{w w':World}{a b v fv:Value}{m err x e0:Int}{ao:Option Addr}{Q:World → Prop}{l:List Int}
structure But(g:Nat)(w w':World):Prop where
 os:w'.os=w.os
 tape:w'.tape=w.tape
 output:w'.output=w.output
 size:w.heap.size<=w'.heap.size
 block:∀ k,k < w.heap.size->k≠g->w'.heap[k]? = w.heap[k]?
theorem But.below{B:Nat}{w0:World}(h:But g w w')(b:Below B w0 w)(c:B<=g)(hs:B<=w0.heap.size):Below B w0 w' :=
 ⟨h.os.trans b.os,h.tape.trans b.tape,h.output.trans b.output,Nat.le_trans b.size h.size,fun k a=>(h.block k (Nat.lt_of_lt_of_le (Nat.lt_of_lt_of_le a hs) b.size) (by omega)).trans (b.block k a)⟩
theorem wJ{w1 a c:World}(b:Below w.heap.size w w1)(h:∀ k,k≠g->a.heap[k]? = w1.heap[k]?)(l:a.os=w1.os)(f:a.tape=w1.tape)(d:a.output=w1.output)(hs:a.heap.size=w1.heap.size)(e:c=a):But g w c:=by
 subst e;exact⟨l.trans b.os,f.trans b.tape,d.trans b.output,by rw[hs]; exact b.size,fun k i j=>(h k j).trans (b.block k i)⟩
theorem eQ{t:TypeId}(h:Box w g [a,b] t)(v:Value):Box (w.setCell ⟨g,1,none⟩ v) g [a,v] t:=⟨by
 have:=h.blk;simp only[World.setCell,Array.getElem?_modify,if_true,this];simp⟩
theorem jz{t:TypeId}(h:Box w g [a,b] t)(v:Value):Box (w.setCell ⟨g,0,none⟩ v) g [v,b] t:=⟨by
 have:=h.blk;simp only[World.setCell,Array.getElem?_modify,if_true,this];simp⟩
theorem Ad{t:TypeId}(X:Box w g [.int .i64 err,.slice ao n c] t)(hn:n<=9223372036854775807)(hm:(n:Int) < m) :
  Calls Tryz.prog 244 #[.pointer (some ⟨g,0,none⟩),.int .u64 m] w fun e w'=>e=.returned (.tuple #[.int .u64 0,.int .i64 40])/\w'=w:=by
 have t:=vw X hn hm;clear hm;go_enter Tryz.func244,Tryz.ntmps244;go_wp2_with fail;refine t.mono ?_
 rintro e w' ⟨rfl,rfl⟩;clear t;go_wp2_with fail;go_loop [8,10,19] (fun a d b=>a=.int .u64 0/\b=.int .i64 0) (fun _ _ _=>0)
 case atStart=>exact⟨rfl,rfl⟩
 case round =>
  obtain⟨rfl,rfl⟩:=hrel;go_wp2;go_ret2;exact⟨rfl,rfl⟩
theorem yX(c : w.cell? ⟨gr, 0, none⟩ = some (.pointer (some ⟨g, 0, none⟩)))(hs : w.cell? ⟨gs, 0, none⟩ = some (.int .u64 m))(a : Calls Tryz.prog 244 #[.pointer (some ⟨g, 0, none⟩), .int .u64 m] w fun e w' => e = .returned (.tuple #[.int .u64 x, .int .i64 e0]) ∧ Q w') :
    Calls Tryz.prog 243 #[.pointer (some ⟨gr, 0, none⟩), .pointer (some ⟨gs, 0, none⟩)] w fun e w' => e = .returned (.tuple #[.int .u64 x, .int .i64 e0]) ∧ Q w' := by
  go_enter Tryz.func243, Tryz.ntmps243;go_wp2_with fail;refine a.mono ?_
  rintro e w' ⟨rfl, b⟩;clear a;go_wp2;go_ret2;exact⟨rfl, b⟩
theorem enBad{t:TypeId}(X:Box w g [.int .i64 err,v] t)(he:err≠0) :
  Calls Tryz.prog 242 #[.pointer (some ⟨g,0,none⟩),fv] w fun e w'=>e=.returned (.int .u64 0)/\w'=w:=by
 have hb:(err == 0)=false:=beq_eq_false_iff_ne.2 he;have t:=fG X;rw[hb] at t;clear he hb;go_enter Tryz.func242,Tryz.ntmps242;go_wp2_with fail;refine t.mono ?_
 rintro e w' ⟨rfl,rfl⟩;clear t;go_wp2;go_ret;exact⟨rfl,rfl⟩
theorem enOk{t:TypeId}{Q:World->Prop}(X:Box w g [.int .i64 0,.slice ao n c] t)(a:Calls Tryz.prog 243 #[.pointer (some ⟨gr,0,none⟩),.pointer (some ⟨gs,0,none⟩)] w fun e w'=>e=.returned (.tuple #[.int .u64 x,.int .i64 0])/\Q w') :
  Calls Tryz.prog 242 #[.pointer (some ⟨g,0,none⟩),.func (.func 243) #[] #[.pointer (some ⟨gr,0,none⟩),.pointer (some ⟨gs,0,none⟩)]] w fun e w'=>e=.returned (.int .u64 x)/\Q w':=by
 obtain⟨c1,c2,h,f⟩:=X.two;have t:=fG X;go_enter Tryz.func242,Tryz.ntmps242;go_wp2_with fail;refine t.mono ?_
 rintro e w' ⟨rfl,rfl⟩;clear t;go_wp2_with fail;refine a.mono ?_
 rintro e d ⟨rfl,b⟩;clear a;go_wp2;go_ret;exact⟨rfl,b⟩
theorem enErr{t:TypeId}(he:e0≠0)(X:Box w g [.int .i64 0,.slice ao n c] t)(b:Calls Tryz.prog 243 #[.pointer (some ⟨gr,0,none⟩),.pointer (some ⟨gs,0,none⟩)] w fun e w'=>e=.returned (.tuple #[.int .u64 x,.int .i64 e0])/\w'=w) :
  Calls Tryz.prog 242 #[.pointer (some ⟨g,0,none⟩),.func (.func 243) #[] #[.pointer (some ⟨gr,0,none⟩),.pointer (some ⟨gs,0,none⟩)]] w fun e w'=>e=.returned (.int .u64 0)/\w'=(w.setCell ⟨g,1,none⟩ (.slice ao n c)).setCell ⟨g,0,none⟩ (.int .i64 e0):=by
 obtain⟨c1,c2,j,i⟩:=X.two
 have d:Box (w.setCell ⟨g,1,none⟩ (.slice ao n c)) g [.int .i64 0,.slice ao n c] t:=eQ X _;have a:=fG X
 have hb:(e0 == 0)=false:=beq_eq_false_iff_ne.2 he;clear he;go_enter Tryz.func242,Tryz.ntmps242;go_wp2_with fail;refine a.mono ?_
 rintro e w' ⟨rfl,rfl⟩;clear a;go_wp2_with fail;refine b.mono ?_
 rintro e h ⟨rfl,rfl⟩;clear b;go_wp2_with fail;refine(qt d).mono ?_
 rintro e f ⟨rfl,rfl⟩;go_wp2;go_ret;exact⟨rfl,rfl⟩
structure RdA(w:World)(g b:Nat)(err:Int)(l:List Int):Prop where
 ex:∃ ao n c,Box w g [.int .i64 err,.slice ao n c] 298/\ByA w b ao n c l
theorem RdA.keep{b:Nat}(h:RdA w g b err l)(hb:Below w.heap.size w w'):RdA w' g b err l:=by
 obtain⟨ao,n,c,h1,h2⟩:=h.ex;exact⟨ao,n,c,h1.keep hb,h2.keep hb⟩
def qp(m:Nat)(err:Int)(l:List Int):Int:=if err=0/\m<=l.length then bO (l.take m) else 0
def oN(m:Nat)(err:Int)(l:List Int):Int:=if err=0 then (if m<=l.length then 0 else 40) else err
def pB(m:Nat)(err:Int)(l:List Int):List Int:=if err=0/\m<=l.length then l.drop m else l
theorem size_set(w:World)(p:Addr)(v:Value):(w.setCell p v).heap.size=w.heap.size:=by simp[World.setCell]
theorem A7{b m:Nat}(h:RdA w g b err l)(h8:m<=8) :
  Calls Tryz.prog 218 #[.pointer (some ⟨g,0,none⟩),.int .u64 m] w fun e w'=>e=.returned (.int .u64 (qp m err l))/\RdA w' g b (oN m err l) (pB m err l)/\But g w w':=by
 have a:=oK w (.cells #[.pointer (some ⟨g,0,none⟩)] 260) (.cells #[.int .u64 m] 22);have y:=(eH w (.pointer (some ⟨g,0,none⟩)) 260).alloc (.cells #[.int .u64 m] 22);have x:=mz w (.cells #[.pointer (some ⟨g,0,none⟩)] 260) (.int .u64 (m:Int)) 22;have G:=h.ex;obtain⟨E,n,c,v,i⟩:=G;have z:=v.lt;have X:=v.keep a;have hA:=i.keep a;obtain⟨o,B,C,⟨D,-⟩,A,H⟩:=hA.ex;have q1:=y.cell;have s:=x.cell;clear H;by_cases he:err=0
 ·subst he;by_cases hm:m<=n
  ·have t:=enOk X (yX q1 s (rdNum X hA hm h8))
   have u:Hid (qp m 0 l=bO (l.take m)):=by show _=_; unfold qp; rw[if_pos ⟨rfl,by omega⟩]
   have p:Hid (∀ d,d=(((w.alloc (.cells #[.pointer (some ⟨g,0,none⟩)] 260)).alloc (.cells #[.int .u64 m] 22)).setCell ⟨g,1,none⟩ (.slice (db E c m) (n - m) (c - m)))->RdA d g b (oN m 0 l) (pB m 0 l)/\But g w d):=by
    intro d e;subst e;refine⟨?_,?_⟩
    ·unfold oN pB;rw[if_pos rfl,if_pos (by omega),if_pos ⟨rfl,by omega⟩];exact⟨_,_,_,eQ X _,(hA.rest hm).box X (kM _ _ _ _) fun k f=>Below.heap_setCell _ _ _ k f⟩
    ·exact wJ a (fun k f=>Below.heap_setCell _ _ _ k f) rfl rfl rfl (size_set _ _ _) rfl
   clear v i X hA y x h B C D A q1 s a;go_enter Tryz.func218,Tryz.ntmps218;go_wp2_with fail;refine t.mono ?_
   rintro e F ⟨rfl,j⟩;have q:=(show Hid _ from p.out _ j)
   clear t j p;go_wp2;go_ret;exact⟨by rw[u.out]; rfl,q.out⟩
  ·have t:=enErr (by decide) X (yX q1 s (Ad X (by omega) (by omega:(n:Int) < m)))
   have u:Hid (qp m 0 l=0):=by show _=_; unfold qp; rw[if_neg (fun r=>hm (by omega))]
   have p:Hid (∀ d,d=((((w.alloc (.cells #[.pointer (some ⟨g,0,none⟩)] 260)).alloc (.cells #[.int .u64 m] 22)).setCell ⟨g,1,none⟩ (.slice E n c)).setCell ⟨g,0,none⟩ (.int .i64 40))->RdA d g b (oN m 0 l) (pB m 0 l)/\But g w d):=by
    intro d e;subst e;refine⟨?_,?_⟩
    ·unfold oN pB;rw[if_pos rfl,if_neg (by omega),if_neg (fun r=>hm (by omega))];exact⟨_,_,_,jz (eQ X _) _,hA.box X (kM _ _ _ _) fun k f=>by rw[Below.heap_setCell _ _ _ k f,Below.heap_setCell _ _ _ k f]⟩
    ·exact⟨a.os,a.tape,a.output,by rw[size_set,size_set]; exact a.size,fun k f z=>by rw[Below.heap_setCell _ _ _ k z,Below.heap_setCell _ _ _ k z]; exact a.block k f⟩
   clear v i X hA y x h B C D A q1 s a hm;go_enter Tryz.func218,Tryz.ntmps218;go_wp2_with fail;refine t.mono ?_
   rintro e F ⟨rfl,j⟩;have q:=(show Hid _ from p.out _ j)
   clear t j p;go_wp2;go_ret;exact⟨by rw[u.out]; rfl,q.out⟩
 ·have t:=fun fv=>enBad (fv:=fv) X he
  have u:Hid (qp m err l=0):=by show _=_; unfold qp; rw[if_neg (fun r=>he r.1)]
  have p:Hid (∀ d,d=((w.alloc (.cells #[.pointer (some ⟨g,0,none⟩)] 260)).alloc (.cells #[.int .u64 m] 22))->RdA d g b (oN m err l) (pB m err l)/\But g w d):=by
   intro d e;subst e;refine⟨?_,?_⟩
   ·unfold oN pB;rw[if_neg he,if_neg (fun r=>he r.1)];exact⟨_,_,_,X,hA⟩
   ·exact⟨a.os,a.tape,a.output,a.size,fun k f _=>a.block k f⟩
  clear v i X hA y x h B C D A q1 s a he;go_enter Tryz.func218,Tryz.ntmps218;go_wp2_with fail;refine(t _).mono ?_
  rintro e F ⟨rfl,j⟩;have q:=(show Hid _ from p.out _ j)
  clear t j p;go_wp2;go_ret;exact⟨by rw[u.out]; rfl,q.out⟩
end
end
section
open Go.RowKit Lim
end
section
open Go.RowKit Lim
def l8 (w:World) (a:Option Addr) (len cap:Nat) (zs:List Int):Prop :=
 (a=none/\len=0/\cap=0/\zs=[]) \/
 ∃ x,a=some x/\len<=cap/\cap<=maxLen/\zs.length=cap/\(∀ i,i < zs.length->w.cell? (x.add i)=some (.int .u64 (zs.getD i 0)))/\∀ n∈zs,(Lit.int .u64 n).wf=true
theorem l8.open {w:World} {a:Option Addr} {len cap:Nat} {zs:List Int} (h:l8 w a len cap zs):∃ b o l,l.length=len/\len<=cap/\len<=9223372036854775807/\Words l/\At w a b o l:=by
 rcases h with⟨rfl,rfl,rfl,rfl⟩ | ⟨x,rfl,h1,h2,h3,h4,h5⟩
 ·exact⟨0,0,[],rfl,Nat.le_refl _,by decide,Words.nil,.inl rfl,fun i hi=>by simp at hi⟩
 ·have hw:Words (zs.take len):=fun y hy=>by
   have:=h5 y (List.mem_of_mem_take hy);have:=bounds_u64 this;omega
  have m:(zs.take len).length=len:=by simp; omega
  have j:len<=9223372036854775807:=by unfold maxLen at h2; omega
  by_cases n:len=0
  ·refine⟨0,0,zs.take len,m,h1,j,hw,.inl (List.eq_nil_of_length_eq_zero (by omega)),fun i hi=>by omega⟩
  ·have hx:=h4 0 (by omega)
   have d:x.spot=none:=by
    rw[show x.add 0=x from rfl] at hx;simp only[World.cell?] at hx
    cases hh:w.heap[x.block]? with
    | none=>rw[hh] at hx; simp at hx
    | some ob =>
     rw[hh] at hx
     cases ob with
     | cells c e f =>
      simp at hx
      cases hs:x.spot with
      | none=>rfl
      | some s=>rw[hs] at hx; simp at hx
     | _=>simp at hx
   obtain⟨b,o,sp⟩:=x;simp at d;subst d;refine⟨b,o,zs.take len,m,h1,j,hw,.inr rfl,fun i hi => ?_⟩;have k:=h4 i (by omega);rw[dr (by omega)]
   have e:(⟨b,o,none⟩:Addr).add i=⟨b,o + i,none⟩:=by
    by_cases g:i=0
    ·subst g; rfl
    ·simp[Addr.add,g]
   rw[e] at k;exact k
end
section
open Go.RowKit Lim
section
variable {l:List Int}{w:World}{v:Value}{xs:List Value}
def fA(w:World)(B:Nat)(v:Value)(l:List Int):Prop:=w.ownsRow B 5 1 v l.length (l.map (Value.int .u8))
def dvI(l:List Int):Int:=l.foldl (fun x c=>10 * x + (c - 48)) 0
def fB(l:List Int):Prop:=∀ c∈l,48<=c/\c<=57
theorem lM(l:List Int)(c:Int):dvI (l ++ [c])=10 * dvI l + (c - 48):=by simp[dvI,List.foldl_append]
theorem fB.snoc{c:Int}(h:fB l)(h1:48<=c)(h2:c<=57):fB (l ++ [c]):=by
 intro x hx;rcases List.mem_append.1 hx with e | e
 ·exact h x e
 ·simp at e; subst e; exact⟨h1,h2⟩
theorem fE(a b:List Int):dvI (a ++ b)=dvI a * 10 ^ b.length + dvI b:=by
 have key:∀ (b:List Int) (x:Int),b.foldl (fun x c=>10 * x + (c - 48)) x=x * 10 ^ b.length + dvI b:=by
  intro b
  induction b with
  | nil=>intro x; simp[dvI]
  | cons c b ih =>
   intro x
   have e:dvI (c :: b)=(c - 48) * 10 ^ b.length + dvI b:=by rw[dvI,List.foldl_cons,ih]; simp
   rw[List.foldl_cons,ih,e,List.length_cons,Int.pow_succ]; grind
 rw[dvI,List.foldl_append,key]; rfl
theorem sE{B:Nat}{e:TypeId}{n:Nat}(h:w.ownsRow B e 1 v n xs):∀ g,v.ownBlock=some g->B<=g:=by
 intro g a;rcases h.2 with⟨rfl,_⟩ | ⟨g',cap,cur,rfl,hB,_⟩
 ·simp[Value.ownBlock] at a
 ·simp[Value.ownBlock] at a; omega
theorem y8(x p:Int)(hp:0 < p):10 * (x / (p * 10)) + x / p % 10=x / p:=by
 rw[<- Int.ediv_ediv_of_nonneg (Int.le_of_lt hp)]; omega
theorem kW(B:Nat)(v:Value)(l:List Int)(x:Int)(w:World)(hB:B<=w.heap.size)(hm:fA w B v l)(P:l.length<=35184372088832)(q:0<=x)(E:x < 10000000000000000000) :
  Calls Tryz.prog 103 #[v,.int .u64 x] w fun e w'=>∃ v' d,e=.returned v'/\fA w' B v' (l ++ d)/\fB d/\d.length=19/\dvI d=x/\Below B w w':=by
 obtain⟨i0,hi,G,C,F⟩:=info_parts lE;have H:=fun wx=>oA 18 wx (by decide)
 rw[show ((18:Nat):Int)=18 from rfl,show (10:Int) ^ 18=1000000000000000000 from by decide] at H;go_enter Tryz.func103,Tryz.ntmps103;go_wp2_with (go_at_call 161; refine(H _).mono ?_; rintro e T ⟨rfl,rfl⟩);clear H;go_loopw [0,5,7] (fun tz tp I wr=>∃ (k:Nat) (p:Int) (d:List Int),k<=19/\I=.int .i64 k/\tp=.int .u64 p/\0<=p/\p<=1000000000000000000/\Hid (k < 19->p * 10 ^ k=1000000000000000000)/\d.length=k/\fB d/\Hid (dvI d=x / 10 ^ (19 - k))/\fA wr B tz (l ++ d)/\Below B T wr) (fun _ _ I _=>19 - (intOf I).toNat)
 case atStart=>exact⟨0,_,[],by decide,rfl,rfl,by decide,by decide,fun _=>by decide,rfl,fun c hc=>by simp at hc,by show _=_; rw[show (10:Int) ^ (19 - 0)=10000000000000000000 from by decide,Int.ediv_eq_zero_of_lt q E]; rfl,by rw[List.append_nil]; exact hm,Below.refl _ _⟩
 case round =>
  obtain⟨k,p,d,hk,rfl,rfl,z,hp1,S,K,y,n,g,i⟩:=hrel;have Z:=i.size;by_cases A:k < 19
  ·have o:=S.out A
   have J:0 < p:=by
    by_cases c:0 < p
    ·exact c
    ·have:p=0:=by omega
     subst this; simp at o
   have a:p=10 ^ (18 - k):=by
    have e:(10:Int) ^ (18 - k) * 10 ^ k=1000000000000000000:=by rw[<- Int.pow_add,show 18 - k + k=18 from by omega]; decide
    have M:(0:Int) < 10 ^ k:=Int.pow_pos (by decide);exact Int.eq_of_mul_eq_mul_right (by omega) (o.trans e.symm)
   have Q:=y8 x p J
   have L:Hid (10 * dvI d + x / p % 10=x / 10 ^ (19 - (k + 1))):=by
    show _=_
    rw[n.out,show 19 - (k + 1)=18 - k from by omega,<- a,<- Q];congr 3
    rw[show 19 - k=(18 - k) + 1 from by omega,Int.pow_succ,<- a]
   have HP:Hid (k + 1 < 19->p / 10 * 10 ^ (k + 1)=1000000000000000000):=by
    intro h;obtain⟨j,X⟩:∃ j,18 - k=j + 1:=⟨17 - k,by omega⟩
    rw[X,Int.pow_succ] at a;have:p / 10=10 ^ j:=by rw[a]; omega
    rw[this,<- Int.pow_add,show j + (k + 1)=18 from by omega]; decide
   have W:(p == 0)=false:=beq_eq_false_iff_ne.2 (by omega);have s:=Int.emod_nonneg (x / p) (show (10:Int)≠0 by decide);have t:=Int.emod_lt_of_pos (x / p) (show (0:Int) < 10 by decide)
   have hxp:0<=x / p:=Int.ediv_nonneg q z
   have R:x / p<=x:=Int.ediv_le_self p q;have HPE:=(show Hid _ from a)
   clear a o Q S n;obtain⟨D,hD⟩:∃ D,x / p % 10=D:=⟨_,rfl⟩
   rw[hD] at L s t
   have m:wr.ownsRow B 5 1 _ (l ++ d).length ((l ++ d).map (Value.int .u8)):=g
   have hnn:(l ++ d).length<=35184372088860:=by simp; omega
   generalize hNN:(l ++ d).length=N at *
   have V:Hid ((l ++ d).length=N):=hNN;clear hNN;go_wp2_with (at_builtin; refine wpList_append_own _ rfl _ _ 96 rfl B 5 i0 (.int .u8 0) 1 1 cC hi G C F rfl (by decide) _ _ _ rfl (m.alloc _) ⟨wr.heap.size,0,none⟩ 1 1 [.int .u8 (48 + D)] rfl rfl ?c1 ?c2 ?c3 ?c4 ?c5 ?_)
   case c1=>exact cell_one_new _ _ _
   case c2=>intro u hu; simp at hu; subst hu; rfl
   case c3=>unfold maxLen; omega
   case c4=>omega
   case c5=>simp; omega
   intro v' O f b _
   have Y:fA O B v' (l ++ (d ++ [48 + D])):=by
    unfold fA;rw[show (l ++ (d ++ [48 + D])).length=N + 1 from by rw[<- V.out]; simp; omega,List.map_append,List.map_append]; exact f
   have U:Below B T O:=(i.alloc (by omega) _).grown b (by simp; omega) (sE g);clear f b m g i;go_wp2;go_roundw
   case rel=>exact⟨k + 1,p / 10,d ++ [48 + D],by omega,by go_num,rfl,by omega,by omega,HP,by simp; omega,y.snoc (by omega) (by omega),by show _=_; rw[lM,<- L.out]; omega,Y,U⟩
   case measure=>simp[intOf]; omega
  ·have r:k=19:=by omega
   subst r
   have hv:dvI d=x:=by rw[n.out]; simp
   go_wp2;go_ret;exact⟨_,d,rfl,g,y,K,hv,i⟩
end
end
section
open Go.RowKit Lim
end
section
open Go.RowKit Lim
def halves:List Int->List Int
 | []=>[]
 | x :: l=>x % 4294967296 :: x / 4294967296 :: halves l
end
section
open Go.RowKit Lim
end
section
open Go.RowKit Lim
section
variable {w:World}{g n c:Nat}{err e0:Int}{v fv:Value}{ao:Option Addr}{Q:Value->World->Prop}
theorem Bq{t:TypeId}(X:Box w g [.int .i64 err,v] t)(he:err≠0) :
  Calls Tryz.prog 219 #[.pointer (some ⟨g,0,none⟩),fv] w fun e w'=>e=.returned (.bool false)/\w'=w:=by
 have hb:(err == 0)=false:=beq_eq_false_iff_ne.2 he;have t:=fG X;rw[hb] at t;clear he hb;go_enter Tryz.func219,Tryz.ntmps219;go_wp2_with fail;refine t.mono ?_
 rintro e w' ⟨rfl,rfl⟩;clear t;go_wp2;go_ret;exact⟨rfl,rfl⟩
theorem enBoOk{t:TypeId}(X:Box w g [.int .i64 0,.slice ao n c] t)(a:Calls Tryz.prog 220 #[.pointer (some ⟨g,0,none⟩)] w fun e w'=>∃ v,e=.returned (.tuple #[v,.int .i64 0])/\Q v w') :
  Calls Tryz.prog 219 #[.pointer (some ⟨g,0,none⟩),.func (.func 220) #[.pointer (some ⟨g,0,none⟩)] #[]] w fun e w'=>∃ v,e=.returned v/\Q v w':=by
 obtain⟨c1,c2,i,h⟩:=X.two;have t:=fG X;go_enter Tryz.func219,Tryz.ntmps219;go_wp2_with fail;refine t.mono ?_
 rintro e w' ⟨rfl,rfl⟩;clear t;go_wp2_with fail;refine a.mono ?_
 rintro e f ⟨v,rfl,b⟩;have d:=(show Hid _ from b)
 clear a b;go_wp2;go_ret;exact⟨v,rfl,d.out⟩
theorem Cf{t:TypeId}(he:e0≠0)(X:Box w g [.int .i64 0,.slice ao n c] t)(k:∀ v w1,Q v w1->∃ y,Box w1 g [.int .i64 0,y] t)(j:Calls Tryz.prog 220 #[.pointer (some ⟨g,0,none⟩)] w fun e w'=>∃ v,e=.returned (.tuple #[v,.int .i64 e0])/\Q v w') :
  Calls Tryz.prog 219 #[.pointer (some ⟨g,0,none⟩),.func (.func 220) #[.pointer (some ⟨g,0,none⟩)] #[]] w fun e w'=>e=.returned (.bool false)/\∃ v w1,Q v w1/\w'=(w1.setCell ⟨g,1,none⟩ (.slice ao n c)).setCell ⟨g,0,none⟩ (.int .i64 e0):=by
 obtain⟨c1,c2,o,m⟩:=X.two;have h:=fG X
 have hb:(e0 != 0)=true:=bne_iff_ne.2 he;have l:=(show Hid _ from k)
 clear he k;go_enter Tryz.func219,Tryz.ntmps219;go_wp2_with fail;refine h.mono ?_
 rintro e w' ⟨rfl,rfl⟩;clear h;go_wp2_with fail;refine j.mono ?_
 rintro e w1 ⟨v,rfl,a⟩;obtain⟨y,f⟩:=l.out v w1 a;have p:=(show Hid _ from a)
 have i:Box (w1.setCell ⟨g,1,none⟩ (.slice ao n c)) g [.int .i64 0,.slice ao n c] t:=eQ f _;obtain⟨d1,d2,d3,d4⟩:=f.two;have t3:=qt (e0:=e0) i;clear j a l X f i c1 c2 o m d1 d3;go_wp2_with fail;refine t3.mono ?_
 rintro e q ⟨rfl,b⟩;have d:=(show Hid _ from b)
 clear t3 b;go_wp2;go_ret;exact⟨rfl,v,w1,p.out,d.out⟩
theorem Bw{t:TypeId}(X:Box w g [.int .i64 err,v] t)(he:err≠0) :
  Calls Tryz.prog 245 #[.pointer (some ⟨g,0,none⟩),fv] w fun e w'=>e=.returned (.slice none 0 0)/\w'=w:=by
 have hb:(err == 0)=false:=beq_eq_false_iff_ne.2 he;have t:=fG X;rw[hb] at t;clear he hb;go_enter Tryz.func245,Tryz.ntmps245;go_wp2_with fail;refine t.mono ?_
 rintro e w' ⟨rfl,rfl⟩;clear t;go_wp2;go_ret;exact⟨rfl,rfl⟩
theorem enNaOk{t:TypeId}(X:Box w g [.int .i64 0,.slice ao n c] t)(a:Calls Tryz.prog 246 #[.pointer (some ⟨g,0,none⟩)] w fun e w'=>∃ v,e=.returned (.tuple #[v,.int .i64 0])/\Q v w') :
  Calls Tryz.prog 245 #[.pointer (some ⟨g,0,none⟩),.func (.func 246) #[.pointer (some ⟨g,0,none⟩)] #[]] w fun e w'=>∃ v,e=.returned v/\Q v w':=by
 obtain⟨c1,c2,i,h⟩:=X.two;have t:=fG X;go_enter Tryz.func245,Tryz.ntmps245;go_wp2_with fail;refine t.mono ?_
 rintro e w' ⟨rfl,rfl⟩;clear t;go_wp2_with fail;refine a.mono ?_
 rintro e f ⟨v,rfl,b⟩;have d:=(show Hid _ from b)
 clear a b;go_wp2;go_ret;exact⟨v,rfl,d.out⟩
theorem CV{t:TypeId}(he:e0≠0)(X:Box w g [.int .i64 0,.slice ao n c] t)(k:∀ v w1,Q v w1->∃ y,Box w1 g [.int .i64 0,y] t)(j:Calls Tryz.prog 246 #[.pointer (some ⟨g,0,none⟩)] w fun e w'=>∃ v,e=.returned (.tuple #[v,.int .i64 e0])/\Q v w') :
  Calls Tryz.prog 245 #[.pointer (some ⟨g,0,none⟩),.func (.func 246) #[.pointer (some ⟨g,0,none⟩)] #[]] w fun e w'=>e=.returned (.slice none 0 0)/\∃ v w1,Q v w1/\w'=(w1.setCell ⟨g,1,none⟩ (.slice ao n c)).setCell ⟨g,0,none⟩ (.int .i64 e0):=by
 obtain⟨c1,c2,o,m⟩:=X.two;have h:=fG X
 have hb:(e0 != 0)=true:=bne_iff_ne.2 he;have l:=(show Hid _ from k)
 clear he k;go_enter Tryz.func245,Tryz.ntmps245;go_wp2_with fail;refine h.mono ?_
 rintro e w' ⟨rfl,rfl⟩;clear h;go_wp2_with fail;refine j.mono ?_
 rintro e w1 ⟨v,rfl,a⟩;obtain⟨y,f⟩:=l.out v w1 a;have p:=(show Hid _ from a)
 have i:Box (w1.setCell ⟨g,1,none⟩ (.slice ao n c)) g [.int .i64 0,.slice ao n c] t:=eQ f _;obtain⟨d1,d2,d3,d4⟩:=f.two;have t3:=qt (e0:=e0) i;clear j a l X f i c1 c2 o m d1 d3;go_wp2_with fail;refine t3.mono ?_
 rintro e q ⟨rfl,b⟩;have d:=(show Hid _ from b)
 clear t3 b;go_wp2;go_ret;exact⟨rfl,v,w1,p.out,d.out⟩
end
end
section
open Go.RowKit Lim
section
variable {w w' w1:World}{g:Nat}{err aw u e0:Int}{p q:Option Addr}{lat l:List Int}{a:Act}{o:Oper}{v:Value}{cs:Array Value}
def dO(err:Int)(p:Option Addr)(aw:Int)(lat:List Int)(u:Int):List Value:=.int .i64 err :: .pointer p :: .int .i64 aw :: (lat.map (Value.int .u8) ++ [.int .i64 u])
structure cO(w:World)(g:Nat)(err:Int)(p:Option Addr)(aw:Int)(lat:List Int)(u:Int):Prop where
 len:lat.length=256
 blk:w.heap[g]? = some (.cells (dO err p aw lat u).toArray 231 (0,0))
theorem cO.box(h:cO w g err p aw lat u):Box w g (dO err p aw lat u) 231:=⟨h.blk⟩
theorem cO.lt(h:cO w g err p aw lat u):g < w.heap.size:=h.box.lt
theorem cO.keep(h:cO w g err p aw lat u)(hb:Below w.heap.size w w'):cO w' g err p aw lat u:=⟨h.len,(h.box.keep hb).blk⟩
theorem cO.off{g':Nat}(h:cO w g err p aw lat u)(hne:g≠g')(hw:∀ k,k≠g'->w'.heap[k]? = w.heap[k]?):cO w' g err p aw lat u:=⟨h.len,by rw[hw g hne]; exact h.blk⟩
theorem cO.free(h:cO w g err p aw lat u)(k:Nat):w.frozen? ⟨g,k,none⟩=false:=by
 have:=h.blk;simp[World.frozen?,this]
theorem cO.c0(h:cO w g err p aw lat u):w.cell? ⟨g,0,none⟩=some (.int .i64 err):=by
 have:=h.blk;simp[World.cell?,this,dO]
theorem cO.c1(h:cO w g err p aw lat u):w.cell? ⟨g,1,none⟩=some (.pointer p):=by
 have:=h.blk;simp[World.cell?,this,dO]
theorem cO.c2(h:cO w g err p aw lat u):w.cell? ⟨g,2,none⟩=some (.int .i64 aw):=by
 have:=h.blk;simp[World.cell?,this,dO]
theorem cO.cl(h:cO w g err p aw lat u)(i:Nat)(hi:i < 256):w.cell? ⟨g,3 + i,none⟩=some (.int .u8 (nth lat i)):=by
 have hb:=h.blk;have a:=h.len;simp only[World.cell?,hb,dO];rw[show 3 + i=i + 1 + 1 + 1 by omega];simp[List.getElem?_append_left,a,hi,bT (l:=lat) (show i < lat.length by omega)]
theorem cO.cu(h:cO w g err p aw lat u):w.cell? ⟨g,259,none⟩=some (.int .i64 u):=by
 have hb:=h.blk;have hl:=h.len;simp only[World.cell?,hb,dO];simp[hl]
theorem cO.set0(h:cO w g err p aw lat u)(x:Int):cO (w.setCell ⟨g,0,none⟩ (.int .i64 x)) g x p aw lat u:=⟨h.len,by
 have:=h.blk;simp only[World.setCell,Array.getElem?_modify,if_true,this];simp[dO]⟩
theorem cO.set1(h:cO w g err p aw lat u)(x:Option Addr):cO (w.setCell ⟨g,1,none⟩ (.pointer x)) g err x aw lat u:=⟨h.len,by
 have:=h.blk;simp only[World.setCell,Array.getElem?_modify,if_true,this];simp[dO]⟩
theorem cO.set2(h:cO w g err p aw lat u)(x:Int):cO (w.setCell ⟨g,2,none⟩ (.int .i64 x)) g err p x lat u:=⟨h.len,by
 have:=h.blk;simp only[World.setCell,Array.getElem?_modify,if_true,this];simp[dO]⟩
theorem cO.setu(h:cO w g err p aw lat u)(x:Int):cO (w.setCell ⟨g,259,none⟩ (.int .i64 x)) g err p aw lat x:=⟨h.len,by
 have hb:=h.blk;have a:=h.len;simp only[World.setCell,Array.getElem?_modify,if_true,hb];simp[dO,List.set_append_right,a]⟩
theorem kx(c1:w.cell? ⟨g,0,none⟩=some (.int .i64 err)) :
  Calls Tryz.prog 198 #[.pointer (some ⟨g,0,none⟩)] w fun e w'=>e=.returned (.bool (err == 0))/\w'=w:=by
 go_enter Tryz.func198,Tryz.ntmps198;go_wp2;go_ret;exact⟨rfl,rfl⟩
theorem stMeet(c1:w.cell? ⟨g,0,none⟩=some (.int .i64 0))(c2:w.frozen? ⟨g,0,none⟩=false) :
  Calls Tryz.prog 223 #[.pointer (some ⟨g,0,none⟩),.int .i64 e0] w fun e w'=>e=.returned (.tuple #[])/\w'=w.setCell ⟨g,0,none⟩ (.int .i64 e0):=by
 go_enter Tryz.func223,Tryz.ntmps223;go_wp2_with fail;refine(kx c1).mono ?_
 rintro e w' ⟨rfl,rfl⟩;go_wp2;go_end0;exact⟨rfl,rfl⟩
theorem Cm(c1:w.cell? ⟨g,0,none⟩=some (.int .i64 err))(he:(err == 0)=false) :
  Calls Tryz.prog 223 #[.pointer (some ⟨g,0,none⟩),.int .i64 e0] w fun e w'=>e=.returned (.tuple #[])/\w'=w:=by
 have t:=kx c1;rw[he] at t;clear he;go_enter Tryz.func223,Tryz.ntmps223;go_wp2_with fail;refine t.mono ?_
 rintro e w' ⟨rfl,rfl⟩;go_wp2;go_end0;exact⟨rfl,rfl⟩
theorem pz{T:TypeId}(k:Nat){off:Nat}(c:o.op=.load T (.tmp k))(b:a.eval (.tmp k)=.pointer (some ⟨g,off,none⟩))(d:(loadVar T ⟨g,off,none⟩).run Tryz.prog w=.ok v w):(execOp a.eval o).run Tryz.prog w=.ok (.value v) w:=by
 simp only[execOp,c,b];simp[Instr.loadAt,Instr.sureAddr,Result.andThen,d]
theorem px{T:TypeId}(k q:Nat){off:Nat}(d:o.op=.store T (.tmp k) (.tmp q))(c:a.eval (.tmp k)=.pointer (some ⟨g,off,none⟩))(b:a.eval (.tmp q)=v)(e:(storeVar T ⟨g,off,none⟩ v).run Tryz.prog w=.ok () w1):(execOp a.eval o).run Tryz.prog w=.ok .skip w1:=by
 simp only[execOp,d,c,b];simp[Instr.storeAt,Instr.sureAddr,Result.andThen,e]
theorem uV(c:w.cell? ⟨g,1,none⟩=some (.pointer p)):(loadVar 228 ⟨g,1,none⟩).run Tryz.prog w=.ok (.pointer p) w:=by
 go_simp
theorem vr(c:w.cell? ⟨g,1,none⟩=some (.pointer p))(f:w.frozen? ⟨g,1,none⟩=false):(storeVar 228 ⟨g,1,none⟩ (.pointer q)).run Tryz.prog w=.ok () (w.setCell ⟨g,1,none⟩ (.pointer q)):=by
 go_simp
theorem so:Tryz.prog.underlying 229=some (.array 256 5):=by kernel_rfl
theorem oH:(Tryz.prog.info? 229).map (·.size)=some 256:=by kernel_rfl
theorem vf{o:Nat}(b:l.length=256)(c:∀ i,i < 256->w.cell? ⟨g,o + i,none⟩=some (.int .u8 (nth l i))):(loadVar 229 ⟨g,o,none⟩).run Tryz.prog w=.ok (.agg (l.map (Value.int .u8)).toArray) w:=by
 have h:=run_loadCells_list (P:=Tryz.prog) w ⟨g,o,none⟩ (l.map (Value.int .u8)) (fun j v hv=>by
  obtain⟨a,e⟩:=List.getElem?_eq_some_iff.1 hv;rw[List.length_map] at a;rw[addr_add,c j (by omega),<- e,List.getElem_map,bT a])
 rw[List.length_map,b] at h
 cases hi:Tryz.prog.info? 229 with
 | none=>have:=oH; simp[hi] at this
 | some i =>
  have d:i.size=256:=by have:=oH; simpa[hi] using this
  simp[loadVar,isAgg,run_underlying so,sizeOf,typeInfo,hi,d,h]
def placesOf(P:Program)(d:Option TypeDesc):Option (List (Nat × Nat)):=match d with
 | some (.struct fs)=>fs.toList.mapM (fun f=>(P.info? f.type).map fun i=>(f.offset,i.size))
 | _=>none
theorem wG:placesOf Tryz.prog (Tryz.prog.underlying 281)=some [(0,1),(1,256)]:=by kernel_rfl
theorem Dg:((Tryz.prog.info? 281).bind (·.zero)).map (·.cells.size)=some 257:=by kernel_rfl
theorem xt(p:Option Addr)(A:List Value)(hA:A.length=256):Tryz.prog.built 281 [(0,.pointer p),(1,.agg A.toArray)]=some (Value.pointer p :: A).toArray:=by
 have hu:=wG;have b:=Dg;unfold Program.built;generalize Tryz.prog.info? 281=I at *;generalize Tryz.prog.underlying 281=U at *
 cases I with
 | none=>simp at b
 | some it =>
  cases h2:it.zero with
  | none=>simp[h2] at b
  | some z =>
   have a:z.cells.size=257:=by simpa[h2] using b
   cases U with
   | none=>simp[placesOf] at hu
   | some d =>
    cases d<;>try (simp[placesOf] at hu; done)
    case struct fs =>
     simp only[placesOf] at hu;simp only[hu,h2]
     have hc:(Value.pointer p).cells=#[.pointer p]:=rfl
     have e:(Value.agg A.toArray).cells=A.toArray:=rfl;simp only[Instr.fill,hc,e];obtain⟨g1,g2⟩:=Great.foldl_set 1 A 0 (z.cells.setIfInBounds 0 (.pointer p));simp[hA,a];apply Array.ext_getElem?;intro k;have c:=g2 k;simp only[Array.size_setIfInBounds,a,hA] at c;rw[Nat.add_zero] at c;rw[c]
     cases k with
     | zero=>rw[if_neg (by omega)]; simp[a]
     | succ k =>
      by_cases f:k < 256
      ·rw[if_pos (by omega)]; simp
      ·rw[if_neg (by omega),Array.getElem?_eq_none (by simp[a]; omega),Array.getElem?_eq_none (by simp[hA]; omega)]
theorem zm{T:TypeId}(ps:Array (Nat × Operand)){L:List (Nat × Value)}(c:o.op=.build T ps)(b:(ps.map fun(i,x)=>(i,a.eval x)).toList=L)(hb:Tryz.prog.built T L=some cs):(execOp a.eval o).run Tryz.prog w=.ok (.value (.agg cs)) w:=by
 subst b;simp only[execOp,c];simp only[Sem.run_bind,run_build w T _ cs hb,Result.andThen_ok];rfl
theorem wrPut(X:cO w g err p aw lat u)(t:0<=aw)(hb:aw<=4611686018427387904) :
  Calls Tryz.prog 250 #[.pointer (some ⟨g,0,none⟩)] w fun e w'=>e=.returned (.tuple #[])/\cO w' g err (some ⟨w.heap.size,0,none⟩) (aw + 256) lat 0/\Box w' w.heap.size (.pointer p :: lat.map (Value.int .u8)) 281/\But g w w':=by
 have Y:=X;have s:=X.lt;have c1:=X.c1;have f1:=X.free 1;have b:=uV X.c1;have d:=vf X.len X.cl;have j:=xt p (lat.map (Value.int .u8)) (by rw[List.length_map]; exact X.len);go_enter Tryz.func250,Tryz.ntmps250;go_wp2_with fail;refine bU (S:=fun _=>True) (by kernel_rfl) trivial ?_
 refine ai 0 (some 2) (.pointer (some ⟨g,0,none⟩)) (by kernel_rfl) (fun _ _=>by kernel_rfl) (fun _ _ _ h=>h) trivial ?_
 refine ai 1 (some 3) (.pointer (some ⟨g,0,none⟩)) (by kernel_rfl) (fun _ _=>by kernel_rfl) (fun _ _ _ h=>h) trivial ?_
 refine ai 2 (some 4) (.pointer (some ⟨g,0,none⟩)) (by kernel_rfl) (fun _ _=>by kernel_rfl) (fun _ _ _ h=>h) trivial ?_
 refine ai 3 (some 5) (.pointer (some ⟨g,1,none⟩)) (by kernel_rfl) (fun _ _=>by kernel_rfl) (fun _ _ _ h=>h) trivial ?_
 refine ai 5 (some 7) (.pointer (some ⟨g,0,none⟩)) (by kernel_rfl) (fun _ _=>by kernel_rfl) (fun _ _ _ h=>h) trivial ?_
 refine ai 6 (some 8) (.pointer (some ⟨g,0,none⟩)) (by kernel_rfl) (fun _ _=>by kernel_rfl) (fun _ _ _ h=>h) trivial ?_
 refine ai 7 (some 9) (.pointer (some ⟨g,3,none⟩)) (by kernel_rfl) (fun _ _=>by kernel_rfl) (fun _ _ _ h=>h) trivial ?_
 refine aL [4,8] (by kernel_rfl) (by simp) ?_
 have X:cO w.drew g err p aw lat u:=⟨Y.len,Y.blk⟩
 have b:=uV X.c1;have d:=vf X.len X.cl;refine bI 4 (some 6) (.pointer p) _ (by kernel_rfl) (pz 5 (by kernel_rfl) (by kernel_rfl) b) trivial ?_ (bI 8 (some 10) (.agg (lat.map (Value.int .u8)).toArray) _ (by kernel_rfl) (pz 9 (by kernel_rfl) (by kernel_rfl) d) trivial ?_ aV)
 ·refine aL [8] (by kernel_rfl) (by simp) ?_
  refine bI 8 (some 10) (.agg (lat.map (Value.int .u8)).toArray) _ (by kernel_rfl) (pz 9 (by kernel_rfl) (by kernel_rfl) d) trivial ?_ aV;refine aL [9] (by kernel_rfl) (by simp) ?_
  refine bI 9 (some 11) (.agg (Value.pointer p :: lat.map (Value.int .u8)).toArray) _ (by kernel_rfl) (zm #[(0,.tmp 6),(1,.tmp 10)] (by kernel_rfl) (by kernel_rfl) j) trivial ?_ aV;refine aL [10] (by kernel_rfl) (by simp) ?_
  refine qN 10 (some 12) 281 (Value.pointer p :: lat.map (Value.int .u8)) (by kernel_rfl) (by kernel_rfl) ?_ aV;intro V m a;refine⟨trivial,?_⟩;replace X:=X.keep a;replace a:Below w.heap.size w V:=(Below.refl w.heap.size w).drew.trans a;refine ai 11 (some 13) (.pointer (some ⟨g,0,none⟩)) (by kernel_rfl) (fun _ _=>by kernel_rfl) (fun _ _ _ h=>h) trivial ?_
  refine ai 12 (some 14) (.pointer (some ⟨g,1,none⟩)) (by kernel_rfl) (fun _ _=>by kernel_rfl) (fun _ _ _ h=>h) trivial ?_
  refine aL [13] (by kernel_rfl) (by simp) ?_
  refine dq 13 (V.setCell ⟨g,1,none⟩ (.pointer (some ⟨w.heap.size,0,none⟩))) (by kernel_rfl) (px 14 12 (v:=.pointer (some ⟨w.heap.size,0,none⟩)) (by kernel_rfl) (by kernel_rfl) (by kernel_rfl) (vr X.c1 (X.free 1))) trivial ?_ aV;refine bH (by kernel_rfl) ?_
  try simp only[Act.put,List.setIfInBounds_toArray,List.set_cons_zero,List.set_cons_succ]
  replace X:=X.set1 (some ⟨w.heap.size,0,none⟩)
  have c:Hid (But g w (V.setCell ⟨g,1,none⟩ (.pointer (some ⟨w.heap.size,0,none⟩)))):=⟨a.os,a.tape,a.output,by rw[size_set]; exact a.size,fun k l f=>by rw[Below.heap_setCell _ _ _ k f]; exact a.block k l⟩
  replace m:Box (V.setCell ⟨g,1,none⟩ (.pointer (some ⟨w.heap.size,0,none⟩))) w.heap.size _ _:=m.off (g':=g) (by show w.heap.size≠g; omega) (fun k i=>Below.heap_setCell _ _ _ k i);clear a;generalize V.setCell ⟨g,1,none⟩ (.pointer (some ⟨w.heap.size,0,none⟩))=W at *;have c2:=X.c2;have f2:=X.free 2;have cu:=X.cu;have r:=X.free 259;clear b d j c1 f1;have o:=(X.set2 (aw + 256)).setu 0
  have n:Hid (But g w ((W.setCell ⟨g,2,none⟩ (.int .i64 (aw + 256))).setCell ⟨g,259,none⟩ (.int .i64 0))):=⟨c.out.os,c.out.tape,c.out.output,by rw[size_set,size_set]; exact c.out.size,fun k l f=>by rw[Below.heap_setCell _ _ _ k f,Below.heap_setCell _ _ _ k f]; exact c.out.block k l f⟩
  have q:Hid (Box ((W.setCell ⟨g,2,none⟩ (.int .i64 (aw + 256))).setCell ⟨g,259,none⟩ (.int .i64 0)) w.heap.size (Value.pointer p :: lat.map (Value.int .u8)) 281):=(m.off (g':=g) (by omega) (fun k i=>Below.heap_setCell _ _ _ k i)).off (g':=g) (by omega) (fun k i=>Below.heap_setCell _ _ _ k i);go_wp2;go_end0;exact⟨rfl,o,q.out,n.out⟩
 ·refine aL [4] (by kernel_rfl) (by simp) ?_
  refine bI 4 (some 6) (.pointer p) _ (by kernel_rfl) (pz 5 (by kernel_rfl) (by kernel_rfl) b) trivial ?_ aV;refine aL [9] (by kernel_rfl) (by simp) ?_
  refine bI 9 (some 11) (.agg (Value.pointer p :: lat.map (Value.int .u8)).toArray) _ (by kernel_rfl) (zm #[(0,.tmp 6),(1,.tmp 10)] (by kernel_rfl) (by kernel_rfl) j) trivial ?_ aV;refine aL [10] (by kernel_rfl) (by simp) ?_
  refine qN 10 (some 12) 281 (Value.pointer p :: lat.map (Value.int .u8)) (by kernel_rfl) (by kernel_rfl) ?_ aV;intro V m a;refine⟨trivial,?_⟩;replace X:=X.keep a;replace a:Below w.heap.size w V:=(Below.refl w.heap.size w).drew.trans a;refine ai 11 (some 13) (.pointer (some ⟨g,0,none⟩)) (by kernel_rfl) (fun _ _=>by kernel_rfl) (fun _ _ _ h=>h) trivial ?_
  refine ai 12 (some 14) (.pointer (some ⟨g,1,none⟩)) (by kernel_rfl) (fun _ _=>by kernel_rfl) (fun _ _ _ h=>h) trivial ?_
  refine aL [13] (by kernel_rfl) (by simp) ?_
  refine dq 13 (V.setCell ⟨g,1,none⟩ (.pointer (some ⟨w.heap.size,0,none⟩))) (by kernel_rfl) (px 14 12 (v:=.pointer (some ⟨w.heap.size,0,none⟩)) (by kernel_rfl) (by kernel_rfl) (by kernel_rfl) (vr X.c1 (X.free 1))) trivial ?_ aV;refine bH (by kernel_rfl) ?_
  try simp only[Act.put,List.setIfInBounds_toArray,List.set_cons_zero,List.set_cons_succ]
  replace X:=X.set1 (some ⟨w.heap.size,0,none⟩)
  have c:Hid (But g w (V.setCell ⟨g,1,none⟩ (.pointer (some ⟨w.heap.size,0,none⟩)))):=⟨a.os,a.tape,a.output,by rw[size_set]; exact a.size,fun k l f=>by rw[Below.heap_setCell _ _ _ k f]; exact a.block k l⟩
  replace m:Box (V.setCell ⟨g,1,none⟩ (.pointer (some ⟨w.heap.size,0,none⟩))) w.heap.size _ _:=m.off (g':=g) (by show w.heap.size≠g; omega) (fun k i=>Below.heap_setCell _ _ _ k i);clear a;generalize V.setCell ⟨g,1,none⟩ (.pointer (some ⟨w.heap.size,0,none⟩))=W at *;have c2:=X.c2;have f2:=X.free 2;have cu:=X.cu;have r:=X.free 259;clear b d j c1 f1;have o:=(X.set2 (aw + 256)).setu 0
  have n:Hid (But g w ((W.setCell ⟨g,2,none⟩ (.int .i64 (aw + 256))).setCell ⟨g,259,none⟩ (.int .i64 0))):=⟨c.out.os,c.out.tape,c.out.output,by rw[size_set,size_set]; exact c.out.size,fun k l f=>by rw[Below.heap_setCell _ _ _ k f,Below.heap_setCell _ _ _ k f]; exact c.out.block k l f⟩
  have q:Hid (Box ((W.setCell ⟨g,2,none⟩ (.int .i64 (aw + 256))).setCell ⟨g,259,none⟩ (.int .i64 0)) w.heap.size (Value.pointer p :: lat.map (Value.int .u8)) 281):=(m.off (g':=g) (by omega) (fun k i=>Below.heap_setCell _ _ _ k i)).off (g':=g) (by omega) (fun k i=>Below.heap_setCell _ _ _ k i);go_wp2;go_end0;exact⟨rfl,o,q.out,n.out⟩
end
end
section
open Go.RowKit Lim
section
variable {w w' w1:World}{p ao:Option Addr}{ps l:List Int}{g b o:Nat}{cs:List Value}{err:Int}{v:Value}{ops:Array Oper}{K:Act->World->Prop}
inductive Pc (w:World):Option Addr->List Int->Prop where
 | nil:Pc w none []
 | cons {b:Nat} {p:Option Addr} {ps bs:List Int}:Box w b (.pointer p :: bs.map (Value.int .u8)) 281->bs.length=256->Pc w p ps->Pc w (some ⟨b,0,none⟩) (ps ++ bs)
theorem Pc.off(h:Pc w p ps)(X:Box w g cs 231)(hw:∀ k,k < w.heap.size->k≠g->w'.heap[k]? = w.heap[k]?):Pc w' p ps:=by
 induction h with
 | nil=>exact .nil
 | cons hb hl _ ih =>
  refine .cons ⟨?_⟩ hl ih;rw[hw _ hb.lt (fun e=>by
   subst e;have a:=hb.blk;rw[X.blk] at a;simp at a)]
  exact hb.blk
theorem Pc.keep(h:Pc w p ps)(hB:Below w.heap.size w w'):Pc w' p ps:=by
 induction h with
 | nil=>exact .nil
 | cons hb hl _ ih=>exact .cons (hb.keep hB) hl ih
structure WrA(w:World)(g:Nat)(err:Int)(l:List Int):Prop where
 ex:∃ p ps lat,∃ u:Nat,cO w g err p (ps.length:Int) lat (u:Int)/\Pc w p ps/\u < 256/\l=ps ++ lat.take u
theorem WrA.lt(h:WrA w g err l):g < w.heap.size:=by
 obtain⟨p,ps,lat,u,X,_⟩:=h.ex;exact X.lt
theorem WrA.keep(h:WrA w g err l)(hB:Below w.heap.size w w'):WrA w' g err l:=by
 obtain⟨p,ps,lat,u,X,P,hu,e⟩:=h.ex;exact⟨p,ps,lat,u,X.keep hB,P.keep hB,hu,e⟩
theorem But.refl(g:Nat)(w:World):But g w w:=⟨rfl,rfl,rfl,Nat.le_refl _,fun _ _ _=>rfl⟩
theorem But.trans{d:World}(h:But g w w1)(a:But g w1 d):But g w d:=⟨a.os.trans h.os,a.tape.trans h.tape,a.output.trans h.output,Nat.le_trans h.size a.size,fun k b c=>(a.block k (Nat.lt_of_lt_of_le b h.size) c).trans (h.block k b c)⟩
theorem But.drew(h:But g w w1):But g w w1.drew:=⟨h.os,h.tape,h.output,h.size,h.block⟩
theorem But.cell(h:But g w w1)(hc:w.cell? ⟨b,o,none⟩=some v)(hb:b≠g):w1.cell? ⟨b,o,none⟩=some v:=by
 rw[World.cell?_of_block (w:=w) (h.block b (aJ hc) hb)]; exact hc
theorem yG(err:Int)(p:Option Addr)(aw:Int)(lat ms:List Int)(x:Int)(u:Nat)(h:u + ms.length<=lat.length) :
  splice (dO err p aw lat x) (3 + u) (ms.map (Value.int .u8))=dO err p aw (lat.take u ++ ms ++ lat.drop (u + ms.length)) x:=by
 unfold splice dO;rw[show 3 + u=u + 1 + 1 + 1 by omega,List.length_map,show u + 1 + 1 + 1 + ms.length=u + ms.length + 1 + 1 + 1 by omega];simp only[List.take_succ_cons,List.drop_succ_cons,List.cons_append];rw[List.take_append_of_le_length (by rw[List.length_map]; omega),List.drop_append_of_le_length (by rw[List.length_map]; omega)];simp
theorem sc{P:Program}{o:Oper}{a:Act}{Q:Exit->Act->World->Prop}{E:Prop}(l:o.guard=none)(d s:Operand)(i sT:TypeId)(r:o.op=.call { callee:=.builtin .copy,args:=#[d,s],argTypes:=#[i,sT] })(elem:TypeId)(hu:P.underlying i=some (.slice elem))(k:(P.info? elem).map (·.size)=some 1)(g off dLen dCap:Nat)(ad:Addr)(sLen sCap:Nat)(q:a.eval d=.slice (some ⟨g,off,none⟩) dLen dCap)(hs:a.eval s=.slice (some ad) sLen sCap)(cur:List Value)(t:TypeId)(n:w.heap[g]? = some (.cells cur.toArray t (0,0)))(cs:List Value)(m:Nat)(hm:cs.length=m)(hn:m=Nat.min sLen dLen)(c:∀ j v,cs[j]? = some v->w.cell? (ad.add j)=some v)(e:off + m<=cur.length)(p:∀ v∈cs,v.oneCell'=true)(h:∀ w',Hid (w'.heap[g]? = some (.cells (splice cur off cs).toArray t (0,0)))->Hid (∀ b,b≠g->w'.heap[b]? = w.heap[b]?)->Hid (w'.os=w.os/\w'.tape=w.tape/\w'.output=w.output/\w'.heap.size=w.heap.size)->K (a.put o.dst (.int .i64 (m:Int))) w') :
  if Region.wanted o (yielded ops a.tmps)=true then Oper.wp P o a w K Q else E:=by
 subst hm
 have hw:Region.wanted o (yielded ops a.tmps)=true:=by simp[Region.wanted,l]
 rw[if_pos hw];have f:=run_copy_row (P:=P) w i sT o.type elem g off dLen dCap ad sLen sCap cur.toArray t cs hu k n hn c (by simpa using e) p;unfold Oper.wp;simp[execOp,r,resolve,invoke,builtin,q,hs,f,Result.andThen];exact h _ (show _=_ by simpa[splice] using setRow_heap w g _ _ t _ n) (fun b hb=>setRow_other w g b _ hb) ⟨rfl,rfl,rfl,by simp[World.setRow]⟩
theorem uA:(Tryz.prog.info? 5).map (·.size)=some 1:=by kernel_rfl
theorem wI(g u:Nat)(h:u < 256)(W:World):(Instr.sliceAt 229 (.pointer (some ⟨g,3,none⟩)) (some (.int .i64 (u:Int))) none none).run Tryz.prog W=.ok (.slice (some ⟨g,3 + u,none⟩) (256 - u) (256 - u)) W:=by
 have a:Tryz.prog.arrayLen 229=256:=by kernel_rfl
 have b:Tryz.prog.elem 229=5:=by kernel_rfl
 have hu:Tryz.prog.underlying 229=some (.array (Tryz.prog.arrayLen 229) (Tryz.prog.elem 229)):=by kernel_rfl
 have hs:(sizeOf 5).run Tryz.prog W=.ok 1 W:=by kernel_rfl
 rw[run_sliceAt_array_l W 229 ⟨g,3,none⟩ hu .i64 (u:Int) (by omega) (by rw[a]; omega),b,hs,a];simp only[Result.andThen,slicedAt,Int.toNat_natCast,Nat.mul_one];rw[if_neg (by omega)];congr 3
 exact addr_add g 3 u
theorem sliceB(ao:Option Addr)(n c m:Nat)(W:World)(hm:m<=n)(hn:n<=c):(Instr.sliceAt 96 (.slice ao n c) (some (.int .i64 (m:Int))) none none).run Tryz.prog W=.ok (.slice (db ao c m) (n - m) (c - m)) W:=by
 have b:(m:Int)<=n:=by omega
 have a:(m:Int)<=c:=by omega
 unfold db;split
 ·go_simp
 ·go_simp
def lenV(v:Value):Nat:=match v with
 | .slice _ n _=>n
 | _=>0
theorem wrLay{n c:Nat}{L:List Int}(X:WrA w g 0 L)(ha:AtB w ao b o l)(hl:l.length=n)(hc:n<=c)(hb:b≠g)(hbig:L.length + n<=4611686018427387904) :
  Calls Tryz.prog 228 #[.pointer (some ⟨g,0,none⟩),.slice ao n c] w fun e w'=>e=.returned (.tuple #[])/\WrA w' g 0 (L ++ l)/\But g w w':=by
 have HX:Hid (WrA w g 0 L):=X
 have HA:Hid (AtB w ao b o l):=ha;clear X ha;go_enter Tryz.func228,Tryz.ntmps228;go_wp2_with fail;go_loopw [1] (fun tb wr=>∃ k r Z A,Hid (k + r=n)/\tb=.slice Z r A/\r<=A/\Hid (0 < r->Z=some ⟨b,o + k,none⟩)/\WrA wr g 0 (L ++ l.take k)/\But g w wr) (fun tb _=>lenV tb)
 case atStart=>exact⟨0,n,ao,c,Nat.zero_add n,rfl,hc,fun h=>by
  rcases HA.out.loc with e | e
  ·rw[e] at hl; simp at hl; omega
  ·rw[e]; rfl,by simpa using HX.out,But.refl _ _⟩
 case round =>
  obtain⟨k,r,Z,A,D,rfl,ac,z,Y,x⟩:=hrel;obtain⟨p,ps,a,u,y,P0,hu,hL⟩:=Y.ex;have HL:=(show Hid _ from hL)
  have ab:(ps.length:Int)<=4611686018427387904:=by have f:=congrArg List.length hL; simp at f; have:=D.out; omega
  have HP:=(show Hid _ from P0)
  have P:=(show Hid _ from x)
  have t:=kx y.c0
  have HY:Hid (WrA wr g 0 (L ++ l.take k)):=Y;clear hL P0 x Y;go_wp2_with fail;refine t.mono ?_
  rintro e w1 ⟨rfl,rfl⟩;clear t;by_cases J:0 < r
  ·obtain rfl:=z.out J
   have hlt':(0:Int) < r:=by omega
   obtain⟨m,hm⟩:∃ m,m=Nat.min r (256 - u):=⟨_,rfl⟩
   have aa:m<=r:=by rw[hm]; exact Nat.min_le_left _ _
   have hm2:m<=256 - u:=by rw[hm]; exact Nat.min_le_right _ _
   have hm3:1<=m:=by rw[hm]; exact Nat.le_min.2 ⟨J,by omega⟩
   have HM:=(show Hid _ from hm)
   clear hm;obtain⟨ms,i⟩:∃ ms,ms=(l.drop k).take m:=⟨_,rfl⟩
   have H:ms.length=m:=by rw[i,List.length_take,List.length_drop]; have:=D.out; omega
   have E:=y.len;have q:=(show Hid _ from H)
   have G:=(show Hid _ from i)
   have HS:Hid (∀ W,But g w W->∀ j v,(ms.map (Value.int .u8))[j]? = some v->W.cell? ((⟨b,o + k,none⟩:Addr).add j)=some v):=fun W hW j v U=>by
    obtain⟨f,B⟩:=List.getElem?_eq_some_iff.1 U;rw[List.length_map] at f;rw[List.getElem_map] at B;have hh:=D.out;rw[addr_add];refine hW.cell ?_ hb;rw[<- B,show o + k + j=o + (k + j) by omega,HA.out.cell (k + j) (by omega),<- bT f,i,dr (by omega),dG]
   have F:=yG 0 p (ps.length:Int) a ms (u:Int) u (by omega);have HSP:=(show Hid _ from F)
   have s:=(show Hid _ from E)
   clear F H i E;have cu:=y.cu;have hsl:=wI g u hu
   have HC:Hid (∀ W,(Instr.sliceAt 96 (.slice (some ⟨b,o + k,none⟩) r A) (some (.int .i64 (m:Int))) none none).run Tryz.prog W=.ok (.slice (db (some ⟨b,o + k,none⟩) A m) (r - m) (A - m)) W):=fun W=>sliceB _ _ _ _ W aa ac
   go_wp2_with fail;go_region_law (refine sc rfl (.tmp 21) (.tmp 22) 96 96 rfl 5 cC uA g (3 + u) (256 - u) (256 - u) ⟨b,o + k,none⟩ r A (by rfl) (by rfl) _ 231 y.blk (ms.map (Value.int .u8)) m (by rw[List.length_map]; exact q.out) HM.out (fun j v U=>HS.out _ P.out.drew j v U) (by simp[dO,s.out]; omega) (by simp[Value.oneCell']) ?_; intro w4 N I d)
   have O:cO w4 g 0 p (ps.length:Int) (a.take u ++ ms ++ a.drop (u + ms.length)) (u:Int):=⟨by have:=q.out; have:=s.out; simp; omega,by rw[<- HSP.out]; exact N.out⟩
   have K:=O.setu ((u:Int) + (m:Int))
   have R:Hid (But g w1 (w4.setCell ⟨g,259,none⟩ (.int .i64 ((u:Int) + (m:Int))))):=⟨d.out.1,d.out.2.1,d.out.2.2.1,by rw[size_set,d.out.2.2.2]; exact Nat.le_refl _,fun j f B=>by rw[Below.heap_setCell _ _ _ j B,I.out j B]; rfl⟩
   have S:=O.cu;have T:=O.free 259;have cu5:=K.cu;have M:=HC.out;clear cu hsl N I d;by_cases hf:u + m=256
   ·have hq:(((u:Int) + (m:Int)) == 256)=true:=by rw[beq_iff_eq]; omega
    have HF:=(show Hid _ from hf)
    clear hf;go_wp2_with fail;refine(wrPut K (by omega) ab).mono ?_
    rintro e w6 ⟨rfl,Q,XB,C⟩
    have H6:Hid (WrA w6 g 0 (L ++ l.take (k + m))):=by
     have f:=q.out;have B:=s.out;have h3:=HF.out
     have e1:a.drop (u + ms.length)=[]:=List.drop_eq_nil_of_le (by omega)
     have e2:L ++ l.take (k + m)=ps ++ (a.take u ++ ms ++ a.drop (u + ms.length)):=by
      rw[List.take_add,<- List.append_assoc,HL.out,<- G.out,e1,List.append_nil,List.append_assoc]
     refine⟨some ⟨_,0,none⟩,ps ++ (a.take u ++ ms ++ a.drop (u + ms.length)),a.take u ++ ms ++ a.drop (u + ms.length),0,?_,.cons XB Q.len (HP.out.off y.box (R.out.trans C).block),by omega,?_⟩
     ·have e3:(((ps ++ (a.take u ++ ms ++ a.drop (u + ms.length))).length:Nat):Int)=(ps.length:Int) + 256:=by rw[List.length_append,Q.len]; rfl
      rw[e3]; exact Q
     ·rw[e2]; simp
    have V:Hid (But g w w6):=P.out.trans (R.out.trans C);clear Q XB C O K S cu5 T hq y M;go_wp2;go_roundw
    case rel=>exact⟨k + m,r - m,_,_,by show _=_; have:=D.out; omega,rfl,by omega,fun h=>by
     unfold db; rw[if_neg (by omega)]; show some ((⟨b,o + k,none⟩:Addr).add m)=_; rw[addr_add,Nat.add_assoc],H6.out,V.out⟩
    case measure=>simp[lenV]; omega
   ·have hq:(((u:Int) + (m:Int)) == 256)=false:=by rw[beq_eq_false_iff_ne]; omega
    have H6:Hid (WrA (w4.setCell ⟨g,259,none⟩ (.int .i64 ((u:Int) + (m:Int)))) g 0 (L ++ l.take (k + m))):=by
     have f:=q.out;have B:=s.out;refine⟨p,ps,_,u + m,K,HP.out.off y.box R.out.block,by omega,?_⟩
     have e4:(a.take u ++ ms ++ a.drop (u + ms.length)).take (u + m)=a.take u ++ ms:=by
      rw[List.take_append_of_le_length (by simp; omega)];exact List.take_of_length_le (by simp; omega)
     rw[e4,List.take_add,<- List.append_assoc,HL.out,<- G.out,List.append_assoc]
    have V:=(show Hid _ from P.out.trans R.out)
    have HF:=(show Hid _ from hf)
    clear hf O K y;go_wp2;go_roundw
    case rel=>exact⟨k + m,r - m,_,_,by show _=_; have:=D.out; omega,rfl,by omega,fun h=>by
     unfold db; rw[if_neg (by omega)]; show some ((⟨b,o + k,none⟩:Addr).add m)=_; rw[addr_add,Nat.add_assoc],H6.out,V.out⟩
    case measure=>simp[lenV]; omega
  ·obtain rfl:r=0:=by omega
   have HE:Hid (WrA w1 g 0 (L ++ l)):=by
    have f:=HY.out;rw[List.take_of_length_le (by have:=D.out; omega)] at f;exact f
   go_wp2;go_end0;exact⟨rfl,HE.out,P.out⟩
end
end
section
open Go.RowKit Lim
section
variable {x err:Int}{w:World}{g n c b o k m:Nat}{ao:Option Addr}{L l ds:List Int}{cs:List Value}
def be:Nat->Int->List Int
 | 0,_=>[]
 | m + 1,x=>x / 256 ^ m % 256 :: be m x
theorem aN(m:Nat)(x:Int):(be m x).length=m:=by
 induction m with
 | zero=>rfl
 | succ m ih=>rw[be,List.length_cons,ih]
theorem xK(m:Nat)(x:Int):∀ i,i < m->nth (be m x) i=x / 256 ^ (m - 1 - i) % 256:=by
 induction m with
 | zero=>intro i hi; omega
 | succ m ih =>
  intro i hi
  cases i with
  | zero=>rfl
  | succ i =>
   rw[be,dE,ih i (by omega),show m - 1 - i=m + 1 - 1 - (i + 1) by omega]
theorem eR(m:Nat)(x:Int):bh (be m x):=by
 induction m with
 | zero=>intro y hy; simp[be] at hy
 | succ m ih =>
  intro y hy;rw[be] at hy;rcases List.mem_cons.1 hy with e | e
  ·subst e; exact⟨Int.emod_nonneg _ (by decide),Int.emod_lt_of_pos _ (by decide)⟩
  ·exact ih y e
theorem oO(m:Nat)(hx:0<=x):bO (be m x)=x % 256 ^ m:=by
 induction m with
 | zero=>simp[be,bO]
 | succ m ih=>rw[be,bO,aN,ih,<- mo x hx m]
def wrote(err:Int)(L l:List Int):List Int:=if err=0 then L ++ l else L
theorem wrLayE(X:WrA w g err L)(he:err≠0) :
  Calls Tryz.prog 228 #[.pointer (some ⟨g,0,none⟩),.slice ao n c] w fun e w'=>e=.returned (.tuple #[])/\w'=w:=by
 obtain⟨p,ps,d,u,a,_⟩:=X.ex;have t:=kx a.c0;rw[beq_eq_false_iff_ne.2 he] at t;clear X a he;go_enter Tryz.func228,Tryz.ntmps228;go_wp2_with fail;go_loopw [1] (fun b wr=>b=.slice ao n c/\wr=w) (fun _ _=>0)
 case atStart=>exact⟨rfl,rfl⟩
 case round =>
  obtain⟨rfl,rfl⟩:=hrel;go_wp2_with fail;refine t.mono ?_
  rintro e f ⟨rfl,rfl⟩;clear t;go_wp2;go_end0;exact⟨rfl,rfl⟩
theorem Ac(X:WrA w g err L)(h:AtB w ao b o l)(f:l.length=n)(hc:n<=c)(hb:b≠g)(a:L.length + n<=4611686018427387904) :
  Calls Tryz.prog 228 #[.pointer (some ⟨g,0,none⟩),.slice ao n c] w fun e w'=>e=.returned (.tuple #[])/\WrA w' g err (wrote err L l)/\But g w w':=by
 unfold wrote;by_cases he:err=0
 ·subst he;rw[if_pos rfl];exact wrLay X h f hc hb a
 ·rw[if_neg he];refine(wrLayE X he).mono ?_
  rintro e w' ⟨i,d⟩;subst d;exact⟨i,X,But.refl _ _⟩
theorem slice8(g m:Nat)(h:m<=8)(W:World):(Instr.sliceAt 308 (.pointer (some ⟨g,0,none⟩)) none (some (.int .i64 (m:Int))) none).run Tryz.prog W=.ok (.slice (some ⟨g,0,none⟩) m 8) W:=by
 have a:(m:Int)<=8:=by omega
 go_simp
theorem zp{v:Int}(hk:k < ds.length):(ds.set k v).take (k + 1)=ds.take k ++ [v]:=by
 rw[dR (by rw[List.length_set]; exact hk),dC hk,if_pos rfl,List.take_set_of_le (Nat.le_refl _)]
theorem Box.bytes{t:TypeId}(h:Box w g (ds.map (Value.int .u8)) t){i:Nat}(hi:i < ds.length):w.cell? ⟨g,i,none⟩=some (.int .u8 (nth ds i)):=by
 simp[World.cell?,h.blk,hi,bT hi]
theorem Box.thaw{t:TypeId}(h:Box w g cs t)(i:Nat):w.frozen? ⟨g,i,none⟩=false:=by simp[World.frozen?,h.blk]
theorem Box.setB{t:TypeId}(h:Box w g (ds.map (Value.int .u8)) t)(i:Nat)(x:Int):Box (w.setCell ⟨g,i,none⟩ (.int .u8 x)) g ((ds.set i x).map (Value.int .u8)) t:=⟨by
 have hb:=h.blk;simp only[World.setCell,Array.getElem?_modify,if_true,hb];simp⟩
theorem zx(X:WrA w g err L)(hm:m<=8)(B:L.length + 8<=4611686018427387904) :
  Calls Tryz.prog 195 #[.pointer (some ⟨g,0,none⟩),.int .u64 x,.int .i64 m] w fun e w'=>e=.returned (.tuple #[])/\WrA w' g err (wrote err L (be m x))/\But g w w':=by
 have I:Hid (WrA w g err L):=X;have M:=X.lt;have N:=iw w ((List.replicate 8 (0:Int)).map (Value.int .u8)) 308;have y:=ae w (.cells #[.int .u8 0,.int .u8 0,.int .u8 0,.int .u8 0,.int .u8 0,.int .u8 0,.int .u8 0,.int .u8 0] 308);have C:=(show Hid _ from N)
 have v:=(show Hid _ from y)
 clear X N y;go_enter Tryz.func195,Tryz.ntmps195;go_wp2_with fail;go_loopw [9] (fun u wr=>∃ (k:Nat) (f:List Int),k<=m/\u=.int .i64 k/\f.length=8/\Hid (f.take k=(be m x).take k)/\Box wr w.heap.size (f.map (Value.int .u8)) 308/\Below w.heap.size w wr) (fun u _=>m - (intOf u).toNat)
 case atStart=>exact⟨0,List.replicate 8 0,Nat.zero_le _,rfl,rfl,rfl,C.out,v.out⟩
 case round =>
  obtain⟨k,f,P,rfl,hlen,d,b,a⟩:=hrel;by_cases j:k < m
  ·obtain⟨h,O⟩:∃ h:Nat,(m:Int) - 1 - k=h:=⟨m - 1 - k,by omega⟩
   have o:m - 1 - k=h:=by omega
   have E:Hid ((f.set k (x / 2 ^ (8 * h) % 256)).take (k + 1)=(be m x).take (k + 1)):=by
    have e1:(256:Int) ^ h=2 ^ (8 * h):=by rw[Int.pow_mul]; rfl
    show _=_
    rw[zp (by omega),d.out,dR (by rw[aN]; exact j),xK m x k j,o,e1]
   have J:(k:Int) < 8:=by omega
   have K:h < 8:=by omega
   have c1:=b.bytes (i:=k) (by omega);have f1:=b.thaw k;have F:=(show Hid _ from b.setB k (x / 2 ^ (8 * h) % 256))
   have q:=(show Hid _ from a)
   have r:=(show Hid _ from hlen)
   clear o b a d hlen;go_wp2_with fail;refine⟨⟨k + 1,_,by omega,by go_num,by rw[List.length_set]; exact r.out,E.out,F.out,q.out.setCell (p:=⟨w.heap.size,k,none⟩) (Nat.le_refl _) _⟩,by simp[intOf]; omega⟩
  ·obtain rfl:k=m:=by omega
   have A:AtB wr (some ⟨w.heap.size,0,none⟩) w.heap.size 0 (be k x):=⟨.inr rfl,fun i hi=>by
    rw[aN] at hi;have e:=d.out;rw[List.take_of_length_le (l:=be k x) (by rw[aN]; exact Nat.le_refl _)] at e;rw[Nat.zero_add,b.bytes (by omega),<- e,dr hi]⟩
   have t:=Ac (n:=k) (c:=8) (I.out.keep a) A (aN k x) hm (by omega) (by omega);have H:=slice8 w.heap.size k hm
   have q:Hid (∀ w',But g wr w'->But g w w'):=fun w' hb=>(⟨a.os,a.tape,a.output,a.size,fun k s _=>a.block k s⟩:But g w wr).trans hb
   clear A b a d;go_wp2_with fail;refine t.mono ?_
   rintro e G ⟨rfl,s,z⟩;have D:=(show Hid _ from q.out G z)
   clear t z;go_wp2;go_end0;exact⟨rfl,s,D.out⟩
theorem zJ(h:n < 256 ^ k):(n:Int) / 2 ^ (8 * k)=0:=by
 have e:(2:Int) ^ (8 * k)=((256 ^ k:Nat):Int):=by rw[Int.pow_mul,Int.natCast_pow]; rfl
 rw[e];exact Int.ediv_eq_zero_of_lt (by omega) (by omega)
def fM(m:Nat)(l:List Int):List Int:=be m l.length ++ l
theorem vV(err:Int)(L l r:List Int):wrote err (wrote err L l) r=wrote err L (l ++ r):=by
 unfold wrote;by_cases h:err=0
 ·rw[if_pos h,if_pos h,if_pos h,List.append_assoc]
 ·rw[if_neg h,if_neg h,if_neg h]
theorem wP(err:Int)(L l:List Int):(wrote err L l).length<=L.length + l.length:=by
 unfold wrote;split
 ·rw[List.length_append]; exact Nat.le_refl _
 ·exact Nat.le_add_right _ _
theorem But.at{w':World}(h:But g w w')(k:AtB w ao b o l)(hb:b≠g):AtB w' ao b o l:=⟨k.loc,fun i hi=>h.cell (k.cell i hi) hb⟩
theorem wrCnt(X:WrA w g err L)(p:AtB w ao b o l)(k:l.length=n)(hc:n<=c)(hb:b≠g)(hm:m=1\/m=4)(hn:n < 256 ^ m)(i:L.length + n + 16<=4611686018427387904) :
  Calls Tryz.prog 229 #[.pointer (some ⟨g,0,none⟩),.slice ao n c,.int .i64 m] w fun e w'=>e=.returned (.tuple #[])/\WrA w' g err (wrote err L (fM m l))/\But g w w':=by
 have t:=zx (m:=m) (x:=(n:Int)) X (by omega) (by omega);have A:=zJ hn
 have s:m<=4:=by omega
 have y:=(show Hid _ from hm)
 have v:=(show Hid _ from hn)
 clear X hm hn;go_enter Tryz.func229,Tryz.ntmps229;go_wp2_with fail;refine t.mono ?_
 rintro e z ⟨rfl,j,a⟩;have t2:=Ac j (a.at p hb) k hc hb (by have:=wP err L (be m n); rw[aN] at this; omega);rw[vV] at t2
 have q:Hid (be m n ++ l=fM m l):=by show _=_; unfold fM; rw[k]
 have h:=(show Hid _ from a)
 clear t j a p;go_wp2_with fail;refine t2.mono ?_
 rintro e u ⟨rfl,r,d⟩;have f:=(show Hid _ from h.out.trans d)
 clear t2 d;go_wp2;go_end0;exact⟨rfl,by rw[<- q.out]; exact r,f.out⟩
theorem BE(h:256 ^ k<=n):((n:Int) / 2 ^ (8 * k) != 0)=true:=by
 have e:(2:Int) ^ (8 * k)=((256 ^ k:Nat):Int):=by rw[Int.pow_mul,Int.natCast_pow]; rfl
 rw[e,bne_iff_ne]
 have a:0 < n / 256 ^ k:=Nat.div_pos h (Nat.pow_pos (by decide))
 have b:(n:Int) / ((256 ^ k:Nat):Int)=((n / 256 ^ k:Nat):Int):=rfl;omega
def long(err:Int):Int:=if err=0 then 42 else err
theorem CQ{e0:Int}(X:WrA w g err L) :
  Calls Tryz.prog 223 #[.pointer (some ⟨g,0,none⟩),.int .i64 e0] w fun e w'=>e=.returned (.tuple #[])/\WrA w' g (if err=0 then e0 else err) L/\But g w w':=by
 obtain⟨p,ps,b,u,a,h,hu,hL⟩:=X.ex;by_cases he:err=0
 ·subst he;rw[if_pos rfl];refine(stMeet a.c0 (a.free 0)).mono ?_
  rintro e w' ⟨c,rfl⟩
  have d:But g w (w.setCell ⟨g,0,none⟩ (.int .i64 e0)):=⟨rfl,rfl,rfl,by rw[size_set]; exact Nat.le_refl _,fun k _ f=>Below.heap_setCell _ _ _ k f⟩
  exact⟨c,⟨p,ps,b,u,a.set0 e0,h.off a.box d.block,hu,hL⟩,d⟩
 ·rw[if_neg he];refine(Cm a.c0 (beq_eq_false_iff_ne.2 he)).mono ?_
  rintro e w' ⟨c,rfl⟩;exact⟨c,X,But.refl _ _⟩
theorem vM(X:WrA w g err L)(hc:n<=9223372036854775807)(hm:m<=4)(hn:256 ^ m<=n) :
  Calls Tryz.prog 229 #[.pointer (some ⟨g,0,none⟩),.slice ao n c,.int .i64 m] w fun e w'=>e=.returned (.tuple #[])/\WrA w' g (long err) L/\But g w w':=by
 have t:=CQ (e0:=42) X;have j:=BE hn;have h:=(show Hid _ from hn)
 clear X hn;go_enter Tryz.func229,Tryz.ntmps229;go_wp2_with fail;refine t.mono ?_
 rintro e i ⟨rfl,d,a⟩;have f:=(show Hid _ from d)
 have b:=(show Hid _ from a)
 clear t d a;go_wp2;(try simp only[Exit.inBlock,Exit.then])
 refine bodyPost_ret (results_none rfl _ _ _) rfl ?_
 exact⟨rfl,f.out,b.out⟩
theorem wrU8(X:WrA w g err L)(d:0<=x)(hx:x < 256)(a:L.length + 8<=4611686018427387904) :
  Calls Tryz.prog 196 #[.pointer (some ⟨g,0,none⟩),.int .u8 x] w fun e w'=>e=.returned (.tuple #[])/\WrA w' g err (wrote err L (be 1 x))/\But g w w':=by
 have t:=zx (m:=1) (x:=x) X (by decide) a;clear X;go_enter Tryz.func196,Tryz.ntmps196;go_wp2_with fail;refine t.mono ?_
 rintro e f ⟨rfl,c,b⟩;clear t;go_wp2;go_end0;exact⟨rfl,c,b⟩
theorem DY(X:WrA w g err L)(a:L.length + 8<=4611686018427387904) :
  Calls Tryz.prog 152 #[.pointer (some ⟨g,0,none⟩),.int .u64 x] w fun e w'=>e=.returned (.tuple #[])/\WrA w' g err (wrote err L (be 8 x))/\But g w w':=by
 have t:=zx (m:=8) (x:=x) X (by decide) a;clear X;go_enter Tryz.func152,Tryz.ntmps152;go_wp2_with fail;refine t.mono ?_
 rintro e d ⟨rfl,c,b⟩;clear t;go_wp2;go_end0;exact⟨rfl,c,b⟩
theorem AA{x:Bool}(X:WrA w g err L)(a:L.length + 8<=4611686018427387904) :
  Calls Tryz.prog 154 #[.pointer (some ⟨g,0,none⟩),.bool x] w fun e w'=>e=.returned (.tuple #[])/\WrA w' g err (wrote err L (be 1 (if x then 1 else 0)))/\But g w w':=by
 cases x
 ·have t:=wrU8 (x:=0) X (by decide) (by decide) a;clear X;go_enter Tryz.func154,Tryz.ntmps154;go_wp2_with fail;refine t.mono ?_
  rintro e d ⟨rfl,c,b⟩;clear t;go_wp2;go_end0;exact⟨rfl,c,b⟩
 ·have t:=wrU8 (x:=1) X (by decide) (by decide) a;clear X;go_enter Tryz.func154,Tryz.ntmps154;go_wp2_with fail;refine t.mono ?_
  rintro e d ⟨rfl,c,b⟩;clear t;go_wp2;go_end0;exact⟨rfl,c,b⟩
end
end
section
open Go.RowKit Lim
section
variable {V err:Int}{g n c:Nat}{w:World}{ao:Option Addr}{L:List Int}
def dV(V:Int):List Int:=be ((bitLen V.toNat + 7) / 8) V
theorem pK(b:0<=V):IsB (dV V) V:=by
 obtain⟨d,g⟩:=nP b;unfold dV;generalize (bitLen V.toNat + 7) / 8=k at *;refine⟨eR k V,fun a => ?_,by rw[oO k b,Int.emod_eq_of_lt b d]⟩
 have h:k≠0:=fun e=>a (by rw[e]; rfl)
 rw[xK k V 0 (by omega),show k - 1 - 0=k - 1 by omega]
 have c:(0:Int) < 256 ^ (k - 1):=Int.pow_pos (by decide)
 have q1:1<=V / 256 ^ (k - 1):=by rw[Int.le_ediv_iff_mul_le c]; have:=g h; omega
 have f:V / 256 ^ (k - 1) < 256:=by
  rw[Int.ediv_lt_iff_lt_mul c,Int.mul_comm,<- Int.pow_succ,show (k - 1).succ=k from by omega]; exact d
 rw[Int.emod_eq_of_lt (by omega) f]; omega
theorem yD(V:Int):bh (dV V):=eR _ _
def gF(V err:Int):Int:=if (dV V).length < 256 then err else long err
def iC(V err:Int)(L:List Int):List Int:=if (dV V).length < 256 then wrote err L (fM 1 (dV V)) else L
theorem But.of{w':World}(h:Below w.heap.size w w'):But g w w':=⟨h.os,h.tape,h.output,h.size,fun k h1 _=>h.block k h1⟩
theorem wrNat(X:WrA w g err L)(h:aQ w ao n c V)(hn:n<=1099511627776)(D:L.length + 8 * n + 16<=4611686018427387904) :
  Calls Tryz.prog 197 #[.pointer (some ⟨g,0,none⟩),.slice ao n c] w fun e w'=>e=.returned (.tuple #[])/\WrA w' g (gF V err) (iC V err L)/\But g w w':=by
 obtain⟨b,o,l,B,C,u,z,x⟩:=h.ex;have t:=wF ao n c b o l w B C hn u z;rw[x] at t
 have G:0<=V:=by rw[<- x]; exact aM u
 have M:=X.lt
 have J:Hid (WrA w g err L):=X;clear X h B C u z x;go_enter Tryz.func197,Tryz.ntmps197;go_wp2_with fail;refine t.mono ?_
 rintro e O ⟨v,r,rfl,A,E,-,K,q⟩;obtain⟨k,N,P,F,rfl,j,H,hA,-⟩:=A.is;obtain rfl:=lT E (pK G);have i:=J.out.keep q;have y:=(show Hid _ from q)
 clear t A E q;by_cases a:(dV V).length < 256
 ·have t2:=wrCnt (m:=1) i hA rfl j (by omega) (.inl rfl) (by simpa using a) (by omega)
  have f:Hid (gF V err=err/\iC V err L=wrote err L (fM 1 (dV V))):=by
   unfold gF iC;rw[if_pos a,if_pos a]; exact⟨rfl,rfl⟩
  clear i hA a;go_wp2_with fail;refine t2.mono ?_
  rintro e I ⟨rfl,s,d⟩;have p:=(show Hid _ from(But.of (g:=g) y.out).trans d)
  clear t2 d;go_wp2;go_end0;exact⟨rfl,by rw[f.out.1,f.out.2]; exact s,p.out⟩
 ·have t2:=vM (ao:=k) (c:=F) (m:=1) (n:=(dV V).length) i (by omega) (by decide) (by omega)
  have f:Hid (gF V err=long err/\iC V err L=L):=by
   unfold gF iC;rw[if_neg a,if_neg a]; exact⟨rfl,rfl⟩
  clear i hA a;go_wp2_with fail;refine t2.mono ?_
  rintro e I ⟨rfl,s,d⟩;have p:=(show Hid _ from(But.of (g:=g) y.out).trans d)
  clear t2 d;go_wp2;go_end0;exact⟨rfl,by rw[f.out.1,f.out.2]; exact s,p.out⟩
theorem uy(X:WrA w g err L)(h:aQ w ao n c V)(hn:n<=1099511627776)(b:L.length + 8 * n + 16<=4611686018427387904) :
  Calls Tryz.prog 156 #[.pointer (some ⟨g,0,none⟩),.agg #[.slice ao n c]] w fun e w'=>e=.returned (.tuple #[])/\WrA w' g (gF V err) (iC V err L)/\But g w w':=by
 have d:Hid (Below w.heap.size w (w.alloc (.cells #[.slice ao n c] 32))):=ae w _;have t:=wrNat (X.keep d.out) (h.keep d.out) hn b;clear X h;go_enter Tryz.func156,Tryz.ntmps156;go_wp2_with fail;refine t.mono ?_
 rintro e i ⟨rfl,f,a⟩;replace a:=(show Hid _ from(But.of (g:=g) d.out).trans a)
 clear t d;go_wp2;go_end0;exact⟨rfl,f,a.out⟩
end
end
section
open Go.RowKit Lim
section
variable {err:Int}{l:List Int}{w:World}{b g n c m:Nat}{ao:Option Addr}{cs:List Value}{y:Value}
def rdE{α:Type}(r:Int ⊕ α × Nat)(err:Int):Int:=if err=0 then (match r with | .inl e=>e | .inr _=>0) else err
def rdL{α:Type}(r:Int ⊕ α × Nat)(err:Int)(l:List Int):List Int:=if err=0 then (match r with | .inl _=>l | .inr p=>l.drop p.2) else l
def rdV{α:Type}(z:α)(r:Int ⊕ α × Nat)(err:Int):α:=if err=0 then (match r with | .inl _=>z | .inr p=>p.1) else z
def cN(m:Nat)(l:List Int):Int ⊕ Int × Nat:=if m<=l.length then .inr (bO (l.take m),m) else .inl 40
def bE(l:List Int):Int ⊕ Bool × Nat:=if 1<=l.length then (if 1 < bO (l.take 1) then .inl 41 else .inr (bO (l.take 1) == 1,1)) else .inl 40
def bS(m:Nat)(l:List Int):Nat:=(bO (l.take m)).toNat
def bQ(l:List Int):Int ⊕ Int × Nat:=if 1<=l.length then (if 1 + bS 1 l<=l.length then (if 0 < bS 1 l/\nth (l.drop 1) 0=0 then .inl 41 else .inr (bO ((l.drop 1).take (bS 1 l)),1 + bS 1 l)) else .inl 40) else .inl 40
theorem o7{α:Type}{r:Int ⊕ α × Nat}(h:err≠0):rdE r err=err:=by unfold rdE; rw[if_neg h]
theorem uG{α:Type}{r:Int ⊕ α × Nat}(h:err≠0):rdL r err l=l:=by unfold rdL; rw[if_neg h]
theorem uZ{α:Type}{z:α}{r:Int ⊕ α × Nat}(h:err≠0):rdV z r err=z:=by unfold rdV; rw[if_neg h]
theorem Dd(m:Nat)(err:Int)(l:List Int):qp m err l=rdV 0 (cN m l) err:=by
 unfold qp rdV cN;by_cases h1:err=0<;>by_cases h2:m<=l.length<;>simp[h1,h2]
theorem DF(m:Nat)(err:Int)(l:List Int):oN m err l=rdE (cN m l) err:=by
 unfold oN rdE cN;by_cases h1:err=0<;>by_cases h2:m<=l.length<;>simp[h1,h2]
theorem Co(m:Nat)(err:Int)(l:List Int):pB m err l=rdL (cN m l) err l:=by
 unfold pB rdL cN;by_cases h1:err=0<;>by_cases h2:m<=l.length<;>simp[h1,h2]
theorem ByA.but{w':World}(h:ByA w b ao n c l){t:TypeId}(s:Box w g cs t)(hv:∀ v∈cs,∀ x,v≠.int .u8 x)(j:But g w w'):ByA w' b ao n c l:=by
 obtain⟨o,p,f,k,m,d⟩:=h.ex;refine⟨o,p,f,k,m,d.loc,fun i hi => ?_⟩;have hc:=d.cell i hi;refine j.cell hc (fun e => ?_);subst e;simp only[World.cell?,s.blk] at hc
 have a:cs.toArray[o + i]? = some (.int .u8 (nth l i)):=by simpa using hc
 rw[List.getElem?_toArray] at a;exact absurd rfl (hv _ (List.mem_of_getElem? a) _)
theorem RdA.back{w1:World}(e0:Int)(X:Box w g [.int .i64 0,.slice ao n c] 298)(A:ByA w b ao n c l)(a:But g w w1)(Y:Box w1 g [.int .i64 0,y] 298) :
  RdA ((w1.setCell ⟨g,1,none⟩ (.slice ao n c)).setCell ⟨g,0,none⟩ (.int .i64 e0)) g b e0 l/\But g w ((w1.setCell ⟨g,1,none⟩ (.slice ao n c)).setCell ⟨g,0,none⟩ (.int .i64 e0)):=by
 have H:But g w ((w1.setCell ⟨g,1,none⟩ (.slice ao n c)).setCell ⟨g,0,none⟩ (.int .i64 e0)):=⟨a.os,a.tape,a.output,by rw[size_set,size_set]; exact a.size,fun k e d=>by rw[Below.heap_setCell _ _ _ k d,Below.heap_setCell _ _ _ k d]; exact a.block k e d⟩
 exact⟨⟨ao,n,c,jz (eQ Y _) _,A.but X (kM _ _ _ _) H⟩,H⟩
theorem RdA.lt(h:RdA w g b err l):g < w.heap.size:=by
 obtain⟨_,_,_,X,_⟩:=h.ex;exact X.lt
theorem DR(h:RdA w g b 0 l)(hm:m<=l.length)(h8:m<=8) :
  Calls Tryz.prog 244 #[.pointer (some ⟨g,0,none⟩),.int .u64 m] w fun e w'=>e=.returned (.tuple #[.int .u64 (bO (l.take m)),.int .i64 0])/\RdA w' g b 0 (l.drop m)/\But g w w':=by
 obtain⟨d,n,c,X,A⟩:=h.ex;obtain⟨o,j,a,⟨i,-⟩,-,-⟩:=A.ex;refine(rdNum X A (by omega:m<=n) h8).mono ?_
 rintro e w' ⟨f,rfl⟩
 have H:But g w (w.setCell ⟨g,1,none⟩ (.slice (db d c m) (n - m) (c - m))):=⟨rfl,rfl,rfl,by rw[size_set]; exact Nat.le_refl _,fun k _ a=>Below.heap_setCell _ _ _ k a⟩
 exact⟨f,⟨_,_,_,eQ X _,(A.rest (by omega)).but X (kM _ _ _ _) H⟩,H⟩
theorem zO(h:RdA w g b 0 l)(hm:l.length < m) :
  Calls Tryz.prog 244 #[.pointer (some ⟨g,0,none⟩),.int .u64 m] w fun e w'=>e=.returned (.tuple #[.int .u64 0,.int .i64 40])/\w'=w:=by
 obtain⟨f,n,c,X,A⟩:=h.ex;obtain⟨o,a,d,⟨i,-⟩,-,-⟩:=A.ex;exact Ad X (by omega) (by omega)
theorem zy(h:RdA w g b 0 l)(hm:m<=l.length) :
  Calls Tryz.prog 255 #[.pointer (some ⟨g,0,none⟩),.int .u64 m] w fun e w'=>∃ ao,e=.returned (.tuple #[.slice ao m m,.int .i64 0])/\ByA w' b ao m m (l.take m)/\RdA w' g b 0 (l.drop m)/\But g w w':=by
 obtain⟨ao,n,c,X,A⟩:=h.ex;obtain⟨o,i,a,⟨d,-⟩,-,-⟩:=A.ex;refine(AB X a d (by omega:m<=n)).mono ?_
 rintro e w' ⟨f,rfl⟩
 have H:But g w (w.setCell ⟨g,1,none⟩ (.slice (db ao c m) (n - m) (c - m))):=⟨rfl,rfl,rfl,by rw[size_set]; exact Nat.le_refl _,fun k _ a=>Below.heap_setCell _ _ _ k a⟩
 exact⟨ao,f,(A.front (by omega)).but X (kM _ _ _ _) H,⟨_,_,_,eQ X _,(A.rest (by omega)).but X (kM _ _ _ _) H⟩,H⟩
theorem BP(h:RdA w g b 0 l)(hm:l.length < m) :
  Calls Tryz.prog 255 #[.pointer (some ⟨g,0,none⟩),.int .u64 m] w fun e w'=>e=.returned (.tuple #[.slice none 0 0,.int .i64 40])/\w'=w:=by
 obtain⟨f,n,c,X,A⟩:=h.ex;obtain⟨o,a,d,⟨i,-⟩,-,-⟩:=A.ex;exact vw X (by omega) (by omega)
theorem RdA.oct(h:RdA w g b err l):bh l:=by
 obtain⟨_,_,_,_,A⟩:=h.ex;obtain⟨o,_,_,_,h4,_⟩:=A.ex;exact h4
theorem ra(h:RdA w g b err l):((bS m l:Nat):Int)=bO (l.take m):=by
 unfold bS;rw[Int.toNat_of_nonneg (bM (fun x hx=>h.oct x (List.mem_of_mem_take hx))).1]
theorem CZ(h:RdA w g b 0 l) :
  Calls Tryz.prog 220 #[.pointer (some ⟨g,0,none⟩)] w fun e w'=>∃ v,e=.returned (.tuple #[v,.int .i64 (rdE (bE l) 0)])/\∃ l1,RdA w' g b 0 l1/\But g w w'/\∀ x k,bE l=.inr (x,k)->l1=l.drop k/\v=.bool x:=by
 by_cases d:1<=l.length
 ·have t:=DR (m:=1) h d (by decide);by_cases hx:1 < bO (l.take 1)
  ·have a:bE l=.inl 41:=by unfold bE; rw[if_pos d,if_pos hx]
   have c:Hid (rdE (bE l) 0=41):=by show _=_; rw[a]; rfl
   have f:=(show Hid _ from a)
   clear a h
   have j:(bO (l.take 1) == 1)=false:=by rw[beq_eq_false_iff_ne]; omega
   generalize bO (l.take 1)=X at *;go_enter Tryz.func220,Tryz.ntmps220;go_wp2_with fail;refine t.mono ?_
   rintro e o ⟨rfl,n,i⟩;clear t;go_wp2;go_ret2;exact⟨_,by rw[c.out]; rfl,_,n,i,fun x k e=>by rw[f.out] at e; cases e⟩
  ·have a:bE l=.inr (bO (l.take 1) == 1,1):=by unfold bE; rw[if_pos d,if_neg hx]
   have c:Hid (rdE (bE l) 0=0):=by show _=_; rw[a]; rfl
   have f:=(show Hid _ from a)
   clear a h;generalize bO (l.take 1)=X at *
   have j:X<=1:=by omega
   clear hx;go_enter Tryz.func220,Tryz.ntmps220;go_wp2_with fail;refine t.mono ?_
   rintro e o ⟨rfl,n,i⟩;clear t;go_wp2;go_ret2;exact⟨_,by rw[c.out]; rfl,_,n,i,fun x k e=>by rw[f.out] at e; cases e; exact⟨rfl,rfl⟩⟩
 ·have t:=zO (m:=1) h (by omega)
  have a:bE l=.inl 40:=by unfold bE; rw[if_neg d]
  have c:Hid (rdE (bE l) 0=40):=by show _=_; rw[a]; rfl
  have f:=(show Hid _ from a)
  have p:=(show Hid _ from h)
  clear a h d;go_enter Tryz.func220,Tryz.ntmps220;go_wp2_with fail;refine t.mono ?_
  rintro e o ⟨rfl,rfl⟩;clear t;go_wp2;go_ret2;exact⟨_,by rw[c.out]; rfl,_,p.out,⟨rfl,rfl,rfl,Nat.le_refl _,fun _ _ _=>rfl⟩,fun x k e=>by rw[f.out] at e; cases e⟩
end
end
section
open Go.RowKit Lim
theorem cE (ao : Option Addr) (n c b o : Nat) (l : List Int) (w : World) (A : l.length = n) (D : n ≤ 1099511627776) (k : ao = none → c = 0) (B : AtB w ao b o l) :
    Calls Tryz.prog 217 #[.slice ao n c] w fun e w' => ∃ v, e = .returned v ∧ fA w' w.heap.size v l ∧ Below w.heap.size w w' := by
  obtain⟨i0, hi, r, z, q⟩:= info_parts lE
  have G : ∀ (w : World) (a : Option Addr) (n c s m : Nat), (binOp .eql 96 (.slice a n c) (.slice none s m)).run Tryz.prog w = .ok (.bool a.isNone) w := fun w a n c s m => Lib.run_eql_slice_nil w _ _ a n c s m cC
  cases ao with
  | none =>
    have E : l = [] := by rcases B.loc with e | e
                           · exact e
                           · simp at e
    subst E
    have y : n = 0 := A.symm;subst y;have C := k rfl;subst C
    have d : w.ownsRow w.heap.size 5 1 (.slice none 0 0) 0 [] := World.ownsRow_nil _ _ _ _;go_enter Tryz.func217, Tryz.ntmps217;go_wp2;go_ret;exact⟨_, rfl, d, Below.refl _ _⟩
  | some x =>
    have t := ae w (.cells #[] 5)
    have d : (w.alloc (.cells #[] 5)).ownsRow w.heap.size 5 1 (.slice (some ⟨w.heap.size, 0, none⟩) 0 0) 0 [] := ⟨rfl, .inr ⟨w.heap.size, 0, #[], rfl, Nat.le_refl _, (iw w [] 5).blk, Nat.le_refl _, by decide, rfl, rfl⟩⟩
    have i : ∀ j u, (l.map (Value.int .u8))[j]? = some u → (w.alloc (.cells #[] 5)).cell? (x.add j) = some u := by
      intro j u hu;rw[List.getElem?_map] at hu
      have f : j < l.length := by
        rcases Nat.lt_or_ge j l.length with f | f
        · exact f
        · rw[List.getElem?_eq_none f] at hu; simp at hu
      rw[List.getElem?_eq_getElem f] at hu;simp at hu;subst hu
      have hx : x = ⟨b, o, none⟩:= by
        rcases B.loc with e | e
        · subst e; simp at f
        · simpa using e
      subst hx;have := (B.keep t).cell j f;rw[bT f] at this;rw[addr_add];exact this
    have p := (show Hid _ from t);clear t;go_enter Tryz.func217, Tryz.ntmps217;go_wp2_with (at_builtin; refine wpList_append_own _ rfl _ _ 96 rfl w.heap.size 5 i0 (.int .u8 0) 1 1 cC hi r z q rfl (by decide) _ _ _ rfl d x n c (l.map (Value.int .u8)) rfl (by simp[A]) ?c1 ?c2 ?c3 ?c4 ?c5 ?_)
    case c1 => exact i
    case c2 => exact ints_oneCell _ _
    case c3 => unfold maxLen; omega
    case c4 => omega
    case c5 => exact p.out.size
    intro F H g h _;go_wp2;go_ret;refine⟨F, rfl, ?_, p.out.grown h p.out.size (sE d)⟩;unfold fA;rw[A];simpa using g
theorem AU {w:World} {g b m:Nat} {err:Int} {l:List Int} (h:RdA w g b err l) (hm:m<=l.length):((bS m l:Nat):Int) < 256 ^ m:=by
 have:=(bM (l:=l.take m) (fun x hx=>h.oct x (List.mem_of_mem_take hx))).2;rw[List.length_take,Nat.min_eq_left hm] at this;rw[ra h];exact this
end
section
open Go.RowKit Lim
end
section
open Go.RowKit Lim
section
variable {l:List Int}{e0 err:Int}{w w':World}{g b G:Nat}{v:Value}
theorem Ah(h:bE l=.inl e0):e0≠0:=by
 unfold bE at h
 repeat' split at h
 all_goals (cases h; try decide)
theorem Bt(h:bQ l=.inl e0):e0≠0:=by
 unfold bQ at h
 repeat' split at h
 all_goals (cases h; try decide)
theorem enBo{α:Type}{z:α}{p:Int ⊕ α × Nat}{V:α->Value->World->Prop}(h:RdA w g b err l)(m:∀ e0,p=.inl e0->e0≠0)(j:∀ w',V z (.bool false) w')(t:err=0->Calls Tryz.prog 220 #[.pointer (some ⟨g,0,none⟩)] w fun e w'=>∃ v,e=.returned (.tuple #[v,.int .i64 (rdE p 0)])/\∃ l1,RdA w' g b 0 l1/\But g w w'/\∀ x k,p=.inr (x,k)->l1=l.drop k/\V x v w') :
  Calls Tryz.prog 219 #[.pointer (some ⟨g,0,none⟩),.func (.func 220) #[.pointer (some ⟨g,0,none⟩)] #[]] w fun e w'=>∃ v,e=.returned v/\V (rdV z p err) v w'/\RdA w' g b (rdE p err) (rdL p err l)/\But g w w':=by
 obtain⟨y,n,c,X,A⟩:=h.ex;by_cases he:err=0
 ·subst he
  match hq:p with
  | .inl e0 =>
   have f:e0≠0:=m e0 rfl
   have i:Calls Tryz.prog 220 #[.pointer (some ⟨g,0,none⟩)] w fun e w'=>∃ v,e=.returned (.tuple #[v,.int .i64 e0])/\∃ l1,RdA w' g b 0 l1/\But g w w':=(t rfl).mono (by
    rintro e w' ⟨v,e1,l1,a,d,-⟩;exact⟨v,e1,l1,a,d⟩)
   refine(Cf f X (fun v o r=>by
    obtain⟨l1,a,-⟩:=r;obtain⟨_,_,_,Y,_⟩:=a.ex;exact⟨_,Y⟩) i).mono ?_
   rintro e w' ⟨e1,v,o,⟨l1,a,d⟩,rfl⟩;obtain⟨_,_,_,Y,_⟩:=a.ex;have H:=RdA.back e0 X A d Y;exact⟨_,e1,j _,H.1,H.2⟩
  | .inr (x,k) =>
   have i:Calls Tryz.prog 220 #[.pointer (some ⟨g,0,none⟩)] w fun e w'=>∃ v,e=.returned (.tuple #[v,.int .i64 0])/\(V x v w'/\RdA w' g b 0 (l.drop k)/\But g w w'):=(t rfl).mono (by
    rintro e w' ⟨v,e1,l1,a,d,q⟩;obtain⟨s,u⟩:=q x k rfl;subst s;exact⟨v,e1,u,a,d⟩)
   exact enBoOk X i
 ·refine(Bq X he).mono ?_
  rintro e w' ⟨rfl,rfl⟩;rw[uZ he,o7 he,uG he];exact⟨_,rfl,j _,h,But.refl _ _⟩
theorem enNa{α:Type}{z:α}{p:Int ⊕ α × Nat}{V:α->Value->World->Prop}(h:RdA w g b err l)(m:∀ e0,p=.inl e0->e0≠0)(j:∀ w',V z (.slice none 0 0) w')(t:err=0->Calls Tryz.prog 246 #[.pointer (some ⟨g,0,none⟩)] w fun e w'=>∃ v,e=.returned (.tuple #[v,.int .i64 (rdE p 0)])/\∃ l1,RdA w' g b 0 l1/\But g w w'/\∀ x k,p=.inr (x,k)->l1=l.drop k/\V x v w') :
  Calls Tryz.prog 245 #[.pointer (some ⟨g,0,none⟩),.func (.func 246) #[.pointer (some ⟨g,0,none⟩)] #[]] w fun e w'=>∃ v,e=.returned v/\V (rdV z p err) v w'/\RdA w' g b (rdE p err) (rdL p err l)/\But g w w':=by
 obtain⟨y,n,c,X,A⟩:=h.ex;by_cases he:err=0
 ·subst he
  match hq:p with
  | .inl e0 =>
   have f:e0≠0:=m e0 rfl
   have i:Calls Tryz.prog 246 #[.pointer (some ⟨g,0,none⟩)] w fun e w'=>∃ v,e=.returned (.tuple #[v,.int .i64 e0])/\∃ l1,RdA w' g b 0 l1/\But g w w':=(t rfl).mono (by
    rintro e w' ⟨v,e1,l1,a,d,-⟩;exact⟨v,e1,l1,a,d⟩)
   refine(CV f X (fun v o r=>by
    obtain⟨l1,a,-⟩:=r;obtain⟨_,_,_,Y,_⟩:=a.ex;exact⟨_,Y⟩) i).mono ?_
   rintro e w' ⟨e1,v,o,⟨l1,a,d⟩,rfl⟩;obtain⟨_,_,_,Y,_⟩:=a.ex;have H:=RdA.back e0 X A d Y;exact⟨_,e1,j _,H.1,H.2⟩
  | .inr (x,k) =>
   have i:Calls Tryz.prog 246 #[.pointer (some ⟨g,0,none⟩)] w fun e w'=>∃ v,e=.returned (.tuple #[v,.int .i64 0])/\(V x v w'/\RdA w' g b 0 (l.drop k)/\But g w w'):=(t rfl).mono (by
    rintro e w' ⟨v,e1,l1,a,d,q⟩;obtain⟨s,u⟩:=q x k rfl;subst s;exact⟨v,e1,u,a,d⟩)
   exact enNaOk X i
 ·refine(Bw X he).mono ?_
  rintro e w' ⟨rfl,rfl⟩;rw[uZ he,o7 he,uG he];exact⟨_,rfl,j _,h,But.refl _ _⟩
theorem pFix_v{m:Nat}(h:RdA w g b err l):0<=rdV 0 (cN m l) err/\rdV 0 (cN m l) err < 256 ^ m:=by
 have c:(0:Int) < 256 ^ m:=Int.pow_pos (by decide);unfold rdV cN;split
 ·split
  ·exact⟨Int.le_refl _,c⟩
  ·rename_i a;split at a
   ·cases a;have:=bM (l:=l.take m) (fun x hx=>h.oct x (List.mem_of_mem_take hx));rw[List.length_take,Nat.min_eq_left (by assumption)] at this;exact this
   ·cases a
 ·exact⟨Int.le_refl _,c⟩
theorem DS(h:RdA w g b err l) :
  Calls Tryz.prog 180 #[.pointer (some ⟨g,0,none⟩)] w fun e w'=>e=.returned (.int .u64 (rdV 0 (cN 8 l) err))/\RdA w' g b (rdE (cN 8 l) err) (rdL (cN 8 l) err l)/\But g w w':=by
 have t:=A7 (m:=8) h (by decide);obtain⟨d,a⟩:=pFix_v (m:=8) h;rw[show (256:Int) ^ 8=18446744073709551616 by decide] at a;rw[Dd,DF,Co] at t;clear h;generalize rdV 0 (cN 8 l) err=V at *;generalize rdE (cN 8 l) err=E at *;generalize rdL (cN 8 l) err l=R at *;go_enter Tryz.func180,Tryz.ntmps180;go_wp2_with fail;refine t.mono ?_
 rintro e c ⟨rfl,k1,k2⟩;clear t;go_wp2;go_ret;exact⟨rfl,k1,k2⟩
theorem rdBool(h:RdA w g b err l) :
  Calls Tryz.prog 182 #[.pointer (some ⟨g,0,none⟩)] w fun e w'=>e=.returned (.bool (rdV false (bE l) err))/\RdA w' g b (rdE (bE l) err) (rdL (bE l) err l)/\But g w w':=by
 have t:=enBo (z:=false) (p:=bE l) (V:=fun x v _=>v=.bool x) h (fun _=>Ah) (fun _=>rfl) (fun e=>by subst e; exact CZ h);clear h;generalize rdV false (bE l) err=V at *;generalize rdE (bE l) err=E at *;generalize rdL (bE l) err l=R at *;go_enter Tryz.func182,Tryz.ntmps182;go_wp2_with fail;refine t.mono ?_
 rintro e a ⟨v,rfl,rfl,k1,k2⟩;clear t;go_wp2;go_ret;exact⟨rfl,k1,k2⟩
theorem Slot.bx{t:TypeId}(s:Slot w g v t):Box w g [v] t:=⟨s.blk⟩
theorem RdA.put(h:RdA w g b err l){u:Value}{t:TypeId}(s:Slot w G v t)(d:G≠g)(hv:∀ x,v≠.int .u8 x):RdA (w.setCell ⟨G,0,none⟩ u) g b err l:=by
 obtain⟨e,n,c,X,A⟩:=h.ex;refine⟨e,n,c,⟨?_⟩,A.box s.bx (fun i a=>by rw[List.mem_singleton] at a; subst a; exact hv) fun k f=>Below.heap_setCell _ _ _ k f⟩;rw[Below.heap_setCell _ _ _ g d.symm];exact X.blk
theorem Slot.but{t:TypeId}(s:Slot w G v t)(h:But g w w')(hG:G≠g):Slot w' G v t:=⟨by
 rw[h.block G s.bx.lt hG];exact s.blk⟩
theorem But.put(h:But g w w')(c:w.heap.size<=G)(u:Value):But g w (w'.setCell ⟨G,0,none⟩ u):=⟨h.os,h.tape,h.output,by rw[size_set]; exact h.size,fun k a b=>by rw[Below.heap_setCell _ _ _ k (by show k≠G; omega)]; exact h.block k a b⟩
theorem rdLeft(h:RdA w g b err l) :
  Calls Tryz.prog 222 #[.pointer (some ⟨g,0,none⟩)] w fun e w'=>e=.returned (.int .i64 l.length)/\w'=w:=by
 obtain⟨d,n,c,X,A⟩:=h.ex;obtain⟨o,a,-⟩:=A.ex;subst a;obtain⟨c1,c2,i,f⟩:=X.two;clear X A h;go_enter Tryz.func222,Tryz.ntmps222;go_wp2;go_ret;exact⟨rfl,rfl⟩
end
end
section
open Go.RowKit Lim
section
variable {w:World}{g b:Nat}{err:Int}{v:Value}{l:List Int}{ao:Option Addr}
theorem vT{e0:Int}{t:TypeId}(he:err≠0)(X:Box w g [.int .i64 err,v] t) :
  Calls Tryz.prog 223 #[.pointer (some ⟨g,0,none⟩),.int .i64 e0] w fun e w'=>e=.returned (.tuple #[])/\w'=w:=by
 have hb:(err == 0)=false:=beq_eq_false_iff_ne.2 he;have t:=fG X;rw[hb] at t;clear he hb X;go_enter Tryz.func223,Tryz.ntmps223;go_wp2_with fail;refine t.mono ?_
 rintro e w' ⟨rfl,rfl⟩;clear t;go_wp2;go_end0;exact⟨rfl,rfl⟩
def fY(err:Int)(l:List Int):Int:=if err=0 then (if l.length=0 then 0 else 43) else err
theorem DJ(h:RdA w g b err l)(m:l.length<=9223372036854775807) :
  Calls Tryz.prog 185 #[.pointer (some ⟨g,0,none⟩)] w fun e w'=>e=.returned (.int .i64 (fY err l))/\RdA w' g b (fY err l) l/\But g w w':=by
 have a:=rdLeft h;obtain⟨p,n,c,X,A⟩:=h.ex;obtain⟨c1,c2,v,u⟩:=X.two;by_cases d:l.length=0
 ·have f:Hid (fY err l=err):=by
   show _=_
   unfold fY;by_cases he:err=0
   ·rw[if_pos he,if_pos d,he]
   ·rw[if_neg he]
  have i:=(show Hid _ from h)
  rw[d] at a;clear X A h d;go_enter Tryz.func185,Tryz.ntmps185;go_wp2_with fail;refine a.mono ?_
  rintro e w' ⟨rfl,rfl⟩;clear a;go_wp2;go_ret;rw[f.out];exact⟨rfl,i.out,But.refl _ _⟩
 ·have o:(0:Int) < l.length:=by omega
  by_cases he:err=0
  ·subst he
   have f:Hid (fY 0 l=43):=by show _=_; unfold fY; rw[if_pos rfl,if_neg d]
   have i:Hid (RdA (w.setCell ⟨g,0,none⟩ (.int .i64 43)) g b 43 l):=⟨p,n,c,jz X _,A.box X (kM _ _ _ _) fun k t=>Below.heap_setCell _ _ _ k t⟩
   have d1:=(jz X (.int .i64 43)).two.1
   have q:Hid (But g w (w.setCell ⟨g,0,none⟩ (.int .i64 43))):=⟨rfl,rfl,rfl,by rw[size_set]; exact Nat.le_refl _,fun k _ r=>Below.heap_setCell _ _ _ k r⟩
   have j:=qt (e0:=43) X;clear X A h d;generalize l.length=L at *;go_enter Tryz.func185,Tryz.ntmps185;go_wp2_with fail;refine a.mono ?_
   rintro e w' ⟨rfl,rfl⟩;clear a;go_wp2_with fail;refine j.mono ?_
   rintro e s ⟨rfl,rfl⟩;clear j;go_wp2;go_ret;rw[f.out];exact⟨rfl,i.out,q.out⟩
  ·have f:Hid (fY err l=err):=by show _=_; unfold fY; rw[if_neg he]
   have j:=vT (e0:=43) he X;have i:=(show Hid _ from h)
   clear X A h d he;generalize l.length=L at *;go_enter Tryz.func185,Tryz.ntmps185;go_wp2_with fail;refine a.mono ?_
   rintro e w' ⟨rfl,rfl⟩;clear a;go_wp2_with fail;refine j.mono ?_
   rintro e s ⟨rfl,rfl⟩;clear j;go_wp2;go_ret;rw[f.out];exact⟨rfl,i.out,But.refl _ _⟩
theorem fA.bya{B:Nat}(h:fA w B v l)(d:bh l):∃ b ao c,v=.slice ao l.length c/\B<=b/\ByA w b ao l.length c l:=by
 obtain⟨_,f⟩:=h;rcases f with⟨rfl,h0⟩ | ⟨g,cap,cur,rfl,hB,hh,hle,hmx,hsz,htk⟩
 ·have e:l=[]:=List.eq_nil_of_length_eq_zero h0;subst e;exact⟨B,none,0,rfl,Nat.le_refl _,0,rfl,Nat.le_refl _,⟨by decide,fun _=>rfl⟩,d,.inl rfl,fun i hi=>by simp at hi⟩
 ·refine⟨g,_,_,rfl,hB,0,rfl,hle,⟨by unfold maxLen at hmx; omega,fun e=>by cases e⟩,d,.inr rfl,fun i hi => ?_⟩;simp only[World.cell?,hh]
  have e:cur[0 + i]? = some (.int .u8 (nth l i)):=by
   have a:(cur.toList.take (l.length * 1))[i]? = some (.int .u8 (nth l i)):=by
    rw[htk,List.getElem?_map,List.getElem?_eq_getElem hi,bT hi];rfl
   rw[List.getElem?_take] at a;split at a
   ·rw[Nat.zero_add,<- Array.getElem?_toList];exact a
   ·cases a
  simpa using e
theorem DW{n c:Nat}(A:ByA w b ao n c l)(d:n<=1099511627776) :
  Calls Tryz.prog 178 #[.slice ao n c] w fun e w'=>∃ g b',e=.returned (.pointer (some ⟨g,0,none⟩))/\w.heap.size<=g/\w.heap.size<=b'/\RdA w' g b' 0 l/\Below w.heap.size w w':=by
 obtain⟨o,s,x,p,q,r⟩:=A.ex;have t:=cE ao n c b o l w s d p.2 r;have y:=(show Hid _ from q)
 clear s x p q r A;go_enter Tryz.func178,Tryz.ntmps178;go_wp2_with fail;refine t.mono ?_
 rintro e m ⟨v,rfl,u,k⟩;obtain⟨b',a,i,rfl,f,hA⟩:=u.bya y.out;have z:=(show Hid _ from hA)
 have j:=(show Hid _ from k)
 have h:=(show Hid _ from f)
 clear t u k hA f;go_wp2;go_ret;exact⟨m.heap.size,b',rfl,j.out.size,h.out,⟨a,_,i,iw m [.int .i64 0,.slice a l.length i] _,z.out.keep (ae _ _)⟩,aj j.out (ae _ _)⟩
end
end
section
open Go.RowKit Lim
section
variable {w:World}{g:Nat}{L:List Int}{o:Oper}{a:Act}{X:Int}{v:Value}{lo' hi':Option Value}{cur:List Value}
theorem wrOutE{err:Int}(X:WrA w g err L)(he:err≠0) :
  Calls Tryz.prog 158 #[.pointer (some ⟨g,0,none⟩)] w fun e w'=>e=.returned (.tuple #[.slice none 0 0,.int .i64 err])/\Below w.heap.size w w':=by
 obtain⟨p,ps,b,u,a,-⟩:=X.ex;have t:=kx a.c0;have c0:=a.c0;rw[beq_eq_false_iff_ne.2 he] at t;clear X a he;go_enter Tryz.func158,Tryz.ntmps158;go_wp2_with fail;refine t.mono ?_
 rintro e c ⟨rfl,rfl⟩;clear t;go_wp2_with fail;go_quiet (fail);go_wp2;go_ret2;exact⟨rfl,below_drewN (Below.refl _ _) _⟩
theorem gX{o:Nat}{x:Int}(c:w.cell? ⟨g,o,none⟩=some (.int .i64 x)):(loadVar 3 ⟨g,o,none⟩).run Tryz.prog w=.ok (.int .i64 x) w:=by
 go_simp
theorem yF(x y:Nat){Y:Int}(b:o.op=.binOp .add 3 (.tmp x) (.tmp y) 3)(hx:a.eval (.tmp x)=.int .i64 X)(hy:a.eval (.tmp y)=.int .i64 Y)(c:0<=X + Y)(d:X + Y<=9223372036854775807):(execOp a.eval o).run Tryz.prog w=.ok (.value (.int .i64 (X + Y))) w:=by
 simp only[execOp,b,hx,hy];go_simp;simp[IntKind.wrap,IntKind.bits,IntKind.signed];omega
theorem CI{x N:Nat}(c:o.op=.makeSlice 96 (.tmp x) (.tmp x))(hx:a.eval (.tmp x)=.int .i64 X)(hX:X=(N:Int))(e:N<=17592186044416):(execOp a.eval o).run Tryz.prog w=.ok (.value (.slice (some ⟨w.heap.size,0,none⟩) N N)) (w.alloc (.cells ((List.replicate N 0).map (Value.int .u8)).toArray 5)):=by
 subst hX;obtain⟨i,hi,d,hs,hb⟩:=info_parts lE;have b:=run_make (P:=Tryz.prog) w 96 5 i (.int .u8 0) cC hi d .i64 .i64 (N:Int) (N:Int) (by omega) (by omega) (by rw[hb]; omega) (by omega);simp only[execOp,c,hx];simp[b,Result.andThen,hs,vh]
theorem qS(g u:Nat)(h:u<=256)(W:World):(Instr.sliceAt 229 (.pointer (some ⟨g,3,none⟩)) none (some (.int .i64 (u:Int))) none).run Tryz.prog W=.ok (.slice (some ⟨g,3,none⟩) u 256) W:=by
 have a:(u:Int)<=256:=by omega
 go_simp
theorem ql(g:Nat)(W:World):(Instr.sliceAt 229 (.pointer (some ⟨g,1,none⟩)) none none none).run Tryz.prog W=.ok (.slice (some ⟨g,1,none⟩) 256 256) W:=by
 go_simp
theorem pQ{T:TypeId}(x:Operand)(lo hi:Option Operand){X:Value}(d:o.op=.slice T x lo hi none)(hx:a.eval x=X)(c:lo.map a.eval=lo')(b:hi.map a.eval=hi')(h:(Instr.sliceAt T X lo' hi' none).run Tryz.prog w=.ok v w):(execOp a.eval o).run Tryz.prog w=.ok (.value v) w:=by
 subst hx;subst c;subst b;simp only[execOp,d,Option.map_none];simp[h,Result.andThen]
theorem zu(d s:Nat)(i:o.op=.call { callee:=.builtin .copy,args:=#[.tmp d,.tmp s],argTypes:=#[96,96] }){off dLen dCap sLen sCap:Nat}{ad:Addr}(f:a.eval (.tmp d)=.slice (some ⟨g,off,none⟩) dLen dCap)(hs:a.eval (.tmp s)=.slice (some ad) sLen sCap){t:TypeId}(h:Box w g cur t)(cs:List Value)(m:Nat)(hm:cs.length=m)(hn:m=Nat.min sLen dLen)(b:∀ j v,cs[j]? = some v->w.cell? (ad.add j)=some v)(c:off + m<=cur.length)(k:∀ v∈cs,v.oneCell'=true) :
  (execOp a.eval o).run Tryz.prog w=.ok (.value (.int .i64 (m:Int))) (w.setRow g (splice cur off cs).toArray):=by
 subst hm;have e:=run_copy_row (P:=Tryz.prog) w 96 96 o.type 5 g off dLen dCap ad sLen sCap cur.toArray t cs cC uA h.blk hn b (by simpa using c) k;simp[execOp,i,resolve,invoke,builtin,f,hs,e,Result.andThen,splice,goInt]
theorem zg(X:WrA w g 0 L)(z:L.length<=17592186044416) :
  Calls Tryz.prog 158 #[.pointer (some ⟨g,0,none⟩)] w fun e w'=>e=.returned (.tuple #[.slice (some ⟨w.heap.size,0,none⟩) L.length L.length,.int .i64 0])/\Box w' w.heap.size (L.map (Value.int .u8)) 5/\Below w.heap.size w w':=by
 obtain⟨p,ps,d,u,B,P0,hu,hL⟩:=X.ex;have t:=kx B.c0
 have hlen:L.length=ps.length + u:=by rw[hL,List.length_append,List.length_take,B.len]; omega
 obtain⟨N,E⟩:∃ N,N=L.length:=⟨_,rfl⟩
 rw[<- E] at hlen z ⊢;have HL:=(show Hid _ from hL)
 have HP:=(show Hid _ from P0)
 have HN:=(show Hid _ from E)
 have M:=(show Hid _ from hlen)
 have hps:ps.length<=17592186044416:=by omega
 clear X hL P0 E hlen;go_enter Tryz.func158,Tryz.ntmps158;go_wp2_with fail;refine t.mono ?_
 rintro e c ⟨rfl,rfl⟩;clear t;go_wp2_with fail
 have o:cO c.drew g 0 p (ps.length:Int) d (u:Int):=⟨B.len,B.blk⟩
 refine bU (S:=fun w'=>cO w' g 0 p (ps.length:Int) d (u:Int)) (by kernel_rfl) o ?_
 refine ai 0 (some 17) (.pointer (some ⟨g,0,none⟩)) (by kernel_rfl) (fun _ _=>by kernel_rfl) (fun _ _ _ h=>h) o ?_
 refine ai 1 (some 18) (.pointer (some ⟨g,0,none⟩)) (by kernel_rfl) (fun _ _=>by kernel_rfl) (fun _ _ _ h=>h) o ?_
 refine ai 2 (some 19) (.pointer (some ⟨g,2,none⟩)) (by kernel_rfl) (fun _ _=>by kernel_rfl) (fun _ _ _ h=>h) o ?_
 refine aP 3 (some 20) (.int .i64 (ps.length:Int)) 3 19 g 2 (by kernel_rfl) (by kernel_rfl) (by kernel_rfl) (fun w' h=>gX h.c2) (fun _ _ _ h=>h) o ?_
 refine ai 4 (some 21) (.pointer (some ⟨g,0,none⟩)) (by kernel_rfl) (fun _ _=>by kernel_rfl) (fun _ _ _ h=>h) o ?_
 refine ai 5 (some 22) (.pointer (some ⟨g,0,none⟩)) (by kernel_rfl) (fun _ _=>by kernel_rfl) (fun _ _ _ h=>h) o ?_
 refine ai 6 (some 23) (.pointer (some ⟨g,259,none⟩)) (by kernel_rfl) (fun _ _=>by kernel_rfl) (fun _ _ _ h=>h) o ?_
 refine aP 7 (some 24) (.int .i64 (u:Int)) 3 23 g 259 (by kernel_rfl) (by kernel_rfl) (by kernel_rfl) (fun w' h=>gX h.cu) (fun _ _ _ h=>h) o ?_
 refine ai 8 (some 25) (.int .i64 ((ps.length:Int) + (u:Int))) (by kernel_rfl) (fun _ _=>yF 20 24 (by kernel_rfl) (by kernel_rfl) (by kernel_rfl) (by omega) (by omega)) (fun _ _ _ h=>h) o ?_
 refine aL [9] (by kernel_rfl) (by simp) ?_
 have y:cO (c.drew.alloc (.cells ((List.replicate N 0).map (Value.int .u8)).toArray 5)) g 0 p (ps.length:Int) d (u:Int):=o.keep (ae _ _);refine bI 9 (some 26) (.slice (some ⟨c.heap.size,0,none⟩) N N) (c.drew.alloc (.cells ((List.replicate N 0).map (Value.int .u8)).toArray 5)) (by kernel_rfl) (CI (x:=25) (N:=N) (X:=(ps.length:Int) + (u:Int)) (by kernel_rfl) (by kernel_rfl) (by have:=M.out; omega) z) y ?_ aV;refine ai 10 (some 4) (.slice (some ⟨c.heap.size,0,none⟩) N N) (by kernel_rfl) (fun _ _=>by kernel_rfl) (fun _ _ _ h=>h) y ?_
 refine bH (by kernel_rfl) ?_
 try simp only[Act.put,List.setIfInBounds_toArray,List.set_cons_zero,List.set_cons_succ]
 have hg:=B.lt
 have R:Box (c.drew.alloc (.cells ((List.replicate N 0).map (Value.int .u8)).toArray 5)) c.heap.size ((List.replicate N 0).map (Value.int .u8)) 5:=iw c.drew _ _
 have Z:Hid (Below c.heap.size c (c.drew.alloc (.cells ((List.replicate N 0).map (Value.int .u8)).toArray 5))):=(Below.refl c.heap.size c).drew.trans (ae c.drew _);clear o;generalize c.drew.alloc (.cells ((List.replicate N 0).map (Value.int .u8)).toArray 5)=V at *;have HW0:=(show Hid _ from B)
 clear B;have c2:=y.c2;have cu:=y.cu;obtain⟨off,m⟩:∃ off,off=if u=0 then 0 else ps.length:=⟨_,rfl⟩
 have r:∀ W,(Instr.sliceAt 96 (.slice (some ⟨c.heap.size,0,none⟩) N N) (some (.int .i64 (ps.length:Int))) none none).run Tryz.prog W=.ok (.slice (some ⟨c.heap.size,off,none⟩) u u) W:=fun W=>by
  have hh:=M.out;rw[sliceB _ N N ps.length W (by omega) (Nat.le_refl _),show N - ps.length=u by omega,m];unfold db;by_cases n:u=0
  ·rw[if_pos (by omega),if_pos n]
  ·rw[if_neg (by omega),if_neg n]
   show Result.ok (Value.slice (some ((⟨c.heap.size,0,none⟩:Addr).add ps.length)) u u) W=_
   rw[addr_add,Nat.zero_add]
 have s:=qS g u (by omega)
 have K:Hid (splice ((List.replicate N (0:Int)).map (Value.int .u8)) off ((d.take u).map (Value.int .u8))=(List.replicate ps.length 0 ++ d.take u).map (Value.int .u8)):=by
  have hh:=M.out;have hl:=y.len
  show _=_
  unfold splice;by_cases n:u=0
  ·rw[m,if_pos n];subst n;simp;omega
  ·rw[m,if_neg n,List.length_map,List.length_take,hl];rw[List.drop_eq_nil_of_le (by simp; omega)];simp;omega
 have H:=(show Hid _ from m)
 have Y:=(show Hid _ from y.len)
 clear m;go_wp2_with fail
 have i:cO V.drew g 0 p (ps.length:Int) d (u:Int):=⟨y.len,y.blk⟩
 refine bU (S:=fun w'=>cO w' g 0 p (ps.length:Int) d (u:Int)) (by kernel_rfl) i ?_
 refine ai 0 (some 27) (.slice (some ⟨c.heap.size,0,none⟩) N N) (by kernel_rfl) (fun _ _=>by kernel_rfl) (fun _ _ _ h=>h) i ?_
 refine ai 1 (some 28) (.pointer (some ⟨g,0,none⟩)) (by kernel_rfl) (fun _ _=>by kernel_rfl) (fun _ _ _ h=>h) i ?_
 refine ai 2 (some 29) (.pointer (some ⟨g,0,none⟩)) (by kernel_rfl) (fun _ _=>by kernel_rfl) (fun _ _ _ h=>h) i ?_
 refine ai 3 (some 30) (.pointer (some ⟨g,2,none⟩)) (by kernel_rfl) (fun _ _=>by kernel_rfl) (fun _ _ _ h=>h) i ?_
 refine aP 4 (some 31) (.int .i64 (ps.length:Int)) 3 30 g 2 (by kernel_rfl) (by kernel_rfl) (by kernel_rfl) (fun w' h=>gX h.c2) (fun _ _ _ h=>h) i ?_
 refine ai 5 (some 32) (.slice (some ⟨c.heap.size,off,none⟩) u u) (by kernel_rfl) (fun w' _=>pQ (.tmp 27) (some (.tmp 31)) none (by kernel_rfl) (by kernel_rfl) (by kernel_rfl) (by kernel_rfl) (r w')) (fun _ _ _ h=>h) i ?_
 refine ai 6 (some 33) (.pointer (some ⟨g,0,none⟩)) (by kernel_rfl) (fun _ _=>by kernel_rfl) (fun _ _ _ h=>h) i ?_
 refine ai 7 (some 34) (.pointer (some ⟨g,0,none⟩)) (by kernel_rfl) (fun _ _=>by kernel_rfl) (fun _ _ _ h=>h) i ?_
 refine ai 8 (some 35) (.pointer (some ⟨g,3,none⟩)) (by kernel_rfl) (fun _ _=>by kernel_rfl) (fun _ _ _ h=>h) i ?_
 refine ai 9 (some 36) (.pointer (some ⟨g,0,none⟩)) (by kernel_rfl) (fun _ _=>by kernel_rfl) (fun _ _ _ h=>h) i ?_
 refine ai 10 (some 37) (.pointer (some ⟨g,0,none⟩)) (by kernel_rfl) (fun _ _=>by kernel_rfl) (fun _ _ _ h=>h) i ?_
 refine ai 11 (some 38) (.pointer (some ⟨g,259,none⟩)) (by kernel_rfl) (fun _ _=>by kernel_rfl) (fun _ _ _ h=>h) i ?_
 refine aP 12 (some 39) (.int .i64 (u:Int)) 3 38 g 259 (by kernel_rfl) (by kernel_rfl) (by kernel_rfl) (fun w' h=>gX h.cu) (fun _ _ _ h=>h) i ?_
 refine ai 13 (some 40) (.slice (some ⟨g,3,none⟩) u 256) (by kernel_rfl) (fun w' _=>pQ (.tmp 35) none (some (.tmp 39)) (by kernel_rfl) (by kernel_rfl) (by kernel_rfl) (by kernel_rfl) (s w')) (fun _ _ _ h=>h) i ?_
 refine aL [14] (by kernel_rfl) (by simp) ?_
 have P:cO (V.drew.setRow c.heap.size (splice ((List.replicate N (0:Int)).map (Value.int .u8)) off ((d.take u).map (Value.int .u8))).toArray) g 0 p (ps.length:Int) d (u:Int):=i.off (g':=c.heap.size) (by omega) (fun k hk=>setRow_other _ _ k _ hk);refine bI 14 (some 41) (.int .i64 (u:Int)) (V.drew.setRow c.heap.size (splice ((List.replicate N (0:Int)).map (Value.int .u8)) off ((d.take u).map (Value.int .u8))).toArray) (by kernel_rfl) (zu 32 40 (by kernel_rfl) (g:=c.heap.size) (off:=off) (dLen:=u) (dCap:=u) (sLen:=u) (sCap:=256) (ad:=⟨g,3,none⟩) (by kernel_rfl) (by kernel_rfl) R.drew ((d.take u).map (Value.int .u8)) u (by have:=Y.out; simp; omega) (Nat.min_self u).symm (fun j v O=>by
  obtain⟨h1,h2⟩:=List.getElem?_eq_some_iff.1 O;rw[List.length_map,List.length_take] at h1;rw[addr_add,<- h2,List.getElem_map,List.getElem_take,<- bT (l:=d) (by omega)];exact i.cl j (by omega)) (by have:=M.out; have:=H.out; rw[List.length_map,List.length_replicate,this]; split<;>omega) (ints_oneCell _ _)) P ?_ aV
 refine bH (by kernel_rfl) ?_
 try simp only[Act.put,List.setIfInBounds_toArray,List.set_cons_zero,List.set_cons_succ]
 have B4:Box (V.drew.setRow c.heap.size (splice ((List.replicate N (0:Int)).map (Value.int .u8)) off ((d.take u).map (Value.int .u8))).toArray) c.heap.size ((List.replicate ps.length 0 ++ d.take u).map (Value.int .u8)) 5:=by
  have:=R.drew.row (ds:=splice ((List.replicate N (0:Int)).map (Value.int .u8)) off ((d.take u).map (Value.int .u8)));rw[K.out] at this ⊢;exact this
 have J:Hid (Below c.heap.size c (V.drew.setRow c.heap.size (splice ((List.replicate N (0:Int)).map (Value.int .u8)) off ((d.take u).map (Value.int .u8))).toArray)):=nW Z.out.drew (Nat.le_refl _) _;generalize V.drew.setRow c.heap.size (splice ((List.replicate N (0:Int)).map (Value.int .u8)) off ((d.take u).map (Value.int .u8))).toArray=w4 at *;have F:=(show Hid _ from B4)
 clear c2 cu r s R y i B4;have c2:=P.c2;have c1:=P.c1;go_wp2_with fail;go_loopw [5,6] (fun ta tp wr=>∃ q rest fin,tp=.pointer q/\Hid (Pc c q rest)/\Hid (L=rest ++ fin)/\ta=.int .i64 (rest.length:Int)/\Hid (Box wr c.heap.size ((List.replicate rest.length 0 ++ fin).map (Value.int .u8)) 5)/\Hid (Below c.heap.size c wr)) (fun ta _ _=>(intOf ta).toNat)
 case atStart=>exact⟨p,ps,d.take u,rfl,HP.out,HL.out,rfl,F.out,J.out⟩
 case round =>
  clear c2 c1 P F J HW0 K H;obtain⟨q,rest,fin,rfl,hP,hE,rfl,T,D⟩:=hrel
  have hP':=hP.out
  cases hP' with
  | nil =>
   have HF:Hid (Box wr c.heap.size (L.map (Value.int .u8)) 5):=by rw[hE.out]; exact T.out
   go_wp2;go_ret2;exact⟨rfl,HF.out,D.out⟩
  | cons hb hbl hp2 =>
   rename_i b p' a f;have C:=hb.keep (D.out.mono (Nat.le_refl _))
   have A:(((a ++ f).length:Nat):Int)=(a.length:Int) + 256:=by rw[List.length_append,hbl]; rfl
   have E:a.length + 256 + fin.length=N:=by rw[HN.out,hE.out,List.length_append,List.length_append,hbl]
   rw[A]
   have r:∀ W,(Instr.sliceAt 96 (.slice (some ⟨c.heap.size,0,none⟩) N N) (some (.int .i64 (a.length:Int))) none none).run Tryz.prog W=.ok (.slice (some ⟨c.heap.size,a.length,none⟩) (N - a.length) (N - a.length)) W:=fun W=>by
    rw[sliceB _ N N a.length W (by omega) (Nat.le_refl _)];unfold db;rw[if_neg (by omega)]
    show Result.ok (Value.slice (some ((⟨c.heap.size,0,none⟩:Addr).add a.length)) _ _) W=_
    rw[addr_add,Nat.zero_add]
   have s:=ql b
   have I:Hid (splice ((List.replicate (a ++ f).length (0:Int) ++ fin).map (Value.int .u8)) a.length (f.map (Value.int .u8))=(List.replicate a.length 0 ++ (f ++ fin)).map (Value.int .u8)):=by
    show _=_
    unfold splice;rw[List.length_map,hbl,List.length_append,hbl,<- List.map_take,<- List.map_drop,List.take_append_of_le_length (by simp),List.drop_append_of_le_length (by simp),List.drop_eq_nil_of_le (by simp),List.take_replicate,Nat.min_eq_left (by omega)];simp
   have Q:Hid (L=a ++ (f ++ fin)):=by show _=_; rw[hE.out,List.append_assoc]
   have G:=(show Hid _ from E)
   have Hb:=(show Hid _ from hbl)
   clear E hbl A
   have hpl:a.length<=17592186044416:=by have:=G.out; omega
   go_wp2_with fail;refine bU (S:=fun _=>True) (by kernel_rfl) trivial ?_
   refine ai 0 (some 58) (.slice (some ⟨c.heap.size,0,none⟩) N N) (by kernel_rfl) (fun _ _=>by kernel_rfl) (fun _ _ _ h=>h) trivial ?_
   refine ai 1 (some 59) (.int .i64 (a.length:Int)) (by kernel_rfl) (fun _ _=>by kernel_rfl) (fun _ _ _ h=>h) trivial ?_
   refine ai 2 (some 60) (.slice (some ⟨c.heap.size,a.length,none⟩) (N - a.length) (N - a.length)) (by kernel_rfl) (fun w' _=>pQ (.tmp 58) (some (.tmp 59)) none (by kernel_rfl) (by kernel_rfl) (by kernel_rfl) (by kernel_rfl) (r w')) (fun _ _ _ h=>h) trivial ?_
   refine ai 3 (some 61) (.pointer (some ⟨b,0,none⟩)) (by kernel_rfl) (fun _ _=>by kernel_rfl) (fun _ _ _ h=>h) trivial ?_
   refine ai 4 (some 62) (.pointer (some ⟨b,0,none⟩)) (by kernel_rfl) (fun _ _=>by kernel_rfl) (fun _ _ _ h=>h) trivial ?_
   refine ai 5 (some 63) (.pointer (some ⟨b,1,none⟩)) (by kernel_rfl) (fun _ _=>by kernel_rfl) (fun _ _ _ h=>h) trivial ?_
   refine ai 6 (some 64) (.slice (some ⟨b,1,none⟩) 256 256) (by kernel_rfl) (fun w' _=>pQ (.tmp 63) none none (by kernel_rfl) (by kernel_rfl) (by kernel_rfl) (by kernel_rfl) (s w')) (fun _ _ _ h=>h) trivial ?_
   refine aL [7] (by kernel_rfl) (by simp) ?_
   have hbb:b≠c.heap.size:=by have:=hb.lt; omega
   refine bI 7 (some 65) (.int .i64 ((256:Nat):Int)) (wr.drew.setRow c.heap.size (splice ((List.replicate (a ++ f).length (0:Int) ++ fin).map (Value.int .u8)) a.length (f.map (Value.int .u8))).toArray) (by kernel_rfl) (zu 60 64 (by kernel_rfl) (g:=c.heap.size) (off:=a.length) (dLen:=N - a.length) (dCap:=N - a.length) (sLen:=256) (sCap:=256) (ad:=⟨b,1,none⟩) (by kernel_rfl) (by kernel_rfl) T.out.drew (f.map (Value.int .u8)) 256 (by rw[List.length_map]; exact Hb.out) (Nat.min_eq_left (by have:=G.out; omega)).symm (fun j v O=>by
    obtain⟨h1,h2⟩:=List.getElem?_eq_some_iff.1 O;have h3:=C.drew.blk;rw[addr_add,Nat.add_comm 1 j];simp only[World.cell?,h3];simpa using O) (by have:=Hb.out; simp; omega) (ints_oneCell _ _)) trivial ?_ aV
   refine bH (by kernel_rfl) ?_
   try simp only[Act.put,List.setIfInBounds_toArray,List.set_cons_zero,List.set_cons_succ]
   have B5:Hid (Box (wr.drew.setRow c.heap.size (splice ((List.replicate (a ++ f).length (0:Int) ++ fin).map (Value.int .u8)) a.length (f.map (Value.int .u8))).toArray) c.heap.size ((List.replicate a.length 0 ++ (f ++ fin)).map (Value.int .u8)) 5):=by
    have:=T.out.drew.row (ds:=splice ((List.replicate (a ++ f).length (0:Int) ++ fin).map (Value.int .u8)) a.length (f.map (Value.int .u8)));rw[I.out] at this ⊢;exact this
   have U:Hid (Below c.heap.size c (wr.drew.setRow c.heap.size (splice ((List.replicate (a ++ f).length (0:Int) ++ fin).map (Value.int .u8)) a.length (f.map (Value.int .u8))).toArray)):=nW D.out.drew (Nat.le_refl _) _;have X5:=C.drew.off (g':=c.heap.size) hbb (fun k hk=>setRow_other wr.drew c.heap.size k (splice ((List.replicate (a ++ f).length (0:Int) ++ fin).map (Value.int .u8)) a.length (f.map (Value.int .u8))).toArray hk);clear r s C I;generalize (wr.drew.setRow c.heap.size (splice ((List.replicate (a ++ f).length (0:Int) ++ fin).map (Value.int .u8)) a.length (f.map (Value.int .u8))).toArray)=w5 at *
   have cb:w5.cell? ⟨b,0,none⟩=some (.pointer p'):=by
    have:=X5.blk;simp[World.cell?,this]
   have HP2:=(show Hid _ from hp2)
   clear X5 hb hp2;go_wp2;go_roundw
   case rel=>exact⟨p',a,f ++ fin,rfl,HP2.out,Q.out,rfl,B5.out,U.out⟩
   case measure=>simp[intOf]; omega
end
end
section
open Go.RowKit Lim
section
variable {w w':World}{b g:Nat}{ao:Option Addr}{l:List Int}
theorem qA:Tryz.zeroCells231=(dO 0 none 0 (List.replicate 256 0) 0).toArray:=by kernel_rfl
theorem zd(w:World):WrA (w.alloc (.cells Tryz.zeroCells231 231)) w.heap.size 0 []:=by
 rw[qA];exact⟨none,[],List.replicate 256 0,0,⟨by rw[List.length_replicate],(iw w _ _).blk⟩,.nil,by decide,by simp⟩
theorem ByA.butN{n c:Nat}(h:ByA w b ao n c l)(hb:b≠g)(hB:But g w w'):ByA w' b ao n c l:=by
 obtain⟨o,h1,h2,h3,h4,h5⟩:=h.ex;exact⟨o,h1,h2,h3,h4,h5.loc,fun i hi=>hB.cell (h5.cell i hi) hb⟩
theorem RdA.offW{g':Nat}{err:Int}(h:RdA w g b err l)(a:g≠g')(hb:b≠g')(d:But g' w w'):RdA w' g b err l:=by
 obtain⟨e,n,c,X,A⟩:=h.ex;exact⟨e,n,c,⟨by rw[d.block g X.lt a]; exact X.blk⟩,A.butN hb d⟩
theorem kT{V:Int}(hV:0<=V)(h:IsB l V):dV V=l:=lT (pK hV) h
theorem natB_0:dV 0=[]:=kT (by decide) ⟨fun x hx=>by simp at hx,fun h=>absurd rfl h,rfl⟩
end
end
section
namespace Rc
open Go.RowKit Go.Lib Pg
section
variable {G:Nat → Prop}{rb sb n cc:Nat}{f1 f2 f3:FuncId}{c:Value}{kd:Nat → Nat}{offs:List Nat}{w:World}
attribute [local go_sem] Oper.semAt_some
theorem aB{p:Prop}(h:p):Hid p:=h
theorem dn(w:World)(o:Obj):(w.alloc o).heap.size=w.heap.size + 1:=by
 show (w.heap.push o).size=_
 simp
theorem fe(w:World):Below w.heap.size w w.drew:=⟨rfl,rfl,rfl,Nat.le_refl _,fun _ _=>rfl⟩
structure HC(σ:Type)(Inv:σ->World->Prop)(G:Nat->Prop)(rb:Nat)(f1 f2 f3:FuncId)(c:Value)(nx:Nat->Nat->σ->σ)(kd:Nat->Nat)(ok:σ->Prop):Prop where
 oks:∀ k o s,ok (nx k o s)->ok s
 keep:∀ s w w',Inv s w->Below w.heap.size w w'->Inv s w'
 old:∀ s w b,Inv s w->G b->b < w.heap.size
 e1:∀ args w,(callFunc f1 args).run Tryz.prog w=.ok (.enter f1 args) w
 e2:∀ args w,(callFunc f2 args).run Tryz.prog w=.ok (.enter f2 args) w
 e3:∀ args w,(callFunc f3 args).run Tryz.prog w=.ok (.enter f3 args) w
 u:∀ s w o,Inv s w->ok (nx 0 o s)->kd o=0->Calls Tryz.prog f1 #[.pointer (some ⟨rb,o,none⟩),c] w fun e w'=>e=.returned (.tuple #[])/\Inv (nx 0 o s) w'/\Chg G w w'
 t:∀ s w o,Inv s w->ok (nx 1 o s)->kd o=1->Calls Tryz.prog f2 #[.pointer (some ⟨rb,o,none⟩),c] w fun e w'=>e=.returned (.tuple #[])/\Inv (nx 1 o s) w'/\Chg G w w'
 d:∀ s w o,Inv s w->ok (nx 2 o s)->kd o=2->Calls Tryz.prog f3 #[.pointer (some ⟨rb,o,none⟩),c] w fun e w'=>e=.returned (.tuple #[])/\Inv (nx 2 o s) w'/\Chg G w w'
theorem HC.okf{σ:Type}{Inv:σ->World->Prop}{G:Nat->Prop}{nx:Nat->Nat->σ->σ}{kd:Nat->Nat}{ok:σ->Prop}(H:HC σ Inv G rb f1 f2 f3 c nx kd ok)(k:Nat)(l:List Nat):∀ s,ok (l.foldl (fun s o=>nx k o s) s)->ok s:=by
 induction l with
 | nil=>exact fun _ h=>h
 | cons o l ih=>exact fun s h=>H.oks _ _ _ (ih _ h)
structure BC(σ:Type)(Inv:σ->World->Prop)(G:Nat->Prop)(s:σ)(w:World)(e:Ending)(w':World):Prop where
 ret:e=.returned (.tuple #[])
 inv:Inv s w'
 chg:Chg G w w'
theorem kR{σ : Type}{Inv : σ → World → Prop}{nx : Nat → Nat → σ → σ}{ok : σ → Prop}{s : σ}(H : HC σ Inv G rb f1 f2 f3 c nx kd ok)(q : Inv s w)(hb : Blk w sb (offs.map fun o => .pointer (some ⟨rb, o, none⟩)) 233)(A : ¬ G sb)(r : ∀ o ∈ offs, kd o = 0)(e : ok (offs.foldl (fun s o => nx 0 o s) s))(hn : offs.length = n)(J : n ≤ 1000) :
    Calls Tryz.prog 159 #[.agg #[.func (.func f1) #[] #[c], .func (.func f2) #[] #[c], .func (.func f3) #[] #[c]], .slice (some ⟨sb, 0, none⟩) n cc] w (BC σ Inv G (offs.foldl (fun s o => nx 0 o s) s) w) := by
  have al := ae w (.cells #[.func (.func f1) #[] #[c], .func (.func f2) #[] #[c], .func (.func f3) #[] #[c]] 242);have B := aC w [.func (.func f1) #[] #[c], .func (.func f2) #[] #[c], .func (.func f3) #[] #[c]] 242;have f := aB H;have D := aB q;have C := aB hb;have I := aB r;have v := aB hn;have M := aB e;have x := aB al;have K := aB B
  have d : ¬ G w.heap.size := fun h => by have := H.old s w _ q h; omega
  have E := aB A;have l := aB d;clear H q hb r hn al B A d e;go_enter Tryz.func159, Tryz.ntmps159;go_wp2_with fail;go_loopw [8] (fun m wr => ∃ k : Nat, k ≤ n ∧ m = .int .i64 k ∧ Hid (Inv ((offs.take k).foldl (fun s o => nx 0 o s) s) wr) ∧ Hid (Chg G w wr) ∧ Hid (Blk wr w.heap.size [.func (.func f1) #[] #[c], .func (.func f2) #[] #[c], .func (.func f3) #[] #[c]] 242)) (fun m _ => n - (intOf m).toNat)
  case atStart => exact⟨0, Nat.zero_le _, rfl, f.out.keep _ _ _ D.out x.out, Chg.of x.out, K.out⟩
  case round =>
    obtain⟨k, r, rfl, H1, j, t⟩:= hrel;by_cases L : k < n
    · obtain⟨o, g⟩ : ∃ o, Hid (offs[k]? = some o) := ⟨offs[k]'(by have := v.out; omega), List.getElem?_eq_getElem _⟩
      have b := C.out.chg j.out E.out
      have c1 : wr.cell? ⟨sb, k, none⟩ = some (.pointer (some ⟨rb, o, none⟩)) := b.cell (i := k) (by rw[List.getElem?_map, g.out]; rfl);have c2 := t.out.cell (i := 0) rfl
      have p : (k : Int) < n := by omega
      have a : ok (nx 0 o ((offs.take k).foldl (fun s o => nx 0 o s) s)) := by
        have h := M.out;rw[← List.take_append_drop (k + 1) offs, List.foldl_append] at h;have z := f.out.okf 0 _ _ h;rw[List.take_add_one, g.out, List.foldl_append] at z;exact z
      have U := f.out.u _ wr o H1.out a (I.out o (List.mem_of_getElem? g.out));clear b a;go_wp2_with fail;rw[f.out.e1];refine U.mono ?_
      rintro O N ⟨rfl, F, y⟩;go_wp2_with fail;go_roundw
      case rel => exact⟨k + 1, by omega, by go_num, by show Inv _ _; rw[List.take_add_one, g.out, List.foldl_append]; exact F, j.out.trans y (fun _ _ h => h), t.out.chg y l.out⟩
      case measure => simp[intOf]; omega
    · obtain rfl : k = n := by omega
      have p : ¬ ((k : Int) < k) := by omega
      go_wp2;go_end0;refine⟨rfl, ?_, j.out⟩;have h := H1.out;rw[List.take_of_length_le (by have := v.out; omega)] at h;exact h
theorem qa{σ : Type}{Inv : σ → World → Prop}{nx : Nat → Nat → σ → σ}{ok : σ → Prop}{s : σ}(H : HC σ Inv G rb f1 f2 f3 c nx kd ok)(r : Inv s w)(hb : Blk w sb (offs.map fun o => .pointer (some ⟨rb, o, none⟩)) 238)(A : ¬ G sb)(t : ∀ o ∈ offs, kd o = 2)(f : ok (offs.foldl (fun s o => nx 2 o s) s))(hn : offs.length = n)(J : n ≤ 1000) :
    Calls Tryz.prog 189 #[.agg #[.func (.func f1) #[] #[c], .func (.func f2) #[] #[c], .func (.func f3) #[] #[c]], .slice (some ⟨sb, 0, none⟩) n cc] w (BC σ Inv G (offs.foldl (fun s o => nx 2 o s) s) w) := by
  have al := ae w (.cells #[.func (.func f1) #[] #[c], .func (.func f2) #[] #[c], .func (.func f3) #[] #[c]] 242);have B := aC w [.func (.func f1) #[] #[c], .func (.func f2) #[] #[c], .func (.func f3) #[] #[c]] 242;have g := aB H;have D := aB r;have C := aB hb;have I := aB t;have v := aB hn;have M := aB f;have x := aB al;have K := aB B
  have e : ¬ G w.heap.size := fun h => by have := H.old s w _ r h; omega
  have E := aB A;have m := aB e;clear H r hb t hn al B A e f;go_enter Tryz.func189, Tryz.ntmps189;go_wp2_with fail;go_loopw [8] (fun p wr => ∃ k : Nat, k ≤ n ∧ p = .int .i64 k ∧ Hid (Inv ((offs.take k).foldl (fun s o => nx 2 o s) s) wr) ∧ Hid (Chg G w wr) ∧ Hid (Blk wr w.heap.size [.func (.func f1) #[] #[c], .func (.func f2) #[] #[c], .func (.func f3) #[] #[c]] 242)) (fun p _ => n - (intOf p).toNat)
  case atStart => exact⟨0, Nat.zero_le _, rfl, g.out.keep _ _ _ D.out x.out, Chg.of x.out, K.out⟩
  case round =>
    obtain⟨k, t, rfl, H1, l, u⟩:= hrel;by_cases L : k < n
    · obtain⟨o, j⟩ : ∃ o, Hid (offs[k]? = some o) := ⟨offs[k]'(by have := v.out; omega), List.getElem?_eq_getElem _⟩
      have b := C.out.chg l.out E.out
      have c1 : wr.cell? ⟨sb, k, none⟩ = some (.pointer (some ⟨rb, o, none⟩)) := b.cell (i := k) (by rw[List.getElem?_map, j.out]; rfl);have c2 := u.out.cell (i := 2) rfl
      have q : (k : Int) < n := by omega
      have a : ok (nx 2 o ((offs.take k).foldl (fun s o => nx 2 o s) s)) := by
        have h := M.out;rw[← List.take_append_drop (k + 1) offs, List.foldl_append] at h;have z := g.out.okf 2 _ _ h;rw[List.take_add_one, j.out, List.foldl_append] at z;exact z
      have U := g.out.d _ wr o H1.out a (I.out o (List.mem_of_getElem? j.out));clear b a;go_wp2_with fail;rw[g.out.e3];refine U.mono ?_
      rintro O N ⟨rfl, F, y⟩;go_wp2_with fail;go_roundw
      case rel => exact⟨k + 1, by omega, by go_num, by show Inv _ _; rw[List.take_add_one, j.out, List.foldl_append]; exact F, l.out.trans y (fun _ _ h => h), u.out.chg y m.out⟩
      case measure => simp[intOf]; omega
    · obtain rfl : k = n := by omega
      have q : ¬ ((k : Int) < k) := by omega
      go_wp2;go_end0;refine⟨rfl, ?_, l.out⟩;have h := H1.out;rw[List.take_of_length_le (by have := v.out; omega)] at h;exact h
end
end Rc
end
section
namespace Rc
open Go.RowKit Go.Lib Pg
section
variable {G:Nat->Prop}{rb:Nat}{f1 f2 f3:FuncId}{c:Value}{kd:Nat->Nat}{w:World}
attribute [local go_sem] Oper.semAt_some
def thr{σ:Type}(nx:Nat->Nat->σ->σ)(l:List (Nat × Nat))(s:σ):σ:=l.foldl (fun s p=>nx p.1 p.2 s) s
theorem HC.okt{σ:Type}{Inv:σ->World->Prop}{nx:Nat->Nat->σ->σ}{ok:σ->Prop}(H:HC σ Inv G rb f1 f2 f3 c nx kd ok)(l:List (Nat × Nat)):∀ s,ok (thr nx l s)->ok s:=by
 induction l with
 | nil=>exact fun _ h=>h
 | cons o l ih=>exact fun s h=>H.oks _ _ _ (ih _ h)
theorem ld_h{g:Nat}{u v i:Value}(c0:w.cell? ⟨g,0,none⟩=some u)(c1:w.cell? ⟨g,1,none⟩=some v)(c2:w.cell? ⟨g,2,none⟩=some i):(loadVar 242 ⟨g,0,none⟩).run Tryz.prog w=.ok (.agg #[u,v,i]) w:=by go_simp
theorem iH{σ:Type}{Inv:σ->World->Prop}{nx:Nat->Nat->σ->σ}{ok:σ->Prop}{s:σ}(H:HC σ Inv G rb f1 f2 f3 c nx kd ok)(z:Inv s w)(l:∀ p∈[(2,0),(0,1)],kd p.2=p.1)(q:ok (thr nx [(2,0),(0,1)] s)) :
  Calls Tryz.prog 141 #[.pointer (some ⟨rb,0,none⟩),.agg #[.func (.func f1) #[] #[c],.func (.func f2) #[] #[c],.func (.func f3) #[] #[c]]] w (BC σ Inv G (thr nx [(2,0),(0,1)] s) w):=by
 have a:=ae w (.cells #[.func (.func f1) #[] #[c],.func (.func f2) #[] #[c],.func (.func f3) #[] #[c]] 242);have D:=aB (aC w [.func (.func f1) #[] #[c],.func (.func f2) #[] #[c],.func (.func f3) #[] #[c]] 242);have r:=aB (show ¬ G w.heap.size from fun h=>by have:=H.old s w _ z h; omega);have E:=aB (H.keep _ _ _ z a);have C:=aB (show Chg G w _ from Chg.of a)
 have k0:Hid (kd 0=2):=l (2,0) (by simp)
 have k1:Hid (kd 1=0):=l (0,1) (by simp);have g:=aB H;have I:=aB q;clear H z l a q;go_enter Tryz.func141,Tryz.ntmps141;go_wp2_with fail;obtain⟨f,t⟩:∃ f,Hid (w.alloc (.cells #[.func (.func f1) #[] #[c],.func (.func f2) #[] #[c],.func (.func f3) #[] #[c]] 242)=f):=⟨_,rfl⟩
 rw[t.out] at D E C ⊢;have o:=aB (g.out.keep _ _ _ E.out (fe f));have b:=aB (D.out.keep (fe f));refine bU (S:=fun u=>Blk u w.heap.size [.func (.func f1) #[] #[c],.func (.func f2) #[] #[c],.func (.func f3) #[] #[c]] 242) (by kernel_rfl) b.out ?_
 refine aP 0 (some 4) (.agg #[.func (.func f1) #[] #[c],.func (.func f2) #[] #[c],.func (.func f3) #[] #[c]]) 242 3 w.heap.size 0 (by kernel_rfl) (by kernel_rfl) (by kernel_rfl) (fun u h=>ld_h (h.cell (i:=0) rfl) (h.cell (i:=1) rfl) (h.cell (i:=2) rfl)) (fun _ _ _ h=>h) b.out ?_
 refine ai 1 (some 5) (.pointer (some ⟨rb,0,none⟩)) (by kernel_rfl) (fun _ _=>by kernel_rfl) (fun _ _ _ h=>h) b.out ?_
 refine ai 2 (some 6) (.pointer (some ⟨rb,0,none⟩)) (by kernel_rfl) (fun _ _=>by kernel_rfl) (fun _ _ _ h=>h) b.out ?_
 refine ai 3 (some 7) (.pointer (some ⟨rb,0,none⟩)) (by kernel_rfl) (fun _ _=>by kernel_rfl) (fun _ _ _ h=>h) b.out ?_
 have a:=ae f.drew (.cells #[.pointer (some ⟨rb,0,none⟩)] 238);have y:=aC f.drew [.pointer (some ⟨rb,0,none⟩)] 238;refine aL [4] (by kernel_rfl) (by simp) (bI 4 (some 8) (.slice (some ⟨f.drew.heap.size,0,none⟩) 1 1) (f.drew.alloc (.cells #[.pointer (some ⟨rb,0,none⟩)] 238)) (by kernel_rfl) (by kernel_rfl) (b.out.keep a) ?_ aV);refine bN 5 (some 9) 189 #[.agg #[.func (.func f1) #[] #[c],.func (.func f2) #[] #[c],.func (.func f3) #[] #[c]],.slice (some ⟨f.drew.heap.size,0,none⟩) 1 1] (by kernel_rfl) (by kernel_rfl) (qa (offs:=[0]) g.out (g.out.keep _ _ _ o.out a) y (fun h=>by have:=g.out.old _ _ _ o.out h; omega) (by simp[k0.out]) (g.out.okt [(0,1)] _ I.out) rfl (by decide)) ?_
 rintro M j ⟨rfl,x,m⟩;refine⟨_,rfl,((b.out.keep a).chg m r.out),?_⟩;refine bH (by kernel_rfl) ?_
 simp only[Act.put,List.setIfInBounds_toArray,List.set_cons_zero,List.set_cons_succ];have L:=aB x;have N:=aB ((C.out.trans (Chg.of (F:=G) (aj (fe f) a)) (fun _ _ h=>h)).trans m (fun _ _ h=>h));have A:=aB ((b.out.keep a).chg m r.out);go_wp2_with fail;have n:=aB (g.out.keep _ _ _ L.out (fe j));have d:=aB (A.out.keep (fe j));refine bU (S:=fun u=>Blk u w.heap.size [.func (.func f1) #[] #[c],.func (.func f2) #[] #[c],.func (.func f3) #[] #[c]] 242) (by kernel_rfl) d.out ?_
 refine aP 0 (some 10) (.agg #[.func (.func f1) #[] #[c],.func (.func f2) #[] #[c],.func (.func f3) #[] #[c]]) 242 3 w.heap.size 0 (by kernel_rfl) (by kernel_rfl) (by kernel_rfl) (fun u h=>ld_h (h.cell (i:=0) rfl) (h.cell (i:=1) rfl) (h.cell (i:=2) rfl)) (fun _ _ _ h=>h) d.out ?_
 refine ai 1 (some 11) (.pointer (some ⟨rb,0,none⟩)) (by kernel_rfl) (fun _ _=>by kernel_rfl) (fun _ _ _ h=>h) d.out ?_
 refine ai 2 (some 12) (.pointer (some ⟨rb,0,none⟩)) (by kernel_rfl) (fun _ _=>by kernel_rfl) (fun _ _ _ h=>h) d.out ?_
 refine ai 3 (some 13) (.pointer (some ⟨rb,1,none⟩)) (by kernel_rfl) (fun _ _=>by kernel_rfl) (fun _ _ _ h=>h) d.out ?_
 have e:=ae j.drew (.cells #[.pointer (some ⟨rb,1,none⟩)] 233);have B:=aC j.drew [.pointer (some ⟨rb,1,none⟩)] 233;refine aL [4] (by kernel_rfl) (by simp) (bI 4 (some 14) (.slice (some ⟨j.drew.heap.size,0,none⟩) 1 1) (j.drew.alloc (.cells #[.pointer (some ⟨rb,1,none⟩)] 233)) (by kernel_rfl) (by kernel_rfl) (d.out.keep e) ?_ aV);refine bN 5 (some 15) 159 #[.agg #[.func (.func f1) #[] #[c],.func (.func f2) #[] #[c],.func (.func f3) #[] #[c]],.slice (some ⟨j.drew.heap.size,0,none⟩) 1 1] (by kernel_rfl) (by kernel_rfl) (kR (offs:=[1]) g.out (g.out.keep _ _ _ n.out e) B (fun h=>by have:=g.out.old _ _ _ n.out h; omega) (by simp[k1.out]) (g.out.okt [] _ I.out) rfl (by decide)) ?_
 rintro M P ⟨rfl,v,k⟩;refine⟨_,rfl,((d.out.keep e).chg k r.out),?_⟩;refine bH (by kernel_rfl) ?_
 simp only[Act.put,List.setIfInBounds_toArray,List.set_cons_zero,List.set_cons_succ];have J:=aB v;have O:=aB ((N.out.trans (Chg.of (F:=G) (aj (fe j) e)) (fun _ _ h=>h)).trans k (fun _ _ h=>h));have K:=aB ((d.out.keep e).chg k r.out);go_wp2_with fail;go_end0;exact⟨rfl,J.out,O.out⟩
theorem oE{σ:Type}{Inv:σ->World->Prop}{nx:Nat->Nat->σ->σ}{ok:σ->Prop}{s:σ}(H:HC σ Inv G rb f1 f2 f3 c nx kd ok)(o:Inv s w)(e:∀ p∈[(0,0),(0,1)],kd p.2=p.1)(k:ok (thr nx [(0,0),(0,1)] s)) :
  Calls Tryz.prog 100 #[.pointer (some ⟨rb,0,none⟩),.agg #[.func (.func f1) #[] #[c],.func (.func f2) #[] #[c],.func (.func f3) #[] #[c]]] w (BC σ Inv G (thr nx [(0,0),(0,1)] s) w):=by
 have b:=ae w (.cells #[.func (.func f1) #[] #[c],.func (.func f2) #[] #[c],.func (.func f3) #[] #[c]] 242);have t:=aB (aC w [.func (.func f1) #[] #[c],.func (.func f2) #[] #[c],.func (.func f3) #[] #[c]] 242);have q:=aB (show ¬ G w.heap.size from fun h=>by have:=H.old s w _ o h; omega);have v:=aB (H.keep _ _ _ o b);have r:=aB (show Chg G w _ from Chg.of b)
 have k0:Hid (kd 0=0):=e (0,0) (by simp)
 have k1:Hid (kd 1=0):=e (0,1) (by simp);have g:=aB H;have A:=aB k;clear H o e b k;go_enter Tryz.func100,Tryz.ntmps100;go_wp2_with fail;obtain⟨d,l⟩:∃ d,Hid (w.alloc (.cells #[.func (.func f1) #[] #[c],.func (.func f2) #[] #[c],.func (.func f3) #[] #[c]] 242)=d):=⟨_,rfl⟩
 rw[l.out] at t v r ⊢;have j:=aB (g.out.keep _ _ _ v.out (fe d));have a:=aB (t.out.keep (fe d));refine bU (S:=fun u=>Blk u w.heap.size [.func (.func f1) #[] #[c],.func (.func f2) #[] #[c],.func (.func f3) #[] #[c]] 242) (by kernel_rfl) a.out ?_
 refine aP 0 (some 4) (.agg #[.func (.func f1) #[] #[c],.func (.func f2) #[] #[c],.func (.func f3) #[] #[c]]) 242 3 w.heap.size 0 (by kernel_rfl) (by kernel_rfl) (by kernel_rfl) (fun u h=>ld_h (h.cell (i:=0) rfl) (h.cell (i:=1) rfl) (h.cell (i:=2) rfl)) (fun _ _ _ h=>h) a.out ?_
 refine ai 1 (some 5) (.pointer (some ⟨rb,0,none⟩)) (by kernel_rfl) (fun _ _=>by kernel_rfl) (fun _ _ _ h=>h) a.out ?_
 refine ai 2 (some 6) (.pointer (some ⟨rb,0,none⟩)) (by kernel_rfl) (fun _ _=>by kernel_rfl) (fun _ _ _ h=>h) a.out ?_
 refine ai 3 (some 7) (.pointer (some ⟨rb,0,none⟩)) (by kernel_rfl) (fun _ _=>by kernel_rfl) (fun _ _ _ h=>h) a.out ?_
 refine ai 4 (some 8) (.pointer (some ⟨rb,0,none⟩)) (by kernel_rfl) (fun _ _=>by kernel_rfl) (fun _ _ _ h=>h) a.out ?_
 refine ai 5 (some 9) (.pointer (some ⟨rb,0,none⟩)) (by kernel_rfl) (fun _ _=>by kernel_rfl) (fun _ _ _ h=>h) a.out ?_
 refine ai 6 (some 10) (.pointer (some ⟨rb,1,none⟩)) (by kernel_rfl) (fun _ _=>by kernel_rfl) (fun _ _ _ h=>h) a.out ?_
 have b:=ae d.drew (.cells #[.pointer (some ⟨rb,0,none⟩),.pointer (some ⟨rb,1,none⟩)] 233);have n:=aC d.drew [.pointer (some ⟨rb,0,none⟩),.pointer (some ⟨rb,1,none⟩)] 233;refine aL [7] (by kernel_rfl) (by simp) (bI 7 (some 11) (.slice (some ⟨d.drew.heap.size,0,none⟩) 2 2) (d.drew.alloc (.cells #[.pointer (some ⟨rb,0,none⟩),.pointer (some ⟨rb,1,none⟩)] 233)) (by kernel_rfl) (by kernel_rfl) (a.out.keep b) ?_ aV);refine bN 8 (some 12) 159 #[.agg #[.func (.func f1) #[] #[c],.func (.func f2) #[] #[c],.func (.func f3) #[] #[c]],.slice (some ⟨d.drew.heap.size,0,none⟩) 2 2] (by kernel_rfl) (by kernel_rfl) (kR (offs:=[0,1]) g.out (g.out.keep _ _ _ j.out b) n (fun h=>by have:=g.out.old _ _ _ j.out h; omega) (by simp[k0.out,k1.out]) (g.out.okt [] _ A.out) rfl (by decide)) ?_
 rintro B C ⟨rfl,m,f⟩;refine⟨_,rfl,((a.out.keep b).chg f q.out),?_⟩;refine bH (by kernel_rfl) ?_
 simp only[Act.put,List.setIfInBounds_toArray,List.set_cons_zero,List.set_cons_succ];have x:=aB m;have y:=aB ((r.out.trans (Chg.of (F:=G) (aj (fe d) b)) (fun _ _ h=>h)).trans f (fun _ _ h=>h));have z:=aB ((a.out.keep b).chg f q.out);go_wp2_with fail;go_end0;exact⟨rfl,x.out,y.out⟩
end
end Rc
end
section
namespace Rc
open Go.RowKit Go.Lib Pg
attribute [local go_sem] Oper.semAt_some
def fit (V:Int):Int:=if (dV V).length < 256 then V else 0
theorem iz (V:Int):(dV (fit V)).length < 256:=by
 unfold fit;split
 ·assumption
 ·rw[natB_0]; decide
def gl:Nat->Int->List Int
 | 0,x=>be 8 x
 | 1,x=>be 1 x
 | _,x=>fM 1 (dV (fit x))
theorem But.chg {g:Nat} {w w':World} (h:But g w w'):Chg (· = g) w w':=⟨h.os,h.tape,h.output,h.size,fun b hb hne=>h.block b hb hne⟩
theorem kJ {w:World} {ao:Option Addr} {n c:Nat} {V:Int} (h:aQ w ao n c V) (hn:n<=1000000) :
  Calls Tryz.prog 157 #[.agg #[.slice ao n c]] w fun e w'=>∃ a1 n1 c1,e=.returned (.agg #[.slice a1 n1 c1])/\aQ w' a1 n1 c1 (fit V)/\n1<=1000000/\Below w.heap.size w w':=by
 have A:=ae w (.cells #[.slice ao n c] 32);have b2:=ae (w.alloc (.cells #[.slice ao n c] 32)) (.cells #[.slice none 0 0] 32);have b3:=ae ((w.alloc (.cells #[.slice ao n c] 32)).alloc (.cells #[.slice none 0 0] 32)) (.cells Tryz.zeroCells231 231);have s1:=dn w (.cells #[.slice ao n c] 32);have s2:=dn (w.alloc (.cells #[.slice ao n c] 32)) (.cells #[.slice none 0 0] 32);have s:=((aC w [.slice ao n c] 32).keep b2).keep b3;have q:=(aC (w.alloc (.cells #[.slice ao n c] 32)) [.slice none 0 0] 32).keep b3;have X:=zd ((w.alloc (.cells #[.slice ao n c] 32)).alloc (.cells #[.slice none 0 0] 32));rw[s2,s1] at X;rw[s1] at q;obtain⟨B,g⟩:∃ B,Hid ((((w.alloc (.cells #[.slice ao n c] 32)).alloc (.cells #[.slice none 0 0] 32)).alloc (.cells Tryz.zeroCells231 231))=B):=⟨_,rfl⟩
 have p:=aj (aj A b2) b3;rw[g.out] at p s q X;have f:=aB p;have o:=aB s;have k:=aB q;have C:=aB X;have z:=aB (h.keep p);have x:=aB h;have l:=aB (show ¬ (w.heap.size=w.heap.size + 1 + 1) by omega);have m:=aB (show ¬ (w.heap.size + 1=w.heap.size + 1 + 1) by omega);clear A b2 s1 s2 s q b3 X h p;by_cases hf:(dV V).length < 256
 ·have t:=aB (show gF V 0=0 by unfold gF; rw[if_pos hf]);have v:=aB (show fit V=V by unfold fit; rw[if_pos hf]);have D:=aB (show (iC V 0 []).length<=17592186044416 by
   unfold iC wrote;rw[if_pos hf,if_pos rfl];simp[fM,aN];omega)
  clear hf;go_enter Tryz.func157,Tryz.ntmps157;go_wp2_with fail;rw[g.out];refine(uy C.out z.out (by omega) (by simp; omega)).mono ?_
  rintro y E ⟨rfl,j,d⟩;rw[t.out] at j;go_wp2_with fail;refine(zg j D.out).mono ?_
  rintro y F ⟨rfl,-,b⟩;have k1:=o.out.chg (But.chg d) l.out;have k2:=k.out.chg (But.chg d) m.out;have d1:=(k1.keep b).cell (i:=0) rfl;have d2:=(k2.keep b).cell (i:=0) rfl;have f2:=(k2.keep b).free 0;have r:=aB ((d.below f.out (by omega) (Nat.le_refl _)).trans (b.mono (by have:=f.out.size; have:=d.size; omega)));have u:=aB (show Slot _ _ _ _ from⟨((k2.keep b).setCell (i:=0) (.slice ao n c)).blk⟩);clear k1 k2 j d b;go_wp2;refine bodyPost_ret (lB rfl rfl u.out) rfl ?_
  refine⟨ao,n,c,rfl,?_,hn,?_⟩
  ·rw[v.out];exact x.out.keep (r.out.setCell (Nat.le_succ _) _)
  ·exact r.out.setCell (Nat.le_succ _) _
 ·have t:=aB (show gF V 0=42 by unfold gF; rw[if_neg hf]; rfl);have v:=aB (show fit V=0 by unfold fit; rw[if_neg hf]);clear hf;go_enter Tryz.func157,Tryz.ntmps157;go_wp2_with fail;rw[g.out];refine(uy C.out z.out (by omega) (by simp; omega)).mono ?_
  rintro y E ⟨rfl,j,d⟩;rw[t.out] at j;go_wp2_with fail;refine(wrOutE j (by decide)).mono ?_
  rintro y F ⟨rfl,b⟩;have k1:=o.out.chg (But.chg d) l.out;have k2:=k.out.chg (But.chg d) m.out;have d1:=(k1.keep b).cell (i:=0) rfl;have d2:=(k2.keep b).cell (i:=0) rfl;have f2:=(k2.keep b).free 0;have r:=aB ((d.below f.out (by omega) (Nat.le_refl _)).trans (b.mono (by have:=f.out.size; have:=d.size; omega)));have u:=aB (show Slot _ _ _ _ from⟨((k2.keep b).setCell (i:=0) (.slice none 0 0)).blk⟩);clear k1 k2 j d b;go_wp2;refine bodyPost_ret (lB rfl rfl u.out) rfl ?_
  refine⟨none,0,0,rfl,?_,by decide,?_⟩
  ·rw[v.out];exact(yT _).a
  ·exact r.out.setCell (Nat.le_succ _) _
end Rc
end
section
namespace Rc
open Go.RowKit Go.Lib Pg
section
variable {w0 w:World}{bw rb o n c:Nat}{cs:List Value}{L:List Int}{x:Bool}{y V:Int}{ao:Option Addr}{xs:Nat->Int}
attribute [local go_sem] Oper.semAt_some
theorem xI(k:Nat)(x:Int):(gl k x).length<=300:=by
 unfold gl;split
 ·rw[aN]; decide
 ·rw[aN]; decide
 ·have:=iz x;simp only[fM,List.length_append,aN];omega
def pnx(xs:Nat->Int)(k o:Nat)(L:List Int):List Int:=L ++ gl k (xs o)
theorem lp(xs:Nat->Int)(l:List (Nat × Nat)):∀ L:List Int,(thr (pnx xs) l L).length<=L.length + 300 * l.length:=by
 induction l with
 | nil=>intro L; simp[thr]
 | cons p l ih =>
  intro L;have h:=ih (pnx xs p.1 p.2 L);have a:=xI p.1 (xs p.2)
  have e:thr (pnx xs) (p :: l) L=thr (pnx xs) l (pnx xs p.1 p.2 L):=rfl;rw[e];simp only[pnx,List.length_append] at h;simp only[List.length_cons];simp only[pnx];omega
def okL(L:List Int):Prop:=L.length<=1000000000000
structure PI(w0:World)(bw rb:Nat)(cs:List Value)(T:TypeId)(L:List Int)(w:World):Prop where
 wr:WrA w bw 0 L
 bel:Below w0.heap.size w0 w
 blk:Blk w rb cs T
 hb:w0.heap.size<=bw
 ne:rb≠bw
def xh(w0:World)(kd:Nat->Nat)(cs:List Value)(xs:Nat->Int):Prop:=∀ o,(kd o=0->cs[o]? = some (.int .u64 (xs o)))/\(kd o=1->∃ b:Bool,cs[o]? = some (.bool b)/\xs o=if b then 1 else 0)/\(kd o=2->∃ ao n c,cs[o]? = some (.slice ao n c)/\aQ w0 ao n c (xs o)/\n<=1000000)
theorem PI.step{w':World}{T:TypeId}{L':List Int}(h:PI w0 bw rb cs T L w)(X:WrA w' bw 0 L')(B:But bw w w'):PI w0 bw rb cs T L' w' :=
 ⟨X,B.below h.bel h.hb (Nat.le_refl _),h.blk.chg (But.chg B) (fun e=>h.ne e),h.hb,h.ne⟩
def eI(o:Nat):Nat:=([0,0]:List Nat).getD o 9
theorem ub{x:Int}(c:w.cell? ⟨rb,o,none⟩=some (.int .u64 x))(X:WrA w bw 0 L)(hL:L.length<=1000000000000) :
  Calls Tryz.prog 186 #[.pointer (some ⟨rb,o,none⟩),.pointer (some ⟨bw,0,none⟩)] w fun e w'=>e=.returned (.tuple #[])/\WrA w' bw 0 (L ++ gl 0 x)/\But bw w w':=by
 have t:=DY (x:=x) X (by omega);clear X;go_enter Tryz.func186,Tryz.ntmps186;go_wp2_with (go_at_call 152; refine t.mono ?_; rintro f d ⟨rfl,a,b⟩; clear t);go_end0;exact⟨rfl,a,b⟩
theorem sq(hy:(if x then (1:Int) else 0)=y)(c:w.cell? ⟨rb,o,none⟩=some (.bool x))(X:WrA w bw 0 L)(hL:L.length<=1000000000000) :
  Calls Tryz.prog 187 #[.pointer (some ⟨rb,o,none⟩),.pointer (some ⟨bw,0,none⟩)] w fun e w'=>e=.returned (.tuple #[])/\WrA w' bw 0 (L ++ gl 1 y)/\But bw w w':=by
 have t:=AA (x:=x) X (by omega);rw[hy] at t;clear X hy;go_enter Tryz.func187,Tryz.ntmps187;go_wp2_with (go_at_call 154; refine t.mono ?_; rintro f d ⟨rfl,a,b⟩; clear t);go_end0;exact⟨rfl,a,b⟩
theorem sG(cc:w.cell? ⟨rb,o,none⟩=some (.slice ao n c))(f:aQ w ao n c V)(hn:n<=1000000)(X:WrA w bw 0 L)(hL:L.length<=1000000000000) :
  Calls Tryz.prog 188 #[.pointer (some ⟨rb,o,none⟩),.pointer (some ⟨bw,0,none⟩)] w fun e w'=>e=.returned (.tuple #[])/\WrA w' bw 0 (L ++ gl 2 V)/\But bw w w':=by
 have t:=kJ f hn;have l:=aB X;clear X f;go_enter Tryz.func188,Tryz.ntmps188;go_wp2_with first
  | (go_at_call 157; refine t.mono ?_; rintro j p ⟨a1,q,c1,rfl,i,h,b⟩; clear t)
  | (go_at_call 156; refine(uy (l.out.keep b) i (by omega) (by omega)).mono ?_; rintro j m ⟨rfl,d,g⟩)
 go_end0
 have k:gF (fit V) 0=0:=by unfold gF; rw[if_pos (iz V)]
 have a:iC (fit V) 0 L=L ++ gl 2 V:=by unfold iC wrote; rw[if_pos (iz V),if_pos rfl]; rfl
 rw[k,a] at d;exact⟨rfl,d,(But.of b).trans g⟩
def aT(o:Nat):Nat:=([2,0]:List Nat).getD o 9
theorem sd{T:TypeId}(F:xh w0 aT cs xs):HC (List Int) (PI w0 bw rb cs T) (· = bw) rb 186 187 188 (.pointer (some ⟨bw,0,none⟩)) (pnx xs) aT okL where
 oks:=fun k o L h=>by
  unfold okL pnx at *;rw[List.length_append] at h;omega
 keep:=fun L w i h B=>⟨h.wr.keep B,h.bel.trans (B.mono h.bel.size),h.blk.keep B,h.hb,h.ne⟩
 old:=fun L w b h e=>by have j:b=bw:=e; subst j; exact h.wr.lt
 e1:=fun _ _=>by kernel_rfl
 e2:=fun _ _=>by kernel_rfl
 e3:=fun _ _=>by kernel_rfl
 u:=fun L w o h a g=>by
  have f:L.length<=1000000000000:=by unfold okL pnx at a; rw[List.length_append] at a; omega
  refine(ub (h.blk.cell ((F o).1 g)) h.wr f).mono ?_
  rintro e i ⟨rfl,X,B⟩;exact⟨rfl,h.step X B,But.chg B⟩
 t:=fun L w o h a g=>by
  have f:L.length<=1000000000000:=by unfold okL pnx at a; rw[List.length_append] at a; omega
  obtain⟨b,hb,hx⟩:=(F o).2.1 g;refine(sq hx.symm (h.blk.cell hb) h.wr f).mono ?_
  rintro e i ⟨rfl,X,B⟩;exact⟨rfl,h.step X B,But.chg B⟩
 d:=fun L w o h a g=>by
  have f:L.length<=1000000000000:=by unfold okL pnx at a; rw[List.length_append] at a; omega
  obtain⟨m,n,c,hb,l,hn⟩:=(F o).2.2 g;refine(sG (h.blk.cell hb) (l.keep h.bel) hn h.wr f).mono ?_
  rintro e i ⟨rfl,X,B⟩;exact⟨rfl,h.step X B,But.chg B⟩
theorem pn_Cut{x:Int}(c:w.cell? ⟨rb,o,none⟩=some (.int .u64 x))(X:WrA w bw 0 L)(hL:L.length<=1000000000000) :
  Calls Tryz.prog 151 #[.pointer (some ⟨rb,o,none⟩),.pointer (some ⟨bw,0,none⟩)] w fun e w'=>e=.returned (.tuple #[])/\WrA w' bw 0 (L ++ gl 0 x)/\But bw w w':=by
 have t:=DY (x:=x) X (by omega);clear X;go_enter Tryz.func151,Tryz.ntmps151;go_wp2_with (go_at_call 152; refine t.mono ?_; rintro f d ⟨rfl,a,b⟩; clear t);go_end0;exact⟨rfl,a,b⟩
theorem pt_Cut(hy:(if x then (1:Int) else 0)=y)(c:w.cell? ⟨rb,o,none⟩=some (.bool x))(X:WrA w bw 0 L)(hL:L.length<=1000000000000) :
  Calls Tryz.prog 153 #[.pointer (some ⟨rb,o,none⟩),.pointer (some ⟨bw,0,none⟩)] w fun e w'=>e=.returned (.tuple #[])/\WrA w' bw 0 (L ++ gl 1 y)/\But bw w w':=by
 have t:=AA (x:=x) X (by omega);rw[hy] at t;clear X hy;go_enter Tryz.func153,Tryz.ntmps153;go_wp2_with (go_at_call 154; refine t.mono ?_; rintro f d ⟨rfl,a,b⟩; clear t);go_end0;exact⟨rfl,a,b⟩
theorem pd_Cut(cc:w.cell? ⟨rb,o,none⟩=some (.slice ao n c))(f:aQ w ao n c V)(hn:n<=1000000)(X:WrA w bw 0 L)(hL:L.length<=1000000000000) :
  Calls Tryz.prog 155 #[.pointer (some ⟨rb,o,none⟩),.pointer (some ⟨bw,0,none⟩)] w fun e w'=>e=.returned (.tuple #[])/\WrA w' bw 0 (L ++ gl 2 V)/\But bw w w':=by
 have t:=kJ f hn;have l:=aB X;clear X f;go_enter Tryz.func155,Tryz.ntmps155;go_wp2_with first
  | (go_at_call 157; refine t.mono ?_; rintro j p ⟨a1,q,c1,rfl,i,h,b⟩; clear t)
  | (go_at_call 156; refine(uy (l.out.keep b) i (by omega) (by omega)).mono ?_; rintro j m ⟨rfl,d,g⟩)
 go_end0
 have k:gF (fit V) 0=0:=by unfold gF; rw[if_pos (iz V)]
 have a:iC (fit V) 0 L=L ++ gl 2 V:=by unfold iC wrote; rw[if_pos (iz V),if_pos rfl]; rfl
 rw[k,a] at d;exact⟨rfl,d,(But.of b).trans g⟩
def cn(o:Nat):Nat:=([0,0]:List Nat).getD o 9
theorem hc_Cut{T:TypeId}(F:xh w0 cn cs xs):HC (List Int) (PI w0 bw rb cs T) (· = bw) rb 151 153 155 (.pointer (some ⟨bw,0,none⟩)) (pnx xs) cn okL where
 oks:=fun k o L h=>by
  unfold okL pnx at *;rw[List.length_append] at h;omega
 keep:=fun L w i h B=>⟨h.wr.keep B,h.bel.trans (B.mono h.bel.size),h.blk.keep B,h.hb,h.ne⟩
 old:=fun L w b h e=>by have j:b=bw:=e; subst j; exact h.wr.lt
 e1:=fun _ _=>by kernel_rfl
 e2:=fun _ _=>by kernel_rfl
 e3:=fun _ _=>by kernel_rfl
 u:=fun L w o h a g=>by
  have f:L.length<=1000000000000:=by unfold okL pnx at a; rw[List.length_append] at a; omega
  refine(pn_Cut (h.blk.cell ((F o).1 g)) h.wr f).mono ?_
  rintro e i ⟨rfl,X,B⟩;exact⟨rfl,h.step X B,But.chg B⟩
 t:=fun L w o h a g=>by
  have f:L.length<=1000000000000:=by unfold okL pnx at a; rw[List.length_append] at a; omega
  obtain⟨b,hb,hx⟩:=(F o).2.1 g;refine(pt_Cut hx.symm (h.blk.cell hb) h.wr f).mono ?_
  rintro e i ⟨rfl,X,B⟩;exact⟨rfl,h.step X B,But.chg B⟩
 d:=fun L w o h a g=>by
  have f:L.length<=1000000000000:=by unfold okL pnx at a; rw[List.length_append] at a; omega
  obtain⟨m,n,c,hb,l,hn⟩:=(F o).2.2 g;refine(pd_Cut (h.blk.cell hb) (l.keep h.bel) hn h.wr f).mono ?_
  rintro e i ⟨rfl,X,B⟩;exact⟨rfl,h.step X B,But.chg B⟩
end
end Rc
end
section
namespace Rc
open Go.RowKit Go.Lib Pg
section
variable {w:World}{x0 x1:Int}{a0:Option Addr}{n0 c0:Nat}
attribute [local go_sem] Oper.semAt_some
theorem fl_Chain : xh w eI [.int .u64 x0, .int .u64 x1] (fun o => ([x0, x1] : List Int).getD o 0) := fun o => match o with
    | 0 => ⟨fun _ => rfl, fun h => absurd h (by decide), fun h => absurd h (by decide)⟩
    | 1 => ⟨fun _ => rfl, fun h => absurd h (by decide), fun h => absurd h (by decide)⟩
    | k + 2 => ⟨fun h => absurd h (by simp[eI]), fun h => absurd h (by simp[eI]), fun h => absurd h (by simp[eI])⟩
theorem tU(a : aQ w a0 n0 c0 x0)(m0 : n0 ≤ 1000000) : xh w aT [.slice a0 n0 c0, .int .u64 x1] (fun o => ([x0, x1] : List Int).getD o 0) := fun o => match o with
    | 0 => ⟨fun h => absurd h (by decide), fun h => absurd h (by decide), fun _ => ⟨a0, n0, c0, rfl, a, m0⟩⟩
    | 1 => ⟨fun _ => rfl, fun h => absurd h (by decide), fun h => absurd h (by decide)⟩
    | k + 2 => ⟨fun h => absurd h (by simp[aT]), fun h => absurd h (by simp[aT]), fun h => absurd h (by simp[aT])⟩
theorem q8(p:aQ w a0 n0 c0 x0)(m0:n0<=1000000) :
  Calls Tryz.prog 140 #[.agg #[.slice a0 n0 c0,.int .u64 x1],.func (.func 141) #[] #[]] w fun e w'=>∃ b n,e=.returned (.slice (some ⟨b,0,none⟩) n n)/\n=(thr (pnx (fun o=>([x0,x1]:List Int).getD o 0)) [(2,0),(0,1)] []).length/\Box w' b ((thr (pnx (fun o=>([x0,x1]:List Int).getD o 0)) [(2,0),(0,1)] []).map (Value.int .u8)) 5/\w.heap.size<=b/\Below w.heap.size w w':=by
 have F:=tU p m0 (x1:=x1) (w:=w);have j:=ae w (.cells #[.slice a0 n0 c0,.int .u64 x1] 116);have b2:=ae (w.alloc (.cells #[.slice a0 n0 c0,.int .u64 x1] 116)) (.cells Tryz.zeroCells231 231);have s1:=dn w (.cells #[.slice a0 n0 c0,.int .u64 x1] 116);have X:=zd (w.alloc (.cells #[.slice a0 n0 c0,.int .u64 x1] 116));have B:=(aC w [.slice a0 n0 c0,.int .u64 x1] 116).keep b2;rw[s1] at X;obtain⟨f,a⟩:∃ f,Hid ((w.alloc (.cells #[.slice a0 n0 c0,.int .u64 x1] 116)).alloc (.cells Tryz.zeroCells231 231)=f):=⟨_,rfl⟩
 have i:=aj j b2;rw[a.out] at i X B;obtain⟨M,d⟩:∃ M,Hid (thr (pnx (fun o=>([x0,x1]:List Int).getD o 0)) [(2,0),(0,1)] []=M):=⟨_,rfl⟩
 have hlen:M.length<=3000:=by have h:=lp (fun o=>([x0,x1]:List Int).getD o 0) [(2,0),(0,1)] []; rw[d.out] at h; simp at h; omega
 have U:=iH (sd (bw:=w.heap.size + 1) (rb:=w.heap.size) (T:=116) F) (s:=[]) (w:=f) ⟨X,i,B,Nat.le_succ _,by omega⟩ (by simp[aT]) (by rw[d.out]; show M.length<=1000000000000; omega);rw[d.out] at U ⊢;have v:=aB U;clear U F j b2 s1 X B i;go_enter Tryz.func140,Tryz.ntmps140;go_wp2_with fail;rw[a.out];refine v.out.mono ?_
 rintro u t ⟨rfl,c,r⟩;go_wp2_with fail;refine(zg c.wr (by omega)).mono ?_
 rintro u q ⟨rfl,m,l⟩;have k:=aB (show w.heap.size<=t.heap.size/\Below w.heap.size w q from⟨c.bel.size,aj c.bel l⟩);have g:=aB m;clear c r m l;go_wp2;go_ret;exact⟨_,_,rfl,rfl,g.out,k.out.1,k.out.2⟩
theorem fl_Cut : xh w cn [.int .u64 x0, .int .u64 x1] (fun o => ([x0, x1] : List Int).getD o 0) := fun o => match o with
    | 0 => ⟨fun _ => rfl, fun h => absurd h (by decide), fun h => absurd h (by decide)⟩
    | 1 => ⟨fun _ => rfl, fun h => absurd h (by decide), fun h => absurd h (by decide)⟩
    | k + 2 => ⟨fun h => absurd h (by simp[cn]), fun h => absurd h (by simp[cn]), fun h => absurd h (by simp[cn])⟩
theorem Cw :
  Calls Tryz.prog 99 #[.agg #[.int .u64 x0,.int .u64 x1],.func (.func 100) #[] #[]] w fun e w'=>∃ b n,e=.returned (.slice (some ⟨b,0,none⟩) n n)/\n=(thr (pnx (fun o=>([x0,x1]:List Int).getD o 0)) [(0,0),(0,1)] []).length/\Box w' b ((thr (pnx (fun o=>([x0,x1]:List Int).getD o 0)) [(0,0),(0,1)] []).map (Value.int .u8)) 5/\w.heap.size<=b/\Below w.heap.size w w':=by
 have F:=fl_Cut (x0:=x0) (x1:=x1) (w:=w);have j:=ae w (.cells #[.int .u64 x0,.int .u64 x1] 111);have b2:=ae (w.alloc (.cells #[.int .u64 x0,.int .u64 x1] 111)) (.cells Tryz.zeroCells231 231);have s1:=dn w (.cells #[.int .u64 x0,.int .u64 x1] 111);have X:=zd (w.alloc (.cells #[.int .u64 x0,.int .u64 x1] 111));have B:=(aC w [.int .u64 x0,.int .u64 x1] 111).keep b2;rw[s1] at X;obtain⟨f,a⟩:∃ f,Hid ((w.alloc (.cells #[.int .u64 x0,.int .u64 x1] 111)).alloc (.cells Tryz.zeroCells231 231)=f):=⟨_,rfl⟩
 have i:=aj j b2;rw[a.out] at i X B;obtain⟨M,d⟩:∃ M,Hid (thr (pnx (fun o=>([x0,x1]:List Int).getD o 0)) [(0,0),(0,1)] []=M):=⟨_,rfl⟩
 have hlen:M.length<=3000:=by have h:=lp (fun o=>([x0,x1]:List Int).getD o 0) [(0,0),(0,1)] []; rw[d.out] at h; simp at h; omega
 have U:=oE (hc_Cut (bw:=w.heap.size + 1) (rb:=w.heap.size) (T:=111) F) (s:=[]) (w:=f) ⟨X,i,B,Nat.le_succ _,by omega⟩ (by simp[cn]) (by rw[d.out]; show M.length<=1000000000000; omega);rw[d.out] at U ⊢;have u:=aB U;clear U F j b2 s1 X B i;go_enter Tryz.func99,Tryz.ntmps99;go_wp2_with fail;rw[a.out];refine u.out.mono ?_
 rintro t r ⟨rfl,c,q⟩;go_wp2_with fail;refine(zg c.wr (by omega)).mono ?_
 rintro t p ⟨rfl,m,l⟩;have k:=aB (show w.heap.size<=r.heap.size/\Below w.heap.size w p from⟨c.bel.size,aj c.bel l⟩);have g:=aB m;clear c q m l;go_wp2;go_ret;exact⟨_,_,rfl,rfl,g.out,k.out.1,k.out.2⟩
end
end Rc
end
section
namespace Rc
open Go.RowKit Go.Lib Pg Lim
section
variable {w w':World}{B n c g b:Nat}{ao:Option Addr}{x err:Int}{v:Value}{r l:List Int}
attribute [local go_sem] Oper.semAt_some
structure fw(w:World)(B:Nat)(ao:Option Addr)(n c:Nat)(x:Int):Prop where
 ex:∃ b o l,l.length=n/\n<=c/\IsN l x/\At w ao b o l/\B<=b
theorem mn(w:World)(B:Nat):fw w B none 0 0 0:=⟨B,0,[],rfl,Nat.le_refl _,jR,⟨.inl rfl,fun i hi=>by simp at hi⟩,Nat.le_refl _⟩
theorem fw.low{B':Nat}(h:fw w B ao n c x)(hB:B'<=B):fw w B' ao n c x:=by
 obtain⟨b,o,l,h1,h2,h3,h4,h5⟩:=h.ex;exact⟨b,o,l,h1,h2,h3,h4,Nat.le_trans hB h5⟩
theorem fw.off(h:fw w B ao n c x)(_hs:w.heap.size<=w'.heap.size)(hw:∀ b,B<=b->b < w.heap.size->w'.heap[b]? = w.heap[b]?):fw w' B ao n c x:=by
 obtain⟨b,o,l,f,e,g,a,d⟩:=h.ex;refine⟨b,o,l,f,e,g,⟨a.loc,fun i hi => ?_⟩,d⟩;have hc:=a.cell i hi;rw[World.cell?_of_block (w:=w) (hw b d (aJ hc))];exact hc
theorem newV_w(h:dH w w' v r)(j:IsN r x)(f:B<=w.heap.size):∃ a c,v=.slice a r.length c/\fw w' B a r.length c x:=by
 obtain⟨i,b,o,c,e,g,d,k,l⟩:=h.is;exact⟨i,c,e,b,o,r,rfl,g,j,k,Nat.le_trans f d⟩
theorem sD(h:RdA w g b 0 l) :
  Calls Tryz.prog 246 #[.pointer (some ⟨g,0,none⟩)] w fun e w'=>∃ v,e=.returned (.tuple #[v,.int .i64 (rdE (bQ l) 0)])/\∃ l1,RdA w' g b 0 l1/\But g w w'/\∀ x k,bQ l=.inr (x,k)->l1=l.drop k/\∃ ao n c,v=.slice ao n c/\fw w' w.heap.size ao n c x/\n<=255:=by
 have d:=ra (m:=1) h;by_cases j:1<=l.length
 ·have t:=DR (m:=1) h j (by decide);have J:=AU h j;rw[show (256:Int) ^ 1=256 by decide] at J;rw[<- d] at t;have O:=(show Hid _ from h.oct)
  by_cases hs:1 + bS 1 l<=l.length
  ·by_cases q:0 < bS 1 l/\nth (l.drop 1) 0=0
   ·have a:bQ l=.inl 41:=by unfold bQ; rw[if_pos j,if_pos hs,if_pos q]
    have i:Hid (rdE (bQ l) 0=41):=by show _=_; rw[a]; rfl
    have p:=(show Hid _ from a)
    have A:=(show Hid _ from q)
    clear a h q d;generalize bS 1 l=N at *;go_enter Tryz.func246,Tryz.ntmps246;go_wp2_with fail;refine t.mono ?_
    rintro e D ⟨rfl,s,u⟩;have t2:=zy (m:=N) s (by rw[List.length_drop]; omega);clear t;go_wp2_with fail;refine t2.mono ?_
    rintro e z ⟨ao,rfl,hA,E,B⟩;obtain⟨o,k1,k2,k3,k4,y⟩:=hA.ex;have t3:=CB ao N N b o _ z k1 A.out.1 y (by rw[dr A.out.1]; exact A.out.2);clear t2 k1 k2 k3 k4 y hA;go_wp2_with fail;refine t3.mono ?_
    rintro e K ⟨rfl,rfl⟩;clear t3;go_wp2;go_ret2;exact⟨_,by rw[i.out]; rfl,_,E,u.trans B,fun x k e=>by rw[p.out] at e; cases e⟩
   ·have a:bQ l=.inr (bO ((l.drop 1).take (bS 1 l)),1 + bS 1 l):=by unfold bQ; rw[if_pos j,if_pos hs,if_neg q]
    have i:Hid (rdE (bQ l) 0=0):=by show _=_; rw[a]; rfl
    have p:=(show Hid _ from a)
    have A:=(show Hid _ from q)
    clear a h q d;generalize bS 1 l=N at *;go_enter Tryz.func246,Tryz.ntmps246;go_wp2_with fail;refine t.mono ?_
    rintro e D ⟨rfl,s,u⟩;have t2:=zy (m:=N) s (by rw[List.length_drop]; omega);clear t;go_wp2_with fail;refine t2.mono ?_
    rintro e z ⟨ao,rfl,hA,E,B⟩;obtain⟨o,k1,k2,k3,k4,y⟩:=hA.ex;have t3:=Ay ao N N b o _ z k1 (by omega) k4 y (fun f F=>A.out ⟨f,by rw[dr f] at F; exact F⟩);clear t2 k1 k2 k3 k4 y hA;go_wp2_with fail;refine t3.mono ?_
    rintro e K ⟨v,r,rfl,k1,k2,k3,k4⟩;obtain⟨M,L,rfl,G⟩:=newV_w k1 k2 (show w.heap.size<=z.heap.size from(u.trans B).size);have C:=(show Hid _ from G)
    have H:=(show Hid _ from k4)
    clear t3 k1 k2 k4 G;go_wp2;go_ret2;exact⟨_,by rw[i.out]; rfl,_,E.keep H.out,(u.trans B).trans (But.of H.out),fun x k e=>by
     rw[p.out] at e
     cases e;exact⟨by rw[List.drop_drop],_,_,_,rfl,C.out,by omega⟩⟩
  ·have a:bQ l=.inl 40:=by unfold bQ; rw[if_pos j,if_neg hs]
   have i:Hid (rdE (bQ l) 0=40):=by show _=_; rw[a]; rfl
   have p:=(show Hid _ from a)
   clear a h d;generalize bS 1 l=N at *;go_enter Tryz.func246,Tryz.ntmps246;go_wp2_with fail;refine t.mono ?_
   rintro e D ⟨rfl,s,u⟩;have t2:=BP (m:=N) s (by rw[List.length_drop]; omega);clear t hs;go_wp2_with fail;refine t2.mono ?_
   rintro e z ⟨rfl,rfl⟩;clear t2;go_wp2;go_ret2;exact⟨_,by rw[i.out]; rfl,_,s,u,fun x k e=>by rw[p.out] at e; cases e⟩
 ·have t:=zO (m:=1) h (by omega)
  have a:bQ l=.inl 40:=by unfold bQ; rw[if_neg j]
  have i:Hid (rdE (bQ l) 0=40):=by show _=_; rw[a]; rfl
  have p:=(show Hid _ from a)
  have I:=(show Hid _ from h)
  clear a h j d;go_enter Tryz.func246,Tryz.ntmps246;go_wp2_with fail;refine t.mono ?_
  rintro e D ⟨rfl,rfl⟩;clear t;go_wp2;go_ret2;exact⟨_,by rw[i.out]; rfl,_,I.out,But.refl _ _,fun x k e=>by rw[p.out] at e; cases e⟩
theorem rdNatW(h:RdA w g b err l) :
  Calls Tryz.prog 221 #[.pointer (some ⟨g,0,none⟩)] w fun e w'=>∃ ao n c,e=.returned (.slice ao n c)/\fw w' w.heap.size ao n c (rdV 0 (bQ l) err)/\n<=255/\RdA w' g b (rdE (bQ l) err) (rdL (bQ l) err l)/\But g w w':=by
 have t:=enNa (z:=(0:Int)) (p:=bQ l) (V:=fun x v w'=>∃ ao n c,v=.slice ao n c/\fw w' w.heap.size ao n c x/\n<=255) h (fun _=>Bt) (fun w'=>⟨none,0,0,rfl,mn w' w.heap.size,by decide⟩) (fun e=>by subst e; exact sD h);clear h;generalize rdV 0 (bQ l) err=V at *;generalize rdE (bQ l) err=E at *;generalize rdL (bQ l) err l=R at *;go_enter Tryz.func221,Tryz.ntmps221;go_wp2_with fail;refine t.mono ?_
 rintro e a ⟨v,rfl,⟨ao,n,c,rfl,k3,k4⟩,k1,k2⟩;clear t;go_wp2;go_ret;exact⟨ao,n,c,rfl,k3,k4,k1,k2⟩
theorem xX(h:RdA w g b err l) :
  Calls Tryz.prog 184 #[.pointer (some ⟨g,0,none⟩)] w fun e w'=>∃ ao n c,e=.returned (.agg #[.slice ao n c])/\fw w' w.heap.size ao n c (rdV 0 (bQ l) err)/\n<=255/\RdA w' g b (rdE (bQ l) err) (rdL (bQ l) err l)/\But g w w':=by
 have d:=(show Hid _ from ae w (.cells #[.slice none 0 0] 32))
 have i:=eH w (.slice none 0 0) 32
 have j:w.heap.size≠g:=by have:=h.lt; omega
 have f:=(show Hid _ from j)
 have t:=rdNatW (h.keep d.out);clear h j;generalize rdV 0 (bQ l) err=V at *;generalize rdE (bQ l) err=E at *;generalize rdL (bQ l) err l=R at *;go_enter Tryz.func184,Tryz.ntmps184;go_wp2_with fail;refine t.mono ?_
 rintro e k ⟨ao,n,c,rfl,k3,k4,k1,k2⟩;have a:=i.but k2 f.out;have c1:=a.cell;have f1:=a.free;have p:=a.put (.slice ao n c);have q:=(show Hid (fw (k.setCell ⟨w.heap.size,0,none⟩ (.slice ao n c)) w.heap.size ao n c V) from(k3.off (w':=k.setCell ⟨w.heap.size,0,none⟩ (.slice ao n c)) (by rw[size_set]; exact Nat.le_refl _) (fun b hb _=>Below.heap_setCell _ _ _ b (by have:=dn w (.cells #[.slice none 0 0] 32); show b≠w.heap.size; omega))).low d.out.size)
 have o:=(show Hid _ from k1.put (u:=.slice ao n c) a f.out (fun x e=>by cases e))
 have m:=(show Hid _ from((But.of (g:=g) d.out).trans k2).put (Nat.le_refl _) (.slice ao n c))
 clear t i a k1 k2 k3 d f;go_wp2;refine bodyPost_ret (lB rfl rfl p) rfl ?_
 exact⟨ao,n,c,rfl,q.out,k4,o.out,m.out⟩
end
end Rc
end
section
namespace Rc
open Go.RowKit Go.Lib Pg
section
variable {w w0:World}{B g b vb rb o k:Nat}{kd:Nat->Nat}{cs:List Value}{xs:Nat->Int}{l1 l:List Int}{v old:Value}{err:Int}
attribute [local go_sem] Oper.semAt_some
abbrev RSt:=Int × List Int × (Nat->Int)
def dP(l:List Int):Int ⊕ Int × Nat:=match bE l with
 | .inl e=>.inl e
 | .inr p=>.inr ((if p.1 then 1 else 0),p.2)
def p1:Nat->List Int->Int ⊕ Int × Nat
 | 0,l=>cN 8 l
 | 1,l=>dP l
 | _,l=>bQ l
theorem lN(l:List Int)(err:Int):rdE (dP l) err=rdE (bE l) err:=by
 unfold rdE dP
 cases bE l<;>rfl
theorem lS(l m:List Int)(err:Int):rdL (dP l) err m=rdL (bE l) err m:=by
 unfold rdL dP
 cases bE l<;>rfl
theorem mw(l:List Int)(err:Int):rdV 0 (dP l) err=if rdV false (bE l) err then 1 else 0:=by
 unfold rdV dP;by_cases h:err=0
 ·rw[if_pos h,if_pos h]
  cases bE l<;>rfl
 ·rw[if_neg h,if_neg h];rfl
def rnx(k o:Nat)(s:RSt):RSt:=(rdE (p1 k s.2.1) s.1,rdL (p1 k s.2.1) s.1 s.2.1,fun i=>if i=o then rdV 0 (p1 k s.2.1) s.1 else s.2.2 i)
def nu(w:World)(B:Nat)(kd:Nat->Nat)(cs:List Value)(xs:Nat->Int):Prop:=∀ o,(kd o=0->cs[o]? = some (.int .u64 (xs o)))/\(kd o=1->∃ b:Bool,cs[o]? = some (.bool b)/\xs o=if b then 1 else 0)/\(kd o=2->∃ ao n c,cs[o]? = some (.slice ao n c)/\fw w B ao n c (xs o)/\n<=255)
theorem nu.off{w':World}(h:nu w B kd cs xs)(hs:w.heap.size<=w'.heap.size)(hw:∀ b,B<=b->b < w.heap.size->w'.heap[b]? = w.heap[b]?):nu w' B kd cs xs:=fun o=>⟨(h o).1,(h o).2.1,fun f=>by
 obtain⟨e,n,c,d,a,g⟩:=(h o).2.2 f;exact⟨e,n,c,d,a.off hs hw,g⟩⟩
structure RI(w0:World)(B g b vb rb:Nat)(kd:Nat->Nat)(len:Nat)(T vt:TypeId)(s:RSt)(w:World):Prop where
 rd:RdA w g b s.1 s.2.1
 var:Blk w vb [.pointer (some ⟨g,0,none⟩)] vt
 rc:∃ cs,cs.length=len/\Blk w rb cs T/\nu w B kd cs s.2.2
 bel:Below w0.heap.size w0 w
 s1:rb≠g
 s2:vb≠g
 s3:vb≠rb
 s4:b≠rb
 g1:g < B
 r1:rb < B
 g0:w0.heap.size<=g
 r0:w0.heap.size<=rb
theorem Bb(w:World)(g o:Nat)(v:Value):But g w (w.setCell ⟨g,o,none⟩ v):=by
 have h:=(Chg.refl (fun x=>x=g) w).cell (g:=g) (i:=o) (.inl rfl) v;exact⟨h.os,h.tape,h.output,h.size,fun b hb a=>h.same b hb a⟩
theorem RI.step{w1:World}{len:Nat}{T vt:TypeId}{s:RSt}{e1:Int}{x:Int}(h:RI w0 B g b vb rb kd len T vt s w)(E:kd o=k)(G:o < len)(X:RdA w1 g b e1 l1)(p:But g w w1)(hv:(k=0/\v=.int .u64 x)\/(k=1/\∃ t:Bool,v=.bool t/\x=if t then 1 else 0)\/(k=2/\∃ ao n c,v=.slice ao n c/\fw w1 B ao n c x/\n<=255)) :
  RI w0 B g b vb rb kd len T vt (e1,l1,fun i=>if i=o then x else s.2.2 i) (w1.setCell ⟨rb,o,none⟩ v)/\Chg (fun y=>y=g\/y=rb) w (w1.setCell ⟨rb,o,none⟩ v):=by
 have hS:=Bb w1 rb o v;have z:=h.s1;have F:=h.g1;have D:=h.r1
 have f:Chg (· = g) w w1:=But.chg p
 have m:Chg (· = rb) w1 (w1.setCell ⟨rb,o,none⟩ v):=But.chg hS;obtain⟨cs,r,u,hF⟩:=h.rc
 have C:Below w0.heap.size w0 w1:=p.below h.bel h.g0 (Nat.le_refl _)
 have l:∀ y,B<=y->y < w.heap.size->w1.heap[y]? = w.heap[y]? := fun y hy j=>p.block y j (by omega)
 have d:∀ y,B<=y->y < w1.heap.size->(w1.setCell ⟨rb,o,none⟩ v).heap[y]? = w1.heap[y]? := fun y hy j=>hS.block y j (by omega)
 refine⟨⟨X.offW (fun e=>z e.symm) h.s4 hS,(h.var.chg f h.s2).chg m h.s3,⟨cs.set o v,by rw[List.length_set]; exact r,(u.chg f z).setCell (i:=o) v,?_⟩,hS.below C h.r0 (Nat.le_refl _),h.s1,h.s2,h.s3,h.s4,h.g1,h.r1,h.g0,h.r0⟩,(f.mono (fun _ _ e=>.inl e)).trans m (fun _ _ e=>.inr e)⟩;have q:=hF.off p.size l;intro i;by_cases hi:i=o
 ·subst hi
  have a:(cs.set i v)[i]? = some v:=by rw[List.getElem?_set_self (by omega)]
  rw[a];simp only[if_true];refine⟨fun A => ?_,fun A => ?_,fun A => ?_⟩
  ·rcases hv with⟨_,e⟩ | ⟨e,_⟩ | ⟨e,_⟩
   ·rw[e]
   ·omega
   ·omega
  ·rcases hv with⟨e,_⟩ | ⟨_,t,e,e2⟩ | ⟨e,_⟩
   ·omega
   ·exact⟨t,by rw[e],e2⟩
   ·omega
  ·rcases hv with⟨e,_⟩ | ⟨e,_⟩ | ⟨_,ao,n,c,e,e2,e3⟩
   ·omega
   ·omega
   ·exact⟨ao,n,c,by rw[e],e2.off hS.size d,e3⟩
 ·have a:(cs.set o v)[i]? = cs[i]? := by rw[List.getElem?_set_ne (fun e=>hi e.symm)]
  simp only[if_neg hi];rw[a];exact(q.off hS.size d) i
theorem kl_Chain(h:eI o=k)(hk:k≠9):o < 2:=by
 by_cases ho:o < 2
 ·exact ho
 ·exfalso;have:eI o=9:=by
   unfold eI;rw[List.getD_eq_getElem?_getD,List.getElem?_eq_none (by simp; omega)];rfl
  omega
theorem r5{T vt:TypeId}(X:RdA w g b err l)(V:Blk w vb [.pointer (some ⟨g,0,none⟩)] vt)(R:Blk w rb cs T)(j:rb≠g)(h:cs[o]? = some old)(hold:∃ y,old=.int .u64 y) :
  Calls Tryz.prog 214 #[.pointer (some ⟨rb,o,none⟩),.pointer (some ⟨vb,0,none⟩)] w fun e w'=>e=.returned (.tuple #[])/\∃ w1,w'=w1.setCell ⟨rb,o,none⟩ (.int .u64 (rdV 0 (p1 0 l) err))/\RdA w1 g b (rdE (p1 0 l) err) (rdL (p1 0 l) err l)/\But g w w1:=by
 obtain⟨y,rfl⟩:=hold;have t:=DS X
 show Calls Tryz.prog _ _ w fun e w'=>e=.returned (.tuple #[])/\∃ w1,w'=w1.setCell ⟨rb,o,none⟩ (.int .u64 (rdV 0 (cN 8 l) err))/\RdA w1 g b (rdE (cN 8 l) err) (rdL (cN 8 l) err l)/\But g w w1
 generalize rdV 0 (cN 8 l) err=Y at *;generalize rdE (cN 8 l) err=E at *;generalize rdL (cN 8 l) err l=r at *;have cv:=V.cell (i:=0) rfl;have k:=aB R;have d:=aB j;have m:=aB h;clear X V R h j;go_enter Tryz.func214,Tryz.ntmps214;go_wp2_with (go_at_call 180; refine t.mono ?_; rintro p w1 ⟨rfl,c,f⟩; clear t; have a:=k.out.chg (But.chg f) d.out; have q:=a.cell m.out; have n:=a.free o; clear a; replace c:=aB c);go_end0;exact⟨rfl,w1,rfl,c.out,f⟩
theorem tO{T vt:TypeId}(X:RdA w g b err l)(V:Blk w vb [.pointer (some ⟨g,0,none⟩)] vt)(R:Blk w rb cs T)(f:rb≠g)(j:cs[o]? = some old)(hold:∃ y,old=.bool y) :
  Calls Tryz.prog 215 #[.pointer (some ⟨rb,o,none⟩),.pointer (some ⟨vb,0,none⟩)] w fun e w'=>e=.returned (.tuple #[])/\∃ w1,w'=w1.setCell ⟨rb,o,none⟩ (.bool (rdV false (bE l) err))/\RdA w1 g b (rdE (p1 1 l) err) (rdL (p1 1 l) err l)/\But g w w1:=by
 obtain⟨y,rfl⟩:=hold;have t:=rdBool X
 show Calls Tryz.prog _ _ w fun e w'=>e=.returned (.tuple #[])/\∃ w1,w'=w1.setCell ⟨rb,o,none⟩ (.bool (rdV false (bE l) err))/\RdA w1 g b (rdE (dP l) err) (rdL (dP l) err l)/\But g w w1
 rw[lN,lS];generalize rdV false (bE l) err=Y at *;generalize rdE (bE l) err=E at *;generalize rdL (bE l) err l=r at *;have cv:=V.cell (i:=0) rfl;have k:=aB R;have d:=aB f;have m:=aB j;clear X V R j f;go_enter Tryz.func215,Tryz.ntmps215;go_wp2_with (go_at_call 182; refine t.mono ?_; rintro p w1 ⟨rfl,a,h⟩; clear t; have c:=k.out.chg (But.chg h) d.out; have q:=c.cell m.out; have n:=c.free o; clear c; replace a:=aB a);go_end0;exact⟨rfl,w1,rfl,a.out,h⟩
theorem ui{T vt:TypeId}(X:RdA w g b err l)(V:Blk w vb [.pointer (some ⟨g,0,none⟩)] vt)(R:Blk w rb cs T)(k:rb≠g)(p:cs[o]? = some old)(hold:∃ a n c,old=.slice a n c) :
  Calls Tryz.prog 216 #[.pointer (some ⟨rb,o,none⟩),.pointer (some ⟨vb,0,none⟩)] w fun e w'=>e=.returned (.tuple #[])/\∃ w1 ao n c,w'=w1.setCell ⟨rb,o,none⟩ (.slice ao n c)/\fw w1 w.heap.size ao n c (rdV 0 (p1 2 l) err)/\n<=255/\RdA w1 g b (rdE (p1 2 l) err) (rdL (p1 2 l) err l)/\But g w w1:=by
 obtain⟨y,on,v,rfl⟩:=hold;have t:=xX X
 show Calls Tryz.prog _ _ w fun e w'=>e=.returned (.tuple #[])/\∃ w1 ao n c,w'=w1.setCell ⟨rb,o,none⟩ (.slice ao n c)/\fw w1 w.heap.size ao n c (rdV 0 (bQ l) err)/\n<=255/\RdA w1 g b (rdE (bQ l) err) (rdL (bQ l) err l)/\But g w w1
 generalize rdV 0 (bQ l) err=Y at *;generalize rdE (bQ l) err=E at *;generalize rdL (bQ l) err l=B at *;have cv:=V.cell (i:=0) rfl;have q:=aB R;have j:=aB k;have s:=aB p;clear X V R p k;go_enter Tryz.func216,Tryz.ntmps216;go_wp2_with (go_at_call 184; refine t.mono ?_; rintro z w1 ⟨a1,u,d1,rfl,r,h,d,m⟩; clear t; have f:=q.out.chg (But.chg m) j.out; have A:=f.cell s.out; have x:=f.free o; clear f; replace d:=aB d);go_end0;exact⟨rfl,w1,a1,u,d1,rfl,r,h,d.out,m⟩
theorem iO(h:aT o=k)(hk:k≠9):o < 2:=by
 by_cases ho:o < 2
 ·exact ho
 ·exfalso;have:aT o=9:=by
   unfold aT;rw[List.getD_eq_getElem?_getD,List.getElem?_eq_none (by simp; omega)];rfl
  omega
theorem qz{T vt:TypeId}:HC RSt (fun s w=>RI w0 B g b vb rb aT 2 T vt s w/\B<=w.heap.size) (fun y=>y=g\/y=rb) rb 214 215 216 (.pointer (some ⟨vb,0,none⟩)) rnx aT (fun _=>True) where
 oks:=fun _ _ _ _=>trivial
 keep:=fun s w r h j=>by
  obtain⟨h,f⟩:=h;obtain⟨cs,p,k,l⟩:=h.rc;exact⟨⟨h.rd.keep j,h.var.keep j,⟨cs,p,k.keep j,l.off j.size (fun y _ hy=>j.block y hy)⟩,h.bel.trans (j.mono h.bel.size),h.s1,h.s2,h.s3,h.s4,h.g1,h.r1,h.g0,h.r0⟩,Nat.le_trans f j.size⟩
 old:=fun s w y h e=>by
  have:=h.1.g1;have:=h.1.r1;have:=h.2;rcases e with e | e<;>omega
 e1:=fun _ _=>by kernel_rfl
 e2:=fun _ _=>by kernel_rfl
 e3:=fun _ _=>by kernel_rfl
 u:=fun s w o h _ a=>by
  obtain⟨h,f⟩:=h;obtain⟨cs,p,k,l⟩:=h.rc;refine(r5 h.rd h.var k h.s1 ((l o).1 a) ⟨_,rfl⟩).mono ?_
  rintro e r ⟨rfl,v,rfl,X,m⟩;obtain⟨r1,i⟩:=h.step a (iO a (by decide)) X m (.inl ⟨rfl,rfl⟩);exact⟨rfl,⟨r1,Nat.le_trans f i.size⟩,i⟩
 t:=fun s w o h _ a=>by
  obtain⟨h,f⟩:=h;obtain⟨cs,p,k,l⟩:=h.rc;obtain⟨t,q,_⟩:=(l o).2.1 a;refine(tO h.rd h.var k h.s1 q ⟨_,rfl⟩).mono ?_
  rintro e r ⟨rfl,v,rfl,X,m⟩;obtain⟨r1,i⟩:=h.step a (iO a (by decide)) X m (x:=rdV 0 (p1 1 s.2.1) s.1) (.inr (.inl ⟨rfl,_,rfl,mw _ _⟩));exact⟨rfl,⟨r1,Nat.le_trans f i.size⟩,i⟩
 d:=fun s w o h _ a=>by
  obtain⟨h,f⟩:=h;obtain⟨cs,p,k,l⟩:=h.rc;obtain⟨A,n,c,q,_⟩:=(l o).2.2 a;refine(ui h.rd h.var k h.s1 q ⟨_,_,_,rfl⟩).mono ?_
  rintro e r ⟨rfl,v,a1,C,c1,rfl,z,hn,X,m⟩;obtain⟨r1,i⟩:=h.step a (iO a (by decide)) X m (x:=rdV 0 (p1 2 s.2.1) s.1) (.inr (.inr ⟨rfl,_,_,_,rfl,z.low f,hn⟩));exact⟨rfl,⟨r1,Nat.le_trans f i.size⟩,i⟩
theorem rn_Cut{T vt:TypeId}(X:RdA w g b err l)(V:Blk w vb [.pointer (some ⟨g,0,none⟩)] vt)(R:Blk w rb cs T)(j:rb≠g)(h:cs[o]? = some old)(hold:∃ y,old=.int .u64 y) :
  Calls Tryz.prog 179 #[.pointer (some ⟨rb,o,none⟩),.pointer (some ⟨vb,0,none⟩)] w fun e w'=>e=.returned (.tuple #[])/\∃ w1,w'=w1.setCell ⟨rb,o,none⟩ (.int .u64 (rdV 0 (p1 0 l) err))/\RdA w1 g b (rdE (p1 0 l) err) (rdL (p1 0 l) err l)/\But g w w1:=by
 obtain⟨y,rfl⟩:=hold;have t:=DS X
 show Calls Tryz.prog _ _ w fun e w'=>e=.returned (.tuple #[])/\∃ w1,w'=w1.setCell ⟨rb,o,none⟩ (.int .u64 (rdV 0 (cN 8 l) err))/\RdA w1 g b (rdE (cN 8 l) err) (rdL (cN 8 l) err l)/\But g w w1
 generalize rdV 0 (cN 8 l) err=Y at *;generalize rdE (cN 8 l) err=E at *;generalize rdL (cN 8 l) err l=r at *;have cv:=V.cell (i:=0) rfl;have k:=aB R;have d:=aB j;have m:=aB h;clear X V R h j;go_enter Tryz.func179,Tryz.ntmps179;go_wp2_with (go_at_call 180; refine t.mono ?_; rintro p w1 ⟨rfl,c,f⟩; clear t; have a:=k.out.chg (But.chg f) d.out; have q:=a.cell m.out; have n:=a.free o; clear a; replace c:=aB c);go_end0;exact⟨rfl,w1,rfl,c.out,f⟩
theorem rt_Cut{T vt:TypeId}(X:RdA w g b err l)(V:Blk w vb [.pointer (some ⟨g,0,none⟩)] vt)(R:Blk w rb cs T)(f:rb≠g)(j:cs[o]? = some old)(hold:∃ y,old=.bool y) :
  Calls Tryz.prog 181 #[.pointer (some ⟨rb,o,none⟩),.pointer (some ⟨vb,0,none⟩)] w fun e w'=>e=.returned (.tuple #[])/\∃ w1,w'=w1.setCell ⟨rb,o,none⟩ (.bool (rdV false (bE l) err))/\RdA w1 g b (rdE (p1 1 l) err) (rdL (p1 1 l) err l)/\But g w w1:=by
 obtain⟨y,rfl⟩:=hold;have t:=rdBool X
 show Calls Tryz.prog _ _ w fun e w'=>e=.returned (.tuple #[])/\∃ w1,w'=w1.setCell ⟨rb,o,none⟩ (.bool (rdV false (bE l) err))/\RdA w1 g b (rdE (dP l) err) (rdL (dP l) err l)/\But g w w1
 rw[lN,lS];generalize rdV false (bE l) err=Y at *;generalize rdE (bE l) err=E at *;generalize rdL (bE l) err l=r at *;have cv:=V.cell (i:=0) rfl;have k:=aB R;have d:=aB f;have m:=aB j;clear X V R j f;go_enter Tryz.func181,Tryz.ntmps181;go_wp2_with (go_at_call 182; refine t.mono ?_; rintro p w1 ⟨rfl,a,h⟩; clear t; have c:=k.out.chg (But.chg h) d.out; have q:=c.cell m.out; have n:=c.free o; clear c; replace a:=aB a);go_end0;exact⟨rfl,w1,rfl,a.out,h⟩
theorem rd_Cut{T vt:TypeId}(X:RdA w g b err l)(V:Blk w vb [.pointer (some ⟨g,0,none⟩)] vt)(R:Blk w rb cs T)(k:rb≠g)(p:cs[o]? = some old)(hold:∃ a n c,old=.slice a n c) :
  Calls Tryz.prog 183 #[.pointer (some ⟨rb,o,none⟩),.pointer (some ⟨vb,0,none⟩)] w fun e w'=>e=.returned (.tuple #[])/\∃ w1 ao n c,w'=w1.setCell ⟨rb,o,none⟩ (.slice ao n c)/\fw w1 w.heap.size ao n c (rdV 0 (p1 2 l) err)/\n<=255/\RdA w1 g b (rdE (p1 2 l) err) (rdL (p1 2 l) err l)/\But g w w1:=by
 obtain⟨y,on,v,rfl⟩:=hold;have t:=xX X
 show Calls Tryz.prog _ _ w fun e w'=>e=.returned (.tuple #[])/\∃ w1 ao n c,w'=w1.setCell ⟨rb,o,none⟩ (.slice ao n c)/\fw w1 w.heap.size ao n c (rdV 0 (bQ l) err)/\n<=255/\RdA w1 g b (rdE (bQ l) err) (rdL (bQ l) err l)/\But g w w1
 generalize rdV 0 (bQ l) err=Y at *;generalize rdE (bQ l) err=E at *;generalize rdL (bQ l) err l=B at *;have cv:=V.cell (i:=0) rfl;have q:=aB R;have j:=aB k;have s:=aB p;clear X V R p k;go_enter Tryz.func183,Tryz.ntmps183;go_wp2_with (go_at_call 184; refine t.mono ?_; rintro z w1 ⟨a1,u,d1,rfl,r,h,d,m⟩; clear t; have f:=q.out.chg (But.chg m) j.out; have A:=f.cell s.out; have x:=f.free o; clear f; replace d:=aB d);go_end0;exact⟨rfl,w1,a1,u,d1,rfl,r,h,d.out,m⟩
theorem tH(h:cn o=k)(hk:k≠9):o < 2:=by
 by_cases ho:o < 2
 ·exact ho
 ·exfalso;have:cn o=9:=by
   unfold cn;rw[List.getD_eq_getElem?_getD,List.getElem?_eq_none (by simp; omega)];rfl
  omega
theorem AZ{T vt:TypeId}:HC RSt (fun s w=>RI w0 B g b vb rb cn 2 T vt s w/\B<=w.heap.size) (fun y=>y=g\/y=rb) rb 179 181 183 (.pointer (some ⟨vb,0,none⟩)) rnx cn (fun _=>True) where
 oks:=fun _ _ _ _=>trivial
 keep:=fun s w r h j=>by
  obtain⟨h,f⟩:=h;obtain⟨cs,p,k,l⟩:=h.rc;exact⟨⟨h.rd.keep j,h.var.keep j,⟨cs,p,k.keep j,l.off j.size (fun y _ hy=>j.block y hy)⟩,h.bel.trans (j.mono h.bel.size),h.s1,h.s2,h.s3,h.s4,h.g1,h.r1,h.g0,h.r0⟩,Nat.le_trans f j.size⟩
 old:=fun s w y h e=>by
  have:=h.1.g1;have:=h.1.r1;have:=h.2;rcases e with e | e<;>omega
 e1:=fun _ _=>by kernel_rfl
 e2:=fun _ _=>by kernel_rfl
 e3:=fun _ _=>by kernel_rfl
 u:=fun s w o h _ a=>by
  obtain⟨h,f⟩:=h;obtain⟨cs,p,k,l⟩:=h.rc;refine(rn_Cut h.rd h.var k h.s1 ((l o).1 a) ⟨_,rfl⟩).mono ?_
  rintro e r ⟨rfl,v,rfl,X,m⟩;obtain⟨r1,i⟩:=h.step a (tH a (by decide)) X m (.inl ⟨rfl,rfl⟩);exact⟨rfl,⟨r1,Nat.le_trans f i.size⟩,i⟩
 t:=fun s w o h _ a=>by
  obtain⟨h,f⟩:=h;obtain⟨cs,p,k,l⟩:=h.rc;obtain⟨t,q,_⟩:=(l o).2.1 a;refine(rt_Cut h.rd h.var k h.s1 q ⟨_,rfl⟩).mono ?_
  rintro e r ⟨rfl,v,rfl,X,m⟩;obtain⟨r1,i⟩:=h.step a (tH a (by decide)) X m (x:=rdV 0 (p1 1 s.2.1) s.1) (.inr (.inl ⟨rfl,_,rfl,mw _ _⟩));exact⟨rfl,⟨r1,Nat.le_trans f i.size⟩,i⟩
 d:=fun s w o h _ a=>by
  obtain⟨h,f⟩:=h;obtain⟨cs,p,k,l⟩:=h.rc;obtain⟨A,n,c,q,_⟩:=(l o).2.2 a;refine(rd_Cut h.rd h.var k h.s1 q ⟨_,_,_,rfl⟩).mono ?_
  rintro e r ⟨rfl,v,a1,C,c1,rfl,z,hn,X,m⟩;obtain⟨r1,i⟩:=h.step a (tH a (by decide)) X m (x:=rdV 0 (p1 2 s.2.1) s.1) (.inr (.inr ⟨rfl,_,_,_,rfl,z.low f,hn⟩));exact⟨rfl,⟨r1,Nat.le_trans f i.size⟩,i⟩
end
end Rc
end
section
namespace Rc
open Go.RowKit Go.Lib Pg
section
variable {w:World}{kd:Nat->Nat}{cs:List Value}{xs:Nat->Int}{tmps:Array Value}{g bb n c:Nat}{y0 y1:Value}{ao:Option Addr}{l:List Int}
attribute [local go_sem] Oper.semAt_some
theorem Bc{α:Type}(p:Int ⊕ α × Nat)(err:Int)(l:List Int):(rdL p err l).length<=l.length:=by
 unfold rdL;split
 ·cases p
  ·exact Nat.le_refl _
  ·simp
 ·exact Nat.le_refl _
theorem uM(a:List (Nat × Nat)):∀ s:RSt,(thr rnx a s).2.1.length<=s.2.1.length:=by
 induction a with
 | nil=>intro s; exact Nat.le_refl _
 | cons p a ih =>
  intro s
  have e:thr rnx (p :: a) s=thr rnx a (rnx p.1 p.2 s):=rfl;rw[e];exact Nat.le_trans (ih _) (Bc _ _ _)
structure ph(w:World)(kd:Nat->Nat)(len:Nat)(mk:List Value->Value)(s:RSt)(e:Ending)(w':World):Prop where
 ex:∃ cs xs r,e=.returned (.tuple #[mk cs,.int .i64 r])/\cs.length=len/\nu w' w.heap.size kd cs xs/\(fY s.1 s.2.1=0->r=0/\xs=s.2.2)/\(fY s.1 s.2.1≠0->r=80/\xs=fun _=>0)
 bel:Below w.heap.size w w'
theorem nu.low{B B':Nat}(h:nu w B kd cs xs)(hB:B'<=B):nu w B' kd cs xs:=fun o=>⟨(h o).1,(h o).2.1,fun hk=>by
 obtain⟨ao,n,c,h1,h2,h3⟩:=(h o).2.2 hk;exact⟨ao,n,c,h1,h2.low hB,h3⟩⟩
theorem j6{fn:Func}{p u:Tmp}{T:TypeId}(h:fn.results=#[.cell p T,.tmp u]){v x:Value}(c:tmps.getD p undef=.pointer (some ⟨g,0,none⟩))(hu:tmps.getD u undef=x)(d:(loadVar T ⟨g,0,none⟩).run Tryz.prog w=.ok v w):(results fn tmps).run Tryz.prog w=.ok (.tuple #[v,x]) w:=by
 have b:tmps[p]?.getD undef=.pointer (some ⟨g,0,none⟩):=by simpa using c
 have a:tmps[u]?.getD undef=x:=by simpa using hu
 simp[results,h,b,a,asAddr,d]
def mkA(cs:List Value):Value:=.agg cs.toArray
theorem iV(c0:w.cell? ⟨g,0,none⟩=some y0)(c1:w.cell? ⟨g,1,none⟩=some y1):(loadVar 116 ⟨g,0,none⟩).run Tryz.prog w=.ok (.agg #[y0,y1]) w:=by go_simp
theorem qd(A : ByA w bb ao n c l)(hn : n ≤ 1000000000)(hl : l.length = n) :
    Calls Tryz.prog 175 #[.slice ao n c, .func (.func 141) #[] #[]] w (ph w aT 2 mkA (thr rnx [(2, 0), (0, 1)] (0, l, fun _ => (0 : Int)))) := by
  have b1 := ae w (.cells #[.slice none 0 0, .int .u64 0] 116);have b2 := ae (w.alloc (.cells #[.slice none 0 0, .int .u64 0] 116)) (.cells #[.slice none 0 0, .int .u64 0] 116);have b3 := ae ((w.alloc (.cells #[.slice none 0 0, .int .u64 0] 116)).alloc (.cells #[.slice none 0 0, .int .u64 0] 116)) (.cells #[.slice none 0 0, .int .u64 0] 116);have z1 := dn w (.cells #[.slice none 0 0, .int .u64 0] 116);have z2 := dn (w.alloc (.cells #[.slice none 0 0, .int .u64 0] 116)) (.cells #[.slice none 0 0, .int .u64 0] 116);have z3 := dn ((w.alloc (.cells #[.slice none 0 0, .int .u64 0] 116)).alloc (.cells #[.slice none 0 0, .int .u64 0] 116)) (.cells #[.slice none 0 0, .int .u64 0] 116);have y1 := ((aC w [.slice none 0 0, .int .u64 0] 116).keep b2).keep b3;have y2 := (aC (w.alloc (.cells #[.slice none 0 0, .int .u64 0] 116)) [.slice none 0 0, .int .u64 0] 116).keep b3;have y3 := aC ((w.alloc (.cells #[.slice none 0 0, .int .u64 0] 116)).alloc (.cells #[.slice none 0 0, .int .u64 0] 116)) [.slice none 0 0, .int .u64 0] 116;rw[z2, z1] at y3;rw[z1] at y2;rw[z2, z1] at z3;obtain⟨W3, I⟩ : ∃ W3, Hid ((((w.alloc (.cells #[.slice none 0 0, .int .u64 0] 116)).alloc (.cells #[.slice none 0 0, .int .u64 0] 116)).alloc (.cells #[.slice none 0 0, .int .u64 0] 116)) = W3) := ⟨_, rfl⟩;have P := aj (aj b1 b2) b3;rw[I.out] at P y1 y2 y3 z3;have HN := aB (DW (A.keep P) (by omega));have Y1 := aB y1;have Y2 := aB y2;have Y3 := aB y3;have Z3 := aB z3;have HBB := aB P;have HL := aB hl;clear b1 b2 b3 z1 z2 z3 y1 y2 y3 P A hl;obtain⟨st, E⟩ : ∃ st, Hid (thr rnx [(2, 0), (0, 1)] (0, l, fun _ => (0 : Int)) = st) := ⟨_, rfl⟩
  have hsl : st.2.1.length ≤ n := by have h := uM [(2, 0), (0, 1)] (0, l, fun _ => (0 : Int)); rw[E.out] at h; rw[HL.out] at h; exact h
  rw[E.out];go_enter Tryz.func175, Tryz.ntmps175;go_wp2_with fail;rw[I.out];refine HN.out.mono ?_
  rintro e' L ⟨g, b', rfl, hg, Y, X4, F⟩;have u := ae L (.cells #[.pointer (some ⟨g, 0, none⟩)] 260);have v5 := aC L [.pointer (some ⟨g, 0, none⟩)] 260;have z5 := dn L (.cells #[.pointer (some ⟨g, 0, none⟩)] 260);obtain⟨r, M⟩ : ∃ r, Hid (L.alloc (.cells #[.pointer (some ⟨g, 0, none⟩)] 260) = r) := ⟨_, rfl⟩;rw[M.out] at u v5 z5;have X := X4.lt;have hz3 := Z3.out;have Q := F.size
  have F0 : nu r r.heap.size aT [.slice none 0 0, .int .u64 0] (fun _ => 0) := fun o => match o with
    | 0 => ⟨fun h => absurd h (by decide), fun h => absurd h (by decide), fun _ => ⟨none, 0, 0, rfl, mn _ _, by decide⟩⟩
    | 1 => ⟨fun _ => rfl, fun h => absurd h (by decide), fun h => absurd h (by decide)⟩
    | k + 2 => ⟨fun h => absurd h (by simp[aT]), fun h => absurd h (by simp[aT]), fun h => absurd h (by simp[aT])⟩
  have U := iH (qz (w0 := w) (B := r.heap.size) (g := g) (b := b') (vb := L.heap.size) (rb := w.heap.size + 1) (T := 116) (vt := 260)) (s := (0, l, fun _ => (0 : Int))) (w := r) ⟨⟨X4.keep u, v5, ⟨_, rfl, (Y2.out.keep F).keep u, F0⟩, aj (aj HBB.out F) u, by omega, by omega, by omega, by omega, by omega, by omega, by omega, by omega⟩, Nat.le_refl _⟩ (by simp[aT]) trivial;rw[E.out] at U;have HU := aB U;have P1 := aB ((Y1.out.keep F).keep u);have P3 := aB ((Y3.out.keep F).keep u);have v := aB (show w.heap.size ≠ g ∧ w.heap.size + 1 + 1 ≠ g ∧ w.heap.size + 1 + 1 ≠ w.heap.size + 1 ∧ w.heap.size ≠ w.heap.size + 1 ∧ w.heap.size ≤ r.heap.size ∧ w.heap.size ≤ g from⟨by omega, by omega, by omega, by omega, by omega, by omega⟩);clear U u v5 z5 X hz3 Q F0 X4 F hg Y HN Y1 Y2 Y3;go_wp2_with fail;rw[M.out];refine HU.out.mono ?_
  rintro e' w6 ⟨rfl, ⟨t, hB6⟩, C6⟩;have c6 := t.var.cell (i := 0) rfl;go_wp2_with fail;refine(DJ t.rd (by omega)).mono ?_
  rintro e' a ⟨rfl, X7, G⟩;obtain⟨Z, R, R6, J⟩:= t.rc;obtain⟨d, H⟩ : ∃ d, Hid (st.2.2 = d) := ⟨_, rfl⟩;rw[H.out] at J;have ab := aB J;obtain⟨a0, n0, d0, q0, -, -⟩:= (J 0).2.2 rfl;have q1 := (J 1).1 rfl
  have aa : Z = [.slice a0 n0 d0, .int .u64 (d 1)] := by
    apply List.ext_getElem?;intro i
    match i with
    | 0 => rw[q0]; rfl
    | 1 => rw[q1]; rfl
    | k + 2 => rw[List.getElem?_eq_none (by omega), List.getElem?_eq_none (by simp)]
  subst aa;have O := But.chg G;have q := (P1.out.chg C6 (fun h => h.elim v.out.1 v.out.2.2.2.1)).chg O v.out.1;have K3 := (P3.out.chg C6 (fun h => h.elim v.out.2.1 v.out.2.2.1)).chg O v.out.2.1;have K2 := R6.chg O t.s1;have BF := aB (G.below t.bel v.out.2.2.2.2.2 (Nat.le_refl _));have hF7 := aB ((ab.out.off (w' := a) G.size (fun y hy W => G.block y W (by have := t.g1; omega))));have K := aB (show w.heap.size < r.heap.size ∧ w.heap.size < a.heap.size from⟨by have := t.r1; omega, q.lt⟩);have u0 := q.cell (i := 0) rfl;have f0 := q.free 0;have v0 := K2.cell (i := 0) rfl;have o0 := K3.cell (i := 0) rfl;have u1 := q.cell (i := 1) rfl;have f1 := q.free 1;have v1 := K2.cell (i := 1) rfl;have o1 := K3.cell (i := 1) rfl;have f := aB (show Blk ((a.setCell ⟨w.heap.size, 0, none⟩ (.slice a0 n0 d0)).setCell ⟨w.heap.size, 1, none⟩ (.int .u64 (d 1))) w.heap.size [.slice a0 n0 d0, .int .u64 (d 1)] 116 from((q.setCell (i := 0) (.slice a0 n0 d0)).setCell (i := 1) (.int .u64 (d 1))));have j := aB (show Chg (fun x => x = w.heap.size) a ((a.setCell ⟨w.heap.size, 0, none⟩ (.slice a0 n0 d0)).setCell ⟨w.heap.size, 1, none⟩ (.int .u64 (d 1))) from(((Chg.refl (fun x => x = w.heap.size) a).cell (g := w.heap.size) (i := 0) (.inl rfl) (.slice a0 n0 d0)).cell (g := w.heap.size) (i := 1) (.inl rfl) (.int .u64 (d 1))));have z := aB (show Below w.heap.size w ((a.setCell ⟨w.heap.size, 0, none⟩ (.slice a0 n0 d0)).setCell ⟨w.heap.size, 1, none⟩ (.int .u64 (d 1))) from((BF.out.setCell (p := ⟨w.heap.size, 0, none⟩) (Nat.le_refl _) (.slice a0 n0 d0)).setCell (p := ⟨w.heap.size, 1, none⟩) (Nat.le_refl _) (.int .u64 (d 1))));have m := aB (show Blk ((a.setCell ⟨w.heap.size, 0, none⟩ (.slice none 0 0)).setCell ⟨w.heap.size, 1, none⟩ (.int .u64 0)) w.heap.size [.slice none 0 0, .int .u64 0] 116 from((q.setCell (i := 0) (.slice none 0 0)).setCell (i := 1) (.int .u64 0)));have S := aB (show Chg (fun x => x = w.heap.size) a ((a.setCell ⟨w.heap.size, 0, none⟩ (.slice none 0 0)).setCell ⟨w.heap.size, 1, none⟩ (.int .u64 0)) from(((Chg.refl (fun x => x = w.heap.size) a).cell (g := w.heap.size) (i := 0) (.inl rfl) (.slice none 0 0)).cell (g := w.heap.size) (i := 1) (.inl rfl) (.int .u64 0)));have D := aB (show Below w.heap.size w ((a.setCell ⟨w.heap.size, 0, none⟩ (.slice none 0 0)).setCell ⟨w.heap.size, 1, none⟩ (.int .u64 0)) from((BF.out.setCell (p := ⟨w.heap.size, 0, none⟩) (Nat.le_refl _) (.slice none 0 0)).setCell (p := ⟨w.heap.size, 1, none⟩) (Nat.le_refl _) (.int .u64 0)));clear q K2 K3 t C6 O G X7 R6 R J c6 HU P1 P3 q0 q1;obtain⟨N, C⟩ : ∃ N, Hid (fY st.1 st.2.1 = N) := ⟨_, rfl⟩;rw[C.out];by_cases hE : N = 0
  · subst hE
    go_wp2;refine bodyPost_ret (j6 rfl rfl rfl (iV (f.out.cell (i := 0) rfl) (f.out.cell (i := 1) rfl))) rfl ?_
    exact⟨⟨[.slice a0 n0 d0, .int .u64 (d 1)], d, 0, rfl, rfl, (hF7.out.off j.out.size (fun y hy _ => j.out.same y (by assumption) (fun e => by have e' : y = w.heap.size := e; have := K.out; omega))).low (by have := K.out; omega), fun _ => ⟨rfl, H.out.symm⟩, fun h => absurd C.out h⟩, z.out⟩
  · have V : ¬ (N = 0) := hE
    go_wp2;refine bodyPost_ret (j6 rfl rfl rfl (iV (m.out.cell (i := 0) rfl) (m.out.cell (i := 1) rfl))) rfl ?_
    exact⟨⟨[.slice none 0 0, .int .u64 0], fun _ => 0, 80, rfl, rfl, (fun o => match o with | 0 => ⟨fun h => absurd h (by decide), fun h => absurd h (by decide), fun _ => ⟨none, 0, 0, rfl, mn _ _, by decide⟩⟩ | 1 => ⟨fun _ => rfl, fun h => absurd h (by decide), fun h => absurd h (by decide)⟩ | k + 2 => ⟨fun h => absurd h (by simp[aT]), fun h => absurd h (by simp[aT]), fun h => absurd h (by simp[aT])⟩), fun h => absurd (C.out.symm.trans h) V, fun _ => ⟨rfl, rfl⟩⟩, D.out⟩
theorem th(c0:w.cell? ⟨g,0,none⟩=some y0)(c1:w.cell? ⟨g,1,none⟩=some y1):(loadVar 111 ⟨g,0,none⟩).run Tryz.prog w=.ok (.agg #[y0,y1]) w:=by go_simp
theorem ze(A : ByA w bb ao n c l)(hn : n ≤ 1000000000)(hl : l.length = n) :
    Calls Tryz.prog 138 #[.slice ao n c, .func (.func 100) #[] #[]] w (ph w cn 2 mkA (thr rnx [(0, 0), (0, 1)] (0, l, fun _ => (0 : Int)))) := by
  have b1 := ae w (.cells #[.int .u64 0, .int .u64 0] 111);have b2 := ae (w.alloc (.cells #[.int .u64 0, .int .u64 0] 111)) (.cells #[.int .u64 0, .int .u64 0] 111);have b3 := ae ((w.alloc (.cells #[.int .u64 0, .int .u64 0] 111)).alloc (.cells #[.int .u64 0, .int .u64 0] 111)) (.cells #[.int .u64 0, .int .u64 0] 111);have z1 := dn w (.cells #[.int .u64 0, .int .u64 0] 111);have z2 := dn (w.alloc (.cells #[.int .u64 0, .int .u64 0] 111)) (.cells #[.int .u64 0, .int .u64 0] 111);have z3 := dn ((w.alloc (.cells #[.int .u64 0, .int .u64 0] 111)).alloc (.cells #[.int .u64 0, .int .u64 0] 111)) (.cells #[.int .u64 0, .int .u64 0] 111);have y1 := ((aC w [.int .u64 0, .int .u64 0] 111).keep b2).keep b3;have y2 := (aC (w.alloc (.cells #[.int .u64 0, .int .u64 0] 111)) [.int .u64 0, .int .u64 0] 111).keep b3;have y3 := aC ((w.alloc (.cells #[.int .u64 0, .int .u64 0] 111)).alloc (.cells #[.int .u64 0, .int .u64 0] 111)) [.int .u64 0, .int .u64 0] 111;rw[z2, z1] at y3;rw[z1] at y2;rw[z2, z1] at z3;obtain⟨W3, I⟩ : ∃ W3, Hid ((((w.alloc (.cells #[.int .u64 0, .int .u64 0] 111)).alloc (.cells #[.int .u64 0, .int .u64 0] 111)).alloc (.cells #[.int .u64 0, .int .u64 0] 111)) = W3) := ⟨_, rfl⟩;have P := aj (aj b1 b2) b3;rw[I.out] at P y1 y2 y3 z3;have HN := aB (DW (A.keep P) (by omega));have Y1 := aB y1;have Y2 := aB y2;have Y3 := aB y3;have Z3 := aB z3;have HBB := aB P;have HL := aB hl;clear b1 b2 b3 z1 z2 z3 y1 y2 y3 P A hl;obtain⟨st, E⟩ : ∃ st, Hid (thr rnx [(0, 0), (0, 1)] (0, l, fun _ => (0 : Int)) = st) := ⟨_, rfl⟩
  have hsl : st.2.1.length ≤ n := by have h := uM [(0, 0), (0, 1)] (0, l, fun _ => (0 : Int)); rw[E.out] at h; rw[HL.out] at h; exact h
  rw[E.out];go_enter Tryz.func138, Tryz.ntmps138;go_wp2_with fail;rw[I.out];refine HN.out.mono ?_
  rintro e' L ⟨g, b', rfl, hg, Y, X4, F⟩;have u := ae L (.cells #[.pointer (some ⟨g, 0, none⟩)] 260);have v5 := aC L [.pointer (some ⟨g, 0, none⟩)] 260;have z5 := dn L (.cells #[.pointer (some ⟨g, 0, none⟩)] 260);obtain⟨r, M⟩ : ∃ r, Hid (L.alloc (.cells #[.pointer (some ⟨g, 0, none⟩)] 260) = r) := ⟨_, rfl⟩;rw[M.out] at u v5 z5;have X := X4.lt;have hz3 := Z3.out;have Q := F.size
  have F0 : nu r r.heap.size cn [.int .u64 0, .int .u64 0] (fun _ => 0) := fun o => match o with
    | 0 => ⟨fun _ => rfl, fun h => absurd h (by decide), fun h => absurd h (by decide)⟩
    | 1 => ⟨fun _ => rfl, fun h => absurd h (by decide), fun h => absurd h (by decide)⟩
    | k + 2 => ⟨fun h => absurd h (by simp[cn]), fun h => absurd h (by simp[cn]), fun h => absurd h (by simp[cn])⟩
  have U := oE (AZ (w0 := w) (B := r.heap.size) (g := g) (b := b') (vb := L.heap.size) (rb := w.heap.size + 1) (T := 111) (vt := 260)) (s := (0, l, fun _ => (0 : Int))) (w := r) ⟨⟨X4.keep u, v5, ⟨_, rfl, (Y2.out.keep F).keep u, F0⟩, aj (aj HBB.out F) u, by omega, by omega, by omega, by omega, by omega, by omega, by omega, by omega⟩, Nat.le_refl _⟩ (by simp[cn]) trivial;rw[E.out] at U;have HU := aB U;have P1 := aB ((Y1.out.keep F).keep u);have P3 := aB ((Y3.out.keep F).keep u);have v := aB (show w.heap.size ≠ g ∧ w.heap.size + 1 + 1 ≠ g ∧ w.heap.size + 1 + 1 ≠ w.heap.size + 1 ∧ w.heap.size ≠ w.heap.size + 1 ∧ w.heap.size ≤ r.heap.size ∧ w.heap.size ≤ g from⟨by omega, by omega, by omega, by omega, by omega, by omega⟩);clear U u v5 z5 X hz3 Q F0 X4 F hg Y HN Y1 Y2 Y3;go_wp2_with fail;rw[M.out];refine HU.out.mono ?_
  rintro e' w6 ⟨rfl, ⟨t, hB6⟩, C6⟩;have c6 := t.var.cell (i := 0) rfl;go_wp2_with fail;refine(DJ t.rd (by omega)).mono ?_
  rintro e' d ⟨rfl, X7, G⟩;obtain⟨Z, R, R6, J⟩:= t.rc;obtain⟨a, H⟩ : ∃ a, Hid (st.2.2 = a) := ⟨_, rfl⟩;rw[H.out] at J;have ab := aB J;have q0 := (J 0).1 rfl;have q1 := (J 1).1 rfl
  have aa : Z = [.int .u64 (a 0), .int .u64 (a 1)] := by
    apply List.ext_getElem?;intro i
    match i with
    | 0 => rw[q0]; rfl
    | 1 => rw[q1]; rfl
    | k + 2 => rw[List.getElem?_eq_none (by omega), List.getElem?_eq_none (by simp)]
  subst aa;have O := But.chg G;have q := (P1.out.chg C6 (fun h => h.elim v.out.1 v.out.2.2.2.1)).chg O v.out.1;have K3 := (P3.out.chg C6 (fun h => h.elim v.out.2.1 v.out.2.2.1)).chg O v.out.2.1;have K2 := R6.chg O t.s1;have BF := aB (G.below t.bel v.out.2.2.2.2.2 (Nat.le_refl _));have hF7 := aB ((ab.out.off (w' := d) G.size (fun y hy W => G.block y W (by have := t.g1; omega))));have K := aB (show w.heap.size < r.heap.size ∧ w.heap.size < d.heap.size from⟨by have := t.r1; omega, q.lt⟩);have u0 := q.cell (i := 0) rfl;have f0 := q.free 0;have v0 := K2.cell (i := 0) rfl;have o0 := K3.cell (i := 0) rfl;have u1 := q.cell (i := 1) rfl;have f1 := q.free 1;have v1 := K2.cell (i := 1) rfl;have o1 := K3.cell (i := 1) rfl;have f := aB (show Blk ((d.setCell ⟨w.heap.size, 0, none⟩ (.int .u64 (a 0))).setCell ⟨w.heap.size, 1, none⟩ (.int .u64 (a 1))) w.heap.size [.int .u64 (a 0), .int .u64 (a 1)] 111 from((q.setCell (i := 0) (.int .u64 (a 0))).setCell (i := 1) (.int .u64 (a 1))));have j := aB (show Chg (fun x => x = w.heap.size) d ((d.setCell ⟨w.heap.size, 0, none⟩ (.int .u64 (a 0))).setCell ⟨w.heap.size, 1, none⟩ (.int .u64 (a 1))) from(((Chg.refl (fun x => x = w.heap.size) d).cell (g := w.heap.size) (i := 0) (.inl rfl) (.int .u64 (a 0))).cell (g := w.heap.size) (i := 1) (.inl rfl) (.int .u64 (a 1))));have z := aB (show Below w.heap.size w ((d.setCell ⟨w.heap.size, 0, none⟩ (.int .u64 (a 0))).setCell ⟨w.heap.size, 1, none⟩ (.int .u64 (a 1))) from((BF.out.setCell (p := ⟨w.heap.size, 0, none⟩) (Nat.le_refl _) (.int .u64 (a 0))).setCell (p := ⟨w.heap.size, 1, none⟩) (Nat.le_refl _) (.int .u64 (a 1))));have m := aB (show Blk ((d.setCell ⟨w.heap.size, 0, none⟩ (.int .u64 0)).setCell ⟨w.heap.size, 1, none⟩ (.int .u64 0)) w.heap.size [.int .u64 0, .int .u64 0] 111 from((q.setCell (i := 0) (.int .u64 0)).setCell (i := 1) (.int .u64 0)));have S := aB (show Chg (fun x => x = w.heap.size) d ((d.setCell ⟨w.heap.size, 0, none⟩ (.int .u64 0)).setCell ⟨w.heap.size, 1, none⟩ (.int .u64 0)) from(((Chg.refl (fun x => x = w.heap.size) d).cell (g := w.heap.size) (i := 0) (.inl rfl) (.int .u64 0)).cell (g := w.heap.size) (i := 1) (.inl rfl) (.int .u64 0)));have D := aB (show Below w.heap.size w ((d.setCell ⟨w.heap.size, 0, none⟩ (.int .u64 0)).setCell ⟨w.heap.size, 1, none⟩ (.int .u64 0)) from((BF.out.setCell (p := ⟨w.heap.size, 0, none⟩) (Nat.le_refl _) (.int .u64 0)).setCell (p := ⟨w.heap.size, 1, none⟩) (Nat.le_refl _) (.int .u64 0)));clear q K2 K3 t C6 O G X7 R6 R J c6 HU P1 P3 q0 q1;obtain⟨N, C⟩ : ∃ N, Hid (fY st.1 st.2.1 = N) := ⟨_, rfl⟩;rw[C.out];by_cases hE : N = 0
  · subst hE
    go_wp2;refine bodyPost_ret (j6 rfl rfl rfl (th (f.out.cell (i := 0) rfl) (f.out.cell (i := 1) rfl))) rfl ?_
    exact⟨⟨[.int .u64 (a 0), .int .u64 (a 1)], a, 0, rfl, rfl, (hF7.out.off j.out.size (fun y hy _ => j.out.same y (by assumption) (fun e => by have e' : y = w.heap.size := e; have := K.out; omega))).low (by have := K.out; omega), fun _ => ⟨rfl, H.out.symm⟩, fun h => absurd C.out h⟩, z.out⟩
  · have V : ¬ (N = 0) := hE
    go_wp2;refine bodyPost_ret (j6 rfl rfl rfl (th (m.out.cell (i := 0) rfl) (m.out.cell (i := 1) rfl))) rfl ?_
    exact⟨⟨[.int .u64 0, .int .u64 0], fun _ => 0, 80, rfl, rfl, (fun o => match o with | 0 => ⟨fun _ => rfl, fun h => absurd h (by decide), fun h => absurd h (by decide)⟩ | 1 => ⟨fun _ => rfl, fun h => absurd h (by decide), fun h => absurd h (by decide)⟩ | k + 2 => ⟨fun h => absurd h (by simp[cn]), fun h => absurd h (by simp[cn]), fun h => absurd h (by simp[cn])⟩), fun h => absurd (C.out.symm.trans h) V, fun _ => ⟨rfl, rfl⟩⟩, D.out⟩
end
end Rc
end
section
namespace Rc
open Go.RowKit Go.Lib Pg
section
variable {w:World}{a0 ao:Option Addr}{x0 x1:Int}{bb n c:Nat}{l:List Int}
attribute [local go_sem] Oper.semAt_some
theorem mW{n0 c0:Nat}(h:aQ w a0 n0 c0 x0)(m0:n0<=1000000) :
  Calls Tryz.prog 88 #[.agg #[.slice a0 n0 c0,.int .u64 x1]] w fun e w'=>∃ b n,e=.returned (.slice (some ⟨b,0,none⟩) n n)/\n=(thr (pnx (fun o=>([x0,x1]:List Int).getD o 0)) [(2,0),(0,1)] []).length/\Box w' b ((thr (pnx (fun o=>([x0,x1]:List Int).getD o 0)) [(2,0),(0,1)] []).map (Value.int .u8)) 5/\w.heap.size<=b/\Below w.heap.size w w':=by
 have d:=ae w (.cells #[.slice a0 n0 c0,.int .u64 x1] 116);have U:=q8 (h.keep d) m0 (x1:=x1) (w:=w.alloc (.cells #[.slice a0 n0 c0,.int .u64 x1] 116));have a:=aB d;generalize thr (pnx (fun o=>([x0,x1]:List Int).getD o 0)) [(2,0),(0,1)] []=M at *;have f:=aB U;clear U;go_enter Tryz.func88,Tryz.ntmps88;go_wp2_with fail;refine f.out.mono ?_
 rintro i c ⟨b,n,rfl,hn,X,hb,B⟩;have g:=aB (show n=M.length/\Box c b (M.map (Value.int .u8)) 5/\w.heap.size<=b/\Below w.heap.size w c from⟨hn,X,Nat.le_trans a.out.size hb,aj a.out B⟩);clear hn X hb B f a;go_wp2;go_ret;exact⟨b,n,rfl,g.out⟩
theorem qR(A:ByA w bb ao n c l)(hn:n<=1000000000)(D:l.length=n) :
  Calls Tryz.prog 128 #[.slice ao n c] w (ph w aT 2 mkA (thr rnx [(2,0),(0,1)] (0,l,fun _=>(0:Int)))):=by
 have f:=ae w (.cells #[.slice none 0 0,.int .u64 0] 116);have j:=aC w [.slice none 0 0,.int .u64 0] 116;have z1:=dn w (.cells #[.slice none 0 0,.int .u64 0] 116);have U:=qd (A.keep f) hn D;generalize thr rnx [(2,0),(0,1)] (0,l,fun _=>(0:Int))=st at *;obtain⟨E,b⟩:∃ E,Hid (w.alloc (.cells #[.slice none 0 0,.int .u64 0] 116)=E):=⟨_,rfl⟩
 rw[b.out] at f j z1 U;have C:=aB U;have m:=aB f;have z:=aB j;have I:=aB z1;clear A D f j z1 U;go_enter Tryz.func128,Tryz.ntmps128;go_wp2_with fail;rw[b.out];refine C.out.mono ?_
 rintro H d ⟨⟨cs,xs,r,rfl,G,h,v,t⟩,B⟩;obtain⟨a0,n0,d0,q0,-,-⟩:=(h 0).2.2 rfl;have q1:=(h 1).1 rfl
 have q:cs=[.slice a0 n0 d0,.int .u64 (xs 1)]:=by
  apply List.ext_getElem?;intro i
  match i with
  | 0=>rw[q0]; rfl
  | 1=>rw[q1]; rfl
  | k + 2=>rw[List.getElem?_eq_none (by omega),List.getElem?_eq_none (by simp)]
 subst q;have a:=z.out.keep B;have u:=aj m.out B;have J:=a.cell (i:=0) rfl;have f0:=a.free 0;have K:=a.cell (i:=1) rfl;have f1:=a.free 1;have KB:=aB (show Blk ((d.setCell ⟨w.heap.size,0,none⟩ (.slice a0 n0 d0)).setCell ⟨w.heap.size,1,none⟩ (.int .u64 (xs 1))) w.heap.size [.slice a0 n0 d0,.int .u64 (xs 1)] 116 from((a.setCell (i:=0) (.slice a0 n0 d0)).setCell (i:=1) (.int .u64 (xs 1))));have s:=aB (show Chg (fun x=>x=w.heap.size) d ((d.setCell ⟨w.heap.size,0,none⟩ (.slice a0 n0 d0)).setCell ⟨w.heap.size,1,none⟩ (.int .u64 (xs 1))) from(((Chg.refl (fun x=>x=w.heap.size) d).cell (g:=w.heap.size) (i:=0) (.inl rfl) (.slice a0 n0 d0)).cell (g:=w.heap.size) (i:=1) (.inl rfl) (.int .u64 (xs 1))));have F:=aB (show ph w aT 2 mkA st (.returned (.tuple #[.agg #[.slice a0 n0 d0,.int .u64 (xs 1)],.int .i64 r])) ((d.setCell ⟨w.heap.size,0,none⟩ (.slice a0 n0 d0)).setCell ⟨w.heap.size,1,none⟩ (.int .u64 (xs 1))) from⟨⟨[.slice a0 n0 d0,.int .u64 (xs 1)],xs,r,rfl,rfl,(h.off s.out.size (fun y hy o=>s.out.same y o (fun e=>by have H:y=w.heap.size:=e; have:=I.out; omega))).low m.out.size,v,t⟩,((u.setCell (p:=⟨w.heap.size,0,none⟩) (Nat.le_refl _) (.slice a0 n0 d0)).setCell (p:=⟨w.heap.size,1,none⟩) (Nat.le_refl _) (.int .u64 (xs 1)))⟩);clear G h v t B a u C s z m q0 q1;simp only[mkA];go_wp2;refine bodyPost_ret (j6 rfl rfl rfl (iV (KB.out.cell (i:=0) rfl) (KB.out.cell (i:=1) rfl))) rfl ?_
 exact F.out
theorem r9 :
  Calls Tryz.prog 66 #[.agg #[.int .u64 x0,.int .u64 x1]] w fun e w'=>∃ b n,e=.returned (.slice (some ⟨b,0,none⟩) n n)/\n=(thr (pnx (fun o=>([x0,x1]:List Int).getD o 0)) [(0,0),(0,1)] []).length/\Box w' b ((thr (pnx (fun o=>([x0,x1]:List Int).getD o 0)) [(0,0),(0,1)] []).map (Value.int .u8)) 5/\w.heap.size<=b/\Below w.heap.size w w':=by
 have g:=ae w (.cells #[.int .u64 x0,.int .u64 x1] 111);have U:=Cw (x0:=x0) (x1:=x1) (w:=w.alloc (.cells #[.int .u64 x0,.int .u64 x1] 111));have a:=aB g;generalize thr (pnx (fun o=>([x0,x1]:List Int).getD o 0)) [(0,0),(0,1)] []=M at *;have d:=aB U;clear U;go_enter Tryz.func66,Tryz.ntmps66;go_wp2_with fail;refine d.out.mono ?_
 rintro h c ⟨b,n,rfl,hn,X,hb,B⟩;have f:=aB (show n=M.length/\Box c b (M.map (Value.int .u8)) 5/\w.heap.size<=b/\Below w.heap.size w c from⟨hn,X,Nat.le_trans a.out.size hb,aj a.out B⟩);clear hn X hb B d a;go_wp2;go_ret;exact⟨b,n,rfl,f.out⟩
theorem Dh(A:ByA w bb ao n c l)(hn:n<=1000000000)(D:l.length=n) :
  Calls Tryz.prog 85 #[.slice ao n c] w (ph w cn 2 mkA (thr rnx [(0,0),(0,1)] (0,l,fun _=>(0:Int)))):=by
 have f:=ae w (.cells #[.int .u64 0,.int .u64 0] 111);have j:=aC w [.int .u64 0,.int .u64 0] 111;have z1:=dn w (.cells #[.int .u64 0,.int .u64 0] 111);have U:=ze (A.keep f) hn D;generalize thr rnx [(0,0),(0,1)] (0,l,fun _=>(0:Int))=st at *;obtain⟨E,b⟩:∃ E,Hid (w.alloc (.cells #[.int .u64 0,.int .u64 0] 111)=E):=⟨_,rfl⟩
 rw[b.out] at f j z1 U;have C:=aB U;have m:=aB f;have z:=aB j;have I:=aB z1;clear A D f j z1 U;go_enter Tryz.func85,Tryz.ntmps85;go_wp2_with fail;rw[b.out];refine C.out.mono ?_
 rintro H d ⟨⟨cs,xs,r,rfl,G,h,v,t⟩,B⟩;have q0:=(h 0).1 rfl;have q1:=(h 1).1 rfl
 have q:cs=[.int .u64 (xs 0),.int .u64 (xs 1)]:=by
  apply List.ext_getElem?;intro i
  match i with
  | 0=>rw[q0]; rfl
  | 1=>rw[q1]; rfl
  | k + 2=>rw[List.getElem?_eq_none (by omega),List.getElem?_eq_none (by simp)]
 subst q;have a:=z.out.keep B;have u:=aj m.out B;have J:=a.cell (i:=0) rfl;have f0:=a.free 0;have K:=a.cell (i:=1) rfl;have f1:=a.free 1;have KB:=aB (show Blk ((d.setCell ⟨w.heap.size,0,none⟩ (.int .u64 (xs 0))).setCell ⟨w.heap.size,1,none⟩ (.int .u64 (xs 1))) w.heap.size [.int .u64 (xs 0),.int .u64 (xs 1)] 111 from((a.setCell (i:=0) (.int .u64 (xs 0))).setCell (i:=1) (.int .u64 (xs 1))));have s:=aB (show Chg (fun x=>x=w.heap.size) d ((d.setCell ⟨w.heap.size,0,none⟩ (.int .u64 (xs 0))).setCell ⟨w.heap.size,1,none⟩ (.int .u64 (xs 1))) from(((Chg.refl (fun x=>x=w.heap.size) d).cell (g:=w.heap.size) (i:=0) (.inl rfl) (.int .u64 (xs 0))).cell (g:=w.heap.size) (i:=1) (.inl rfl) (.int .u64 (xs 1))));have F:=aB (show ph w cn 2 mkA st (.returned (.tuple #[.agg #[.int .u64 (xs 0),.int .u64 (xs 1)],.int .i64 r])) ((d.setCell ⟨w.heap.size,0,none⟩ (.int .u64 (xs 0))).setCell ⟨w.heap.size,1,none⟩ (.int .u64 (xs 1))) from⟨⟨[.int .u64 (xs 0),.int .u64 (xs 1)],xs,r,rfl,rfl,(h.off s.out.size (fun y hy o=>s.out.same y o (fun e=>by have H:y=w.heap.size:=e; have:=I.out; omega))).low m.out.size,v,t⟩,((u.setCell (p:=⟨w.heap.size,0,none⟩) (Nat.le_refl _) (.int .u64 (xs 0))).setCell (p:=⟨w.heap.size,1,none⟩) (Nat.le_refl _) (.int .u64 (xs 1)))⟩);clear G h v t B a u C s z m q0 q1;simp only[mkA];go_wp2;refine bodyPost_ret (j6 rfl rfl rfl (th (KB.out.cell (i:=0) rfl) (KB.out.cell (i:=1) rfl))) rfl ?_
 exact F.out
end
end Rc
end
section
open Go.RowKit Lim
end
section
open Go.RowKit Lim
structure Stp where
 what:Int
 num:Int
 na:Option Addr
 nn:Nat
 nc:Nat
 V:Int
 ba:Option Addr
 bn:Nat
 bc:Nat
 bb:Nat
 bl:List Int
 most:Int
end
end Go.Proofs.YthfepflplbahkaaGreatDoor
