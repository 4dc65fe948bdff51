import Derived.Test.YtidnifmehnjipaaGreatJai
import Derived.OpenShut
import Derived.Laws.AppendOwnNone
import Derived.Great.FillDense
set_option maxRecDepth 100000
set_option maxHeartbeats 8000000
namespace Go.Proofs.YtidnifmehnjipaaGreat
section
open Go.RowKit Lim
section
variable {w:World}{b n c k g:Nat}{ao:Option Addr}{l:List Int}{u v:Value}
structure ByA(w:World)(b:Nat)(ao:Option Addr)(n c:Nat)(l:List Int):Prop where
 ex:∃ o,l.length=n/\n<=c/\(c<=9223372036854775807/\(ao=none->c=0))/\aZ l/\AtB w ao b o l
theorem ByA.keep{w':World}(h:ByA w b ao n c l)(hb:Below w.heap.size w w'):ByA w' b ao n c l:=by
 obtain⟨o,h1,h2,h3,h4,h5⟩:=h.ex;exact⟨o,h1,h2,h3,h4,h5.keep hb⟩
theorem cU(b o n:Nat):(⟨b,o,none⟩:Addr).add n=⟨b,o+n,none⟩:=by
 unfold Addr.add;split
 ·subst n;rfl
 ·rfl
def bV(ao:Option Addr)(c n:Nat):Option Addr:=if c=n then ao else ao.map (·.add n)
theorem rT(h:bV ao c k=none):ao=none:=by
 unfold bV at h;split at h
 ·exact h
 ·cases ao with
  | none=>rfl
  | some a=>cases h
theorem ByA.rest(h:ByA w b ao n c l)(p:k<=n):ByA w b (bV ao c k) (n - k) (c - k) (l.drop k):=by
 obtain⟨o,d,m,a,g,f⟩:=h.ex;by_cases hn:n=k
 ·have e:l.drop k=[]:=List.drop_eq_nil_of_le (by omega);rw[e];exact⟨0,by rw[hn];simp,by omega,⟨by have:=a.1;omega,fun e=>by have:=a.2 (rT e);omega⟩,fun x hx=>by simp at hx,.inl rfl,fun i hi=>by simp at hi⟩
 ·have j:l≠[]:=fun e=>by rw[e] at d; simp at d; omega
  obtain rfl:ao=some ⟨b,o,none⟩:=by
   rcases f.loc with e | e
   ·exact absurd e j
   ·exact e
  have e:bV (some ⟨b,o,none⟩) c k=some ⟨b,o+k,none⟩:=by
   unfold bV;rw[if_neg (by omega)];exact congrArg some (cU b o k)
  rw[e];refine⟨o+k,by rw[List.length_drop];omega,by omega,⟨by have:=a.1;omega,fun e=>by cases e⟩,fun x hx=>g x (List.mem_of_mem_drop hx),.inr rfl,fun i hi=>?_⟩;rw[List.length_drop] at hi;have:=f.cell (k+i) (by omega);rw[show o+k+i=o+(k+i) by omega,this,fO]
theorem ByA.front(h:ByA w b ao n c l)(j:k<=n):ByA w b ao k k (l.take k):=by
 obtain⟨o,m,g,a,f,d⟩:=h.ex;refine⟨o,by rw[List.length_take];omega,Nat.le_refl _,⟨by have:=a.1;omega,fun e=>by have:=a.2 e;omega⟩,fun x hx=>f x (List.mem_of_mem_take hx),?_,fun i hi=>?_⟩
 ·rcases d.loc with e | e
  ·exact .inl (by rw[e];simp)
  ·exact .inr e
 ·rw[List.length_take] at hi;rw[d.cell i (by omega),dw (by omega)]
theorem Box.two{t:TypeId}(h:Box w g [u,v] t):w.cell? ⟨g,0,none⟩=some u/\w.cell? ⟨g,1,none⟩=some v/\w.frozen? ⟨g,0,none⟩=false/\w.frozen? ⟨g,1,none⟩=false:=by
 have:=h.blk;simp[World.cell?,World.frozen?,this]
theorem e8{err:Int}{t:TypeId}(X:Box w g [.int .i64 err,v] t) :
  Calls Tryz.prog 185 #[.pointer (some ⟨g,0,none⟩)] w fun e w'=>e=.returned (.bool (err == 0))/\w'=w:=by
 obtain⟨c1,c2,b,c⟩:=X.two;go_enter Tryz.func185,Tryz.ntmps185;go_wp2;go_ret;exact⟨rfl,rfl⟩
theorem pJ{e0:Int}{t:TypeId}(X:Box w g [.int .i64 0,v] t) :
  Calls Tryz.prog 217 #[.pointer (some ⟨g,0,none⟩),.int .i64 e0] w fun e w'=>e=.returned (.tuple #[])/\w'=w.setCell ⟨g,0,none⟩ (.int .i64 e0):=by
 obtain⟨c1,c2,b,c⟩:=X.two;go_enter Tryz.func217,Tryz.ntmps217;go_wp2_with fail;refine(e8 X).mono ?_
 rintro e w' ⟨rfl,rfl⟩;go_wp2;go_end0;exact⟨rfl,rfl⟩
theorem vu{m:Int}{t:TypeId}(X:Box w g [u,.slice ao n c] t)(hn:n<=9223372036854775807)(hm:(n:Int) < m) :
  Calls Tryz.prog 250 #[.pointer (some ⟨g,0,none⟩),.int .u64 m] w fun e w'=>e=.returned (.tuple #[.slice none 0 0,.int .i64 40])/\w'=w:=by
 obtain⟨c1,c2,b,d⟩:=X.two;go_enter Tryz.func250,Tryz.ntmps250;go_wp2;go_ret2;exact⟨rfl,rfl⟩
theorem Ca{m:Nat}{t:TypeId}(X:Box w g [u,.slice ao n c] t)(hc:n<=c)(hn:c<=9223372036854775807)(hm:m<=n) :
  Calls Tryz.prog 250 #[.pointer (some ⟨g,0,none⟩),.int .u64 m] w fun e w'=>e=.returned (.tuple #[.slice ao m m,.int .i64 0])/\w'=w.setCell ⟨g,1,none⟩ (.slice (bV ao c m) (n - m) (c - m)):=by
 obtain⟨c1,c2,f,i⟩:=X.two
 have b:(m:Int)<=n:=by omega
 have d:(m:Int)<=c:=by omega
 go_enter Tryz.func250,Tryz.ntmps250;go_wp2
 ·go_ret2;exact⟨rfl,by unfold bV;rw[if_pos rfl]⟩
 ·go_ret2;exact⟨rfl,by unfold bV;rw[if_neg (by assumption)]⟩
end
section
variable {w w':World}{ao:Option Addr}{b g n c:Nat}{l:List Int}{cs:List Value}
theorem or8(a b:Int)(d:0<=a)(e:a < 72057594037927936)(c:0<=b)(f:b < 256):bits .or .u64 (a * 256) b=a * 256+b:=te (a * 256) b 8 a (by rw[show (2:Int) ^ 8=256 by decide]) d (by omega) c (by omega) (by omega)
theorem nz(l:List Int)(x:Int):bp (l ++ [x])=bp l * 256+x:=by
 induction l with
 | nil=>simp[bp]
 | cons y l ih =>
  rw[List.cons_append,bp,bp,ih,List.length_append,List.length_singleton,Int.pow_succ];grind
theorem AtB.box{o:Nat}(k:AtB w ao b o l){t:TypeId}(s:Box w g cs t)(c:∀ v∈cs,∀ x,v≠.int .u8 x)(hw:∀ k,k≠g->w'.heap[k]?=w.heap[k]?):AtB w' ao b o l :=
 ⟨k.loc,fun i hi=>by
  have hc:=k.cell i hi;by_cases e:b=g
  ·subst e;simp only[World.cell?,s.blk] at hc
   have a:cs.toArray[o+i]?=some (.int .u8 (nth l i)):=by simpa using hc
   rw[List.getElem?_toArray] at a;exact absurd rfl (c _ (List.mem_of_getElem? a) _)
  ·rw[World.cell?_of_block (w:=w) (hw b e)];exact hc⟩
theorem ByA.box(h:ByA w b ao n c l){t:TypeId}(s:Box w g cs t)(a:∀ v∈cs,∀ x,v≠.int .u8 x)(hw:∀ k,k≠g->w'.heap[k]?=w.heap[k]?):ByA w' b ao n c l:=by
 obtain⟨o,f,d,j,e,i⟩:=h.ex;exact⟨o,f,d,j,e,i.box s a hw⟩
theorem k9(err:Int)(ao:Option Addr)(n c:Nat):∀ v∈[Value.int .i64 err,Value.slice ao n c],∀ x,v≠.int .u8 x:=fun v a x e=>by
 rcases List.mem_cons.1 a with h | h
 ·subst h;cases e
 ·rw[List.mem_singleton] at h;subst h;cases e
theorem rdNum{m:Nat}{err:Int}{t:TypeId}(X:Box w g [.int .i64 err,.slice ao n c] t)(h:ByA w b ao n c l)(hm:m<=n)(L:m<=8) :
  Calls Tryz.prog 239 #[.pointer (some ⟨g,0,none⟩),.int .u64 m] w fun e w'=>e=.returned (.tuple #[.int .u64 (bp (l.take m)),.int .i64 0])/\w'=w.setCell ⟨g,1,none⟩ (.slice (bV ao c m) (n - m) (c - m)):=by
 obtain⟨o,N,A,⟨C,-⟩,s,G⟩:=h.ex
 have hA:ByA (w.setCell ⟨g,1,none⟩ (.slice (bV ao c m) (n - m) (c - m))) b ao n c l:=h.box X (k9 _ _ _ _) fun k v=>Below.heap_setCell _ _ _ k v
 have t:=Ca (m:=m) X A C hm;obtain⟨J,-,-,-,-,f⟩:=hA.ex;clear hA G h X
 have z:Hid (aZ l):=s;clear s;go_enter Tryz.func239,Tryz.ntmps239;go_wp2_with fail;refine t.mono ?_
 rintro e w' ⟨rfl,rfl⟩;clear t;generalize hWW:w.setCell ⟨g,1,none⟩ (.slice (bV ao c m) (n - m) (c - m))=W at *;have i:=(show Hid _ from hWW)
 clear hWW;go_wp2_with fail;go_loop [8,10,19] (fun K O r=>∃ k:Nat,k<=m/\r=.int .i64 k/\K=.int .u64 (bp (l.take k))) (fun _ _ r=>m - (intOf r).toNat)
 case atStart=>exact⟨0,Nat.zero_le _,rfl,rfl⟩
 case round =>
  obtain⟨k,v,rfl,rfl⟩:=hrel;by_cases E:k < m
  ·have d:k < l.length:=by omega
   have p:=f.cell k d;obtain rfl:ao=some ⟨b,J,none⟩:=by
    rcases f.loc with e | e
    ·rw[e] at d;simp at d
    ·exact e
   have F:(k:Int) < m:=by omega
   have u:=z.out.nth k;have y:=bG (l:=l.take k) (fun x hx=>z.out x (List.mem_of_mem_take hx))
   have H:(256:Int) ^ (l.take k).length<=256 ^ 7:=eI (by rw[List.length_take];omega)
   have q:bp (l.take k) < 72057594037927936:=by
    have M:(256:Int) ^ 7=72057594037927936:=by decide
    omega
   have j:=y.1;have I:=or8 (bp (l.take k)) (nth l k) j q u.1 u.2
   have B:Hid (bp (l.take (k+1))=bp (l.take k) * 256+nth l k):=by show _=_;rw[cF d,nz]
   clear y H;generalize bp (l.take k)=V at *;generalize nth l k=D at *;go_wp2;go_round
   case rel=>exact⟨k+1,by omega,by go_num,by rw[B.out]⟩
   case measure=>simp[intOf];omega
  ·obtain rfl:k=m:=by omega
   go_wp2;go_ret2;exact⟨rfl,i.out.symm⟩
end
section
variable {g n c gr gs:Nat}{w w':World}{a b v fv:Value}{m err x e0:Int}{ao:Option Addr}{Q:World→Prop}{l:List Int}
structure But(g:Nat)(w w':World):Prop where
 os:w'.os=w.os
 tape:w'.tape=w.tape
 output:w'.output=w.output
 size:w.heap.size<=w'.heap.size
 block:∀ k,k < w.heap.size->k≠g->w'.heap[k]?=w.heap[k]?
theorem But.below{B:Nat}{w0:World}(h:But g w w')(b:Below B w0 w)(d:B<=g)(c:B<=w0.heap.size):Below B w0 w' :=
 ⟨h.os.trans b.os,h.tape.trans b.tape,h.output.trans b.output,Nat.le_trans b.size h.size,fun k a=>(h.block k (Nat.lt_of_lt_of_le (Nat.lt_of_lt_of_le a c) b.size) (by omega)).trans (b.block k a)⟩
theorem xE{w1 a c:World}(b:Below w.heap.size w w1)(h:∀ k,k≠g->a.heap[k]?=w1.heap[k]?)(f:a.os=w1.os)(i:a.tape=w1.tape)(d:a.output=w1.output)(j:a.heap.size=w1.heap.size)(e:c=a):But g w c:=by
 subst e;exact⟨f.trans b.os,i.trans b.tape,d.trans b.output,by rw[j];exact b.size,fun k m l=>(h k l).trans (b.block k m)⟩
theorem cM{t:TypeId}(h:Box w g [a,b] t)(v:Value):Box (w.setCell ⟨g,1,none⟩ v) g [a,v] t:=⟨by
 have:=h.blk;simp only[World.setCell,Array.getElem?_modify,if_true,this]
 simp⟩
theorem gZ{t:TypeId}(h:Box w g [a,b] t)(v:Value):Box (w.setCell ⟨g,0,none⟩ v) g [v,b] t:=⟨by
 have:=h.blk;simp only[World.setCell,Array.getElem?_modify,if_true,this]
 simp⟩
theorem AF{t:TypeId}(X:Box w g [.int .i64 err,.slice ao n c] t)(hn:n<=9223372036854775807)(hm:(n:Int) < m) :
  Calls Tryz.prog 239 #[.pointer (some ⟨g,0,none⟩),.int .u64 m] w fun e w'=>e=.returned (.tuple #[.int .u64 0,.int .i64 40])/\w'=w:=by
 have t:=vu X hn hm;clear hm;go_enter Tryz.func239,Tryz.ntmps239;go_wp2_with fail;refine t.mono ?_
 rintro e w' ⟨rfl,rfl⟩;clear t;go_wp2_with fail;go_loop [8,10,19] (fun d f b=>d=.int .u64 0/\b=.int .i64 0) (fun _ _ _=>0)
 case atStart=>exact⟨rfl,rfl⟩
 case round =>
  obtain⟨rfl,rfl⟩:=hrel;go_wp2;go_ret2;exact⟨rfl,rfl⟩
theorem zh(d:w.cell? ⟨gr,0,none⟩=some (.pointer (some ⟨g,0,none⟩)))(f:w.cell? ⟨gs,0,none⟩=some (.int .u64 m))(b:Calls Tryz.prog 239 #[.pointer (some ⟨g,0,none⟩),.int .u64 m] w fun e w'=>e=.returned (.tuple #[.int .u64 x,.int .i64 e0])∧Q w') :
    Calls Tryz.prog 238 #[.pointer (some ⟨gr,0,none⟩),.pointer (some ⟨gs,0,none⟩)] w fun e w'=>e=.returned (.tuple #[.int .u64 x,.int .i64 e0])∧Q w':=by
  go_enter Tryz.func238,Tryz.ntmps238;go_wp2_with fail;refine b.mono ?_
  rintro e w' ⟨rfl,c⟩;clear b;go_wp2;go_ret2;exact⟨rfl,c⟩
theorem enBad{t:TypeId}(X:Box w g [.int .i64 err,v] t)(he:err≠0) :
  Calls Tryz.prog 237 #[.pointer (some ⟨g,0,none⟩),fv] w fun e w'=>e=.returned (.int .u64 0)/\w'=w:=by
 have hb:(err == 0)=false:=beq_eq_false_iff_ne.2 he;have t:=e8 X;rw[hb] at t;clear he hb;go_enter Tryz.func237,Tryz.ntmps237;go_wp2_with fail;refine t.mono ?_
 rintro e w' ⟨rfl,rfl⟩;clear t;go_wp2;go_ret;exact⟨rfl,rfl⟩
theorem enOk{t:TypeId}{Q:World->Prop}(X:Box w g [.int .i64 0,.slice ao n c] t)(b:Calls Tryz.prog 238 #[.pointer (some ⟨gr,0,none⟩),.pointer (some ⟨gs,0,none⟩)] w fun e w'=>e=.returned (.tuple #[.int .u64 x,.int .i64 0])/\Q w') :
  Calls Tryz.prog 237 #[.pointer (some ⟨g,0,none⟩),.func (.func 238) #[] #[.pointer (some ⟨gr,0,none⟩),.pointer (some ⟨gs,0,none⟩)]] w fun e w'=>e=.returned (.int .u64 x)/\Q w':=by
 obtain⟨c1,c2,i,j⟩:=X.two;have t:=e8 X;go_enter Tryz.func237,Tryz.ntmps237;go_wp2_with fail;refine t.mono ?_
 rintro e w' ⟨rfl,rfl⟩;clear t;go_wp2_with fail;refine b.mono ?_
 rintro e f ⟨rfl,d⟩;clear b;go_wp2;go_ret;exact⟨rfl,d⟩
theorem enErr{t:TypeId}(he:e0≠0)(X:Box w g [.int .i64 0,.slice ao n c] t)(b:Calls Tryz.prog 238 #[.pointer (some ⟨gr,0,none⟩),.pointer (some ⟨gs,0,none⟩)] w fun e w'=>e=.returned (.tuple #[.int .u64 x,.int .i64 e0])/\w'=w) :
  Calls Tryz.prog 237 #[.pointer (some ⟨g,0,none⟩),.func (.func 238) #[] #[.pointer (some ⟨gr,0,none⟩),.pointer (some ⟨gs,0,none⟩)]] w fun e w'=>e=.returned (.int .u64 0)/\w'=(w.setCell ⟨g,1,none⟩ (.slice ao n c)).setCell ⟨g,0,none⟩ (.int .i64 e0):=by
 obtain⟨c1,c2,j,m⟩:=X.two
 have f:Box (w.setCell ⟨g,1,none⟩ (.slice ao n c)) g [.int .i64 0,.slice ao n c] t:=cM X _;have d:=e8 X
 have hb:(e0 == 0)=false:=beq_eq_false_iff_ne.2 he;clear he;go_enter Tryz.func237,Tryz.ntmps237;go_wp2_with fail;refine d.mono ?_
 rintro e w' ⟨rfl,rfl⟩;clear d;go_wp2_with fail;refine b.mono ?_
 rintro e i ⟨rfl,rfl⟩;clear b;go_wp2_with fail;refine(pJ f).mono ?_
 rintro e l ⟨rfl,rfl⟩;go_wp2;go_ret;exact⟨rfl,rfl⟩
structure RdA(w:World)(g b:Nat)(err:Int)(l:List Int):Prop where
 ex:∃ ao n c,Box w g [.int .i64 err,.slice ao n c] 291/\ByA w b ao n c l
theorem RdA.keep{b:Nat}(h:RdA w g b err l)(hb:Below w.heap.size w w'):RdA w' g b err l:=by
 obtain⟨ao,n,c,h1,h2⟩:=h.ex;exact⟨ao,n,c,h1.keep hb,h2.keep hb⟩
def qs(m:Nat)(err:Int)(l:List Int):Int:=if err=0/\m<=l.length then bp (l.take m) else 0
def qC(m:Nat)(err:Int)(l:List Int):Int:=if err=0 then (if m<=l.length then 0 else 40) else err
def rk(m:Nat)(err:Int)(l:List Int):List Int:=if err=0/\m<=l.length then l.drop m else l
theorem size_set(w:World)(p:Addr)(v:Value):(w.setCell p v).heap.size=w.heap.size:=by simp[World.setCell]
theorem Eg{b m:Nat}(h:RdA w g b err l)(I:m<=8) :
  Calls Tryz.prog 212 #[.pointer (some ⟨g,0,none⟩),.int .u64 m] w fun e w'=>e=.returned (.int .u64 (qs m err l))/\RdA w' g b (qC m err l) (rk m err l)/\But g w w':=by
 have d:=below2 w (.cells #[.pointer (some ⟨g,0,none⟩)] 257) (.cells #[.int .u64 m] 22);have z:=(jl w (.pointer (some ⟨g,0,none⟩)) 257).alloc (.cells #[.int .u64 m] 22);have A:=uw w (.cells #[.pointer (some ⟨g,0,none⟩)] 257) (.int .u64 (m:Int)) 22;have J:=h.ex;obtain⟨G,n,c,s,j⟩:=J;have E:=s.lt;have X:=s.keep d;have hA:=j.keep d;obtain⟨o,F,B,⟨D,-⟩,C,K⟩:=hA.ex;have v:=z.cell;have u:=A.cell;clear K;by_cases he:err=0
 ·subst he;by_cases hm:m<=n
  ·have t:=enOk X (zh v u (rdNum X hA hm I))
   have y:Hid (qs m 0 l=bp (l.take m)):=by show _=_;unfold qs;rw[if_pos ⟨rfl,by omega⟩]
   have q:Hid (∀ f,f=(((w.alloc (.cells #[.pointer (some ⟨g,0,none⟩)] 257)).alloc (.cells #[.int .u64 m] 22)).setCell ⟨g,1,none⟩ (.slice (bV G c m) (n - m) (c - m)))->RdA f g b (qC m 0 l) (rk m 0 l)/\But g w f):=by
    intro f e;subst e;refine⟨?_,?_⟩
    ·unfold qC rk;rw[if_pos rfl,if_pos (by omega),if_pos ⟨rfl,by omega⟩];exact⟨_,_,_,cM X _,(hA.rest hm).box X (k9 _ _ _ _) fun k i=>Below.heap_setCell _ _ _ k i⟩
    ·exact xE d (fun k i=>Below.heap_setCell _ _ _ k i) rfl rfl rfl (size_set _ _ _) rfl
   clear s j X hA z A h F B D C v u d;go_enter Tryz.func212,Tryz.ntmps212;go_wp2_with fail;refine t.mono ?_
   rintro e H ⟨rfl,p⟩;have r:=(show Hid _ from q.out _ p)
   clear t p q;go_wp2;go_ret;exact⟨by rw[y.out];rfl,r.out⟩
  ·have t:=enErr (by decide) X (zh v u (AF X (by omega) (by omega:(n:Int) < m)))
   have y:Hid (qs m 0 l=0):=by show _=_;unfold qs;rw[if_neg (fun x=>hm (by omega))]
   have q:Hid (∀ f,f=((((w.alloc (.cells #[.pointer (some ⟨g,0,none⟩)] 257)).alloc (.cells #[.int .u64 m] 22)).setCell ⟨g,1,none⟩ (.slice G n c)).setCell ⟨g,0,none⟩ (.int .i64 40))->RdA f g b (qC m 0 l) (rk m 0 l)/\But g w f):=by
    intro f e;subst e;refine⟨?_,?_⟩
    ·unfold qC rk;rw[if_pos rfl,if_neg (by omega),if_neg (fun x=>hm (by omega))];exact⟨_,_,_,gZ (cM X _) _,hA.box X (k9 _ _ _ _) fun k i=>by rw[Below.heap_setCell _ _ _ k i,Below.heap_setCell _ _ _ k i]⟩
    ·exact⟨d.os,d.tape,d.output,by rw[size_set,size_set];exact d.size,fun k i E=>by rw[Below.heap_setCell _ _ _ k E,Below.heap_setCell _ _ _ k E];exact d.block k i⟩
   clear s j X hA z A h F B D C v u d hm;go_enter Tryz.func212,Tryz.ntmps212;go_wp2_with fail;refine t.mono ?_
   rintro e H ⟨rfl,p⟩;have r:=(show Hid _ from q.out _ p)
   clear t p q;go_wp2;go_ret;exact⟨by rw[y.out];rfl,r.out⟩
 ·have t:=fun fv=>enBad (fv:=fv) X he
  have y:Hid (qs m err l=0):=by show _=_;unfold qs;rw[if_neg (fun x=>he x.1)]
  have q:Hid (∀ f,f=((w.alloc (.cells #[.pointer (some ⟨g,0,none⟩)] 257)).alloc (.cells #[.int .u64 m] 22))->RdA f g b (qC m err l) (rk m err l)/\But g w f):=by
   intro f e;subst e;refine⟨?_,?_⟩
   ·unfold qC rk;rw[if_neg he,if_neg (fun x=>he x.1)];exact⟨_,_,_,X,hA⟩
   ·exact⟨d.os,d.tape,d.output,d.size,fun k i _=>d.block k i⟩
  clear s j X hA z A h F B D C v u d he;go_enter Tryz.func212,Tryz.ntmps212;go_wp2_with fail;refine(t _).mono ?_
  rintro e H ⟨rfl,p⟩;have r:=(show Hid _ from q.out _ p)
  clear t p q;go_wp2;go_ret;exact⟨by rw[y.out];rfl,r.out⟩
end
theorem Row.keep {w w':World} {g:Nat} {l:List Int} (h:Row w g l) (hb:Below w.heap.size w w'):Row w' g l:=by
 unfold Row at *;rw[hb.block g (Array.getElem?_eq_some_iff.1 h).1];exact h
theorem sI (w:World) (cs:Array Value) (t:TypeId) (i:Nat):(w.alloc (.cells cs t)).cell? ⟨w.heap.size,i,none⟩=cs[i]?:=by
 have h:(w.alloc (.cells cs t)).heap[w.heap.size]?=some (.cells cs t (0,0)):=by
  show (w.heap.push _)[w.heap.size]?=_
  rw[Array.getElem?_push_size]
 simp only[World.cell?,h];simp
def BG (w:World) (a:Option Addr) (len cap:Nat) (zs:List Int):Prop :=
 (a=none/\len=0/\cap=0/\zs=[]) \/
 ∃ x,a=some x/\len<=cap/\cap<=maxLen/\zs.length=cap/\(∀ i,i < zs.length->w.cell? (x.add i)=some (.int .u64 (zs.getD i 0)))/\∀ n∈zs,(Lit.int .u64 n).wf=true
theorem BG.open {w:World} {a:Option Addr} {len cap:Nat} {zs:List Int} (h:BG w a len cap zs):∃ b o l,l.length=len/\len<=cap/\len<=9223372036854775807/\Words l/\At w a b o l:=by
 rcases h with⟨rfl,rfl,rfl,rfl⟩ | ⟨x,rfl,h1,h2,h3,h4,h5⟩
 ·exact⟨0,0,[],rfl,Nat.le_refl _,by decide,Words.nil,.inl rfl,fun i hi=>by simp at hi⟩
 ·have hw:Words (zs.take len):=fun y hy=>by
   have:=h5 y (List.mem_of_mem_take hy);have:=bounds_u64 this;omega
  have k:(zs.take len).length=len:=by simp;omega
  have d:len<=9223372036854775807:=by unfold maxLen at h2;omega
  by_cases n:len=0
  ·refine⟨0,0,zs.take len,k,h1,d,hw,.inl (List.eq_nil_of_length_eq_zero (by omega)),fun i hi=>by omega⟩
  ·have hx:=h4 0 (by omega)
   have g:x.spot=none:=by
    rw[show x.add 0=x from rfl] at hx;simp only[World.cell?] at hx
    cases hh:w.heap[x.block]? with
    | none=>rw[hh] at hx;simp at hx
    | some ob =>
     rw[hh] at hx
     cases ob with
     | cells c e f =>
      simp at hx
      cases hs:x.spot with
      | none=>rfl
      | some s=>rw[hs] at hx;simp at hx
     | _=>simp at hx
   obtain⟨b,o,sp⟩:=x;simp at g;subst g;refine⟨b,o,zs.take len,k,h1,d,hw,.inr rfl,fun i hi=>?_⟩;have m:=h4 i (by omega);rw[dw (by omega)]
   have e:(⟨b,o,none⟩:Addr).add i=⟨b,o+i,none⟩:=by
    by_cases j:i=0
    ·subst j;rfl
    ·simp[Addr.add,j]
   rw[e] at m;exact m
def bz (w:World) (B:Nat) (v:Value) (l:List Int):Prop:=w.ownsRow B 5 1 v l.length (l.map (Value.int .u8))
theorem ve {w:World} {B:Nat} {e:TypeId} {v:Value} {n:Nat} {xs:List Value} (h:w.ownsRow B e 1 v n xs):∀ g,v.ownBlock=some g->B<=g:=by
 intro g a;rcases h.2 with⟨rfl,_⟩ | ⟨g',cap,cur,rfl,hB,_⟩
 ·simp[Value.ownBlock] at a
 ·simp[Value.ownBlock] at a;omega
theorem Ep (w:World) (u1 u2:Value):∀ j u,[u1,u2][j]?=some u->(w.alloc (.cells #[u1,u2] 22)).cell? ((⟨w.heap.size,0,none⟩:Addr).add j)=some u:=by
 intro j u a
 match j,a with
 | 0,a =>
  rw[show ((⟨w.heap.size,0,none⟩:Addr).add 0)=⟨w.heap.size,0,none⟩ from rfl,sI];simpa using a
 | 1,a =>
  rw[show ((⟨w.heap.size,0,none⟩:Addr).add 1)=⟨w.heap.size,1,none⟩ from by simp[Addr.add],sI];simpa using a
section
variable {l:List Int}{w:World}{ops:Array Oper}{rest:List Oper}{g:Nat}
theorem lB(ao:Option Addr)(n c:Nat)(l:List Int)(w:World)(p:l.length=n)(hc:n<=c)(hb:n<=4398046511104)(d:Cells w ao l) :
  Calls Tryz.prog 231 #[.slice ao n c] w fun e w'=>e=.returned (.slice ao (aU l) c)/\w'=w:=by
 go_enter Tryz.func231,Tryz.ntmps231;go_wp2;go_loop [3] (fun t=>∃ k:Nat,k<=n/\t=.int .i64 k/\Hid (∀ i,k<=i->nth l i=0)) (fun t=>(intOf t).toNat)
 case atStart=>exact⟨n,Nat.le_refl _,rfl,fun i hi=>j6 (by omega)⟩
 case round =>
  obtain⟨k,q,rfl,g⟩:=hrel;by_cases j:0 < k
  ·rcases d with e | ⟨b,o,rfl,d⟩
   ·subst e;simp at p;omega
   ·have f:=d (k - 1) (by omega)
    have m:w.cell? ⟨b,o+k - 1,none⟩=some (.int .u64 (nth l (k - 1))):=by rw[<- f];congr 2;omega
    clear d;go_wp2
    ·go_round
     case rel=>exact⟨k - 1,by omega,by go_num,fun i hi=>by
      by_cases e:i=k - 1
      ·subst e;exact beq_iff_eq.1 (by assumption)
      ·exact g.out i (by omega)⟩
     case measure=>simp[intOf];omega
    ·go_ret;rw[jf (k:=k) (by omega) g.out (fun _=>beq_eq_false_iff_ne.1 (by assumption))];exact⟨rfl,rfl⟩
  ·go_wp2;go_ret;rw[jf (k:=k) (by omega) g.out (fun _=>by omega)];exact⟨rfl,rfl⟩
def v32:List Int->Int
 | []=>0
 | x :: l=>x+4294967296 * v32 l
def fF(l:List Int):Prop:=∀ x∈l,0<=x/\x < 4294967296
theorem fF.nth(h:fF l)(i:Nat):0<=nth l i/\nth l i < 4294967296:=by
 by_cases hi:i < l.length
 ·exact h _ (qK hi)
 ·rw[j6 (by omega)];decide
theorem fF.take(h:fF l)(k:Nat):fF (l.take k):=fun x hx=>h x (List.mem_of_mem_take hx)
theorem iN(a b:List Int):v32 (a ++ b)=v32 a+4294967296 ^ a.length * v32 b:=by
 induction a with
 | nil=>simp[v32]
 | cons x a ih=>simp only[List.cons_append,v32,ih,List.length_cons,Int.pow_succ];grind
theorem yr(h:∀ i,nth l i=0):v32 l=0:=by
 induction l with
 | nil=>rfl
 | cons x l ih =>
  have h0:=h 0;rw[de] at h0;rw[v32,h0,ih fun i=>by have:=h (i+1);rwa [dL] at this];rfl
theorem rJ(l:List Int):v32 (norm l)=v32 l:=by
 conv=>rhs;rw[<- List.take_append_drop (aU l) l]
 rw[iN,yr (l:=l.drop (aU l)) fun i=>by rw[fO];exact gq (by omega)];simp[norm]
theorem oO(h:fF l):0<=v32 l/\v32 l < 4294967296 ^ l.length:=by
 induction l with
 | nil=>simp[v32]
 | cons x l ih =>
  have b:=h x List.mem_cons_self;have a:=ih fun y hy=>h y (List.mem_cons_of_mem _ hy)
  simp only[v32,List.length_cons,Int.pow_succ];omega
def bS:List Int->List Int
 | []=>[]
 | x :: l=>x % 4294967296 :: x / 4294967296 :: bS l
theorem iB(l:List Int):(bS l).length=2 * l.length:=by
 induction l with
 | nil=>rfl
 | cons x l ih=>simp[bS,ih];omega
theorem nT(a b:List Int):bS (a ++ b)=bS a ++ bS b:=by
 induction a with
 | nil=>rfl
 | cons x a ih=>simp[bS,ih]
theorem uo(h:Words l):fF (bS l):=by
 induction l with
 | nil=>intro x hx;simp[bS] at hx
 | cons y l ih =>
  intro x hx;have hy:=h.head;simp only[bS,List.mem_cons] at hx;rcases hx with e | e | e
  ·subst e;omega
  ·subst e;omega
  ·exact ih h.tail x e
theorem sW:v32 (bS l)=val l:=by
 induction l with
 | nil=>rfl
 | cons x l ih=>simp only[bS,v32,ih,val];omega
theorem mK:Tryz.prog.underlying 43=some (.slice 22):=by kernel_rfl
theorem qy{o:Oper}{a:Act}{Q:Exit->Act->World->Prop}(g:o.guard=none)(l c:Operand)(d:o.op=Op.makeSlice 43 l c)(n m:Nat)(L C:Int)(p:a.eval l=.int .i64 L)(hc:a.eval c=.int .i64 C)(j:L=(n:Int))(f:C=(m:Int))(r:n<=m)(hn:m<=17592186044416)(h:∀ w',Row w' w.heap.size (List.replicate m 0)->Below w.heap.size w w'->w'.heap.size=w.heap.size+1->wpList Tryz.prog ops Q rest (a.put o.dst (.slice (some ⟨w.heap.size,0,none⟩) n m)) w') :
  wpList Tryz.prog ops Q (o :: rest) a w:=by
 obtain⟨i,hi,k,q,hb⟩:=info_parts nH;refine wpList_plain g fun K e=>?_
 have b:=run_make (P:=Tryz.prog) w 43 22 i (.int .u64 0) mK hi k .i64 .i64 (n:Int) (m:Int) (by omega) (by omega) (by rw[hb];omega) (by omega);subst j;subst f;unfold Oper.wp;simp only[execOp,d,p,hc];simp[b,Result.andThen];refine e _ _ (h _ ?_ ?_ ?_)
 ·show (w.heap.push _)[w.heap.size]?=_
  rw[Array.getElem?_push_size,q,Nat.mul_one,rF]
 ·exact(Below.refl _ _).alloc (Nat.le_refl _) _
 ·simp
theorem Row.cell(h:Row w g l){i:Nat}(hi:i < l.length):w.cell? ⟨g,i,none⟩=some (.int .u64 (nth l i)):=by
 have:=h.at.cell i hi;rwa [Nat.zero_add] at this
theorem Row.set(h:Row w g l)(i:Nat)(x:Int):Row (w.setCell ⟨g,i,none⟩ (.int .u64 x)) g (l.set i x):=by
 unfold Row at *;simp only[World.setCell,Array.getElem?_modify,if_true,h];simp
theorem Row.CR(h:Row w g l)(i:Nat)(x y:Int):Row (w.setCells g i [.int .u64 x,.int .u64 y]) g ((l.set i x).set (i+1) y):=by
 show Row ((w.setCell ⟨g,i,none⟩ (.int .u64 x)).setCell ⟨g,i+1,none⟩ (.int .u64 y)) g _
 exact(h.set i x).set (i+1) y
theorem A7(a:List Int)(x y u v:Int)(b:List Int):((a ++ u :: v :: b).set a.length x).set (a.length+1) y=a ++ x :: y :: b:=by
 rw[List.set_append_right _ _ (Nat.le_refl _),Nat.sub_self,List.set_cons_zero,List.set_append_right _ _ (by omega),Nat.add_sub_cancel_left,List.set_cons_succ,List.set_cons_zero]
theorem mC(ao:Option Addr)(n c b o:Nat)(l:List Int)(w:World)(Q:l.length=n)(T:n<=274877906944)(wl:Words l)(M:At w ao b o l) :
  Calls Tryz.prog 205 #[.slice ao n c] w fun e w'=>∃ v d,e=.returned v/\jc w w' v d/\fF d/\aU d=d.length/\v32 d=val l/\d.length<=2 * n/\Below w.heap.size w w':=by
 obtain⟨i0,hi,Z,F,D⟩:=info_parts nH;go_enter Tryz.func205,Tryz.ntmps205;go_wp2_with (at_make;refine qy rfl _ _ rfl 0 (2 * n) _ _ rfl rfl rfl (by omega) (by omega) (by omega) ?_;intro w1 f g W);have G:=M.keep g;have O:=f.lt;go_loopw [3,4] (fun V J wr=>∃ k:Nat,k<=n/\J=.int .i64 k/\V=.slice (some ⟨w.heap.size,0,none⟩) (2 * k) (2 * n)/\Row wr w.heap.size (bS (l.take k) ++ List.replicate (2 * (n - k)) 0)/\Below w.heap.size w wr) (fun _ J _=>n - (intOf J).toNat)
 case atStart=>exact⟨0,Nat.zero_le _,rfl,rfl,by simpa[bS] using f,g⟩
 case round =>
  clear f g G;obtain⟨k,hk,rfl,rfl,f,z⟩:=hrel;by_cases Y:k < n
  ·rcases M.loc with e | rfl
   ·subst e;simp at Q;omega
   have E:=M.keep z;have U:=E.cell k (by omega);have hx:=wl.nth k;have P:=f.lt
   have hlen:(bS (l.take k)).length=2 * k:=by rw[iB,List.length_take];omega
   have q:List.replicate (2 * (n - k)) (0:Int)=0 :: 0 :: List.replicate (2 * (n - (k+1))) 0:=by
    rw[show 2 * (n - k)=2 * (n - (k+1))+1+1 from by omega];rfl
   rw[q] at f
   have r:bS (l.take (k+1))=bS (l.take k) ++ [nth l k % 4294967296,nth l k / 4294967296]:=by
    rw[cF (by omega),nT];rfl
   have s:=fun ob:Obj=>(f.keep (af wr ob)).CR (2 * k) (nth l k % 4294967296) (nth l k / 4294967296)
   have HR:Hid (∀ ob:Obj,Row ((wr.alloc ob).setCells w.heap.size (2 * k) [.int .u64 (nth l k % 4294967296),.int .u64 (nth l k / 4294967296)]) w.heap.size (bS (l.take (k+1)) ++ List.replicate (2 * (n - (k+1))) 0)):=by
    intro ob;have:=s ob;rw[<- hlen,A7] at this;rw[r,List.append_assoc];rw[hlen] at this;exact this
   have y:=f.cell (i:=2 * k) (by simp[hlen]);have t:=f.cell (i:=2 * k+1) (by simp[hlen]);have hand:=and32 (nth l k) hx.1 hx.2;clear r q s;generalize nth l k=x at *
   have s1:Hid (∀ j u,[Value.int .u64 (x % 4294967296),.int .u64 (x / 4294967296)][j]?=some u->(wr.alloc (.cells #[.int .u64 (x % 4294967296),.int .u64 (x / 4294967296)] 22)).cell? ((⟨wr.heap.size,0,none⟩:Addr).add j)=some u):=Ep _ _ _
   have s2:Hid (∀ u∈[Value.int .u64 (x % 4294967296),.int .u64 (x / 4294967296)],u.oneCell'=true):=fun u hu=>by
    simp at hu;rcases hu with e | e<;>(subst e;rfl)
   have s3:Hid (∀ j,j < [Value.int .u64 (x % 4294967296),.int .u64 (x / 4294967296)].length->((wr.alloc (.cells #[.int .u64 (x % 4294967296),.int .u64 (x / 4294967296)] 22)).cell? ⟨w.heap.size,0+2 * k * 1+j,none⟩).isSome=true/\(wr.alloc (.cells #[.int .u64 (x % 4294967296),.int .u64 (x / 4294967296)] 22)).frozen? ⟨w.heap.size,0+2 * k * 1+j,none⟩=false):=by
    intro j X;have S:=f.keep (af wr (.cells #[.int .u64 (x % 4294967296),.int .u64 (x / 4294967296)] 22))
    have hj2:j < 2:=by simpa using X
    rw[Nat.zero_add,Nat.mul_one];exact⟨by rw[S.cell (by simp[hlen];omega)];rfl,by have:=S.free 0 (2 * k+j+1) (2 * k+j) (by omega);rwa [Nat.zero_add] at this⟩
   have C:=(show Hid _ from z)
   clear f y t z E;go_wp2_with fail;go_region_law (refine step_append_room rfl (.tmp 15) (.tmp 26) 43 rfl 22 i0 1 mK hi F w.heap.size 0 (2 * k) (2 * n) (by simp[Act.eval]) ⟨wr.heap.size,0,none⟩ 2 2 [.int .u64 (x % 4294967296),.int .u64 (x / 4294967296)] (by simp[Act.eval]) rfl s1.out s2.out (by omega) s3.out ?_);go_wp2
   all_goals
    have m:=((C.out.alloc (by omega) (.cells #[.int .u64 (x % 4294967296),.int .u64 (x / 4294967296)] 22)).setCell (p:=⟨w.heap.size,2 * k,none⟩) (Nat.le_refl _) (.int .u64 (x % 4294967296))).setCell (p:=⟨w.heap.size,2 * k+1,none⟩) (Nat.le_refl _) (.int .u64 (x / 4294967296));refine⟨⟨k+1,by omega,by go_num,by rw[show 2 * (k+1)=2 * k+2 from by omega],?_,?_⟩,by simp[intOf];omega⟩
    ·exact HR.out _
    ·exact⟨m.os,m.tape,m.output,m.size,m.block⟩
  ·have H:k=n:=by omega
   subst H;rw[Nat.sub_self,Nat.mul_zero,List.replicate_zero,List.append_nil,List.take_of_length_le (by omega)] at f;have hlen:=iB l;rw[Q] at hlen;have t3:=lB (some ⟨w.heap.size,0,none⟩) (2 * k) (2 * k) (bS l) wr hlen (Nat.le_refl _) (by omega) f.at.cells;have F:=fh (bS l);have D:=cj (bS l);have B:=f.at.sub (aU (bS l));have N:=xK (bS l);have A:=rJ (bS l)
   have I:fF (norm (bS l)):=(uo wl).take _;have L:=f.free 0 (2 * k);rw[show (bS l).take (aU (bS l))=norm (bS l) from rfl] at B;rw[sW] at A;clear f;generalize aU (bS l)=K at *;generalize norm (bS l)=R at *;have HV:=(show Hid _ from A)
   clear A;go_wp2_with fail;refine t3.mono ?_
   rintro e w6 ⟨rfl,rfl⟩;go_wp2;go_ret;exact⟨_,R,rfl,jc.of D.symm (by omega) (Nat.le_refl _) B (fun i hi=>L i (by omega)),I,N,HV.out,by omega,z⟩
structure uW(d:List Int)(m k:Nat)(lz:List Int):Prop where
 len:lz.length=m
 words:Words lz
 val:Lim.val lz=v32 (d.take k)
theorem kX(k:Nat):(4294967296:Int) ^ k=18446744073709551616 ^ (k / 2) * 2 ^ (32 * (k % 2)):=by
 have e:(18446744073709551616:Int)=4294967296 ^ 2:=by decide
 have e2:(2:Int) ^ (32 * (k % 2))=4294967296 ^ (k % 2):=by rw[Int.pow_mul];rfl
 rw[e,e2,<- Int.pow_mul,<- Int.pow_add];congr 1;omega
theorem yU{d c:List Int}{m k:Nat}(j:fF d)(hm:(d.length+1) / 2=m)(h:uW d m k c)(o:k < d.length) :
  bits .or .u64 (nth c (k / 2)) (IntKind.u64.wrap (nth d k * 2 ^ (32 * (k % 2))))=nth c (k / 2)+nth d k * 2 ^ (32 * (k % 2)) /\
  uW d m (k+1) (c.set (k / 2) (nth c (k / 2)+nth d k * 2 ^ (32 * (k % 2)))):=by
 have p:=h.len;have hx:=j.nth k;have f:=oO (j.take k);rw[List.length_take,Nat.min_eq_left (by omega)] at f;have l:=h.val;have b:=h.words.nth (k / 2);have g:=vm h.words (i:=k / 2) (by omega) (P:=2 ^ (32 * (k % 2))) (by rw[<- kX,l];exact f.2)
 have hS:(0:Int) < 2 ^ (32 * (k % 2)):=Int.pow_pos (by decide)
 have q:(2:Int) ^ (32 * (k % 2)) * 4294967296<=18446744073709551616:=by
  rcases(show k % 2=0\/k % 2=1 by omega) with e | e<;>rw[e]<;>decide
 have a:0<=nth d k * 2 ^ (32 * (k % 2)):=Int.mul_nonneg hx.1 (Int.le_of_lt hS)
 have n:nth d k * 2 ^ (32 * (k % 2))<=4294967295 * 2 ^ (32 * (k % 2)):=Int.mul_le_mul_of_nonneg_right (by omega) (Int.le_of_lt hS);constructor
 ·rw[IntKind.wrap_u64,Int.emod_eq_of_lt a (by omega)];rw[u64_or _ _ b.1 b.2 a (by omega),Nat.or_comm,<- u64_or _ _ a (by omega) b.1 b.2];rw[te _ _ (32 * (k % 2)) _ rfl hx.1 (by omega) b.1 g b.2,Int.add_comm]
 ·refine⟨by simp[p],h.words.set _ (by omega) (by omega),?_⟩;rw[vo (by omega),l,cF o,iN,List.length_take,Nat.min_eq_left (by omega),kX k];simp only[v32];grind
theorem sN{a b:Nat}(h:a<=b):(4294967296:Int) ^ a<=4294967296 ^ b:=by
 have:(4294967296:Nat) ^ a<=4294967296 ^ b:=Nat.pow_le_pow_right (by decide) h
 have e1:((4294967296 ^ a:Nat):Int)=(4294967296:Int) ^ a:=by rw[Int.natCast_pow];rfl
 have e2:((4294967296 ^ b:Nat):Int)=(4294967296:Int) ^ b:=by rw[Int.natCast_pow];rfl
 omega
theorem v32_ge(h:fF l)(c:0 < l.length)(e:nth l (l.length - 1)≠0):4294967296 ^ (l.length - 1)<=v32 l:=by
 have a:l=l.take (l.length - 1) ++ [nth l (l.length - 1)]:=by
  rw[<- cF (by omega),show l.length - 1+1=l.length from by omega,List.take_of_length_le (Nat.le_refl _)]
 have hx:=h.nth (l.length - 1);have hb:=oO (h.take (l.length - 1))
 have d:v32 l=v32 (l.take (l.length - 1))+4294967296 ^ (l.length - 1) * nth l (l.length - 1):=by
  conv=>lhs;rw[a]
  rw[iN,List.length_take,Nat.min_eq_left (by omega)];simp[v32]
 have b:(0:Int) < 4294967296 ^ (l.length - 1):=Int.pow_pos (by decide);have:(4294967296:Int) ^ (l.length - 1) * 1<=4294967296 ^ (l.length - 1) * nth l (l.length - 1):=Int.mul_le_mul_of_nonneg_left (by omega) (Int.le_of_lt b);omega
theorem fW(ao:Option Addr)(n c b o:Nat)(d:List Int)(w:World)(hl:d.length=n)(hc:n<=c)(T:n<=1099511627776)(S:fF d)(O:At w ao b o d) :
  Calls Tryz.prog 256 #[.slice ao n c] w fun e w'=>∃ v r,e=.returned v/\jc w w' v r/\IsN r (v32 d)/\r.length<=n/\Below w.heap.size w w':=by
 have hn:=fh d;have t1:=lB ao n c d w hl hc (by omega) O.cells;have F:=O.sub (aU d);have E:=cj d
 have s:fF (norm d):=S.take _;have C:=rJ d
 have y:aU d≠0->nth (norm d) (aU d - 1)≠0:=fun h=>by rw[gW];exact iv h
 have I:norm d=[]\/b≠w.heap.size:=by
  rcases F.lt with e | e
  ·exact .inl e
  ·exact .inr (by omega)
 rw[show d.take (aU d)=norm d from rfl] at F;rw[<- C];generalize aU d=N at *;generalize norm d=D at *;clear C O S;obtain⟨m,hm⟩:∃ m:Nat,((N:Int)+1) / 2=m:=⟨(N+1) / 2,by omega⟩
 go_enter Tryz.func256,Tryz.ntmps256;go_wp2_with fail;refine t1.mono ?_
 rintro e P ⟨rfl,rfl⟩;clear t1;go_wp2_with (at_make;refine dP rfl _ _ rfl m _ _ rfl rfl (by omega) (by omega) (by omega) ?_;intro w2 f p V);have q:=F.keep p;clear F;go_loopw [4] (fun L wr=>∃ (k:Nat) (l:List Int),k<=N/\L=.int .i64 k/\uW D m k l/\At wr (some ⟨P.heap.size,0,none⟩) P.heap.size 0 l/\Wr P.heap.size 0 m w2 wr) (fun L _=>N - (intOf L).toNat)
 case atStart=>exact⟨0,_,Nat.zero_le _,rfl,⟨by simp,iK _,by rw[fE fun i=>by simp[nth,List.getElem?_replicate];split<;>rfl];rfl⟩,f.at,Wr.refl _ _ _ _⟩
 case round =>
  obtain⟨k,l,hk,rfl,hinv,t,g⟩:=hrel;have hlen:=hinv.len;by_cases X:k < N
  ·obtain⟨i,hi⟩:∃ i:Nat,(k:Int) / 2=i:=⟨k / 2,by omega⟩
   obtain⟨j,hj⟩:∃ j:Nat,(k:Int) % 2=j:=⟨k % 2,by omega⟩
   have W:(i:Int) < m:=by omega
   have hk1:(k:Int) < N:=by omega
   have Y:j < 2:=by omega
   rcases q.loc with e | rfl
   ·subst e;simp at E;omega
   have J:=t.cell i (by omega);have hcb:=(q.wr g I).cell k (by omega);have Q:=g.free (f.free 0 m) i (by omega);rw[Nat.zero_add] at J Q;have B:=yU s (m:=m) (by omega) hinv (by omega);rw[show k / 2=i from by omega,show k % 2=j from by omega] at B;obtain⟨R,u⟩:=B;have HS:=(show Hid _ from u)
   have U:=(show Hid _ from t)
   have HW:=(show Hid _ from g)
   have Z:=s.nth k;clear u t g hinv f q s;generalize nth l i=z at *;generalize nth D k=x at *;go_wp2_with fail;go_region;go_wp2;refine⟨⟨k+1,_,by omega,by go_num,HS.out,?_,?_⟩,by simp[intOf];omega⟩
   ·have:=(U.out.setCell (i:=i) (by omega) (z+x * 2 ^ (32 * j))).drew;rwa [Nat.zero_add] at this
   ·exact(HW.out.setCell (by omega) (by omega) _).drew
  ·have H:k=N:=by omega
   subst H;have G:=hinv.val;rw[List.take_of_length_le (by omega)] at G;have M:=g.free (f.free 0 m);have HB:=p.trans (g.below (Nat.le_refl _))
   have A:aU l=l.length:=by
    have h1:=fh l;by_cases c:aU l < l.length
    ·have h2:=fm hinv.words;have h3:=jz (show aU l<=m - 1 by omega)
     have K:k≠0:=by omega
     have h5:=v32_ge s (by omega) (by rw[E];exact y K)
     have h4:(18446744073709551616:Int) ^ (m - 1)<=4294967296 ^ (D.length - 1):=by
      rw[show (18446744073709551616:Int)=4294967296 ^ 2 from by decide,<- Int.pow_mul];exact sN (by omega)
     rw[G] at h2;omega
    ·omega
   have HI:IsN l (v32 D):=⟨hinv.words,A,G⟩
   clear hinv f g p q G A;go_wp2;go_ret;exact⟨_,l,rfl,jc.of hlen.symm (Nat.le_refl _) (Nat.le_refl _) t M,HI,by omega,HB⟩
theorem kT(ao:Option Addr)(n c b o:Nat)(l:List Int)(w:World)(D:l.length=n)(i:n<=274877906944)(wl:Words l)(I:At w ao b o l) :
  Calls Tryz.prog 248 #[.slice ao n c] w fun e w'=>∃ v r,e=.returned v/\jc w w' v r/\IsN r (val l)/\r.length<=2 * n/\Below w.heap.size w w':=by
 go_enter Tryz.func248,Tryz.ntmps248;go_wp2_with fail;refine(mC ao n c b o l w D i wl I).mono ?_
 rintro e y ⟨v,d,rfl,m,x,F,g,G,j⟩;obtain⟨z,A,H,B,rfl,t,_,p,_⟩:=m.is;have t2:=fW z d.length B A H d y rfl t (by omega) x p;rw[g] at t2;have f:=j.size;clear g;go_wp2_with fail;refine t2.mono ?_
 rintro e J ⟨u,r,rfl,s,C,E,q⟩;go_wp2;go_ret;exact⟨u,r,rfl,s.mono f,C,by omega,j.trans (q.mono f)⟩
end
theorem lh (ao:Option Addr) (n c b o:Nat) (l:List Int) (w:World) (K:l.length=n) (hbig:n<=1099511627776) (G:aZ l) (J:AtB w ao b o l) (X:0 < n->nth l 0≠0) :
  Calls Tryz.prog 232 #[.slice ao n c] w fun e w'=>∃ v r,e=.returned (.tuple #[v,.int .i64 0])/\jc w w' v r/\IsN r (bp l)/\r.length<=2 * n/\Below w.heap.size w w':=by
 obtain⟨m,hm⟩:∃ m:Nat,((n:Int)+7) / 8=m:=⟨(n+7) / 8,by omega⟩
 have hm2:m<=n:=by omega
 have F:l=[]\/b≠w.heap.size:=by
  rcases J.lt with e | e
  ·exact .inl e
  ·exact .inr (by omega)
 by_cases hn:0 < n
 ·rcases J.loc with e | rfl
  ·subst e;simp at K;omega
  have hc:=J.cell 0 (by omega);rw[Nat.add_zero] at hc
  have B:(nth l 0 == 0)=false:=beq_eq_false_iff_ne.2 (X hn)
  have y:nth l 0≠0:=X hn;have HF:=(show Hid _ from y)
  clear y X;go_enter Tryz.func232,Tryz.ntmps232;go_wp2_with (at_make;refine dP rfl _ _ rfl m _ _ rfl rfl (by omega) (by omega) (by omega) ?_;intro V f d O);have s:=J.keep d;clear hc B;go_loopw [5] (fun R wr=>∃ (k:Nat) (q:List Int),k<=n/\R=.int .i64 k/\wE l m k q/\At wr (some ⟨w.heap.size,0,none⟩) w.heap.size 0 q/\Wr w.heap.size 0 m V wr) (fun R _=>n - (intOf R).toNat)
  case atStart=>exact⟨0,_,Nat.zero_le _,rfl,⟨by simp,iK _,by rw[Nat.sub_zero,List.drop_length,fE fun i=>by simp[nth,List.getElem?_replicate];split<;>rfl];rfl⟩,f.at,Wr.refl _ _ _ _⟩
  case round =>
   obtain⟨k,q,hk,rfl,hinv,t,p⟩:=hrel;have hlen:=hinv.len;by_cases hlt:k < n
   ·obtain⟨i,hi⟩:∃ i:Nat,(k:Int) / 8=i:=⟨k / 8,by omega⟩
    obtain⟨j,hj⟩:∃ j:Nat,(k:Int) % 8=j:=⟨k % 8,by omega⟩
    obtain⟨h,hh⟩:∃ h:Nat,(n:Int) - 1 - k=h:=⟨n - 1 - k,by omega⟩
    have hi1:(i:Int) < m:=by omega
    have hh1:(h:Int) < n:=by omega
    have hj1:j < 8:=by omega
    have B:=t.cell i (by omega);have hcb:=(s.wr p F).cell h (by omega);have W:=p.free (f.free 0 m) i (by omega);rw[Nat.zero_add] at B W;have I:=vW G (m:=m) (by omega) hinv (by omega);rw[show k / 8=i from by omega,show k % 8=j from by omega,show l.length - 1 - k=h from by omega] at I;obtain⟨Y,A⟩:=I;have HS:=(show Hid _ from A)
    have HA:=(show Hid _ from t)
    have HW:=(show Hid _ from p)
    have hxx:=G.nth h;clear A t p hinv f s G;generalize nth q i=z at *;generalize nth l h=x at *;go_wp2_with fail;go_region;go_wp2;refine⟨⟨k+1,_,by omega,by go_num,HS.out,?_,?_⟩,by simp[intOf];omega⟩
    ·have:=(HA.out.setCell (i:=i) (by omega) (z+x * 2 ^ (8 * j))).drew;rwa [Nat.zero_add] at this
    ·exact(HW.out.setCell (by omega) (by omega) _).drew
   ·have N:k=n:=by omega
    subst N;have L:=hinv.val;rw[<- K,Nat.sub_self,List.drop_zero] at L;have HB:=d.trans (p.below (Nat.le_refl _));have P:=bG G;have U:=pS G (fun e=>by subst e;simp at K;omega) HF.out
    have H:aU q=q.length:=by
     have h1:=fh q;by_cases c:aU q < q.length
     ·have h2:=fm hinv.words;have h3:=jz (show aU q<=m - 1 by omega)
      have h4:(18446744073709551616:Int) ^ (m - 1)<=256 ^ (l.length - 1):=by
       rw[show (18446744073709551616:Int)=256 ^ 8 from by decide,<- Int.pow_mul];exact eI (by omega)
      rw[L] at h2;omega
     ·omega
    have Z:IsN q (bp l):=⟨hinv.words,H,L⟩
    clear hinv f p d s L P U H;have g:=HB.size;have M:=kT (some ⟨w.heap.size,0,none⟩) m m w.heap.size 0 q wr hlen (by omega) Z.1 t;rw[Z.2.2] at M;go_wp2_with fail;refine M.mono ?_
    rintro e w7 ⟨u,r,rfl,D,C,T,E⟩;go_wp2;go_ret2;exact⟨u,r,rfl,D.mono g,C,by omega,HB.trans (E.mono g)⟩
 ·have S:n=0:=by omega
  subst S
  have e0:l=[]:=List.eq_nil_of_length_eq_zero K;subst e0
  have Q:m=0:=by omega
  subst Q;clear hm J F;go_enter Tryz.func232,Tryz.ntmps232;go_wp2_with (at_make;refine dP rfl _ _ rfl 0 _ _ rfl rfl (by omega) (by omega) (by omega) ?_;intro V f d O);refine wp_loop_rounds 1 ?_
  rw[rounds_succ];have g:=d.size;have M:=kT (some ⟨w.heap.size,0,none⟩) 0 0 w.heap.size 0 [] V rfl (by decide) Words.nil f.at
  go_wp2_with fail;refine M.mono ?_
  rintro e w7 ⟨u,r,rfl,D,C,T,E⟩;go_wp2;go_ret2;exact⟨u,r,rfl,D.mono g,C,by omega,d.trans (E.mono g)⟩
section
variable {w:World}{g n c:Nat}{err e0:Int}{v fv:Value}{ao:Option Addr}{Q:Value->World->Prop}
theorem Cn{t:TypeId}(X:Box w g [.int .i64 err,v] t)(he:err≠0) :
  Calls Tryz.prog 213 #[.pointer (some ⟨g,0,none⟩),fv] w fun e w'=>e=.returned (.bool false)/\w'=w:=by
 have hb:(err == 0)=false:=beq_eq_false_iff_ne.2 he;have t:=e8 X;rw[hb] at t;clear he hb;go_enter Tryz.func213,Tryz.ntmps213;go_wp2_with fail;refine t.mono ?_
 rintro e w' ⟨rfl,rfl⟩;clear t;go_wp2;go_ret;exact⟨rfl,rfl⟩
theorem enBoOk{t:TypeId}(X:Box w g [.int .i64 0,.slice ao n c] t)(b:Calls Tryz.prog 214 #[.pointer (some ⟨g,0,none⟩)] w fun e w'=>∃ v,e=.returned (.tuple #[v,.int .i64 0])/\Q v w') :
  Calls Tryz.prog 213 #[.pointer (some ⟨g,0,none⟩),.func (.func 214) #[.pointer (some ⟨g,0,none⟩)] #[]] w fun e w'=>∃ v,e=.returned v/\Q v w':=by
 obtain⟨c1,c2,j,l⟩:=X.two;have t:=e8 X;go_enter Tryz.func213,Tryz.ntmps213;go_wp2_with fail;refine t.mono ?_
 rintro e w' ⟨rfl,rfl⟩;clear t;go_wp2_with fail;refine b.mono ?_
 rintro e i ⟨v,rfl,d⟩;have f:=(show Hid _ from d)
 clear b d;go_wp2;go_ret;exact⟨v,rfl,f.out⟩
theorem CP{t:TypeId}(he:e0≠0)(X:Box w g [.int .i64 0,.slice ao n c] t)(l:∀ v w1,Q v w1->∃ y,Box w1 g [.int .i64 0,y] t)(j:Calls Tryz.prog 214 #[.pointer (some ⟨g,0,none⟩)] w fun e w'=>∃ v,e=.returned (.tuple #[v,.int .i64 e0])/\Q v w') :
  Calls Tryz.prog 213 #[.pointer (some ⟨g,0,none⟩),.func (.func 214) #[.pointer (some ⟨g,0,none⟩)] #[]] w fun e w'=>e=.returned (.bool false)/\∃ v w1,Q v w1/\w'=(w1.setCell ⟨g,1,none⟩ (.slice ao n c)).setCell ⟨g,0,none⟩ (.int .i64 e0):=by
 obtain⟨c1,c2,r,s⟩:=X.two;have m:=e8 X
 have hb:(e0 != 0)=true:=bne_iff_ne.2 he;have p:=(show Hid _ from l)
 clear he l;go_enter Tryz.func213,Tryz.ntmps213;go_wp2_with fail;refine m.mono ?_
 rintro e w' ⟨rfl,rfl⟩;clear m;go_wp2_with fail;refine j.mono ?_
 rintro e w1 ⟨v,rfl,b⟩;obtain⟨y,i⟩:=p.out v w1 b;have q:=(show Hid _ from b)
 have o:Box (w1.setCell ⟨g,1,none⟩ (.slice ao n c)) g [.int .i64 0,.slice ao n c] t:=cM i _;obtain⟨d1,d2,d3,d4⟩:=i.two;have t3:=pJ (e0:=e0) o;clear j b p X i o c1 c2 r s d1 d3;go_wp2_with fail;refine t3.mono ?_
 rintro e u ⟨rfl,d⟩;have f:=(show Hid _ from d)
 clear t3 d;go_wp2;go_ret;exact⟨rfl,v,w1,q.out,f.out⟩
theorem DI{t:TypeId}(X:Box w g [.int .i64 err,v] t)(he:err≠0) :
  Calls Tryz.prog 240 #[.pointer (some ⟨g,0,none⟩),fv] w fun e w'=>e=.returned (.slice none 0 0)/\w'=w:=by
 have hb:(err == 0)=false:=beq_eq_false_iff_ne.2 he;have t:=e8 X;rw[hb] at t;clear he hb;go_enter Tryz.func240,Tryz.ntmps240;go_wp2_with fail;refine t.mono ?_
 rintro e w' ⟨rfl,rfl⟩;clear t;go_wp2;go_ret;exact⟨rfl,rfl⟩
theorem enNaOk{t:TypeId}(X:Box w g [.int .i64 0,.slice ao n c] t)(b:Calls Tryz.prog 241 #[.pointer (some ⟨g,0,none⟩)] w fun e w'=>∃ v,e=.returned (.tuple #[v,.int .i64 0])/\Q v w') :
  Calls Tryz.prog 240 #[.pointer (some ⟨g,0,none⟩),.func (.func 241) #[.pointer (some ⟨g,0,none⟩)] #[]] w fun e w'=>∃ v,e=.returned v/\Q v w':=by
 obtain⟨c1,c2,j,l⟩:=X.two;have t:=e8 X;go_enter Tryz.func240,Tryz.ntmps240;go_wp2_with fail;refine t.mono ?_
 rintro e w' ⟨rfl,rfl⟩;clear t;go_wp2_with fail;refine b.mono ?_
 rintro e i ⟨v,rfl,d⟩;have f:=(show Hid _ from d)
 clear b d;go_wp2;go_ret;exact⟨v,rfl,f.out⟩
theorem Dz{t:TypeId}(he:e0≠0)(X:Box w g [.int .i64 0,.slice ao n c] t)(l:∀ v w1,Q v w1->∃ y,Box w1 g [.int .i64 0,y] t)(j:Calls Tryz.prog 241 #[.pointer (some ⟨g,0,none⟩)] w fun e w'=>∃ v,e=.returned (.tuple #[v,.int .i64 e0])/\Q v w') :
  Calls Tryz.prog 240 #[.pointer (some ⟨g,0,none⟩),.func (.func 241) #[.pointer (some ⟨g,0,none⟩)] #[]] w fun e w'=>e=.returned (.slice none 0 0)/\∃ v w1,Q v w1/\w'=(w1.setCell ⟨g,1,none⟩ (.slice ao n c)).setCell ⟨g,0,none⟩ (.int .i64 e0):=by
 obtain⟨c1,c2,r,s⟩:=X.two;have m:=e8 X
 have hb:(e0 != 0)=true:=bne_iff_ne.2 he;have p:=(show Hid _ from l)
 clear he l;go_enter Tryz.func240,Tryz.ntmps240;go_wp2_with fail;refine m.mono ?_
 rintro e w' ⟨rfl,rfl⟩;clear m;go_wp2_with fail;refine j.mono ?_
 rintro e w1 ⟨v,rfl,b⟩;obtain⟨y,i⟩:=p.out v w1 b;have q:=(show Hid _ from b)
 have o:Box (w1.setCell ⟨g,1,none⟩ (.slice ao n c)) g [.int .i64 0,.slice ao n c] t:=cM i _;obtain⟨d1,d2,d3,d4⟩:=i.two;have t3:=pJ (e0:=e0) o;clear j b p X i o c1 c2 r s d1 d3;go_wp2_with fail;refine t3.mono ?_
 rintro e u ⟨rfl,d⟩;have f:=(show Hid _ from d)
 clear t3 d;go_wp2;go_ret;exact⟨rfl,v,w1,q.out,f.out⟩
end
end
section
open Pg (ax bJ aB aO cB)
open Go.RowKit Lim
section
variable {w w' w1:World}{g:Nat}{err aw u e0:Int}{p q:Option Addr}{lat l:List Int}{a:Act}{o:Oper}{v:Value}{cs:Array Value}
def dG(err:Int)(p:Option Addr)(aw:Int)(lat:List Int)(u:Int):List Value:=.int .i64 err :: .pointer p :: .int .i64 aw :: (lat.map (Value.int .u8) ++ [.int .i64 u])
structure cR(w:World)(g:Nat)(err:Int)(p:Option Addr)(aw:Int)(lat:List Int)(u:Int):Prop where
 len:lat.length=256
 blk:w.heap[g]?=some (.cells (dG err p aw lat u).toArray 219 (0,0))
theorem cR.box(h:cR w g err p aw lat u):Box w g (dG err p aw lat u) 219:=⟨h.blk⟩
theorem cR.lt(h:cR w g err p aw lat u):g < w.heap.size:=h.box.lt
theorem cR.keep(h:cR w g err p aw lat u)(hb:Below w.heap.size w w'):cR w' g err p aw lat u:=⟨h.len,(h.box.keep hb).blk⟩
theorem cR.off{g':Nat}(h:cR w g err p aw lat u)(hne:g≠g')(hw:∀ k,k≠g'->w'.heap[k]?=w.heap[k]?):cR w' g err p aw lat u:=⟨h.len,by rw[hw g hne];exact h.blk⟩
theorem cR.free(h:cR w g err p aw lat u)(k:Nat):w.frozen? ⟨g,k,none⟩=false:=by
 have:=h.blk;simp[World.frozen?,this]
theorem cR.c0(h:cR w g err p aw lat u):w.cell? ⟨g,0,none⟩=some (.int .i64 err):=by
 have:=h.blk;simp[World.cell?,this,dG]
theorem cR.c1(h:cR w g err p aw lat u):w.cell? ⟨g,1,none⟩=some (.pointer p):=by
 have:=h.blk;simp[World.cell?,this,dG]
theorem cR.c2(h:cR w g err p aw lat u):w.cell? ⟨g,2,none⟩=some (.int .i64 aw):=by
 have:=h.blk;simp[World.cell?,this,dG]
theorem cR.cl(h:cR w g err p aw lat u)(i:Nat)(hi:i < 256):w.cell? ⟨g,3+i,none⟩=some (.int .u8 (nth lat i)):=by
 have hb:=h.blk;have a:=h.len;simp only[World.cell?,hb,dG];rw[show 3+i=i+1+1+1 by omega];simp[List.getElem?_append_left,a,hi,da (l:=lat) (show i < lat.length by omega)]
theorem cR.cu(h:cR w g err p aw lat u):w.cell? ⟨g,259,none⟩=some (.int .i64 u):=by
 have hb:=h.blk;have hl:=h.len;simp only[World.cell?,hb,dG];simp[hl]
theorem cR.set0(h:cR w g err p aw lat u)(x:Int):cR (w.setCell ⟨g,0,none⟩ (.int .i64 x)) g x p aw lat u:=⟨h.len,by
 have:=h.blk;simp only[World.setCell,Array.getElem?_modify,if_true,this]
 simp[dG]⟩
theorem cR.set1(h:cR w g err p aw lat u)(x:Option Addr):cR (w.setCell ⟨g,1,none⟩ (.pointer x)) g err x aw lat u:=⟨h.len,by
 have:=h.blk;simp only[World.setCell,Array.getElem?_modify,if_true,this]
 simp[dG]⟩
theorem cR.CR(h:cR w g err p aw lat u)(x:Int):cR (w.setCell ⟨g,2,none⟩ (.int .i64 x)) g err p x lat u:=⟨h.len,by
 have:=h.blk;simp only[World.setCell,Array.getElem?_modify,if_true,this]
 simp[dG]⟩
theorem cR.setu(h:cR w g err p aw lat u)(x:Int):cR (w.setCell ⟨g,259,none⟩ (.int .i64 x)) g err p aw lat x:=⟨h.len,by
 have hb:=h.blk;have a:=h.len;simp only[World.setCell,Array.getElem?_modify,if_true,hb]
 simp[dG,List.set_append_right,a]⟩
theorem kD(c1:w.cell? ⟨g,0,none⟩=some (.int .i64 err)) :
  Calls Tryz.prog 185 #[.pointer (some ⟨g,0,none⟩)] w fun e w'=>e=.returned (.bool (err == 0))/\w'=w:=by
 go_enter Tryz.func185,Tryz.ntmps185;go_wp2;go_ret;exact⟨rfl,rfl⟩
theorem stMeet(c1:w.cell? ⟨g,0,none⟩=some (.int .i64 0))(c2:w.frozen? ⟨g,0,none⟩=false) :
  Calls Tryz.prog 217 #[.pointer (some ⟨g,0,none⟩),.int .i64 e0] w fun e w'=>e=.returned (.tuple #[])/\w'=w.setCell ⟨g,0,none⟩ (.int .i64 e0):=by
 go_enter Tryz.func217,Tryz.ntmps217;go_wp2_with fail;refine(kD c1).mono ?_
 rintro e w' ⟨rfl,rfl⟩;go_wp2;go_end0;exact⟨rfl,rfl⟩
theorem DL(c1:w.cell? ⟨g,0,none⟩=some (.int .i64 err))(he:(err == 0)=false) :
  Calls Tryz.prog 217 #[.pointer (some ⟨g,0,none⟩),.int .i64 e0] w fun e w'=>e=.returned (.tuple #[])/\w'=w:=by
 have t:=kD c1;rw[he] at t;clear he;go_enter Tryz.func217,Tryz.ntmps217;go_wp2_with fail;refine t.mono ?_
 rintro e w' ⟨rfl,rfl⟩;go_wp2;go_end0;exact⟨rfl,rfl⟩
theorem qF{T:TypeId}(k:Nat){off:Nat}(c:o.op=.load T (.tmp k))(b:a.eval (.tmp k)=.pointer (some ⟨g,off,none⟩))(d:(loadVar T ⟨g,off,none⟩).run Tryz.prog w=.ok v w):(execOp a.eval o).run Tryz.prog w=.ok (.value v) w:=by
 simp only[execOp,c,b];simp[Instr.loadAt,Instr.sureAddr,Result.andThen,d]
theorem pE{T:TypeId}(k q:Nat){off:Nat}(c:o.op=.store T (.tmp k) (.tmp q))(b:a.eval (.tmp k)=.pointer (some ⟨g,off,none⟩))(d:a.eval (.tmp q)=v)(e:(storeVar T ⟨g,off,none⟩ v).run Tryz.prog w=.ok () w1):(execOp a.eval o).run Tryz.prog w=.ok .skip w1:=by
 simp only[execOp,c,b,d];simp[Instr.storeAt,Instr.sureAddr,Result.andThen,e]
theorem vT(c:w.cell? ⟨g,1,none⟩=some (.pointer p)):(loadVar 216 ⟨g,1,none⟩).run Tryz.prog w=.ok (.pointer p) w:=by
 go_simp
theorem vq(c:w.cell? ⟨g,1,none⟩=some (.pointer p))(f:w.frozen? ⟨g,1,none⟩=false):(storeVar 216 ⟨g,1,none⟩ (.pointer q)).run Tryz.prog w=.ok () (w.setCell ⟨g,1,none⟩ (.pointer q)):=by
 go_simp
theorem vg:Tryz.prog.underlying 217=some (.array 256 5):=by kernel_rfl
theorem o8:(Tryz.prog.info? 217).map (·.size)=some 256:=by kernel_rfl
theorem wN{o:Nat}(d:l.length=256)(c:∀ i,i < 256->w.cell? ⟨g,o+i,none⟩=some (.int .u8 (nth l i))):(loadVar 217 ⟨g,o,none⟩).run Tryz.prog w=.ok (.agg (l.map (Value.int .u8)).toArray) w:=by
 have h:=run_loadCells_list (P:=Tryz.prog) w ⟨g,o,none⟩ (l.map (Value.int .u8)) (fun j v f=>by
  obtain⟨a,e⟩:=List.getElem?_eq_some_iff.1 f;rw[List.length_map] at a
  rw[cU,c j (by omega),<- e,List.getElem_map,da a])
 rw[List.length_map,d] at h
 cases hi:Tryz.prog.info? 217 with
 | none=>have:=o8;simp[hi] at this
 | some i =>
  have b:i.size=256:=by have:=o8;simpa[hi] using this
  simp[loadVar,isAgg,run_underlying vg,sizeOf,typeInfo,hi,b,h]
def placesOf(P:Program)(d:Option TypeDesc):Option (List (Nat × Nat)):=match d with
 | some (.struct fs)=>fs.toList.mapM (fun f=>(P.info? f.type).map fun i=>(f.offset,i.size))
 | _=>none
theorem yk:placesOf Tryz.prog (Tryz.prog.underlying 281)=some [(0,1),(1,256)]:=by kernel_rfl
theorem CX:((Tryz.prog.info? 281).bind (·.zero)).map (·.cells.size)=some 257:=by kernel_rfl
theorem zj(p:Option Addr)(A:List Value)(hA:A.length=256):Tryz.prog.built 281 [(0,.pointer p),(1,.agg A.toArray)]=some (Value.pointer p :: A).toArray:=by
 have hu:=yk;have c:=CX;unfold Program.built;generalize Tryz.prog.info? 281=I at *;generalize Tryz.prog.underlying 281=U at *
 cases I with
 | none=>simp at c
 | some it =>
  cases h2:it.zero with
  | none=>simp[h2] at c
  | some z =>
   have a:z.cells.size=257:=by simpa[h2] using c
   cases U with
   | none=>simp[placesOf] at hu
   | some d =>
    cases d<;>try (simp[placesOf] at hu;done)
    case struct fs =>
     simp only[placesOf] at hu;simp only[hu,h2]
     have hc:(Value.pointer p).cells=#[.pointer p]:=rfl
     have e:(Value.agg A.toArray).cells=A.toArray:=rfl;simp only[Instr.fill,hc,e];obtain⟨g1,f⟩:=Great.foldl_set 1 A 0 (z.cells.setIfInBounds 0 (.pointer p));simp[hA,a];apply Array.ext_getElem?;intro k;have b:=f k;simp only[Array.size_setIfInBounds,a,hA] at b;rw[Nat.add_zero] at b;rw[b]
     cases k with
     | zero=>rw[if_neg (by omega)];simp[a]
     | succ k =>
      by_cases g:k < 256
      ·rw[if_pos (by omega)];simp
      ·rw[if_neg (by omega),Array.getElem?_eq_none (by simp[a];omega),Array.getElem?_eq_none (by simp[hA];omega)]
theorem Bt{T:TypeId}(ps:Array (Nat × Operand)){L:List (Nat × Value)}(c:o.op=.build T ps)(b:(ps.map fun(i,x)=>(i,a.eval x)).toList=L)(hb:Tryz.prog.built T L=some cs):(execOp a.eval o).run Tryz.prog w=.ok (.value (.agg cs)) w:=by
 subst b;simp only[execOp,c];simp only[Sem.run_bind,run_build w T _ cs hb,Result.andThen_ok];rfl
theorem wrPut(X:cR w g err p aw lat u)(x:0<=aw)(hb:aw<=4611686018427387904) :
  Calls Tryz.prog 246 #[.pointer (some ⟨g,0,none⟩)] w fun e w'=>e=.returned (.tuple #[])/\cR w' g err (some ⟨w.heap.size,0,none⟩) (aw+256) lat 0/\Box w' w.heap.size (.pointer p :: lat.map (Value.int .u8)) 281/\But g w w':=by
 have Y:=X;have t:=X.lt;have c1:=X.c1;have f1:=X.free 1;have f:=vT X.c1;have d:=wN X.len X.cl;have l:=zj p (lat.map (Value.int .u8)) (by rw[List.length_map];exact X.len);go_enter Tryz.func246,Tryz.ntmps246;go_wp2_with fail;refine bJ (S:=fun _=>True) (by kernel_rfl) trivial ?_
 refine ax 0 2 (.pointer (some ⟨g,0,none⟩)) (by kernel_rfl) (fun _ _=>by kernel_rfl) i3 trivial ?_
 refine ax 1 3 (.pointer (some ⟨g,0,none⟩)) (by kernel_rfl) (fun _ _=>by kernel_rfl) i3 trivial ?_
 refine ax 2 4 (.pointer (some ⟨g,0,none⟩)) (by kernel_rfl) (fun _ _=>by kernel_rfl) i3 trivial ?_
 refine ax 3 5 (.pointer (some ⟨g,1,none⟩)) (by kernel_rfl) (fun _ _=>by kernel_rfl) i3 trivial ?_
 refine ax 5 7 (.pointer (some ⟨g,0,none⟩)) (by kernel_rfl) (fun _ _=>by kernel_rfl) i3 trivial ?_
 refine ax 6 8 (.pointer (some ⟨g,0,none⟩)) (by kernel_rfl) (fun _ _=>by kernel_rfl) i3 trivial ?_
 refine ax 7 9 (.pointer (some ⟨g,3,none⟩)) (by kernel_rfl) (fun _ _=>by kernel_rfl) i3 trivial ?_
 refine aB [4,8] (by kernel_rfl) (by simp) ?_
 have X:cR w.drew g err p aw lat u:=⟨Y.len,Y.blk⟩
 have f:=vT X.c1;have d:=wN X.len X.cl;refine aO 4 (some 6) (.pointer p) _ (by kernel_rfl) (qF 5 (by kernel_rfl) (by kernel_rfl) f) trivial ?_ (aO 8 (some 10) (.agg (lat.map (Value.int .u8)).toArray) _ (by kernel_rfl) (qF 9 (by kernel_rfl) (by kernel_rfl) d) trivial ?_ aL)
 ·refine aB [8] (by kernel_rfl) (by simp) ?_
  refine aO 8 (some 10) (.agg (lat.map (Value.int .u8)).toArray) _ (by kernel_rfl) (qF 9 (by kernel_rfl) (by kernel_rfl) d) trivial ?_ aL;refine aB [9] (by kernel_rfl) (by simp) ?_
  refine aO 9 (some 11) (.agg (Value.pointer p :: lat.map (Value.int .u8)).toArray) _ (by kernel_rfl) (Bt #[(0,.tmp 6),(1,.tmp 10)] (by kernel_rfl) (by kernel_rfl) l) trivial ?_ aL;refine aB [10] (by kernel_rfl) (by simp) ?_
  refine sD 10 (some 12) 281 (Value.pointer p :: lat.map (Value.int .u8)) (by kernel_rfl) (by kernel_rfl) ?_ aL;intro V m b;refine⟨trivial,?_⟩;replace X:=X.keep b;replace b:Below w.heap.size w V:=(Below.refl w.heap.size w).drew.trans b;refine ax 11 13 (.pointer (some ⟨g,0,none⟩)) (by kernel_rfl) (fun _ _=>by kernel_rfl) i3 trivial ?_
  refine ax 12 14 (.pointer (some ⟨g,1,none⟩)) (by kernel_rfl) (fun _ _=>by kernel_rfl) i3 trivial ?_
  refine aB [13] (by kernel_rfl) (by simp) ?_
  refine cB 13 (V.setCell ⟨g,1,none⟩ (.pointer (some ⟨w.heap.size,0,none⟩))) (by kernel_rfl) (pE 14 12 (v:=.pointer (some ⟨w.heap.size,0,none⟩)) (by kernel_rfl) (by kernel_rfl) (by kernel_rfl) (vq X.c1 (X.free 1))) trivial ?_ aL;refine bh (by kernel_rfl) ?_
  try simp only[Act.put,List.setIfInBounds_toArray,List.set_cons_zero,List.set_cons_succ]
  replace X:=X.set1 (some ⟨w.heap.size,0,none⟩)
  have i:Hid (But g w (V.setCell ⟨g,1,none⟩ (.pointer (some ⟨w.heap.size,0,none⟩)))):=⟨b.os,b.tape,b.output,by rw[size_set];exact b.size,fun k n c=>by rw[Below.heap_setCell _ _ _ k c];exact b.block k n⟩
  replace m:Box (V.setCell ⟨g,1,none⟩ (.pointer (some ⟨w.heap.size,0,none⟩))) w.heap.size _ _:=m.off (g':=g) (by show w.heap.size≠g;omega) (fun k j=>Below.heap_setCell _ _ _ k j);clear b;generalize V.setCell ⟨g,1,none⟩ (.pointer (some ⟨w.heap.size,0,none⟩))=W at *;have c2:=X.c2;have f2:=X.free 2;have cu:=X.cu;have s:=X.free 259;clear f d l c1 f1;have r:=(X.CR (aw+256)).setu 0
  have o:Hid (But g w ((W.setCell ⟨g,2,none⟩ (.int .i64 (aw+256))).setCell ⟨g,259,none⟩ (.int .i64 0))):=⟨i.out.os,i.out.tape,i.out.output,by rw[size_set,size_set];exact i.out.size,fun k n c=>by rw[Below.heap_setCell _ _ _ k c,Below.heap_setCell _ _ _ k c];exact i.out.block k n c⟩
  have q:Hid (Box ((W.setCell ⟨g,2,none⟩ (.int .i64 (aw+256))).setCell ⟨g,259,none⟩ (.int .i64 0)) w.heap.size (Value.pointer p :: lat.map (Value.int .u8)) 281):=(m.off (g':=g) (by omega) (fun k j=>Below.heap_setCell _ _ _ k j)).off (g':=g) (by omega) (fun k j=>Below.heap_setCell _ _ _ k j);go_wp2;go_end0;exact⟨rfl,r,q.out,o.out⟩
 ·refine aB [4] (by kernel_rfl) (by simp) ?_
  refine aO 4 (some 6) (.pointer p) _ (by kernel_rfl) (qF 5 (by kernel_rfl) (by kernel_rfl) f) trivial ?_ aL;refine aB [9] (by kernel_rfl) (by simp) ?_
  refine aO 9 (some 11) (.agg (Value.pointer p :: lat.map (Value.int .u8)).toArray) _ (by kernel_rfl) (Bt #[(0,.tmp 6),(1,.tmp 10)] (by kernel_rfl) (by kernel_rfl) l) trivial ?_ aL;refine aB [10] (by kernel_rfl) (by simp) ?_
  refine sD 10 (some 12) 281 (Value.pointer p :: lat.map (Value.int .u8)) (by kernel_rfl) (by kernel_rfl) ?_ aL;intro V m b;refine⟨trivial,?_⟩;replace X:=X.keep b;replace b:Below w.heap.size w V:=(Below.refl w.heap.size w).drew.trans b;refine ax 11 13 (.pointer (some ⟨g,0,none⟩)) (by kernel_rfl) (fun _ _=>by kernel_rfl) i3 trivial ?_
  refine ax 12 14 (.pointer (some ⟨g,1,none⟩)) (by kernel_rfl) (fun _ _=>by kernel_rfl) i3 trivial ?_
  refine aB [13] (by kernel_rfl) (by simp) ?_
  refine cB 13 (V.setCell ⟨g,1,none⟩ (.pointer (some ⟨w.heap.size,0,none⟩))) (by kernel_rfl) (pE 14 12 (v:=.pointer (some ⟨w.heap.size,0,none⟩)) (by kernel_rfl) (by kernel_rfl) (by kernel_rfl) (vq X.c1 (X.free 1))) trivial ?_ aL;refine bh (by kernel_rfl) ?_
  try simp only[Act.put,List.setIfInBounds_toArray,List.set_cons_zero,List.set_cons_succ]
  replace X:=X.set1 (some ⟨w.heap.size,0,none⟩)
  have i:Hid (But g w (V.setCell ⟨g,1,none⟩ (.pointer (some ⟨w.heap.size,0,none⟩)))):=⟨b.os,b.tape,b.output,by rw[size_set];exact b.size,fun k n c=>by rw[Below.heap_setCell _ _ _ k c];exact b.block k n⟩
  replace m:Box (V.setCell ⟨g,1,none⟩ (.pointer (some ⟨w.heap.size,0,none⟩))) w.heap.size _ _:=m.off (g':=g) (by show w.heap.size≠g;omega) (fun k j=>Below.heap_setCell _ _ _ k j);clear b;generalize V.setCell ⟨g,1,none⟩ (.pointer (some ⟨w.heap.size,0,none⟩))=W at *;have c2:=X.c2;have f2:=X.free 2;have cu:=X.cu;have s:=X.free 259;clear f d l c1 f1;have r:=(X.CR (aw+256)).setu 0
  have o:Hid (But g w ((W.setCell ⟨g,2,none⟩ (.int .i64 (aw+256))).setCell ⟨g,259,none⟩ (.int .i64 0))):=⟨i.out.os,i.out.tape,i.out.output,by rw[size_set,size_set];exact i.out.size,fun k n c=>by rw[Below.heap_setCell _ _ _ k c,Below.heap_setCell _ _ _ k c];exact i.out.block k n c⟩
  have q:Hid (Box ((W.setCell ⟨g,2,none⟩ (.int .i64 (aw+256))).setCell ⟨g,259,none⟩ (.int .i64 0)) w.heap.size (Value.pointer p :: lat.map (Value.int .u8)) 281):=(m.off (g':=g) (by omega) (fun k j=>Below.heap_setCell _ _ _ k j)).off (g':=g) (by omega) (fun k j=>Below.heap_setCell _ _ _ k j);go_wp2;go_end0;exact⟨rfl,r,q.out,o.out⟩
end
end
section
open Go.RowKit Lim
section
variable {w w' w1:World}{p ao:Option Addr}{ps l:List Int}{g b o:Nat}{cs:List Value}{err:Int}{v:Value}{ops:Array Oper}{K:Act->World->Prop}
def PcL(w:World):List (Nat×List Int)->Option Addr->List Int->Prop
 | [],p,l=>p=none/\l=[]
 | x::r,p,l=>∃ q s,p=some ⟨x.1,0,none⟩/\l=s ++ x.2/\Box w x.1 (.pointer q::x.2.map (Value.int .u8)) 281/\x.2.length=256/\PcL w r q s
structure Pc(w:World)(p:Option Addr)(l:List Int):Prop where
 ex:∃ L,PcL w L p l
theorem Pc.nil{w}:Pc w none []:=⟨[],rfl,rfl⟩
theorem Pc.cons{w b p ps bs}(hb:Box w b (.pointer p::bs.map (Value.int .u8)) 281)(hl:bs.length=256)(h:Pc w p ps):Pc w (some ⟨b,0,none⟩) (ps ++ bs):=h.ex.elim fun L h=>⟨(b,bs)::L,p,ps,rfl,rfl,hb,hl,h⟩
theorem Pc.ind{w}{M:∀ p l,Pc w p l->Prop}(nil:M _ _ .nil)(cons:∀ {b p ps bs} hb hl (h:Pc w p ps),M p ps h->M _ _ (.cons (b:=b) (bs:=bs) hb hl h)){p l}(h:Pc w p l):M p l h:=by
 obtain ⟨L,e⟩:=h.ex
 induction L generalizing p l with
 | nil=>
  obtain ⟨rfl,rfl⟩:=e
  exact nil
 | cons x r ih=>
  obtain ⟨q,s,rfl,rfl,a,b,c⟩:=e
  exact cons a b ⟨r,c⟩ (ih ⟨r,c⟩ c)
theorem Pc.off(h:Pc w p ps)(X:Box w g cs 219)(hw:∀ k,k < w.heap.size->k≠g->w'.heap[k]?=w.heap[k]?):Pc w' p ps:=by
 induction h using Pc.ind with
 | nil=>exact .nil
 | cons hb hl _ ih =>
  refine .cons ⟨?_⟩ hl ih
  rw[hw _ hb.lt (fun e=>by
   subst e;have a:=hb.blk;rw[X.blk] at a
   simp at a)]
  exact hb.blk
theorem Pc.keep(h:Pc w p ps)(hB:Below w.heap.size w w'):Pc w' p ps:=by
 induction h using Pc.ind with
 | nil=>exact .nil
 | cons hb hl _ ih=>exact .cons (hb.keep hB) hl ih
structure WrA(w:World)(g:Nat)(err:Int)(l:List Int):Prop where
 ex:∃ p ps lat,∃ u:Nat,cR w g err p (ps.length:Int) lat (u:Int)/\Pc w p ps/\u < 256/\l=ps ++ lat.take u
theorem WrA.lt(h:WrA w g err l):g < w.heap.size:=by
 obtain⟨p,ps,lat,u,X,_⟩:=h.ex;exact X.lt
theorem WrA.keep(h:WrA w g err l)(hB:Below w.heap.size w w'):WrA w' g err l:=by
 obtain⟨p,ps,lat,u,X,P,hu,e⟩:=h.ex;exact⟨p,ps,lat,u,X.keep hB,P.keep hB,hu,e⟩
theorem But.refl(g:Nat)(w:World):But g w w:=⟨rfl,rfl,rfl,Nat.le_refl _,fun _ _ _=>rfl⟩
theorem But.trans{d:World}(h:But g w w1)(a:But g w1 d):But g w d:=⟨a.os.trans h.os,a.tape.trans h.tape,a.output.trans h.output,Nat.le_trans h.size a.size,fun k c b=>(a.block k (Nat.lt_of_lt_of_le c h.size) b).trans (h.block k c b)⟩
theorem But.drew(h:But g w w1):But g w w1.drew:=⟨h.os,h.tape,h.output,h.size,h.block⟩
theorem But.cell(h:But g w w1)(hc:w.cell? ⟨b,o,none⟩=some v)(hb:b≠g):w1.cell? ⟨b,o,none⟩=some v:=by
 rw[World.cell?_of_block (w:=w) (h.block b (aH hc) hb)];exact hc
theorem Cb(err:Int)(p:Option Addr)(aw:Int)(lat ms:List Int)(x:Int)(u:Nat)(h:u+ms.length<=lat.length) :
  splice (dG err p aw lat x) (3+u) (ms.map (Value.int .u8))=dG err p aw (lat.take u ++ ms ++ lat.drop (u+ms.length)) x:=by
 unfold splice dG;rw[show 3+u=u+1+1+1 by omega,List.length_map,show u+1+1+1+ms.length=u+ms.length+1+1+1 by omega];simp only[List.take_succ_cons,List.drop_succ_cons,List.cons_append];rw[List.take_append_of_le_length (by rw[List.length_map];omega),List.drop_append_of_le_length (by rw[List.length_map];omega)];simp
theorem uK{P:Program}{o:Oper}{a:Act}{Q:Exit->Act->World->Prop}{E:Prop}(i:o.guard=none)(d s:Operand)(l n:TypeId)(q:o.op=.call { callee:=.builtin .copy,args:=#[d,s],argTypes:=#[l,n] })(elem:TypeId)(hu:P.underlying l=some (.slice elem))(k:(P.info? elem).map (·.size)=some 1)(g off dLen dCap:Nat)(ad:Addr)(sLen sCap:Nat)(r:a.eval d=.slice (some ⟨g,off,none⟩) dLen dCap)(x:a.eval s=.slice (some ad) sLen sCap)(cur:List Value)(t:TypeId)(p:w.heap[g]?=some (.cells cur.toArray t (0,0)))(cs:List Value)(m:Nat)(hm:cs.length=m)(hn:m=Nat.min sLen dLen)(f:∀ j v,cs[j]?=some v->w.cell? (ad.add j)=some v)(c:off+m<=cur.length)(u:∀ v∈cs,v.oneCell'=true)(h:∀ w',Hid (w'.heap[g]?=some (.cells (splice cur off cs).toArray t (0,0)))->Hid (∀ b,b≠g->w'.heap[b]?=w.heap[b]?)->Hid (w'.os=w.os/\w'.tape=w.tape/\w'.output=w.output/\w'.heap.size=w.heap.size)->K (a.put o.dst (.int .i64 (m:Int))) w') :
  if Region.wanted o (yielded ops a.tmps)=true then Oper.wp P o a w K Q else E:=by
 subst hm
 have hw:Region.wanted o (yielded ops a.tmps)=true:=by simp[Region.wanted,i]
 rw[if_pos hw];have e:=run_copy_row (P:=P) w l n o.type elem g off dLen dCap ad sLen sCap cur.toArray t cs hu k p hn f (by simpa using c) u;unfold Oper.wp;simp[execOp,q,resolve,invoke,builtin,r,x,e,Result.andThen];exact h _ (show _=_ by simpa[splice] using setRow_heap w g _ _ t _ p) (fun b hb=>setRow_other w g b _ hb) ⟨rfl,rfl,rfl,by simp[World.setRow]⟩
theorem we:(Tryz.prog.info? 5).map (·.size)=some 1:=by kernel_rfl
theorem ye(g u:Nat)(h:u < 256)(W:World):(Instr.sliceAt 217 (.pointer (some ⟨g,3,none⟩)) (some (.int .i64 (u:Int))) none none).run Tryz.prog W=.ok (.slice (some ⟨g,3+u,none⟩) (256 - u) (256 - u)) W:=by
 have a:Tryz.prog.arrayLen 217=256:=by kernel_rfl
 have b:Tryz.prog.elem 217=5:=by kernel_rfl
 have hu:Tryz.prog.underlying 217=some (.array (Tryz.prog.arrayLen 217) (Tryz.prog.elem 217)):=by kernel_rfl
 have c:(sizeOf 5).run Tryz.prog W=.ok 1 W:=by kernel_rfl
 rw[run_sliceAt_array_l W 217 ⟨g,3,none⟩ hu .i64 (u:Int) (by omega) (by rw[a];omega),b,c,a];simp only[Result.andThen,slicedAt,Int.toNat_natCast,Nat.mul_one];rw[if_neg (by omega)];congr 3
 exact cU g 3 u
theorem sliceB(ao:Option Addr)(n c m:Nat)(W:World)(hm:m<=n)(hn:n<=c):(Instr.sliceAt 36 (.slice ao n c) (some (.int .i64 (m:Int))) none none).run Tryz.prog W=.ok (.slice (bV ao c m) (n - m) (c - m)) W:=by
 have d:(m:Int)<=n:=by omega
 have b:(m:Int)<=c:=by omega
 unfold bV;split
 ·go_simp
 ·go_simp
def lenV(v:Value):Nat:=match v with
 | .slice _ n _=>n
 | _=>0
theorem wrLay{n c:Nat}{L:List Int}(X:WrA w g 0 L)(ha:AtB w ao b o l)(hl:l.length=n)(hc:n<=c)(hb:b≠g)(hbig:L.length+n<=4611686018427387904) :
  Calls Tryz.prog 225 #[.pointer (some ⟨g,0,none⟩),.slice ao n c] w fun e w'=>e=.returned (.tuple #[])/\WrA w' g 0 (L ++ l)/\But g w w':=by
 have HX:Hid (WrA w g 0 L):=X
 have HA:Hid (AtB w ao b o l):=ha;clear X ha;go_enter Tryz.func225,Tryz.ntmps225;go_wp2_with fail;go_loopw [1] (fun tb wr=>∃ k r a' D,Hid (k+r=n)/\tb=.slice a' r D/\r<=D/\Hid (0 < r->a'=some ⟨b,o+k,none⟩)/\WrA wr g 0 (L ++ l.take k)/\But g w wr) (fun tb _=>lenV tb)
 case atStart=>exact⟨0,n,ao,c,Nat.zero_add n,rfl,hc,fun h=>by
  rcases HA.out.loc with e | e
  ·rw[e] at hl;simp at hl;omega
  ·rw[e];rfl,by simpa using HX.out,But.refl _ _⟩
 case round =>
  obtain⟨k,r,a',D,E,rfl,hkc,A,Y,y⟩:=hrel;obtain⟨p,ps,d,u,z,P0,hu,hL⟩:=Y.ex;have HL:=(show Hid _ from hL)
  have hps:(ps.length:Int)<=4611686018427387904:=by have i:=congrArg List.length hL;simp at i;have:=E.out;omega
  have HP:=(show Hid _ from P0)
  have Q:=(show Hid _ from y)
  have t:=kD z.c0
  have HY:Hid (WrA wr g 0 (L ++ l.take k)):=Y;clear hL P0 y Y;go_wp2_with fail;refine t.mono ?_
  rintro e w1 ⟨rfl,rfl⟩;clear t;by_cases I:0 < r
  ·obtain rfl:=A.out I
   have hlt':(0:Int) < r:=by omega
   obtain⟨m,hm⟩:∃ m,m=Nat.min r (256 - u):=⟨_,rfl⟩
   have hm1:m<=r:=by rw[hm];exact Nat.min_le_left _ _
   have hm2:m<=256 - u:=by rw[hm];exact Nat.min_le_right _ _
   have hm3:1<=m:=by rw[hm];exact Nat.le_min.2 ⟨I,by omega⟩
   have HM:=(show Hid _ from hm)
   clear hm;obtain⟨ms,x⟩:∃ ms,ms=(l.drop k).take m:=⟨_,rfl⟩
   have J:ms.length=m:=by rw[x,List.length_take,List.length_drop];have:=E.out;omega
   have F:=z.len;have q:=(show Hid _ from J)
   have M:=(show Hid _ from x)
   have HS:Hid (∀ W,But g w W->∀ j v,(ms.map (Value.int .u8))[j]? = some v->W.cell? ((⟨b,o + k,none⟩:Addr).add j)=some v):=fun W hW j v Z=>by
    obtain⟨i,B⟩:=List.getElem?_eq_some_iff.1 Z;rw[List.length_map] at i;rw[List.getElem_map] at B;have hh:=E.out;rw[cU];refine hW.cell ?_ hb;rw[<- B,show o+k+j=o+(k+j) by omega,HA.out.cell (k+j) (by omega),<- da i,x,dw (by omega),fO]
   have K:=Cb 0 p (ps.length:Int) d ms (u:Int) u (by omega);have V:=(show Hid _ from K)
   have s:=(show Hid _ from F)
   clear K J x F;have cu:=z.cu;have hsl:=ye g u hu
   have HC:Hid (∀ W,(Instr.sliceAt 36 (.slice (some ⟨b,o+k,none⟩) r D) (some (.int .i64 (m:Int))) none none).run Tryz.prog W=.ok (.slice (bV (some ⟨b,o+k,none⟩) D m) (r - m) (D - m)) W):=fun W=>sliceB _ _ _ _ W hm1 hkc
   go_wp2_with fail;go_region_law (refine uK rfl (.tmp 21) (.tmp 22) 36 36 rfl 5 bW we g (3+u) (256 - u) (256 - u) ⟨b,o+k,none⟩ r D (by rfl) (by rfl) _ 219 z.blk (ms.map (Value.int .u8)) m (by rw[List.length_map];exact q.out) HM.out (fun j v Z=>HS.out _ Q.out.drew j v Z) (by simp[dG,s.out];omega) (by simp[Value.oneCell']) ?_;intro w4 N O f)
   have G:cR w4 g 0 p (ps.length:Int) (d.take u ++ ms ++ d.drop (u+ms.length)) (u:Int):=⟨by have:=q.out;have:=s.out;simp;omega,by rw[<- V.out];exact N.out⟩
   have P:=G.setu ((u:Int)+(m:Int))
   have S:Hid (But g w1 (w4.setCell ⟨g,259,none⟩ (.int .i64 ((u:Int)+(m:Int))))):=⟨f.out.1,f.out.2.1,f.out.2.2.1,by rw[size_set,f.out.2.2.2];exact Nat.le_refl _,fun j i B=>by rw[Below.heap_setCell _ _ _ j B,O.out j B];rfl⟩
   have U:=G.cu;have fu4:=G.free 259;have cu5:=P.cu;have H:=HC.out;clear cu hsl N O f;by_cases hf:u+m=256
   ·have hq:(((u:Int) + (m:Int)) == 256)=true:=by rw[beq_iff_eq]; omega
    have HF:=(show Hid _ from hf)
    clear hf;go_wp2_with fail;refine(wrPut P (by omega) hps).mono ?_
    rintro e w6 ⟨rfl,R,XB,C⟩
    have T:Hid (WrA w6 g 0 (L ++ l.take (k+m))):=by
     have i:=q.out;have B:=s.out;have h3:=HF.out
     have e1:d.drop (u+ms.length)=[]:=List.drop_eq_nil_of_le (by omega)
     have e2:L ++ l.take (k+m)=ps ++ (d.take u ++ ms ++ d.drop (u+ms.length)):=by
      rw[List.take_add,<- List.append_assoc,HL.out,<- M.out,e1,List.append_nil,List.append_assoc]
     refine⟨some ⟨_,0,none⟩,ps ++ (d.take u ++ ms ++ d.drop (u+ms.length)),d.take u ++ ms ++ d.drop (u+ms.length),0,?_,.cons XB R.len (HP.out.off z.box (S.out.trans C).block),by omega,?_⟩
     ·have e3:(((ps ++ (d.take u ++ ms ++ d.drop (u + ms.length))).length:Nat):Int)=(ps.length:Int) + 256:=by rw[List.length_append,R.len]; rfl
      rw[e3];exact R
     ·rw[e2];simp
    have H7:Hid (But g w w6):=Q.out.trans (S.out.trans C);clear R XB C G P U cu5 fu4 hq z H;go_wp2;go_roundw
    case rel=>exact⟨k + m,r - m,_,_,by show _=_; have:=E.out; omega,rfl,by omega,fun h=>by
     unfold bV;rw[if_neg (by omega)];show some ((⟨b,o+k,none⟩:Addr).add m)=_;rw[cU,Nat.add_assoc],T.out,H7.out⟩
    case measure=>simp[lenV];omega
   ·have hq:(((u:Int) + (m:Int)) == 256)=false:=by rw[beq_eq_false_iff_ne]; omega
    have T:Hid (WrA (w4.setCell ⟨g,259,none⟩ (.int .i64 ((u:Int)+(m:Int)))) g 0 (L ++ l.take (k+m))):=by
     have i:=q.out;have B:=s.out;refine⟨p,ps,_,u+m,P,HP.out.off z.box S.out.block,by omega,?_⟩
     have e4:(d.take u ++ ms ++ d.drop (u+ms.length)).take (u+m)=d.take u ++ ms:=by
      rw[List.take_append_of_le_length (by simp;omega)];exact List.take_of_length_le (by simp;omega)
     rw[e4,List.take_add,<- List.append_assoc,HL.out,<- M.out,List.append_assoc]
    have H7:=(show Hid _ from Q.out.trans S.out)
    have HF:=(show Hid _ from hf)
    clear hf G P z;go_wp2;go_roundw
    case rel=>exact⟨k + m,r - m,_,_,by show _=_; have:=E.out; omega,rfl,by omega,fun h=>by
     unfold bV;rw[if_neg (by omega)];show some ((⟨b,o+k,none⟩:Addr).add m)=_;rw[cU,Nat.add_assoc],T.out,H7.out⟩
    case measure=>simp[lenV];omega
  ·obtain rfl:r=0:=by omega
   have HE:Hid (WrA w1 g 0 (L ++ l)):=by
    have i:=HY.out;rw[List.take_of_length_le (by have:=E.out;omega)] at i;exact i
   go_wp2;go_end0;exact⟨rfl,HE.out,Q.out⟩
end
section
variable {x err:Int}{w:World}{g n c b o k m:Nat}{ao:Option Addr}{L l ds:List Int}{cs:List Value}
def be:Nat->Int->List Int
 | 0,_=>[]
 | m+1,x=>x / 256 ^ m % 256 :: be m x
theorem aD(m:Nat)(x:Int):(be m x).length=m:=by
 induction m with
 | zero=>rfl
 | succ m ih=>rw[be,List.length_cons,ih]
theorem uZ(m:Nat)(x:Int):∀ i,i < m->nth (be m x) i=x / 256 ^ (m - 1 - i) % 256:=by
 induction m with
 | zero=>intro i hi;omega
 | succ m ih =>
  intro i hi
  cases i with
  | zero=>rfl
  | succ i =>
   rw[be,dL,ih i (by omega),show m - 1 - i=m+1 - 1 - (i+1) by omega]
theorem dE(m:Nat)(x:Int):aZ (be m x):=by
 induction m with
 | zero=>intro y hy;simp[be] at hy
 | succ m ih =>
  intro y hy;rw[be] at hy;rcases List.mem_cons.1 hy with e | e
  ·subst e;exact⟨Int.emod_nonneg _ (by decide),Int.emod_lt_of_pos _ (by decide)⟩
  ·exact ih y e
theorem pL(m:Nat)(hx:0<=x):bp (be m x)=x % 256 ^ m:=by
 induction m with
 | zero=>simp[be,bp]
 | succ m ih=>rw[be,bp,aD,ih,<- mS x hx m]
def wrote(err:Int)(L l:List Int):List Int:=if err=0 then L ++ l else L
theorem wrLayE(X:WrA w g err L)(he:err≠0) :
  Calls Tryz.prog 225 #[.pointer (some ⟨g,0,none⟩),.slice ao n c] w fun e w'=>e=.returned (.tuple #[])/\w'=w:=by
 obtain⟨p,ps,f,u,b,_⟩:=X.ex;have t:=kD b.c0;rw[beq_eq_false_iff_ne.2 he] at t;clear X b he;go_enter Tryz.func225,Tryz.ntmps225;go_wp2_with fail;go_loopw [1] (fun d wr=>d=.slice ao n c/\wr=w) (fun _ _=>0)
 case atStart=>exact⟨rfl,rfl⟩
 case round =>
  obtain⟨rfl,rfl⟩:=hrel;go_wp2_with fail;refine t.mono ?_
  rintro e i ⟨rfl,rfl⟩;clear t;go_wp2;go_end0;exact⟨rfl,rfl⟩
theorem Ba(X:WrA w g err L)(h:AtB w ao b o l)(d:l.length=n)(hc:n<=c)(hb:b≠g)(a:L.length+n<=4611686018427387904) :
  Calls Tryz.prog 225 #[.pointer (some ⟨g,0,none⟩),.slice ao n c] w fun e w'=>e=.returned (.tuple #[])/\WrA w' g err (wrote err L l)/\But g w w':=by
 unfold wrote;by_cases he:err=0
 ·subst he;rw[if_pos rfl];exact wrLay X h d hc hb a
 ·rw[if_neg he];refine(wrLayE X he).mono ?_
  rintro e w' ⟨i,f⟩;subst f;exact⟨i,X,But.refl _ _⟩
theorem slice8(g m:Nat)(h:m<=8)(W:World):(Instr.sliceAt 302 (.pointer (some ⟨g,0,none⟩)) none (some (.int .i64 (m:Int))) none).run Tryz.prog W=.ok (.slice (some ⟨g,0,none⟩) m 8) W:=by
 have b:(m:Int)<=8:=by omega
 go_simp
theorem AB{v:Int}(hk:k < ds.length):(ds.set k v).take (k+1)=ds.take k ++ [v]:=by
 rw[cF (by rw[List.length_set];exact hk),lX hk,if_pos rfl,List.take_set_of_le (Nat.le_refl _)]
theorem Box.bytes{t:TypeId}(h:Box w g (ds.map (Value.int .u8)) t){i:Nat}(hi:i < ds.length):w.cell? ⟨g,i,none⟩=some (.int .u8 (nth ds i)):=by
 simp[World.cell?,h.blk,hi,da hi]
theorem Box.thaw{t:TypeId}(h:Box w g cs t)(i:Nat):w.frozen? ⟨g,i,none⟩=false:=by simp[World.frozen?,h.blk]
theorem Box.setB{t:TypeId}(h:Box w g (ds.map (Value.int .u8)) t)(i:Nat)(x:Int):Box (w.setCell ⟨g,i,none⟩ (.int .u8 x)) g ((ds.set i x).map (Value.int .u8)) t:=⟨by
 have hb:=h.blk;simp only[World.setCell,Array.getElem?_modify,if_true,hb]
 simp⟩
theorem yV(X:WrA w g err L)(hm:m<=8)(C:L.length+8<=4611686018427387904) :
  Calls Tryz.prog 182 #[.pointer (some ⟨g,0,none⟩),.int .u64 x,.int .i64 m] w fun e w'=>e=.returned (.tuple #[])/\WrA w' g err (wrote err L (be m x))/\But g w w':=by
 have M:Hid (WrA w g err L):=X;have O:=X.lt;have N:=fy w ((List.replicate 8 (0:Int)).map (Value.int .u8)) 302;have B:=af w (.cells #[.int .u8 0,.int .u8 0,.int .u8 0,.int .u8 0,.int .u8 0,.int .u8 0,.int .u8 0,.int .u8 0] 302);have F:=(show Hid _ from N)
 have u:=(show Hid _ from B)
 clear X N B;go_enter Tryz.func182,Tryz.ntmps182;go_wp2_with fail;go_loopw [9] (fun v wr=>∃ (k:Nat) (o:List Int),k<=m/\v=.int .i64 k/\o.length=8/\Hid (o.take k=(be m x).take k)/\Box wr w.heap.size (o.map (Value.int .u8)) 302/\Below w.heap.size w wr) (fun v _=>m - (intOf v).toNat)
 case atStart=>exact⟨0,List.replicate 8 0,Nat.zero_le _,rfl,rfl,rfl,F.out,u.out⟩
 case round =>
  obtain⟨k,o,P,rfl,hlen,f,d,b⟩:=hrel;by_cases j:k < m
  ·obtain⟨h,Q⟩:∃ h:Nat,(m:Int) - 1 - k=h:=⟨m - 1 - k,by omega⟩
   have q:m - 1 - k=h:=by omega
   have K:Hid ((o.set k (x / 2 ^ (8 * h) % 256)).take (k+1)=(be m x).take (k+1)):=by
    have e1:(256:Int) ^ h=2 ^ (8 * h):=by rw[Int.pow_mul];rfl
    show _=_
    rw[AB (by omega),f.out,cF (by rw[aD];exact j),uZ m x k j,q,e1]
   have E:(k:Int) < 8:=by omega
   have I:h < 8:=by omega
   have c1:=d.bytes (i:=k) (by omega);have f1:=d.thaw k;have D:=(show Hid _ from d.setB k (x / 2 ^ (8 * h) % 256))
   have y:=(show Hid _ from b)
   have r:=(show Hid _ from hlen)
   clear q d b f hlen;go_wp2_with fail;refine⟨⟨k+1,_,by omega,by go_num,by rw[List.length_set];exact r.out,K.out,D.out,y.out.setCell (p:=⟨w.heap.size,k,none⟩) (Nat.le_refl _) _⟩,by simp[intOf];omega⟩
  ·obtain rfl:k=m:=by omega
   have A:AtB wr (some ⟨w.heap.size,0,none⟩) w.heap.size 0 (be k x):=⟨.inr rfl,fun i hi=>by
    rw[aD] at hi;have e:=f.out;rw[List.take_of_length_le (l:=be k x) (by rw[aD];exact Nat.le_refl _)] at e
    rw[Nat.zero_add,d.bytes (by omega),<- e,dw hi]⟩
   have t:=Ba (n:=k) (c:=8) (M.out.keep b) A (aD k x) hm (by omega) (by omega);have J:=slice8 w.heap.size k hm
   have y:Hid (∀ w',But g wr w'->But g w w'):=fun w' hb=>(⟨b.os,b.tape,b.output,b.size,fun k s _=>b.block k s⟩:But g w wr).trans hb
   clear A d b f;go_wp2_with fail;refine t.mono ?_
   rintro e H ⟨rfl,s,z⟩;have G:=(show Hid _ from y.out H z)
   clear t z;go_wp2;go_end0;exact⟨rfl,s,G.out⟩
theorem yR(h:n < 256 ^ k):(n:Int) / 2 ^ (8 * k)=0:=by
 have e:(2:Int) ^ (8 * k)=((256 ^ k:Nat):Int):=by rw[Int.pow_mul,Int.natCast_pow];rfl
 rw[e];exact Int.ediv_eq_zero_of_lt (by omega) (by omega)
def dz(m:Nat)(l:List Int):List Int:=be m l.length ++ l
theorem ym(err:Int)(L l r:List Int):wrote err (wrote err L l) r=wrote err L (l ++ r):=by
 unfold wrote;by_cases h:err=0
 ·rw[if_pos h,if_pos h,if_pos h,List.append_assoc]
 ·rw[if_neg h,if_neg h,if_neg h]
theorem xN(err:Int)(L l:List Int):(wrote err L l).length<=L.length+l.length:=by
 unfold wrote;split
 ·rw[List.length_append];exact Nat.le_refl _
 ·exact Nat.le_add_right _ _
theorem But.at{w':World}(h:But g w w')(k:AtB w ao b o l)(hb:b≠g):AtB w' ao b o l:=⟨k.loc,fun i hi=>h.cell (k.cell i hi) hb⟩
theorem wrCnt(X:WrA w g err L)(r:AtB w ao b o l)(p:l.length=n)(hc:n<=c)(hb:b≠g)(hm:m=1\/m=4)(hn:n < 256 ^ m)(q:L.length+n+16<=4611686018427387904) :
  Calls Tryz.prog 226 #[.pointer (some ⟨g,0,none⟩),.slice ao n c,.int .i64 m] w fun e w'=>e=.returned (.tuple #[])/\WrA w' g err (wrote err L (dz m l))/\But g w w':=by
 have t:=yV (m:=m) (x:=(n:Int)) X (by omega) (by omega);have B:=yR hn
 have u:m<=4:=by omega
 have A:=(show Hid _ from hm)
 have C:=(show Hid _ from hn)
 clear X hm hn;go_enter Tryz.func226,Tryz.ntmps226;go_wp2_with fail;refine t.mono ?_
 rintro e z ⟨rfl,s,d⟩;have t2:=Ba s (d.at r hb) p hc hb (by have:=xN err L (be m n);rw[aD] at this;omega);rw[ym] at t2
 have v:Hid (be m n ++ l=dz m l):=by show _=_;unfold dz;rw[p]
 have i:=(show Hid _ from d)
 clear t s d r;go_wp2_with fail;refine t2.mono ?_
 rintro e D ⟨rfl,y,f⟩;have j:=(show Hid _ from i.out.trans f)
 clear t2 f;go_wp2;go_end0;exact⟨rfl,by rw[<- v.out];exact y,j.out⟩
theorem EF(h:256 ^ k<=n):((n:Int) / 2 ^ (8 * k) != 0)=true:=by
 have e:(2:Int) ^ (8 * k)=((256 ^ k:Nat):Int):=by rw[Int.pow_mul,Int.natCast_pow];rfl
 rw[e,bne_iff_ne]
 have b:0 < n / 256 ^ k:=Nat.div_pos h (Nat.pow_pos (by decide))
 have a:(n:Int) / ((256 ^ k:Nat):Int)=((n / 256 ^ k:Nat):Int):=rfl;omega
def long(err:Int):Int:=if err=0 then 42 else err
theorem DZ{e0:Int}(X:WrA w g err L) :
  Calls Tryz.prog 217 #[.pointer (some ⟨g,0,none⟩),.int .i64 e0] w fun e w'=>e=.returned (.tuple #[])/\WrA w' g (if err=0 then e0 else err) L/\But g w w':=by
 obtain⟨p,ps,c,u,a,i,hu,h⟩:=X.ex;by_cases he:err=0
 ·subst he;rw[if_pos rfl];refine(stMeet a.c0 (a.free 0)).mono ?_
  rintro e w' ⟨b,rfl⟩
  have d:But g w (w.setCell ⟨g,0,none⟩ (.int .i64 e0)):=⟨rfl,rfl,rfl,by rw[size_set];exact Nat.le_refl _,fun k _ f=>Below.heap_setCell _ _ _ k f⟩
  exact⟨b,⟨p,ps,c,u,a.set0 e0,i.off a.box d.block,hu,h⟩,d⟩
 ·rw[if_neg he];refine(DL a.c0 (beq_eq_false_iff_ne.2 he)).mono ?_
  rintro e w' ⟨b,rfl⟩;exact⟨b,X,But.refl _ _⟩
theorem xX(X:WrA w g err L)(hc:n<=9223372036854775807)(hm:m<=4)(hn:256 ^ m<=n) :
  Calls Tryz.prog 226 #[.pointer (some ⟨g,0,none⟩),.slice ao n c,.int .i64 m] w fun e w'=>e=.returned (.tuple #[])/\WrA w' g (long err) L/\But g w w':=by
 have t:=DZ (e0:=42) X;have l:=EF hn;have o:=(show Hid _ from hn)
 clear X hn;go_enter Tryz.func226,Tryz.ntmps226;go_wp2_with fail;refine t.mono ?_
 rintro e j ⟨rfl,f,b⟩;have i:=(show Hid _ from f)
 have d:=(show Hid _ from b)
 clear t f b;go_wp2;(try simp only[Exit.inBlock,Exit.then])
 refine bodyPost_ret (results_none rfl _ _ _) rfl ?_
 exact⟨rfl,i.out,d.out⟩
theorem wrU8(X:WrA w g err L)(d:0<=x)(hx:x < 256)(b:L.length+8<=4611686018427387904) :
  Calls Tryz.prog 183 #[.pointer (some ⟨g,0,none⟩),.int .u8 x] w fun e w'=>e=.returned (.tuple #[])/\WrA w' g err (wrote err L (be 1 x))/\But g w w':=by
 have t:=yV (m:=1) (x:=x) X (by decide) b;clear X;go_enter Tryz.func183,Tryz.ntmps183;go_wp2_with fail;refine t.mono ?_
 rintro e i ⟨rfl,f,c⟩;clear t;go_wp2;go_end0;exact⟨rfl,f,c⟩
theorem wj(X:WrA w g err L)(b:L.length+8<=4611686018427387904) :
  Calls Tryz.prog 133 #[.pointer (some ⟨g,0,none⟩),.int .u64 x] w fun e w'=>e=.returned (.tuple #[])/\WrA w' g err (wrote err L (be 8 x))/\But g w w':=by
 have t:=yV (m:=8) (x:=x) X (by decide) b;clear X;go_enter Tryz.func133,Tryz.ntmps133;go_wp2_with fail;refine t.mono ?_
 rintro e f ⟨rfl,d,c⟩;clear t;go_wp2;go_end0;exact⟨rfl,d,c⟩
theorem pV{x:Bool}(X:WrA w g err L)(b:L.length+8<=4611686018427387904) :
  Calls Tryz.prog 135 #[.pointer (some ⟨g,0,none⟩),.bool x] w fun e w'=>e=.returned (.tuple #[])/\WrA w' g err (wrote err L (be 1 (if x then 1 else 0)))/\But g w w':=by
 cases x
 ·have t:=wrU8 (x:=0) X (by decide) (by decide) b;clear X;go_enter Tryz.func135,Tryz.ntmps135;go_wp2_with fail;refine t.mono ?_
  rintro e f ⟨rfl,d,c⟩;clear t;go_wp2;go_end0;exact⟨rfl,d,c⟩
 ·have t:=wrU8 (x:=1) X (by decide) (by decide) b;clear X;go_enter Tryz.func135,Tryz.ntmps135;go_wp2_with fail;refine t.mono ?_
  rintro e f ⟨rfl,d,c⟩;clear t;go_wp2;go_end0;exact⟨rfl,d,c⟩
end
section
variable {V err:Int}{g n c:Nat}{w:World}{ao:Option Addr}{L:List Int}
def cW(V:Int):List Int:=be ((bitLen V.toNat+7) / 8) V
theorem pK(b:0<=V):IsB (cW V) V:=by
 obtain⟨c,f⟩:=oD b;unfold cW;generalize (bitLen V.toNat+7) / 8=k at *;refine⟨dE k V,fun a=>?_,by rw[pL k b,Int.emod_eq_of_lt b c]⟩
 have g:k≠0:=fun e=>a (by rw[e];rfl)
 rw[uZ k V 0 (by omega),show k - 1 - 0=k - 1 by omega]
 have d:(0:Int) < 256 ^ (k - 1):=Int.pow_pos (by decide)
 have i:1<=V / 256 ^ (k - 1):=by rw[Int.le_ediv_iff_mul_le d];have:=f g;omega
 have h:V / 256 ^ (k - 1) < 256:=by
  rw[Int.ediv_lt_iff_lt_mul d,Int.mul_comm,<- Int.pow_succ,show (k - 1).succ=k from by omega];exact c
 rw[Int.emod_eq_of_lt (by omega) h];omega
theorem rR(V:Int):aZ (cW V):=dE _ _
def ff(V err:Int):Int:=if (cW V).length < 256 then err else long err
def fN(V err:Int)(L:List Int):List Int:=if (cW V).length < 256 then wrote err L (dz 1 (cW V)) else L
theorem But.of{w':World}(h:Below w.heap.size w w'):But g w w':=⟨h.os,h.tape,h.output,h.size,fun k h1 _=>h.block k h1⟩
theorem wrNat(X:WrA w g err L)(h:ef w ao n c V)(hn:n<=1099511627776)(F:L.length+8 * n+16<=4611686018427387904) :
  Calls Tryz.prog 184 #[.pointer (some ⟨g,0,none⟩),.slice ao n c] w fun e w'=>e=.returned (.tuple #[])/\WrA w' g (ff V err) (fN V err L)/\But g w w':=by
 obtain⟨b,o,l,D,A,p,B,x⟩:=h.ex;have t:=ec ao n c b o l w D A hn p B;rw[x] at t
 have H:0<=V:=by rw[<- x];exact cJ p
 have Q:=X.lt
 have N:Hid (WrA w g err L):=X;clear X h D A p B x;go_enter Tryz.func184,Tryz.ntmps184;go_wp2_with fail;refine t.mono ?_
 rintro e O ⟨v,r,rfl,G,E,-,J,z⟩;obtain⟨y,P,R,I,rfl,u,K,hA,-⟩:=G.is;obtain rfl:=mF E (pK H);have j:=N.out.keep z;have C:=(show Hid _ from z)
 clear t G E z;by_cases d:(cW V).length < 256
 ·have t2:=wrCnt (m:=1) j hA rfl u (by omega) (.inl rfl) (by simpa using d) (by omega)
  have i:Hid (ff V err=err/\fN V err L=wrote err L (dz 1 (cW V))):=by
   unfold ff fN;rw[if_pos d,if_pos d];exact⟨rfl,rfl⟩
  clear j hA d;go_wp2_with fail;refine t2.mono ?_
  rintro e M ⟨rfl,s,f⟩;have q:=(show Hid _ from(But.of (g:=g) C.out).trans f)
  clear t2 f;go_wp2;go_end0;exact⟨rfl,by rw[i.out.1,i.out.2];exact s,q.out⟩
 ·have t2:=xX (ao:=y) (c:=I) (m:=1) (n:=(cW V).length) j (by omega) (by decide) (by omega)
  have i:Hid (ff V err=long err/\fN V err L=L):=by
   unfold ff fN;rw[if_neg d,if_neg d];exact⟨rfl,rfl⟩
  clear j hA d;go_wp2_with fail;refine t2.mono ?_
  rintro e M ⟨rfl,s,f⟩;have q:=(show Hid _ from(But.of (g:=g) C.out).trans f)
  clear t2 f;go_wp2;go_end0;exact⟨rfl,by rw[i.out.1,i.out.2];exact s,q.out⟩
theorem oH(X:WrA w g err L)(h:ef w ao n c V)(hn:n<=1099511627776)(d:L.length+8 * n+16<=4611686018427387904) :
  Calls Tryz.prog 137 #[.pointer (some ⟨g,0,none⟩),.agg #[.slice ao n c]] w fun e w'=>e=.returned (.tuple #[])/\WrA w' g (ff V err) (fN V err L)/\But g w w':=by
 have f:Hid (Below w.heap.size w (w.alloc (.cells #[.slice ao n c] 46))):=af w _;have t:=wrNat (X.keep f.out) (h.keep f.out) hn d;clear X h;go_enter Tryz.func137,Tryz.ntmps137;go_wp2_with fail;refine t.mono ?_
 rintro e j ⟨rfl,i,b⟩;replace b:=(show Hid _ from(But.of (g:=g) f.out).trans b)
 clear t f;go_wp2;go_end0;exact⟨rfl,i,b.out⟩
end
section
variable {err:Int}{l:List Int}{w:World}{b g n c m:Nat}{ao:Option Addr}{cs:List Value}{y:Value}
def rdE{α:Type}(r:Int ⊕ α × Nat)(err:Int):Int:=if err=0 then (match r with | .inl e=>e | .inr _=>0) else err
def rdL{α:Type}(r:Int ⊕ α × Nat)(err:Int)(l:List Int):List Int:=if err=0 then (match r with | .inl _=>l | .inr p=>l.drop p.2) else l
def rdV{α:Type}(z:α)(r:Int ⊕ α × Nat)(err:Int):α:=if err=0 then (match r with | .inl _=>z | .inr p=>p.1) else z
def bN(m:Nat)(l:List Int):Int ⊕ Int × Nat:=if m<=l.length then .inr (bp (l.take m),m) else .inl 40
def aX(l:List Int):Int ⊕ Bool × Nat:=if 1<=l.length then (if 1 < bp (l.take 1) then .inl 41 else .inr (bp (l.take 1) == 1,1)) else .inl 40
def aR(m:Nat)(l:List Int):Nat:=(bp (l.take m)).toNat
def aY(l:List Int):Int ⊕ Int × Nat:=if 1<=l.length then (if 1+aR 1 l<=l.length then (if 0 < aR 1 l/\nth (l.drop 1) 0=0 then .inl 41 else .inr (bp ((l.drop 1).take (aR 1 l)),1+aR 1 l)) else .inl 40) else .inl 40
theorem js{α:Type}{r:Int ⊕ α × Nat}(h:err≠0):rdE r err=err:=by unfold rdE;rw[if_neg h]
theorem lO{α:Type}{r:Int ⊕ α × Nat}(h:err≠0):rdL r err l=l:=by unfold rdL;rw[if_neg h]
theorem lU{α:Type}{z:α}{r:Int ⊕ α × Nat}(h:err≠0):rdV z r err=z:=by unfold rdV;rw[if_neg h]
theorem EH(m:Nat)(err:Int)(l:List Int):qs m err l=rdV 0 (bN m l) err:=by
 unfold qs rdV bN;by_cases h1:err=0<;>by_cases h2:m<=l.length<;>simp[h1,h2]
theorem DG(m:Nat)(err:Int)(l:List Int):qC m err l=rdE (bN m l) err:=by
 unfold qC rdE bN;by_cases h1:err=0<;>by_cases h2:m<=l.length<;>simp[h1,h2]
theorem EM(m:Nat)(err:Int)(l:List Int):rk m err l=rdL (bN m l) err l:=by
 unfold rk rdL bN;by_cases h1:err=0<;>by_cases h2:m<=l.length<;>simp[h1,h2]
theorem ByA.but{w':World}(h:ByA w b ao n c l){t:TypeId}(s:Box w g cs t)(p:∀ v∈cs,∀ x,v≠.int .u8 x)(q:But g w w'):ByA w' b ao n c l:=by
 obtain⟨o,k,f,m,j,a⟩:=h.ex;refine⟨o,k,f,m,j,a.loc,fun i hi=>?_⟩;have hc:=a.cell i hi;refine q.cell hc (fun e=>?_);subst e;simp only[World.cell?,s.blk] at hc
 have d:cs.toArray[o+i]?=some (.int .u8 (nth l i)):=by simpa using hc
 rw[List.getElem?_toArray] at d;exact absurd rfl (p _ (List.mem_of_getElem? d) _)
theorem RdA.back{w1:World}(e0:Int)(X:Box w g [.int .i64 0,.slice ao n c] 291)(A:ByA w b ao n c l)(a:But g w w1)(Y:Box w1 g [.int .i64 0,y] 291) :
  RdA ((w1.setCell ⟨g,1,none⟩ (.slice ao n c)).setCell ⟨g,0,none⟩ (.int .i64 e0)) g b e0 l/\But g w ((w1.setCell ⟨g,1,none⟩ (.slice ao n c)).setCell ⟨g,0,none⟩ (.int .i64 e0)):=by
 have H:But g w ((w1.setCell ⟨g,1,none⟩ (.slice ao n c)).setCell ⟨g,0,none⟩ (.int .i64 e0)):=⟨a.os,a.tape,a.output,by rw[size_set,size_set];exact a.size,fun k e d=>by rw[Below.heap_setCell _ _ _ k d,Below.heap_setCell _ _ _ k d];exact a.block k e d⟩
 exact⟨⟨ao,n,c,gZ (cM Y _) _,A.but X (k9 _ _ _ _) H⟩,H⟩
theorem RdA.lt(h:RdA w g b err l):g < w.heap.size:=by
 obtain⟨_,_,_,X,_⟩:=h.ex;exact X.lt
theorem E5(h:RdA w g b 0 l)(hm:m<=l.length)(i:m<=8) :
  Calls Tryz.prog 239 #[.pointer (some ⟨g,0,none⟩),.int .u64 m] w fun e w'=>e=.returned (.tuple #[.int .u64 (bp (l.take m)),.int .i64 0])/\RdA w' g b 0 (l.drop m)/\But g w w':=by
 obtain⟨d,n,c,X,A⟩:=h.ex;obtain⟨o,j,a,⟨p,-⟩,-,-⟩:=A.ex;refine(rdNum X A (by omega:m<=n) i).mono ?_
 rintro e w' ⟨f,rfl⟩
 have H:But g w (w.setCell ⟨g,1,none⟩ (.slice (bV d c m) (n - m) (c - m))):=⟨rfl,rfl,rfl,by rw[size_set];exact Nat.le_refl _,fun k _ a=>Below.heap_setCell _ _ _ k a⟩
 exact⟨f,⟨_,_,_,cM X _,(A.rest (by omega)).but X (k9 _ _ _ _) H⟩,H⟩
theorem zP(h:RdA w g b 0 l)(hm:l.length < m) :
  Calls Tryz.prog 239 #[.pointer (some ⟨g,0,none⟩),.int .u64 m] w fun e w'=>e=.returned (.tuple #[.int .u64 0,.int .i64 40])/\w'=w:=by
 obtain⟨a,n,c,X,A⟩:=h.ex;obtain⟨o,f,d,⟨i,-⟩,-,-⟩:=A.ex;exact AF X (by omega) (by omega)
theorem Bx(h:RdA w g b 0 l)(hm:m<=l.length) :
  Calls Tryz.prog 250 #[.pointer (some ⟨g,0,none⟩),.int .u64 m] w fun e w'=>∃ ao,e=.returned (.tuple #[.slice ao m m,.int .i64 0])/\ByA w' b ao m m (l.take m)/\RdA w' g b 0 (l.drop m)/\But g w w':=by
 obtain⟨ao,n,c,X,A⟩:=h.ex;obtain⟨o,i,a,⟨f,-⟩,-,-⟩:=A.ex;refine(Ca X a f (by omega:m<=n)).mono ?_
 rintro e w' ⟨d,rfl⟩
 have H:But g w (w.setCell ⟨g,1,none⟩ (.slice (bV ao c m) (n - m) (c - m))):=⟨rfl,rfl,rfl,by rw[size_set];exact Nat.le_refl _,fun k _ a=>Below.heap_setCell _ _ _ k a⟩
 exact⟨ao,d,(A.front (by omega)).but X (k9 _ _ _ _) H,⟨_,_,_,cM X _,(A.rest (by omega)).but X (k9 _ _ _ _) H⟩,H⟩
theorem ER(h:RdA w g b 0 l)(hm:l.length < m) :
  Calls Tryz.prog 250 #[.pointer (some ⟨g,0,none⟩),.int .u64 m] w fun e w'=>e=.returned (.tuple #[.slice none 0 0,.int .i64 40])/\w'=w:=by
 obtain⟨a,n,c,X,A⟩:=h.ex;obtain⟨o,f,d,⟨i,-⟩,-,-⟩:=A.ex;exact vu X (by omega) (by omega)
theorem RdA.oct(h:RdA w g b err l):aZ l:=by
 obtain⟨_,_,_,_,A⟩:=h.ex;obtain⟨o,_,_,_,h4,_⟩:=A.ex;exact h4
theorem rU(h:RdA w g b err l):((aR m l:Nat):Int)=bp (l.take m):=by
 unfold aR;rw[Int.toNat_of_nonneg (bG (fun x hx=>h.oct x (List.mem_of_mem_take hx))).1]
theorem D1(h:RdA w g b 0 l) :
  Calls Tryz.prog 214 #[.pointer (some ⟨g,0,none⟩)] w fun e w'=>∃ v,e=.returned (.tuple #[v,.int .i64 (rdE (aX l) 0)])/\∃ l1,RdA w' g b 0 l1/\But g w w'/\∀ x k,aX l=.inr (x,k)->l1=l.drop k/\v=.bool x:=by
 by_cases i:1<=l.length
 ·have t:=E5 (m:=1) h i (by decide);by_cases hx:1 < bp (l.take 1)
  ·have c:aX l=.inl 41:=by unfold aX; rw[if_pos i,if_pos hx]
   have f:Hid (rdE (aX l) 0=41):=by show _=_;rw[c];rfl
   have d:=(show Hid _ from c)
   clear c h
   have j:(bp (l.take 1) == 1)=false:=by rw[beq_eq_false_iff_ne];omega
   generalize bp (l.take 1)=X at *;go_enter Tryz.func214,Tryz.ntmps214;go_wp2_with fail;refine t.mono ?_
   rintro e p ⟨rfl,o,n⟩;clear t;go_wp2;go_ret2;exact⟨_,by rw[f.out];rfl,_,o,n,fun x k e=>by rw[d.out] at e;cases e⟩
  ·have c:aX l=.inr (bp (l.take 1) == 1,1):=by unfold aX; rw[if_pos i,if_neg hx]
   have f:Hid (rdE (aX l) 0=0):=by show _=_;rw[c];rfl
   have d:=(show Hid _ from c)
   clear c h;generalize bp (l.take 1)=X at *
   have j:X<=1:=by omega
   clear hx;go_enter Tryz.func214,Tryz.ntmps214;go_wp2_with fail;refine t.mono ?_
   rintro e p ⟨rfl,o,n⟩;clear t;go_wp2;go_ret2;exact⟨_,by rw[f.out];rfl,_,o,n,fun x k e=>by rw[d.out] at e;cases e;exact⟨rfl,rfl⟩⟩
 ·have t:=zP (m:=1) h (by omega)
  have c:aX l=.inl 40:=by unfold aX;rw[if_neg i]
  have f:Hid (rdE (aX l) 0=40):=by show _=_;rw[c];rfl
  have d:=(show Hid _ from c)
  have q:=(show Hid _ from h)
  clear c h i;go_enter Tryz.func214,Tryz.ntmps214;go_wp2_with fail;refine t.mono ?_
  rintro e p ⟨rfl,rfl⟩;clear t;go_wp2;go_ret2;exact⟨_,by rw[f.out];rfl,_,q.out,⟨rfl,rfl,rfl,Nat.le_refl _,fun _ _ _=>rfl⟩,fun x k e=>by rw[d.out] at e;cases e⟩
end
theorem cH (ao:Option Addr) (n c b o:Nat) (l:List Int) (w:World) (s:l.length=n) (F:n≤1099511627776) (m:ao=none→c=0) (t:AtB w ao b o l) :
    Calls Tryz.prog 211 #[.slice ao n c] w fun e w'=>∃ v,e=.returned v∧bz w' w.heap.size v l∧Below w.heap.size w w':=by
  obtain⟨i0,hi,A,C,r⟩:= info_parts iu
  have I:∀ (w:World) (a:Option Addr) (n c y z:Nat),(binOp .eql 36 (.slice a n c) (.slice none y z)).run Tryz.prog w=.ok (.bool a.isNone) w:=fun w a n c y z=>Lib.run_eql_slice_nil w _ _ a n c y z bW
  cases ao with
  | none =>
    have G : l = [] := by rcases t.loc with e | e
                          · exact e
                          · simp at e
    subst G
    have D:n=0:=s.symm;subst D;have q:=m rfl;subst q
    have d:w.ownsRow w.heap.size 5 1 (.slice none 0 0) 0 []:=World.ownsRow_nil _ _ _ _;go_enter Tryz.func211,Tryz.ntmps211;go_wp2;go_ret;exact⟨_,rfl,d,Below.refl _ _⟩
  | some x =>
    have E:=af w (.cells #[] 5)
    have d:(w.alloc (.cells #[] 5)).ownsRow w.heap.size 5 1 (.slice (some ⟨w.heap.size,0,none⟩) 0 0) 0 []:=⟨rfl,.inr ⟨w.heap.size,0,#[],rfl,Nat.le_refl _,(fy w [] 5).blk,Nat.le_refl _,by decide,rfl,rfl⟩⟩
    have p:∀ j u,(l.map (Value.int .u8))[j]?=some u→(w.alloc (.cells #[] 5)).cell? (x.add j)=some u:=by
      intro j u hu;rw[List.getElem?_map] at hu
      have f:j < l.length:=by
        rcases Nat.lt_or_ge j l.length with f | f
        · exact f
        · rw[List.getElem?_eq_none f] at hu;simp at hu
      rw[List.getElem?_eq_getElem f] at hu;simp at hu;subst hu
      have hx:x=⟨b,o,none⟩:= by
        rcases t.loc with e | e
        · subst e;simp at f
        · simpa using e
      subst hx;have:=(t.keep E).cell j f;rw[da f] at this;rw[cU];exact this
    have B:=(show Hid _ from E);clear E;go_enter Tryz.func211,Tryz.ntmps211;go_wp2_with (at_builtin;refine wpList_append_own _ rfl _ _ 36 rfl w.heap.size 5 i0 (.int .u8 0) 1 1 bW hi A C r rfl (by decide) _ _ _ rfl d x n c (l.map (Value.int .u8)) rfl (by simp[s]) ?c1 ?c2 ?c3 ?c4 ?c5 ?_)
    case c1=>exact p
    case c2=>exact ints_oneCell _ _
    case c3=>unfold maxLen;omega
    case c4=>omega
    case c5=>exact B.out.size
    intro H J g i _;go_wp2;go_ret;refine⟨H,rfl,?_,B.out.grown i B.out.size (ve d)⟩;unfold bz;rw[s];simpa using g
theorem BP {w:World} {g b m:Nat} {err:Int} {l:List Int} (h:RdA w g b err l) (hm:m<=l.length):((aR m l:Nat):Int) < 256 ^ m:=by
 have:=(bG (l:=l.take m) (fun x hx=>h.oct x (List.mem_of_mem_take hx))).2;rw[List.length_take,Nat.min_eq_left hm] at this;rw[rU h];exact this
theorem du {w w':World} {B:Nat} {v:Value} {l:List Int} (h:bz w B v l) (hb:Below w.heap.size w w'):bz w' B v l:=by
 obtain⟨f,a⟩:=h;refine⟨f,?_⟩;rcases a with a | ⟨g,cap,cur,c,e,b,d⟩
 ·exact .inl a
 ·refine .inr ⟨g,cap,cur,c,e,?_,d⟩
  rw[hb.block g (by
   rcases Nat.lt_or_ge g w.heap.size with h | h
   ·exact h
   ·rw[Array.getElem?_eq_none h] at b;cases b)]
  exact b
section
variable {l:List Int}{e0 err:Int}{w w':World}{g b G:Nat}{v:Value}
theorem zG(h:aX l=.inl e0):e0≠0:=by
 unfold aX at h
 repeat' split at h
 all_goals (cases h;try decide)
theorem Eu(h:aY l=.inl e0):e0≠0:=by
 unfold aY at h
 repeat' split at h
 all_goals (cases h;try decide)
theorem enBo{α:Type}{z:α}{p:Int ⊕ α × Nat}{V:α->Value->World->Prop}(h:RdA w g b err l)(s:∀ e0,p=.inl e0->e0≠0)(j:∀ w',V z (.bool false) w')(t:err=0->Calls Tryz.prog 214 #[.pointer (some ⟨g,0,none⟩)] w fun e w'=>∃ v,e=.returned (.tuple #[v,.int .i64 (rdE p 0)])/\∃ l1,RdA w' g b 0 l1/\But g w w'/\∀ x k,p=.inr (x,k)->l1=l.drop k/\V x v w') :
  Calls Tryz.prog 213 #[.pointer (some ⟨g,0,none⟩),.func (.func 214) #[.pointer (some ⟨g,0,none⟩)] #[]] w fun e w'=>∃ v,e=.returned v/\V (rdV z p err) v w'/\RdA w' g b (rdE p err) (rdL p err l)/\But g w w':=by
 obtain⟨y,n,c,X,A⟩:=h.ex;by_cases he:err=0
 ·subst he
  match hq:p with
  | .inl e0 =>
   have i:e0≠0:=s e0 rfl
   have f:Calls Tryz.prog 214 #[.pointer (some ⟨g,0,none⟩)] w fun e w'=>∃ v,e=.returned (.tuple #[v,.int .i64 e0])/\∃ l1,RdA w' g b 0 l1/\But g w w':=(t rfl).mono (by
    rintro e w' ⟨v,e1,l1,a,d,-⟩
    exact⟨v,e1,l1,a,d⟩)
   refine(CP i X (fun v m o=>by
    obtain⟨l1,a,-⟩:=o;obtain⟨_,_,_,Y,_⟩:=a.ex
    exact⟨_,Y⟩) f).mono ?_
   rintro e w' ⟨e1,v,m,⟨l1,a,d⟩,rfl⟩;obtain⟨_,_,_,Y,_⟩:=a.ex;have H:=RdA.back e0 X A d Y;exact⟨_,e1,j _,H.1,H.2⟩
  | .inr (x,k) =>
   have f:Calls Tryz.prog 214 #[.pointer (some ⟨g,0,none⟩)] w fun e w'=>∃ v,e=.returned (.tuple #[v,.int .i64 0])/\(V x v w'/\RdA w' g b 0 (l.drop k)/\But g w w'):=(t rfl).mono (by
    rintro e w' ⟨v,e1,l1,a,d,u⟩;obtain⟨q,r⟩:=u x k rfl;subst q
    exact⟨v,e1,r,a,d⟩)
   exact enBoOk X f
 ·refine(Cn X he).mono ?_
  rintro e w' ⟨rfl,rfl⟩;rw[lU he,js he,lO he];exact⟨_,rfl,j _,h,But.refl _ _⟩
theorem enNa{α:Type}{z:α}{p:Int ⊕ α × Nat}{V:α->Value->World->Prop}(h:RdA w g b err l)(s:∀ e0,p=.inl e0->e0≠0)(j:∀ w',V z (.slice none 0 0) w')(t:err=0->Calls Tryz.prog 241 #[.pointer (some ⟨g,0,none⟩)] w fun e w'=>∃ v,e=.returned (.tuple #[v,.int .i64 (rdE p 0)])/\∃ l1,RdA w' g b 0 l1/\But g w w'/\∀ x k,p=.inr (x,k)->l1=l.drop k/\V x v w') :
  Calls Tryz.prog 240 #[.pointer (some ⟨g,0,none⟩),.func (.func 241) #[.pointer (some ⟨g,0,none⟩)] #[]] w fun e w'=>∃ v,e=.returned v/\V (rdV z p err) v w'/\RdA w' g b (rdE p err) (rdL p err l)/\But g w w':=by
 obtain⟨y,n,c,X,A⟩:=h.ex;by_cases he:err=0
 ·subst he
  match hq:p with
  | .inl e0 =>
   have i:e0≠0:=s e0 rfl
   have f:Calls Tryz.prog 241 #[.pointer (some ⟨g,0,none⟩)] w fun e w'=>∃ v,e=.returned (.tuple #[v,.int .i64 e0])/\∃ l1,RdA w' g b 0 l1/\But g w w':=(t rfl).mono (by
    rintro e w' ⟨v,e1,l1,a,d,-⟩
    exact⟨v,e1,l1,a,d⟩)
   refine(Dz i X (fun v m o=>by
    obtain⟨l1,a,-⟩:=o;obtain⟨_,_,_,Y,_⟩:=a.ex
    exact⟨_,Y⟩) f).mono ?_
   rintro e w' ⟨e1,v,m,⟨l1,a,d⟩,rfl⟩;obtain⟨_,_,_,Y,_⟩:=a.ex;have H:=RdA.back e0 X A d Y;exact⟨_,e1,j _,H.1,H.2⟩
  | .inr (x,k) =>
   have f:Calls Tryz.prog 241 #[.pointer (some ⟨g,0,none⟩)] w fun e w'=>∃ v,e=.returned (.tuple #[v,.int .i64 0])/\(V x v w'/\RdA w' g b 0 (l.drop k)/\But g w w'):=(t rfl).mono (by
    rintro e w' ⟨v,e1,l1,a,d,u⟩;obtain⟨q,r⟩:=u x k rfl;subst q
    exact⟨v,e1,r,a,d⟩)
   exact enNaOk X f
 ·refine(DI X he).mono ?_
  rintro e w' ⟨rfl,rfl⟩;rw[lU he,js he,lO he];exact⟨_,rfl,j _,h,But.refl _ _⟩
theorem pFix_v{m:Nat}(h:RdA w g b err l):0<=rdV 0 (bN m l) err/\rdV 0 (bN m l) err < 256 ^ m:=by
 have c:(0:Int) < 256 ^ m:=Int.pow_pos (by decide);unfold rdV bN;split
 ·split
  ·exact⟨Int.le_refl _,c⟩
  ·rename_i a;split at a
   ·cases a;have:=bG (l:=l.take m) (fun x hx=>h.oct x (List.mem_of_mem_take hx));rw[List.length_take,Nat.min_eq_left (by assumption)] at this;exact this
   ·cases a
 ·exact⟨Int.le_refl _,c⟩
theorem vI(h:RdA w g b err l) :
  Calls Tryz.prog 164 #[.pointer (some ⟨g,0,none⟩)] w fun e w'=>e=.returned (.int .u64 (rdV 0 (bN 8 l) err))/\RdA w' g b (rdE (bN 8 l) err) (rdL (bN 8 l) err l)/\But g w w':=by
 have t:=Eg (m:=8) h (by decide);obtain⟨j,d⟩:=pFix_v (m:=8) h;rw[show (256:Int) ^ 8=18446744073709551616 by decide] at d;rw[EH,DG,EM] at t;clear h;generalize rdV 0 (bN 8 l) err=V at *;generalize rdE (bN 8 l) err=E at *;generalize rdL (bN 8 l) err l=R at *;go_enter Tryz.func164,Tryz.ntmps164;go_wp2_with fail;refine t.mono ?_
 rintro e i ⟨rfl,c,f⟩;clear t;go_wp2;go_ret;exact⟨rfl,c,f⟩
theorem rdBool(h:RdA w g b err l) :
  Calls Tryz.prog 166 #[.pointer (some ⟨g,0,none⟩)] w fun e w'=>e=.returned (.bool (rdV false (aX l) err))/\RdA w' g b (rdE (aX l) err) (rdL (aX l) err l)/\But g w w':=by
 have t:=enBo (z:=false) (p:=aX l) (V:=fun x v _=>v=.bool x) h (fun _=>zG) (fun _=>rfl) (fun e=>by subst e;exact D1 h);clear h;generalize rdV false (aX l) err=V at *;generalize rdE (aX l) err=E at *;generalize rdL (aX l) err l=R at *;go_enter Tryz.func166,Tryz.ntmps166;go_wp2_with fail;refine t.mono ?_
 rintro e f ⟨v,rfl,rfl,c,d⟩;clear t;go_wp2;go_ret;exact⟨rfl,c,d⟩
theorem Slot.bx{t:TypeId}(s:Slot w g v t):Box w g [v] t:=⟨s.blk⟩
theorem RdA.put(h:RdA w g b err l){u:Value}{t:TypeId}(s:Slot w G v t)(d:G≠g)(i:∀ x,v≠.int .u8 x):RdA (w.setCell ⟨G,0,none⟩ u) g b err l:=by
 obtain⟨f,n,c,X,A⟩:=h.ex;refine⟨f,n,c,⟨?_⟩,A.box s.bx (fun j a=>by rw[List.mem_singleton] at a;subst a;exact i) fun k e=>Below.heap_setCell _ _ _ k e⟩;rw[Below.heap_setCell _ _ _ g d.symm];exact X.blk
theorem Slot.but{t:TypeId}(s:Slot w G v t)(h:But g w w')(hG:G≠g):Slot w' G v t:=⟨by
 rw[h.block G s.bx.lt hG]
 exact s.blk⟩
theorem But.put(h:But g w w')(c:w.heap.size<=G)(u:Value):But g w (w'.setCell ⟨G,0,none⟩ u):=⟨h.os,h.tape,h.output,by rw[size_set];exact h.size,fun k b a=>by rw[Below.heap_setCell _ _ _ k (by show k≠G;omega)];exact h.block k b a⟩
theorem rdLeft(h:RdA w g b err l) :
  Calls Tryz.prog 216 #[.pointer (some ⟨g,0,none⟩)] w fun e w'=>e=.returned (.int .i64 l.length)/\w'=w:=by
 obtain⟨i,n,c,X,A⟩:=h.ex;obtain⟨o,d,-⟩:=A.ex;subst d;obtain⟨c1,c2,f,j⟩:=X.two;clear X A h;go_enter Tryz.func216,Tryz.ntmps216;go_wp2;go_ret;exact⟨rfl,rfl⟩
end
section
variable {w:World}{g b:Nat}{err:Int}{v:Value}{l:List Int}{ao:Option Addr}
theorem wP{e0:Int}{t:TypeId}(he:err≠0)(X:Box w g [.int .i64 err,v] t) :
  Calls Tryz.prog 217 #[.pointer (some ⟨g,0,none⟩),.int .i64 e0] w fun e w'=>e=.returned (.tuple #[])/\w'=w:=by
 have hb:(err == 0)=false:=beq_eq_false_iff_ne.2 he;have t:=e8 X;rw[hb] at t;clear he hb X;go_enter Tryz.func217,Tryz.ntmps217;go_wp2_with fail;refine t.mono ?_
 rintro e w' ⟨rfl,rfl⟩;clear t;go_wp2;go_end0;exact⟨rfl,rfl⟩
def dF(err:Int)(l:List Int):Int:=if err=0 then (if l.length=0 then 0 else 43) else err
theorem vX(h:RdA w g b err l)(p:l.length<=9223372036854775807) :
  Calls Tryz.prog 169 #[.pointer (some ⟨g,0,none⟩)] w fun e w'=>e=.returned (.int .i64 (dF err l))/\RdA w' g b (dF err l) l/\But g w w':=by
 have d:=rdLeft h;obtain⟨r,n,c,X,A⟩:=h.ex;obtain⟨c1,c2,x,v⟩:=X.two;by_cases f:l.length=0
 ·have m:Hid (dF err l=err):=by
   show _=_
   unfold dF;by_cases he:err=0
   ·rw[if_pos he,if_pos f,he]
   ·rw[if_neg he]
  have j:=(show Hid _ from h)
  rw[f] at d;clear X A h f;go_enter Tryz.func169,Tryz.ntmps169;go_wp2_with fail;refine d.mono ?_
  rintro e w' ⟨rfl,rfl⟩;clear d;go_wp2;go_ret;rw[m.out];exact⟨rfl,j.out,But.refl _ _⟩
 ·have o:(0:Int) < l.length:=by omega
  by_cases he:err=0
  ·subst he
   have m:Hid (dF 0 l=43):=by show _=_;unfold dF;rw[if_pos rfl,if_neg f]
   have j:Hid (RdA (w.setCell ⟨g,0,none⟩ (.int .i64 43)) g b 43 l):=⟨r,n,c,gZ X _,A.box X (k9 _ _ _ _) fun k t=>Below.heap_setCell _ _ _ k t⟩
   have d1:=(gZ X (.int .i64 43)).two.1
   have u:Hid (But g w (w.setCell ⟨g,0,none⟩ (.int .i64 43))):=⟨rfl,rfl,rfl,by rw[size_set];exact Nat.le_refl _,fun k _ q=>Below.heap_setCell _ _ _ k q⟩
   have i:=pJ (e0:=43) X;clear X A h f;generalize l.length=L at *;go_enter Tryz.func169,Tryz.ntmps169;go_wp2_with fail;refine d.mono ?_
   rintro e w' ⟨rfl,rfl⟩;clear d;go_wp2_with fail;refine i.mono ?_
   rintro e s ⟨rfl,rfl⟩;clear i;go_wp2;go_ret;rw[m.out];exact⟨rfl,j.out,u.out⟩
  ·have m:Hid (dF err l=err):=by show _=_; unfold dF; rw[if_neg he]
   have i:=wP (e0:=43) he X;have j:=(show Hid _ from h)
   clear X A h f he;generalize l.length=L at *;go_enter Tryz.func169,Tryz.ntmps169;go_wp2_with fail;refine d.mono ?_
   rintro e w' ⟨rfl,rfl⟩;clear d;go_wp2_with fail;refine i.mono ?_
   rintro e s ⟨rfl,rfl⟩;clear i;go_wp2;go_ret;rw[m.out];exact⟨rfl,j.out,But.refl _ _⟩
theorem bz.bya{B:Nat}(h:bz w B v l)(d:aZ l):∃ b ao c,v=.slice ao l.length c/\B<=b/\ByA w b ao l.length c l:=by
 obtain⟨_,f⟩:=h;rcases f with⟨rfl,h0⟩ | ⟨g,cap,cur,rfl,hB,hh,hle,hmx,hsz,htk⟩
 ·have e:l=[]:=List.eq_nil_of_length_eq_zero h0;subst e;exact⟨B,none,0,rfl,Nat.le_refl _,0,rfl,Nat.le_refl _,⟨by decide,fun _=>rfl⟩,d,.inl rfl,fun i hi=>by simp at hi⟩
 ·refine⟨g,_,_,rfl,hB,0,rfl,hle,⟨by unfold maxLen at hmx;omega,fun e=>by cases e⟩,d,.inr rfl,fun i hi=>?_⟩;simp only[World.cell?,hh]
  have e:cur[0+i]?=some (.int .u8 (nth l i)):=by
   have a:(cur.toList.take (l.length * 1))[i]?=some (.int .u8 (nth l i)):=by
    rw[htk,List.getElem?_map,List.getElem?_eq_getElem hi,da hi];rfl
   rw[List.getElem?_take] at a;split at a
   ·rw[Nat.zero_add,<- Array.getElem?_toList];exact a
   ·cases a
  simpa using e
theorem wL{n c:Nat}(A:ByA w b ao n c l)(d:n<=1099511627776) :
  Calls Tryz.prog 162 #[.slice ao n c] w fun e w'=>∃ g b',e=.returned (.pointer (some ⟨g,0,none⟩))/\w.heap.size<=g/\w.heap.size<=b'/\RdA w' g b' 0 l/\Below w.heap.size w w':=by
 obtain⟨o,u,B,y,s,x⟩:=A.ex;have t:=cH ao n c b o l w u d y.2 x;have D:=(show Hid _ from s)
 clear u B y s x A;go_enter Tryz.func162,Tryz.ntmps162;go_wp2_with fail;refine t.mono ?_
 rintro e m ⟨v,rfl,q,z⟩;obtain⟨b',i,p,rfl,f,hA⟩:=q.bya D.out;have C:=(show Hid _ from hA)
 have r:=(show Hid _ from z)
 have j:=(show Hid _ from f)
 clear t q z hA f;go_wp2;go_ret;exact⟨m.heap.size,b',rfl,r.out.size,j.out,⟨i,_,p,fy m [.int .i64 0,.slice i l.length p] _,C.out.keep (af _ _)⟩,ai r.out (af _ _)⟩
end
end
section
open Pg (ax aN bJ aB aO)
open Go.RowKit Lim
section
variable {w:World}{g:Nat}{L:List Int}{o:Oper}{a:Act}{X:Int}{v:Value}{lo' hi':Option Value}{cur:List Value}
theorem wrOutE{err:Int}(X:WrA w g err L)(he:err≠0) :
  Calls Tryz.prog 139 #[.pointer (some ⟨g,0,none⟩)] w fun e w'=>e=.returned (.tuple #[.slice none 0 0,.int .i64 err])/\Below w.heap.size w w':=by
 obtain⟨p,ps,c,u,b,-⟩:=X.ex;have t:=kD b.c0;have c0:=b.c0;rw[beq_eq_false_iff_ne.2 he] at t;clear X b he;go_enter Tryz.func139,Tryz.ntmps139;go_wp2_with fail;refine t.mono ?_
 rintro e d ⟨rfl,rfl⟩;clear t;go_wp2_with fail;go_quiet (fail);go_wp2;go_ret2;exact⟨rfl,below_drewN (Below.refl _ _) _⟩
theorem gS{o:Nat}{x:Int}(c:w.cell? ⟨g,o,none⟩=some (.int .i64 x)):(loadVar 3 ⟨g,o,none⟩).run Tryz.prog w=.ok (.int .i64 x) w:=by
 go_simp
theorem Ao(x y:Nat){Y:Int}(b:o.op=.binOp .add 3 (.tmp x) (.tmp y) 3)(hx:a.eval (.tmp x)=.int .i64 X)(hy:a.eval (.tmp y)=.int .i64 Y)(d:0<=X+Y)(c:X+Y<=9223372036854775807):(execOp a.eval o).run Tryz.prog w=.ok (.value (.int .i64 (X+Y))) w:=by
 simp only[execOp,b,hx,hy];go_simp;simp[IntKind.wrap,IntKind.bits,IntKind.signed];omega
theorem Ex{x N:Nat}(c:o.op=.makeSlice 36 (.tmp x) (.tmp x))(hx:a.eval (.tmp x)=.int .i64 X)(d:X=(N:Int))(g:N<=17592186044416):(execOp a.eval o).run Tryz.prog w=.ok (.value (.slice (some ⟨w.heap.size,0,none⟩) N N)) (w.alloc (.cells ((List.replicate N 0).map (Value.int .u8)).toArray 5)):=by
 subst d;obtain⟨i,hi,f,e,hb⟩:=info_parts iu;have b:=run_make (P:=Tryz.prog) w 36 5 i (.int .u8 0) bW hi f .i64 .i64 (N:Int) (N:Int) (by omega) (by omega) (by rw[hb];omega) (by omega);simp only[execOp,c,hx];simp[b,Result.andThen,e,wD]
theorem rY(g u:Nat)(h:u<=256)(W:World):(Instr.sliceAt 217 (.pointer (some ⟨g,3,none⟩)) none (some (.int .i64 (u:Int))) none).run Tryz.prog W=.ok (.slice (some ⟨g,3,none⟩) u 256) W:=by
 have b:(u:Int)<=256:=by omega
 go_simp
theorem qW(g:Nat)(W:World):(Instr.sliceAt 217 (.pointer (some ⟨g,1,none⟩)) none none none).run Tryz.prog W=.ok (.slice (some ⟨g,1,none⟩) 256 256) W:=by
 go_simp
theorem qZ{T:TypeId}(x:Operand)(lo hi:Option Operand){X:Value}(d:o.op=.slice T x lo hi none)(hx:a.eval x=X)(b:lo.map a.eval=lo')(c:hi.map a.eval=hi')(h:(Instr.sliceAt T X lo' hi' none).run Tryz.prog w=.ok v w):(execOp a.eval o).run Tryz.prog w=.ok (.value v) w:=by
 subst hx;subst b;subst c;simp only[execOp,d,Option.map_none];simp[h,Result.andThen]
theorem yI(d s:Nat)(k:o.op=.call { callee:=.builtin .copy,args:=#[.tmp d,.tmp s],argTypes:=#[36,36] }){off dLen dCap sLen sCap:Nat}{ad:Addr}(f:a.eval (.tmp d)=.slice (some ⟨g,off,none⟩) dLen dCap)(l:a.eval (.tmp s)=.slice (some ad) sLen sCap){t:TypeId}(h:Box w g cur t)(cs:List Value)(m:Nat)(hm:cs.length=m)(hn:m=Nat.min sLen dLen)(e:∀ j v,cs[j]?=some v->w.cell? (ad.add j)=some v)(b:off+m<=cur.length)(i:∀ v∈cs,v.oneCell'=true) :
  (execOp a.eval o).run Tryz.prog w=.ok (.value (.int .i64 (m:Int))) (w.setRow g (splice cur off cs).toArray):=by
 subst hm;have c:=run_copy_row (P:=Tryz.prog) w 36 36 o.type 5 g off dLen dCap ad sLen sCap cur.toArray t cs bW we h.blk hn e (by simpa using b) i;simp[execOp,k,resolve,invoke,builtin,f,l,c,Result.andThen,splice,goInt]
theorem su(X:WrA w g 0 L)(A:L.length<=17592186044416) :
  Calls Tryz.prog 139 #[.pointer (some ⟨g,0,none⟩)] w fun e w'=>e=.returned (.tuple #[.slice (some ⟨w.heap.size,0,none⟩) L.length L.length,.int .i64 0])/\Box w' w.heap.size (L.map (Value.int .u8)) 5/\Below w.heap.size w w':=by
 obtain⟨p,ps,f,u,C,P0,hu,hL⟩:=X.ex;have t:=kD C.c0
 have hlen:L.length=ps.length+u:=by rw[hL,List.length_append,List.length_take,C.len];omega
 obtain⟨N,E⟩:∃ N,N=L.length:=⟨_,rfl⟩
 rw[<- E] at hlen A ⊢;have HL:=(show Hid _ from hL)
 have HP:=(show Hid _ from P0)
 have HN:=(show Hid _ from E)
 have P:=(show Hid _ from hlen)
 have hps:ps.length<=17592186044416:=by omega
 clear X hL P0 E hlen;go_enter Tryz.func139,Tryz.ntmps139;go_wp2_with fail;refine t.mono ?_
 rintro e d ⟨rfl,rfl⟩;clear t;go_wp2_with fail
 have o:cR d.drew g 0 p (ps.length:Int) f (u:Int):=⟨C.len,C.blk⟩
 refine bJ (S:=fun w'=>cR w' g 0 p (ps.length:Int) f (u:Int)) (by kernel_rfl) o ?_
 refine ax 0 17 (.pointer (some ⟨g,0,none⟩)) (by kernel_rfl) (fun _ _=>by kernel_rfl) i3 o ?_
 refine ax 1 18 (.pointer (some ⟨g,0,none⟩)) (by kernel_rfl) (fun _ _=>by kernel_rfl) i3 o ?_
 refine ax 2 19 (.pointer (some ⟨g,2,none⟩)) (by kernel_rfl) (fun _ _=>by kernel_rfl) i3 o ?_
 refine aN 3 (some 20) (.int .i64 (ps.length:Int)) 3 19 g 2 (by kernel_rfl) (by kernel_rfl) (by kernel_rfl) (fun w' h=>gS h.c2) i3 o ?_
 refine ax 4 21 (.pointer (some ⟨g,0,none⟩)) (by kernel_rfl) (fun _ _=>by kernel_rfl) i3 o ?_
 refine ax 5 22 (.pointer (some ⟨g,0,none⟩)) (by kernel_rfl) (fun _ _=>by kernel_rfl) i3 o ?_
 refine ax 6 23 (.pointer (some ⟨g,259,none⟩)) (by kernel_rfl) (fun _ _=>by kernel_rfl) i3 o ?_
 refine aN 7 (some 24) (.int .i64 (u:Int)) 3 23 g 259 (by kernel_rfl) (by kernel_rfl) (by kernel_rfl) (fun w' h=>gS h.cu) i3 o ?_
 refine ax 8 25 (.int .i64 ((ps.length:Int)+(u:Int))) (by kernel_rfl) (fun _ _=>Ao 20 24 (by kernel_rfl) (by kernel_rfl) (by kernel_rfl) (by omega) (by omega)) i3 o ?_
 refine aB [9] (by kernel_rfl) (by simp) ?_
 have y:cR (d.drew.alloc (.cells ((List.replicate N 0).map (Value.int .u8)).toArray 5)) g 0 p (ps.length:Int) f (u:Int):=o.keep (af _ _);refine aO 9 (some 26) (.slice (some ⟨d.heap.size,0,none⟩) N N) (d.drew.alloc (.cells ((List.replicate N 0).map (Value.int .u8)).toArray 5)) (by kernel_rfl) (Ex (x:=25) (N:=N) (X:=(ps.length:Int)+(u:Int)) (by kernel_rfl) (by kernel_rfl) (by have:=P.out;omega) A) y ?_ aL;refine ax 10 4 (.slice (some ⟨d.heap.size,0,none⟩) N N) (by kernel_rfl) (fun _ _=>by kernel_rfl) i3 y ?_
 refine bh (by kernel_rfl) ?_
 try simp only[Act.put,List.setIfInBounds_toArray,List.set_cons_zero,List.set_cons_succ]
 have hg:=C.lt
 have Q:Box (d.drew.alloc (.cells ((List.replicate N 0).map (Value.int .u8)).toArray 5)) d.heap.size ((List.replicate N 0).map (Value.int .u8)) 5:=fy d.drew _ _
 have aa:Hid (Below d.heap.size d (d.drew.alloc (.cells ((List.replicate N 0).map (Value.int .u8)).toArray 5))):=(Below.refl d.heap.size d).drew.trans (af d.drew _);clear o;generalize d.drew.alloc (.cells ((List.replicate N 0).map (Value.int .u8)).toArray 5)=V at *;have HW0:=(show Hid _ from C)
 clear C;have c2:=y.c2;have cu:=y.cu;obtain⟨off,m⟩:∃ off,off=if u=0 then 0 else ps.length:=⟨_,rfl⟩
 have s:∀ W,(Instr.sliceAt 36 (.slice (some ⟨d.heap.size,0,none⟩) N N) (some (.int .i64 (ps.length:Int))) none none).run Tryz.prog W=.ok (.slice (some ⟨d.heap.size,off,none⟩) u u) W:=fun W=>by
  have hh:=P.out;rw[sliceB _ N N ps.length W (by omega) (Nat.le_refl _),show N - ps.length=u by omega,m];unfold bV;by_cases n:u=0
  ·rw[if_pos (by omega),if_pos n]
  ·rw[if_neg (by omega),if_neg n]
   show Result.ok (Value.slice (some ((⟨d.heap.size,0,none⟩:Addr).add ps.length)) u u) W=_
   rw[cU,Nat.zero_add]
 have r:=rY g u (by omega)
 have F:Hid (splice ((List.replicate N (0:Int)).map (Value.int .u8)) off ((f.take u).map (Value.int .u8))=(List.replicate ps.length 0 ++ f.take u).map (Value.int .u8)):=by
  have hh:=P.out;have hl:=y.len
  show _=_
  unfold splice;by_cases n:u=0
  ·rw[m,if_pos n];subst n;simp;omega
  ·rw[m,if_neg n,List.length_map,List.length_take,hl];rw[List.drop_eq_nil_of_le (by simp;omega)];simp;omega
 have G:=(show Hid _ from m)
 have ab:=(show Hid _ from y.len)
 clear m;go_wp2_with fail
 have i:cR V.drew g 0 p (ps.length:Int) f (u:Int):=⟨y.len,y.blk⟩
 refine bJ (S:=fun w'=>cR w' g 0 p (ps.length:Int) f (u:Int)) (by kernel_rfl) i ?_
 refine ax 0 27 (.slice (some ⟨d.heap.size,0,none⟩) N N) (by kernel_rfl) (fun _ _=>by kernel_rfl) i3 i ?_
 refine ax 1 28 (.pointer (some ⟨g,0,none⟩)) (by kernel_rfl) (fun _ _=>by kernel_rfl) i3 i ?_
 refine ax 2 29 (.pointer (some ⟨g,0,none⟩)) (by kernel_rfl) (fun _ _=>by kernel_rfl) i3 i ?_
 refine ax 3 30 (.pointer (some ⟨g,2,none⟩)) (by kernel_rfl) (fun _ _=>by kernel_rfl) i3 i ?_
 refine aN 4 (some 31) (.int .i64 (ps.length:Int)) 3 30 g 2 (by kernel_rfl) (by kernel_rfl) (by kernel_rfl) (fun w' h=>gS h.c2) i3 i ?_
 refine ax 5 32 (.slice (some ⟨d.heap.size,off,none⟩) u u) (by kernel_rfl) (fun w' _=>qZ (.tmp 27) (some (.tmp 31)) none (by kernel_rfl) (by kernel_rfl) (by kernel_rfl) (by kernel_rfl) (s w')) i3 i ?_
 refine ax 6 33 (.pointer (some ⟨g,0,none⟩)) (by kernel_rfl) (fun _ _=>by kernel_rfl) i3 i ?_
 refine ax 7 34 (.pointer (some ⟨g,0,none⟩)) (by kernel_rfl) (fun _ _=>by kernel_rfl) i3 i ?_
 refine ax 8 35 (.pointer (some ⟨g,3,none⟩)) (by kernel_rfl) (fun _ _=>by kernel_rfl) i3 i ?_
 refine ax 9 36 (.pointer (some ⟨g,0,none⟩)) (by kernel_rfl) (fun _ _=>by kernel_rfl) i3 i ?_
 refine ax 10 37 (.pointer (some ⟨g,0,none⟩)) (by kernel_rfl) (fun _ _=>by kernel_rfl) i3 i ?_
 refine ax 11 38 (.pointer (some ⟨g,259,none⟩)) (by kernel_rfl) (fun _ _=>by kernel_rfl) i3 i ?_
 refine aN 12 (some 39) (.int .i64 (u:Int)) 3 38 g 259 (by kernel_rfl) (by kernel_rfl) (by kernel_rfl) (fun w' h=>gS h.cu) i3 i ?_
 refine ax 13 40 (.slice (some ⟨g,3,none⟩) u 256) (by kernel_rfl) (fun w' _=>qZ (.tmp 35) none (some (.tmp 39)) (by kernel_rfl) (by kernel_rfl) (by kernel_rfl) (by kernel_rfl) (r w')) i3 i ?_
 refine aB [14] (by kernel_rfl) (by simp) ?_
 have O:cR (V.drew.setRow d.heap.size (splice ((List.replicate N (0:Int)).map (Value.int .u8)) off ((f.take u).map (Value.int .u8))).toArray) g 0 p (ps.length:Int) f (u:Int):=i.off (g':=d.heap.size) (by omega) (fun k U=>setRow_other _ _ k _ U)
 refine aO 14 (some 41) (.int .i64 (u:Int)) (V.drew.setRow d.heap.size (splice ((List.replicate N (0:Int)).map (Value.int .u8)) off ((f.take u).map (Value.int .u8))).toArray) (by kernel_rfl) (yI 32 40 (by kernel_rfl) (g:=d.heap.size) (off:=off) (dLen:=u) (dCap:=u) (sLen:=u) (sCap:=256) (ad:=⟨g,3,none⟩) (by kernel_rfl) (by kernel_rfl) Q.drew ((f.take u).map (Value.int .u8)) u (by have:=ab.out; simp; omega) (Nat.min_self u).symm (fun j v M=>by
  obtain⟨h1,h2⟩:=List.getElem?_eq_some_iff.1 M;rw[List.length_map,List.length_take] at h1;rw[cU,<- h2,List.getElem_map,List.getElem_take,<- da (l:=f) (by omega)]
  exact i.cl j (by omega)) (by have:=P.out;have:=G.out;rw[List.length_map,List.length_replicate,this];split<;>omega) (ints_oneCell _ _)) O ?_ aL
 refine bh (by kernel_rfl) ?_
 try simp only[Act.put,List.setIfInBounds_toArray,List.set_cons_zero,List.set_cons_succ]
 have B4:Box (V.drew.setRow d.heap.size (splice ((List.replicate N (0:Int)).map (Value.int .u8)) off ((f.take u).map (Value.int .u8))).toArray) d.heap.size ((List.replicate ps.length 0 ++ f.take u).map (Value.int .u8)) 5:=by
  have:=Q.drew.row (ds:=splice ((List.replicate N (0:Int)).map (Value.int .u8)) off ((f.take u).map (Value.int .u8)));rw[F.out] at this ⊢;exact this
 have I:Hid (Below d.heap.size d (V.drew.setRow d.heap.size (splice ((List.replicate N (0:Int)).map (Value.int .u8)) off ((f.take u).map (Value.int .u8))).toArray)):=oC aa.out.drew (Nat.le_refl _) _;generalize V.drew.setRow d.heap.size (splice ((List.replicate N (0:Int)).map (Value.int .u8)) off ((f.take u).map (Value.int .u8))).toArray=w4 at *;have J:=(show Hid _ from B4)
 clear c2 cu s r Q y i B4;have c2:=O.c2;have c1:=O.c1;go_wp2_with fail;go_loopw [5,6] (fun ta tp wr=>∃ q rest fin,tp=.pointer q/\Hid (Pc d q rest)/\Hid (L=rest ++ fin)/\ta=.int .i64 (rest.length:Int)/\Hid (Box wr d.heap.size ((List.replicate rest.length 0 ++ fin).map (Value.int .u8)) 5)/\Hid (Below d.heap.size d wr)) (fun ta _ _=>(intOf ta).toNat)
 case atStart=>exact⟨p,ps,f.take u,rfl,HP.out,HL.out,rfl,J.out,I.out⟩
 case round =>
  clear c2 c1 O J I HW0 F G;obtain⟨q,rest,fin,rfl,hP,Y,rfl,Z,B⟩:=hrel
  have hP':=hP.out
  induction hP' using Pc.ind with
  | nil =>
   have HF:Hid (Box wr d.heap.size (L.map (Value.int .u8)) 5):=by rw[Y.out];exact Z.out
   go_wp2;go_ret2;exact⟨rfl,HF.out,B.out⟩
  | cons hb hbl hp2 ih0=>
   clear ih0
   rename_i b p' c bs;have D:=hb.keep (B.out.mono (Nat.le_refl _))
   have z:(((c ++ bs).length:Nat):Int)=(c.length:Int)+256:=by rw[List.length_append,hbl];rfl
   have E:c.length+256+fin.length=N:=by rw[HN.out,Y.out,List.length_append,List.length_append,hbl]
   rw[z]
   have s:∀ W,(Instr.sliceAt 36 (.slice (some ⟨d.heap.size,0,none⟩) N N) (some (.int .i64 (c.length:Int))) none none).run Tryz.prog W=.ok (.slice (some ⟨d.heap.size,c.length,none⟩) (N - c.length) (N - c.length)) W:=fun W=>by
    rw[sliceB _ N N c.length W (by omega) (Nat.le_refl _)];unfold bV;rw[if_neg (by omega)]
    show Result.ok (Value.slice (some ((⟨d.heap.size,0,none⟩:Addr).add c.length)) _ _) W=_
    rw[cU,Nat.zero_add]
   have r:=qW b
   have H:Hid (splice ((List.replicate (c ++ bs).length (0:Int) ++ fin).map (Value.int .u8)) c.length (bs.map (Value.int .u8))=(List.replicate c.length 0 ++ (bs ++ fin)).map (Value.int .u8)):=by
    show _=_
    unfold splice;rw[List.length_map,hbl,List.length_append,hbl,<- List.map_take,<- List.map_drop,List.take_append_of_le_length (by simp),List.drop_append_of_le_length (by simp),List.drop_eq_nil_of_le (by simp),List.take_replicate,Nat.min_eq_left (by omega)];simp
   have HLE:Hid (L=c ++ (bs ++ fin)):=by show _=_;rw[Y.out,List.append_assoc]
   have K:=(show Hid _ from E)
   have Hb:=(show Hid _ from hbl)
   clear E hbl z
   have hpl:c.length<=17592186044416:=by have:=K.out;omega
   go_wp2_with fail;refine bJ (S:=fun _=>True) (by kernel_rfl) trivial ?_
   refine ax 0 58 (.slice (some ⟨d.heap.size,0,none⟩) N N) (by kernel_rfl) (fun _ _=>by kernel_rfl) i3 trivial ?_
   refine ax 1 59 (.int .i64 (c.length:Int)) (by kernel_rfl) (fun _ _=>by kernel_rfl) i3 trivial ?_
   refine ax 2 60 (.slice (some ⟨d.heap.size,c.length,none⟩) (N - c.length) (N - c.length)) (by kernel_rfl) (fun w' _=>qZ (.tmp 58) (some (.tmp 59)) none (by kernel_rfl) (by kernel_rfl) (by kernel_rfl) (by kernel_rfl) (s w')) i3 trivial ?_
   refine ax 3 61 (.pointer (some ⟨b,0,none⟩)) (by kernel_rfl) (fun _ _=>by kernel_rfl) i3 trivial ?_
   refine ax 4 62 (.pointer (some ⟨b,0,none⟩)) (by kernel_rfl) (fun _ _=>by kernel_rfl) i3 trivial ?_
   refine ax 5 63 (.pointer (some ⟨b,1,none⟩)) (by kernel_rfl) (fun _ _=>by kernel_rfl) i3 trivial ?_
   refine ax 6 64 (.slice (some ⟨b,1,none⟩) 256 256) (by kernel_rfl) (fun w' _=>qZ (.tmp 63) none none (by kernel_rfl) (by kernel_rfl) (by kernel_rfl) (by kernel_rfl) (r w')) i3 trivial ?_
   refine aB [7] (by kernel_rfl) (by simp) ?_
   have R:b≠d.heap.size:=by have:=hb.lt;omega
   refine aO 7 (some 65) (.int .i64 ((256:Nat):Int)) (wr.drew.setRow d.heap.size (splice ((List.replicate (c ++ bs).length (0:Int) ++ fin).map (Value.int .u8)) c.length (bs.map (Value.int .u8))).toArray) (by kernel_rfl) (yI 60 64 (by kernel_rfl) (g:=d.heap.size) (off:=c.length) (dLen:=N - c.length) (dCap:=N - c.length) (sLen:=256) (sCap:=256) (ad:=⟨b,1,none⟩) (by kernel_rfl) (by kernel_rfl) Z.out.drew (bs.map (Value.int .u8)) 256 (by rw[List.length_map]; exact Hb.out) (Nat.min_eq_left (by have:=K.out; omega)).symm (fun j v M=>by
    obtain⟨h1,h2⟩:=List.getElem?_eq_some_iff.1 M;have h3:=D.drew.blk;rw[cU,Nat.add_comm 1 j];simp only[World.cell?,h3]
    simpa using M) (by have:=Hb.out;simp;omega) (ints_oneCell _ _)) trivial ?_ aL
   refine bh (by kernel_rfl) ?_
   try simp only[Act.put,List.setIfInBounds_toArray,List.set_cons_zero,List.set_cons_succ]
   have B5:Hid (Box (wr.drew.setRow d.heap.size (splice ((List.replicate (c ++ bs).length (0:Int) ++ fin).map (Value.int .u8)) c.length (bs.map (Value.int .u8))).toArray) d.heap.size ((List.replicate c.length 0 ++ (bs ++ fin)).map (Value.int .u8)) 5):=by
    have:=Z.out.drew.row (ds:=splice ((List.replicate (c ++ bs).length (0:Int) ++ fin).map (Value.int .u8)) c.length (bs.map (Value.int .u8)));rw[H.out] at this ⊢;exact this
   have HB5:Hid (Below d.heap.size d (wr.drew.setRow d.heap.size (splice ((List.replicate (c ++ bs).length (0:Int) ++ fin).map (Value.int .u8)) c.length (bs.map (Value.int .u8))).toArray)):=oC B.out.drew (Nat.le_refl _) _;have X5:=D.drew.off (g':=d.heap.size) R (fun k U=>setRow_other wr.drew d.heap.size k (splice ((List.replicate (c ++ bs).length (0:Int) ++ fin).map (Value.int .u8)) c.length (bs.map (Value.int .u8))).toArray U);clear s r D H;generalize (wr.drew.setRow d.heap.size (splice ((List.replicate (c ++ bs).length (0:Int) ++ fin).map (Value.int .u8)) c.length (bs.map (Value.int .u8))).toArray)=w5 at *
   have cb:w5.cell? ⟨b,0,none⟩=some (.pointer p'):=by
    have:=X5.blk;simp[World.cell?,this]
   have T:=(show Hid _ from hp2)
   clear X5 hb hp2;go_wp2;go_roundw
   case rel=>exact⟨p',c,bs ++ fin,rfl,T.out,HLE.out,rfl,B5.out,HB5.out⟩
   case measure=>simp[intOf];omega
end
end
section
open Go.RowKit Lim
section
variable {w w':World}{b g:Nat}{ao:Option Addr}{l:List Int}
theorem rC:Tryz.zeroCells219=(dG 0 none 0 (List.replicate 256 0) 0).toArray:=by kernel_rfl
theorem sf(w:World):WrA (w.alloc (.cells Tryz.zeroCells219 219)) w.heap.size 0 []:=by
 rw[rC];exact⟨none,[],List.replicate 256 0,0,⟨by rw[List.length_replicate],(fy w _ _).blk⟩,.nil,by decide,by simp⟩
theorem ByA.butN{n c:Nat}(h:ByA w b ao n c l)(hb:b≠g)(hB:But g w w'):ByA w' b ao n c l:=by
 obtain⟨o,h1,h2,h3,h4,h5⟩:=h.ex;exact⟨o,h1,h2,h3,h4,h5.loc,fun i hi=>hB.cell (h5.cell i hi) hb⟩
theorem RdA.offW{g':Nat}{err:Int}(h:RdA w g b err l)(a:g≠g')(hb:b≠g')(d:But g' w w'):RdA w' g b err l:=by
 obtain⟨e,n,c,X,A⟩:=h.ex;exact⟨e,n,c,⟨by rw[d.block g X.lt a];exact X.blk⟩,A.butN hb d⟩
theorem eG{V:Int}(hV:0<=V)(h:IsB l V):cW V=l:=mF (pK hV) h
theorem zM:cW 0=[]:=eG (by decide) ⟨fun x hx=>by simp at hx,fun h=>absurd rfl h,rfl⟩
end
end
section
namespace Rc
open Go.RowKit Go.Lib Pg
attribute [local go_sem] Oper.semAt_some
section
variable {G:Nat→Prop}{rb sb n cc:Nat}{f1 f2 f3:FuncId}{c:Value}{kd:Nat→Nat}{offs:List Nat}{w:World}
theorem ah{p:Prop}(h:p):Hid p:=h
theorem bC(w:World)(o:Obj):(w.alloc o).heap.size=w.heap.size+1:=by
 show (w.heap.push o).size=_
 simp
theorem cE(w:World):Below w.heap.size w w.drew:=⟨rfl,rfl,rfl,Nat.le_refl _,fun _ _=>rfl⟩
structure HC(σ:Type)(Inv:σ->World->Prop)(G:Nat->Prop)(rb:Nat)(f1 f2 f3:FuncId)(c:Value)(nx:Nat->Nat->σ->σ)(kd:Nat->Nat)(ok:σ->Prop):Prop where
 oks:∀ k o s,ok (nx k o s)->ok s
 keep:∀ s w w',Inv s w->Below w.heap.size w w'->Inv s w'
 old:∀ s w b,Inv s w->G b->b < w.heap.size
 e1:∀ args w,(callFunc f1 args).run Tryz.prog w=.ok (.enter f1 args) w
 e2:∀ args w,(callFunc f2 args).run Tryz.prog w=.ok (.enter f2 args) w
 e3:∀ args w,(callFunc f3 args).run Tryz.prog w=.ok (.enter f3 args) w
 u:∀ s w o,Inv s w->ok (nx 0 o s)->kd o=0->Calls Tryz.prog f1 #[.pointer (some ⟨rb,o,none⟩),c] w fun e w'=>e=.returned (.tuple #[])/\Inv (nx 0 o s) w'/\Chg G w w'
 t:∀ s w o,Inv s w->ok (nx 1 o s)->kd o=1->Calls Tryz.prog f2 #[.pointer (some ⟨rb,o,none⟩),c] w fun e w'=>e=.returned (.tuple #[])/\Inv (nx 1 o s) w'/\Chg G w w'
 d:∀ s w o,Inv s w->ok (nx 2 o s)->kd o=2->Calls Tryz.prog f3 #[.pointer (some ⟨rb,o,none⟩),c] w fun e w'=>e=.returned (.tuple #[])/\Inv (nx 2 o s) w'/\Chg G w w'
theorem HC.okf{σ:Type}{Inv:σ->World->Prop}{G:Nat->Prop}{nx:Nat->Nat->σ->σ}{kd:Nat->Nat}{ok:σ->Prop}(H:HC σ Inv G rb f1 f2 f3 c nx kd ok)(k:Nat)(l:List Nat):∀ s,ok (l.foldl (fun s o=>nx k o s) s)->ok s:=by
 induction l with
 | nil=>exact fun _ h=>h
 | cons o l ih=>exact fun s h=>H.oks _ _ _ (ih _ h)
structure xS(σ:Type)(Inv:σ->World->Prop)(G:Nat->Prop)(s:σ)(w:World)(e:Ending)(w':World):Prop where
 ret:e=.returned (.tuple #[])
 inv:Inv s w'
 chg:Chg G w w'
theorem fo{σ:Type}{Inv:σ→World→Prop}{nx:Nat→Nat→σ→σ}{ok:σ→Prop}{s:σ}(H:HC σ Inv G rb f1 f2 f3 c nx kd ok)(t:Inv s w)(hb:Blk w sb (offs.map fun o=>.pointer (some ⟨rb,o,none⟩)) 221)(C:¬ G sb)(p:∀ o ∈ offs,kd o=0)(d:ok (offs.foldl (fun s o=>nx 0 o s) s))(hn:offs.length=n)(N:n≤1000) :
    Calls Tryz.prog 140 #[.agg #[.func (.func f1) #[] #[c],.func (.func f2) #[] #[c],.func (.func f3) #[] #[c]],.slice (some ⟨sb,0,none⟩) n cc] w (xS σ Inv G (offs.foldl (fun s o=>nx 0 o s) s) w):=by
  have al:=af w (.cells #[.func (.func f1) #[] #[c],.func (.func f2) #[] #[c],.func (.func f3) #[] #[c]] 232);have z:=aj w [.func (.func f1) #[] #[c],.func (.func f2) #[] #[c],.func (.func f3) #[] #[c]] 232;have l:=ah H;have O:=ah t;have J:=ah hb;have M:=ah p;have B:=ah hn;have K:=ah d;have x:=ah al;have L:=ah z
  have b:¬ G w.heap.size:=fun h=>by have:=H.old s w _ t h;omega
  have F:=ah C;have r:=ah b;clear H t hb p hn al z C b d;go_enter Tryz.func140,Tryz.ntmps140;go_wp2_with fail;go_loopw [8] (fun v wr=>∃ k:Nat,k≤n∧v=.int .i64 k∧Hid (Inv ((offs.take k).foldl (fun s o=>nx 0 o s) s) wr)∧Hid (Chg G w wr)∧Hid (Blk wr w.heap.size [.func (.func f1) #[] #[c],.func (.func f2) #[] #[c],.func (.func f3) #[] #[c]] 232)) (fun v _=>n - (intOf v).toNat)
  case atStart=>exact⟨0,Nat.zero_le _,rfl,l.out.keep _ _ _ O.out x.out,Chg.of x.out,L.out⟩
  case round =>
    obtain⟨k,p,rfl,H1,m,A⟩:= hrel;by_cases I:k < n
    · obtain⟨o,j⟩:∃ o,Hid (offs[k]?=some o):=⟨offs[k]'(by have:=B.out;omega),List.getElem?_eq_getElem _⟩
      have g:=J.out.chg m.out F.out
      have c1:wr.cell? ⟨sb,k,none⟩=some (.pointer (some ⟨rb,o,none⟩)):=g.cell (i:=k) (by rw[List.getElem?_map,j.out];rfl);have c2:=A.out.cell (i:=0) rfl
      have q:(k:Int) < n:=by omega
      have f:ok (nx 0 o ((offs.take k).foldl (fun s o=>nx 0 o s) s)):=by
        have h:=K.out;rw[← List.take_append_drop (k+1) offs,List.foldl_append] at h;have y:=l.out.okf 0 _ _ h;rw[List.take_add_one,j.out,List.foldl_append] at y;exact y
      have U:=l.out.u _ wr o H1.out f (M.out o (List.mem_of_getElem? j.out));clear g f;go_wp2_with fail;rw[l.out.e1];refine U.mono ?_
      rintro Q P ⟨rfl,E,D⟩;go_wp2_with fail;go_roundw
      case rel=>exact⟨k+1,by omega,by go_num,by show Inv _ _;rw[List.take_add_one,j.out,List.foldl_append];exact E,m.out.trans D (fun _ _ h=>h),A.out.chg D r.out⟩
      case measure=>simp[intOf];omega
    · obtain rfl : k = n := by omega
      have q:¬ ((k:Int) < k):=by omega
      go_wp2;go_end0;refine⟨rfl,?_,m.out⟩;have h:=H1.out;rw[List.take_of_length_le (by have:=B.out;omega)] at h;exact h
theorem pD{σ:Type}{Inv:σ→World→Prop}{nx:Nat→Nat→σ→σ}{ok:σ→Prop}{s:σ}(H:HC σ Inv G rb f1 f2 f3 c nx kd ok)(u:Inv s w)(hb:Blk w sb (offs.map fun o=>.pointer (some ⟨rb,o,none⟩)) 227)(C:¬ G sb)(q:∀ o ∈ offs,kd o=2)(f:ok (offs.foldl (fun s o=>nx 2 o s) s))(hn:offs.length=n)(N:n≤1000) :
    Calls Tryz.prog 201 #[.agg #[.func (.func f1) #[] #[c],.func (.func f2) #[] #[c],.func (.func f3) #[] #[c]],.slice (some ⟨sb,0,none⟩) n cc] w (xS σ Inv G (offs.foldl (fun s o=>nx 2 o s) s) w):=by
  have al:=af w (.cells #[.func (.func f1) #[] #[c],.func (.func f2) #[] #[c],.func (.func f3) #[] #[c]] 232);have z:=aj w [.func (.func f1) #[] #[c],.func (.func f2) #[] #[c],.func (.func f3) #[] #[c]] 232;have m:=ah H;have O:=ah u;have J:=ah hb;have M:=ah q;have B:=ah hn;have K:=ah f;have x:=ah al;have L:=ah z
  have b:¬ G w.heap.size:=fun h=>by have:=H.old s w _ u h;omega
  have F:=ah C;have t:=ah b;clear H u hb q hn al z C b f;go_enter Tryz.func201,Tryz.ntmps201;go_wp2_with fail;go_loopw [8] (fun v wr=>∃ k:Nat,k≤n∧v=.int .i64 k∧Hid (Inv ((offs.take k).foldl (fun s o=>nx 2 o s) s) wr)∧Hid (Chg G w wr)∧Hid (Blk wr w.heap.size [.func (.func f1) #[] #[c],.func (.func f2) #[] #[c],.func (.func f3) #[] #[c]] 232)) (fun v _=>n - (intOf v).toNat)
  case atStart=>exact⟨0,Nat.zero_le _,rfl,m.out.keep _ _ _ O.out x.out,Chg.of x.out,L.out⟩
  case round =>
    obtain⟨k,q,rfl,H1,p,A⟩:= hrel;by_cases I:k < n
    · obtain⟨o,l⟩:∃ o,Hid (offs[k]?=some o):=⟨offs[k]'(by have:=B.out;omega),List.getElem?_eq_getElem _⟩
      have j:=J.out.chg p.out F.out
      have c1:wr.cell? ⟨sb,k,none⟩=some (.pointer (some ⟨rb,o,none⟩)):=j.cell (i:=k) (by rw[List.getElem?_map,l.out];rfl);have c2:=A.out.cell (i:=2) rfl
      have r:(k:Int) < n:=by omega
      have g:ok (nx 2 o ((offs.take k).foldl (fun s o=>nx 2 o s) s)):=by
        have h:=K.out;rw[← List.take_append_drop (k+1) offs,List.foldl_append] at h;have y:=m.out.okf 2 _ _ h;rw[List.take_add_one,l.out,List.foldl_append] at y;exact y
      have U:=m.out.d _ wr o H1.out g (M.out o (List.mem_of_getElem? l.out));clear j g;go_wp2_with fail;rw[m.out.e3];refine U.mono ?_
      rintro Q P ⟨rfl,E,D⟩;go_wp2_with fail;go_roundw
      case rel=>exact⟨k+1,by omega,by go_num,by show Inv _ _;rw[List.take_add_one,l.out,List.foldl_append];exact E,p.out.trans D (fun _ _ h=>h),A.out.chg D t.out⟩
      case measure=>simp[intOf];omega
    · obtain rfl : k = n := by omega
      have r:¬ ((k:Int) < k):=by omega
      go_wp2;go_end0;refine⟨rfl,?_,p.out⟩;have h:=H1.out;rw[List.take_of_length_le (by have:=B.out;omega)] at h;exact h
end
end Rc
end
section
open Pg (ax aN bQ bJ aB aO)
namespace Rc
open Go.RowKit Go.Lib Pg
attribute [local go_sem] Oper.semAt_some
section
variable {G:Nat->Prop}{rb:Nat}{f1 f2 f3:FuncId}{c:Value}{kd:Nat->Nat}{w:World}
def thr{σ:Type}(nx:Nat->Nat->σ->σ)(l:List (Nat × Nat))(s:σ):σ:=l.foldl (fun s p=>nx p.1 p.2 s) s
theorem HC.okt{σ:Type}{Inv:σ->World->Prop}{nx:Nat->Nat->σ->σ}{ok:σ->Prop}(H:HC σ Inv G rb f1 f2 f3 c nx kd ok)(l:List (Nat × Nat)):∀ s,ok (thr nx l s)->ok s:=by
 induction l with
 | nil=>exact fun _ h=>h
 | cons o l ih=>exact fun s h=>H.oks _ _ _ (ih _ h)
theorem DB{g:Nat}{u v i:Value}(c0:w.cell? ⟨g,0,none⟩=some u)(c1:w.cell? ⟨g,1,none⟩=some v)(c2:w.cell? ⟨g,2,none⟩=some i):(loadVar 232 ⟨g,0,none⟩).run Tryz.prog w=.ok (.agg #[u,v,i]) w:=by go_simp
theorem lj{σ:Type}{Inv:σ->World->Prop}{nx:Nat->Nat->σ->σ}{ok:σ->Prop}{s:σ}(H:HC σ Inv G rb f1 f2 f3 c nx kd ok)(q:Inv s w)(g:∀ p∈[(0,0),(0,1)],kd p.2=p.1)(m:ok (thr nx [(0,0),(0,1)] s)) :
  Calls Tryz.prog 86 #[.pointer (some ⟨rb,0,none⟩),.agg #[.func (.func f1) #[] #[c],.func (.func f2) #[] #[c],.func (.func f3) #[] #[c]]] w (xS σ Inv G (thr nx [(0,0),(0,1)] s) w):=by
 have d:=af w (.cells #[.func (.func f1) #[] #[c],.func (.func f2) #[] #[c],.func (.func f3) #[] #[c]] 232);have x:=ah (aj w [.func (.func f1) #[] #[c],.func (.func f2) #[] #[c],.func (.func f3) #[] #[c]] 232);have v:=ah (show ¬ G w.heap.size from fun h=>by have:=H.old s w _ q h;omega);have z:=ah (H.keep _ _ _ q d);have y:=ah (show Chg G w _ from Chg.of d)
 have k0:Hid (kd 0=0):=g (0,0) (by simp)
 have A:Hid (kd 1=0):=g (0,1) (by simp);have n:=ah H;have C:=ah m;clear H q g d m;go_enter Tryz.func86,Tryz.ntmps86;go_wp2_with fail;obtain⟨f,r⟩:∃ f,Hid (w.alloc (.cells #[.func (.func f1) #[] #[c],.func (.func f2) #[] #[c],.func (.func f3) #[] #[c]] 232)=f):=⟨_,rfl⟩
 rw[r.out] at x z y ⊢;have l:=ah (n.out.keep _ _ _ z.out (cE f));have b:=ah (x.out.keep (cE f));refine bJ (S:=fun u=>Blk u w.heap.size [.func (.func f1) #[] #[c],.func (.func f2) #[] #[c],.func (.func f3) #[] #[c]] 232) (by kernel_rfl) b.out ?_
 refine aN 0 (some 4) (.agg #[.func (.func f1) #[] #[c],.func (.func f2) #[] #[c],.func (.func f3) #[] #[c]]) 232 3 w.heap.size 0 (by kernel_rfl) (by kernel_rfl) (by kernel_rfl) (fun u h=>DB (h.cell (i:=0) rfl) (h.cell (i:=1) rfl) (h.cell (i:=2) rfl)) i3 b.out ?_
 refine ax 1 5 (.pointer (some ⟨rb,0,none⟩)) (by kernel_rfl) (fun _ _=>by kernel_rfl) i3 b.out ?_
 refine ax 2 6 (.pointer (some ⟨rb,0,none⟩)) (by kernel_rfl) (fun _ _=>by kernel_rfl) i3 b.out ?_
 refine ax 3 7 (.pointer (some ⟨rb,0,none⟩)) (by kernel_rfl) (fun _ _=>by kernel_rfl) i3 b.out ?_
 refine ax 4 8 (.pointer (some ⟨rb,0,none⟩)) (by kernel_rfl) (fun _ _=>by kernel_rfl) i3 b.out ?_
 refine ax 5 9 (.pointer (some ⟨rb,0,none⟩)) (by kernel_rfl) (fun _ _=>by kernel_rfl) i3 b.out ?_
 refine ax 6 10 (.pointer (some ⟨rb,1,none⟩)) (by kernel_rfl) (fun _ _=>by kernel_rfl) i3 b.out ?_
 have d:=af f.drew (.cells #[.pointer (some ⟨rb,0,none⟩),.pointer (some ⟨rb,1,none⟩)] 221);have o:=aj f.drew [.pointer (some ⟨rb,0,none⟩),.pointer (some ⟨rb,1,none⟩)] 221;refine aB [7] (by kernel_rfl) (by simp) (aO 7 (some 11) (.slice (some ⟨f.drew.heap.size,0,none⟩) 2 2) (f.drew.alloc (.cells #[.pointer (some ⟨rb,0,none⟩),.pointer (some ⟨rb,1,none⟩)] 221)) (by kernel_rfl) (by kernel_rfl) (b.out.keep d) ?_ aL);refine bQ 8 (some 12) 140 #[.agg #[.func (.func f1) #[] #[c],.func (.func f2) #[] #[c],.func (.func f3) #[] #[c]],.slice (some ⟨f.drew.heap.size,0,none⟩) 2 2] (by kernel_rfl) (by kernel_rfl) (fo (offs:=[0,1]) n.out (n.out.keep _ _ _ l.out d) o (fun h=>by have:=n.out.old _ _ _ l.out h;omega) (by simp[k0.out,A.out]) (n.out.okt [] _ C.out) rfl (by decide)) ?_
 rintro J I ⟨rfl,t,j⟩;refine⟨_,rfl,((b.out.keep d).chg j v.out),?_⟩;refine bh (by kernel_rfl) ?_
 simp only[Act.put,List.setIfInBounds_toArray,List.set_cons_zero,List.set_cons_succ];have B:=ah t;have D:=ah ((y.out.trans (Chg.of (F:=G) (ai (cE f) d)) (fun _ _ h=>h)).trans j (fun _ _ h=>h));have E:=ah ((b.out.keep d).chg j v.out);go_wp2_with fail;go_end0;exact⟨rfl,B.out,D.out⟩
theorem gz{σ:Type}{Inv:σ->World->Prop}{nx:Nat->Nat->σ->σ}{ok:σ->Prop}{s:σ}(H:HC σ Inv G rb f1 f2 f3 c nx kd ok)(q:Inv s w)(f:∀ p∈[(0,0),(0,1),(0,2),(0,3),(0,4),(0,5)],kd p.2=p.1)(m:ok (thr nx [(0,0),(0,1),(0,2),(0,3),(0,4),(0,5)] s)) :
  Calls Tryz.prog 144 #[.pointer (some ⟨rb,0,none⟩),.agg #[.func (.func f1) #[] #[c],.func (.func f2) #[] #[c],.func (.func f3) #[] #[c]]] w (xS σ Inv G (thr nx [(0,0),(0,1),(0,2),(0,3),(0,4),(0,5)] s) w):=by
 have d:=af w (.cells #[.func (.func f1) #[] #[c],.func (.func f2) #[] #[c],.func (.func f3) #[] #[c]] 232);have x:=ah (aj w [.func (.func f1) #[] #[c],.func (.func f2) #[] #[c],.func (.func f3) #[] #[c]] 232);have v:=ah (show ¬ G w.heap.size from fun h=>by have:=H.old s w _ q h;omega);have z:=ah (H.keep _ _ _ q d);have y:=ah (show Chg G w _ from Chg.of d)
 have k0:Hid (kd 0=0):=f (0,0) (by simp)
 have E:Hid (kd 1=0):=f (0,1) (by simp)
 have C:Hid (kd 2=0):=f (0,2) (by simp)
 have A:Hid (kd 3=0):=f (0,3) (by simp)
 have D:Hid (kd 4=0):=f (0,4) (by simp)
 have B:Hid (kd 5=0):=f (0,5) (by simp);have n:=ah H;have J:=ah m;clear H q f d m;go_enter Tryz.func144,Tryz.ntmps144;go_wp2_with fail;obtain⟨g,r⟩:∃ g,Hid (w.alloc (.cells #[.func (.func f1) #[] #[c],.func (.func f2) #[] #[c],.func (.func f3) #[] #[c]] 232)=g):=⟨_,rfl⟩
 rw[r.out] at x z y ⊢;have l:=ah (n.out.keep _ _ _ z.out (cE g));have b:=ah (x.out.keep (cE g));refine bJ (S:=fun u=>Blk u w.heap.size [.func (.func f1) #[] #[c],.func (.func f2) #[] #[c],.func (.func f3) #[] #[c]] 232) (by kernel_rfl) b.out ?_
 refine aN 0 (some 4) (.agg #[.func (.func f1) #[] #[c],.func (.func f2) #[] #[c],.func (.func f3) #[] #[c]]) 232 3 w.heap.size 0 (by kernel_rfl) (by kernel_rfl) (by kernel_rfl) (fun u h=>DB (h.cell (i:=0) rfl) (h.cell (i:=1) rfl) (h.cell (i:=2) rfl)) i3 b.out ?_
 refine ax 1 5 (.pointer (some ⟨rb,0,none⟩)) (by kernel_rfl) (fun _ _=>by kernel_rfl) i3 b.out ?_
 refine ax 2 6 (.pointer (some ⟨rb,0,none⟩)) (by kernel_rfl) (fun _ _=>by kernel_rfl) i3 b.out ?_
 refine ax 3 7 (.pointer (some ⟨rb,0,none⟩)) (by kernel_rfl) (fun _ _=>by kernel_rfl) i3 b.out ?_
 refine ax 4 8 (.pointer (some ⟨rb,0,none⟩)) (by kernel_rfl) (fun _ _=>by kernel_rfl) i3 b.out ?_
 refine ax 5 9 (.pointer (some ⟨rb,0,none⟩)) (by kernel_rfl) (fun _ _=>by kernel_rfl) i3 b.out ?_
 refine ax 6 10 (.pointer (some ⟨rb,1,none⟩)) (by kernel_rfl) (fun _ _=>by kernel_rfl) i3 b.out ?_
 refine ax 7 11 (.pointer (some ⟨rb,0,none⟩)) (by kernel_rfl) (fun _ _=>by kernel_rfl) i3 b.out ?_
 refine ax 8 12 (.pointer (some ⟨rb,0,none⟩)) (by kernel_rfl) (fun _ _=>by kernel_rfl) i3 b.out ?_
 refine ax 9 13 (.pointer (some ⟨rb,2,none⟩)) (by kernel_rfl) (fun _ _=>by kernel_rfl) i3 b.out ?_
 refine ax 10 14 (.pointer (some ⟨rb,0,none⟩)) (by kernel_rfl) (fun _ _=>by kernel_rfl) i3 b.out ?_
 refine ax 11 15 (.pointer (some ⟨rb,0,none⟩)) (by kernel_rfl) (fun _ _=>by kernel_rfl) i3 b.out ?_
 refine ax 12 16 (.pointer (some ⟨rb,3,none⟩)) (by kernel_rfl) (fun _ _=>by kernel_rfl) i3 b.out ?_
 refine ax 13 17 (.pointer (some ⟨rb,0,none⟩)) (by kernel_rfl) (fun _ _=>by kernel_rfl) i3 b.out ?_
 refine ax 14 18 (.pointer (some ⟨rb,0,none⟩)) (by kernel_rfl) (fun _ _=>by kernel_rfl) i3 b.out ?_
 refine ax 15 19 (.pointer (some ⟨rb,4,none⟩)) (by kernel_rfl) (fun _ _=>by kernel_rfl) i3 b.out ?_
 refine ax 16 20 (.pointer (some ⟨rb,0,none⟩)) (by kernel_rfl) (fun _ _=>by kernel_rfl) i3 b.out ?_
 refine ax 17 21 (.pointer (some ⟨rb,0,none⟩)) (by kernel_rfl) (fun _ _=>by kernel_rfl) i3 b.out ?_
 refine ax 18 22 (.pointer (some ⟨rb,5,none⟩)) (by kernel_rfl) (fun _ _=>by kernel_rfl) i3 b.out ?_
 have d:=af g.drew (.cells #[.pointer (some ⟨rb,0,none⟩),.pointer (some ⟨rb,1,none⟩),.pointer (some ⟨rb,2,none⟩),.pointer (some ⟨rb,3,none⟩),.pointer (some ⟨rb,4,none⟩),.pointer (some ⟨rb,5,none⟩)] 221);have o:=aj g.drew [.pointer (some ⟨rb,0,none⟩),.pointer (some ⟨rb,1,none⟩),.pointer (some ⟨rb,2,none⟩),.pointer (some ⟨rb,3,none⟩),.pointer (some ⟨rb,4,none⟩),.pointer (some ⟨rb,5,none⟩)] 221;refine aB [19] (by kernel_rfl) (by simp) (aO 19 (some 23) (.slice (some ⟨g.drew.heap.size,0,none⟩) 6 6) (g.drew.alloc (.cells #[.pointer (some ⟨rb,0,none⟩),.pointer (some ⟨rb,1,none⟩),.pointer (some ⟨rb,2,none⟩),.pointer (some ⟨rb,3,none⟩),.pointer (some ⟨rb,4,none⟩),.pointer (some ⟨rb,5,none⟩)] 221)) (by kernel_rfl) (by kernel_rfl) (b.out.keep d) ?_ aL);refine bQ 20 (some 24) 140 #[.agg #[.func (.func f1) #[] #[c],.func (.func f2) #[] #[c],.func (.func f3) #[] #[c]],.slice (some ⟨g.drew.heap.size,0,none⟩) 6 6] (by kernel_rfl) (by kernel_rfl) (fo (offs:=[0,1,2,3,4,5]) n.out (n.out.keep _ _ _ l.out d) o (fun h=>by have:=n.out.old _ _ _ l.out h;omega) (by simp[k0.out,E.out,C.out,A.out,D.out,B.out]) (n.out.okt [] _ J.out) rfl (by decide)) ?_
 rintro N M ⟨rfl,t,j⟩;refine⟨_,rfl,((b.out.keep d).chg j v.out),?_⟩;refine bh (by kernel_rfl) ?_
 simp only[Act.put,List.setIfInBounds_toArray,List.set_cons_zero,List.set_cons_succ];have I:=ah t;have K:=ah ((y.out.trans (Chg.of (F:=G) (ai (cE g) d)) (fun _ _ h=>h)).trans j (fun _ _ h=>h));have L:=ah ((b.out.keep d).chg j v.out);go_wp2_with fail;go_end0;exact⟨rfl,I.out,K.out⟩
theorem nM{σ:Type}{Inv:σ->World->Prop}{nx:Nat->Nat->σ->σ}{ok:σ->Prop}{s:σ}(H:HC σ Inv G rb f1 f2 f3 c nx kd ok)(B:Inv s w)(f:∀ p∈[(0,0),(0,1),(0,2),(0,3),(0,4),(0,5),(2,6)],kd p.2=p.1)(t:ok (thr nx [(0,0),(0,1),(0,2),(0,3),(0,4),(0,5),(2,6)] s)) :
  Calls Tryz.prog 149 #[.pointer (some ⟨rb,0,none⟩),.agg #[.func (.func f1) #[] #[c],.func (.func f2) #[] #[c],.func (.func f3) #[] #[c]]] w (xS σ Inv G (thr nx [(0,0),(0,1),(0,2),(0,3),(0,4),(0,5),(2,6)] s) w):=by
 have d:=af w (.cells #[.func (.func f1) #[] #[c],.func (.func f2) #[] #[c],.func (.func f3) #[] #[c]] 232);have I:=ah (aj w [.func (.func f1) #[] #[c],.func (.func f2) #[] #[c],.func (.func f3) #[] #[c]] 232);have x:=ah (show ¬ G w.heap.size from fun h=>by have:=H.old s w _ B h;omega);have K:=ah (H.keep _ _ _ B d);have J:=ah (show Chg G w _ from Chg.of d)
 have k0:Hid (kd 0=0):=f (0,0) (by simp)
 have R:Hid (kd 1=0):=f (0,1) (by simp)
 have O:Hid (kd 2=0):=f (0,2) (by simp)
 have M:Hid (kd 3=0):=f (0,3) (by simp)
 have Q:Hid (kd 4=0):=f (0,4) (by simp)
 have N:Hid (kd 5=0):=f (0,5) (by simp)
 have X:Hid (kd 6=2):=f (2,6) (by simp);have m:=ah H;have L:=ah t;clear H B f d t;go_enter Tryz.func149,Tryz.ntmps149;go_wp2_with fail;obtain⟨l,C⟩:∃ l,Hid (w.alloc (.cells #[.func (.func f1) #[] #[c],.func (.func f2) #[] #[c],.func (.func f3) #[] #[c]] 232)=l):=⟨_,rfl⟩
 rw[C.out] at I K J ⊢;have r:=ah (m.out.keep _ _ _ K.out (cE l));have b:=ah (I.out.keep (cE l));refine bJ (S:=fun u=>Blk u w.heap.size [.func (.func f1) #[] #[c],.func (.func f2) #[] #[c],.func (.func f3) #[] #[c]] 232) (by kernel_rfl) b.out ?_
 refine aN 0 (some 4) (.agg #[.func (.func f1) #[] #[c],.func (.func f2) #[] #[c],.func (.func f3) #[] #[c]]) 232 3 w.heap.size 0 (by kernel_rfl) (by kernel_rfl) (by kernel_rfl) (fun u h=>DB (h.cell (i:=0) rfl) (h.cell (i:=1) rfl) (h.cell (i:=2) rfl)) i3 b.out ?_
 refine ax 1 5 (.pointer (some ⟨rb,0,none⟩)) (by kernel_rfl) (fun _ _=>by kernel_rfl) i3 b.out ?_
 refine ax 2 6 (.pointer (some ⟨rb,0,none⟩)) (by kernel_rfl) (fun _ _=>by kernel_rfl) i3 b.out ?_
 refine ax 3 7 (.pointer (some ⟨rb,0,none⟩)) (by kernel_rfl) (fun _ _=>by kernel_rfl) i3 b.out ?_
 refine ax 4 8 (.pointer (some ⟨rb,0,none⟩)) (by kernel_rfl) (fun _ _=>by kernel_rfl) i3 b.out ?_
 refine ax 5 9 (.pointer (some ⟨rb,0,none⟩)) (by kernel_rfl) (fun _ _=>by kernel_rfl) i3 b.out ?_
 refine ax 6 10 (.pointer (some ⟨rb,1,none⟩)) (by kernel_rfl) (fun _ _=>by kernel_rfl) i3 b.out ?_
 refine ax 7 11 (.pointer (some ⟨rb,0,none⟩)) (by kernel_rfl) (fun _ _=>by kernel_rfl) i3 b.out ?_
 refine ax 8 12 (.pointer (some ⟨rb,0,none⟩)) (by kernel_rfl) (fun _ _=>by kernel_rfl) i3 b.out ?_
 refine ax 9 13 (.pointer (some ⟨rb,2,none⟩)) (by kernel_rfl) (fun _ _=>by kernel_rfl) i3 b.out ?_
 refine ax 10 14 (.pointer (some ⟨rb,0,none⟩)) (by kernel_rfl) (fun _ _=>by kernel_rfl) i3 b.out ?_
 refine ax 11 15 (.pointer (some ⟨rb,0,none⟩)) (by kernel_rfl) (fun _ _=>by kernel_rfl) i3 b.out ?_
 refine ax 12 16 (.pointer (some ⟨rb,3,none⟩)) (by kernel_rfl) (fun _ _=>by kernel_rfl) i3 b.out ?_
 refine ax 13 17 (.pointer (some ⟨rb,0,none⟩)) (by kernel_rfl) (fun _ _=>by kernel_rfl) i3 b.out ?_
 refine ax 14 18 (.pointer (some ⟨rb,0,none⟩)) (by kernel_rfl) (fun _ _=>by kernel_rfl) i3 b.out ?_
 refine ax 15 19 (.pointer (some ⟨rb,4,none⟩)) (by kernel_rfl) (fun _ _=>by kernel_rfl) i3 b.out ?_
 refine ax 16 20 (.pointer (some ⟨rb,0,none⟩)) (by kernel_rfl) (fun _ _=>by kernel_rfl) i3 b.out ?_
 refine ax 17 21 (.pointer (some ⟨rb,0,none⟩)) (by kernel_rfl) (fun _ _=>by kernel_rfl) i3 b.out ?_
 refine ax 18 22 (.pointer (some ⟨rb,5,none⟩)) (by kernel_rfl) (fun _ _=>by kernel_rfl) i3 b.out ?_
 have d:=af l.drew (.cells #[.pointer (some ⟨rb,0,none⟩),.pointer (some ⟨rb,1,none⟩),.pointer (some ⟨rb,2,none⟩),.pointer (some ⟨rb,3,none⟩),.pointer (some ⟨rb,4,none⟩),.pointer (some ⟨rb,5,none⟩)] 221);have y:=aj l.drew [.pointer (some ⟨rb,0,none⟩),.pointer (some ⟨rb,1,none⟩),.pointer (some ⟨rb,2,none⟩),.pointer (some ⟨rb,3,none⟩),.pointer (some ⟨rb,4,none⟩),.pointer (some ⟨rb,5,none⟩)] 221;refine aB [19] (by kernel_rfl) (by simp) (aO 19 (some 23) (.slice (some ⟨l.drew.heap.size,0,none⟩) 6 6) (l.drew.alloc (.cells #[.pointer (some ⟨rb,0,none⟩),.pointer (some ⟨rb,1,none⟩),.pointer (some ⟨rb,2,none⟩),.pointer (some ⟨rb,3,none⟩),.pointer (some ⟨rb,4,none⟩),.pointer (some ⟨rb,5,none⟩)] 221)) (by kernel_rfl) (by kernel_rfl) (b.out.keep d) ?_ aL);refine bQ 20 (some 24) 140 #[.agg #[.func (.func f1) #[] #[c],.func (.func f2) #[] #[c],.func (.func f3) #[] #[c]],.slice (some ⟨l.drew.heap.size,0,none⟩) 6 6] (by kernel_rfl) (by kernel_rfl) (fo (offs:=[0,1,2,3,4,5]) m.out (m.out.keep _ _ _ r.out d) y (fun h=>by have:=m.out.old _ _ _ r.out h;omega) (by simp[k0.out,R.out,O.out,M.out,Q.out,N.out]) (m.out.okt [(2,6)] _ L.out) rfl (by decide)) ?_
 rintro V n ⟨rfl,E,o⟩;refine⟨_,rfl,((b.out.keep d).chg o x.out),?_⟩;refine bh (by kernel_rfl) ?_
 simp only[Act.put,List.setIfInBounds_toArray,List.set_cons_zero,List.set_cons_succ];have U:=ah E;have Y:=ah ((J.out.trans (Chg.of (F:=G) (ai (cE l) d)) (fun _ _ h=>h)).trans o (fun _ _ h=>h));have D:=ah ((b.out.keep d).chg o x.out);go_wp2_with fail;have v:=ah (m.out.keep _ _ _ U.out (cE n));have g:=ah (D.out.keep (cE n));refine bJ (S:=fun u=>Blk u w.heap.size [.func (.func f1) #[] #[c],.func (.func f2) #[] #[c],.func (.func f3) #[] #[c]] 232) (by kernel_rfl) g.out ?_
 refine aN 0 (some 25) (.agg #[.func (.func f1) #[] #[c],.func (.func f2) #[] #[c],.func (.func f3) #[] #[c]]) 232 3 w.heap.size 0 (by kernel_rfl) (by kernel_rfl) (by kernel_rfl) (fun u h=>DB (h.cell (i:=0) rfl) (h.cell (i:=1) rfl) (h.cell (i:=2) rfl)) i3 g.out ?_
 refine ax 1 26 (.pointer (some ⟨rb,0,none⟩)) (by kernel_rfl) (fun _ _=>by kernel_rfl) i3 g.out ?_
 refine ax 2 27 (.pointer (some ⟨rb,0,none⟩)) (by kernel_rfl) (fun _ _=>by kernel_rfl) i3 g.out ?_
 refine ax 3 28 (.pointer (some ⟨rb,6,none⟩)) (by kernel_rfl) (fun _ _=>by kernel_rfl) i3 g.out ?_
 have j:=af n.drew (.cells #[.pointer (some ⟨rb,6,none⟩)] 227);have A:=aj n.drew [.pointer (some ⟨rb,6,none⟩)] 227;refine aB [4] (by kernel_rfl) (by simp) (aO 4 (some 29) (.slice (some ⟨n.drew.heap.size,0,none⟩) 1 1) (n.drew.alloc (.cells #[.pointer (some ⟨rb,6,none⟩)] 227)) (by kernel_rfl) (by kernel_rfl) (g.out.keep j) ?_ aL);refine bQ 5 (some 30) 201 #[.agg #[.func (.func f1) #[] #[c],.func (.func f2) #[] #[c],.func (.func f3) #[] #[c]],.slice (some ⟨n.drew.heap.size,0,none⟩) 1 1] (by kernel_rfl) (by kernel_rfl) (pD (offs:=[6]) m.out (m.out.keep _ _ _ v.out j) A (fun h=>by have:=m.out.old _ _ _ v.out h;omega) (by simp[X.out]) (m.out.okt [] _ L.out) rfl (by decide)) ?_
 rintro V Z ⟨rfl,z,q⟩;refine⟨_,rfl,((g.out.keep j).chg q x.out),?_⟩;refine bh (by kernel_rfl) ?_
 simp only[Act.put,List.setIfInBounds_toArray,List.set_cons_zero,List.set_cons_succ];have W:=ah z;have T:=ah ((Y.out.trans (Chg.of (F:=G) (ai (cE n) j)) (fun _ _ h=>h)).trans q (fun _ _ h=>h));have P:=ah ((g.out.keep j).chg q x.out);go_wp2_with fail;go_end0;exact⟨rfl,W.out,T.out⟩
theorem jk{σ:Type}{Inv:σ->World->Prop}{nx:Nat->Nat->σ->σ}{ok:σ->Prop}{s:σ}(H:HC σ Inv G rb f1 f2 f3 c nx kd ok)(o:Inv s w)(f:∀ p∈[(0,0)],kd p.2=p.1)(j:ok (thr nx [(0,0)] s)) :
  Calls Tryz.prog 117 #[.pointer (some ⟨rb,0,none⟩),.agg #[.func (.func f1) #[] #[c],.func (.func f2) #[] #[c],.func (.func f3) #[] #[c]]] w (xS σ Inv G (thr nx [(0,0)] s) w):=by
 have b:=af w (.cells #[.func (.func f1) #[] #[c],.func (.func f2) #[] #[c],.func (.func f3) #[] #[c]] 232);have m:=ah (aj w [.func (.func f1) #[] #[c],.func (.func f2) #[] #[c],.func (.func f3) #[] #[c]] 232);have y:=ah (show ¬ G w.heap.size from fun h=>by have:=H.old s w _ o h;omega);have n:=ah (H.keep _ _ _ o b);have t:=ah (show Chg G w _ from Chg.of b)
 have k0:Hid (kd 0=0):=f (0,0) (by simp);have q:=ah H;have v:=ah j;clear H o f b j;have A:=m.out.cell (i:=0) rfl;have z1:=m.out.cell (i:=1) rfl;have B:=m.out.cell (i:=2) rfl;go_enter Tryz.func117,Tryz.ntmps117;go_wp2_with fail;obtain⟨d,l⟩:∃ d,Hid (w.alloc (.cells #[.func (.func f1) #[] #[c],.func (.func f2) #[] #[c],.func (.func f3) #[] #[c]] 232)=d):=⟨_,rfl⟩
 rw[l.out] at m n t ⊢;have al:=af d (.cells #[.pointer (some ⟨rb,0,none⟩)] 221);have r:=aj d [.pointer (some ⟨rb,0,none⟩)] 221
 have g:Hid (d.heap.size=w.heap.size+1):=by show _=_;rw[<- l.out];exact bC _ _
 rw[g.out] at r;refine(fo (offs:=[0]) q.out (q.out.keep _ _ _ n.out al) r (fun h=>by have:=q.out.old _ _ _ n.out h;have:=g.out;omega) (by simp[k0.out]) v.out rfl (by decide)).mono ?_
 rintro C z ⟨rfl,u,x⟩;go_wp2;go_end0;exact⟨rfl,u,(t.out.trans (Chg.of (F:=G) al) (fun _ _ h=>h)).trans x (fun _ _ h=>h)⟩
end
end Rc
end
section
namespace Rc
open Go.RowKit Go.Lib Pg
attribute [local go_sem] Oper.semAt_some
def fit (V:Int):Int:=if (cW V).length < 256 then V else 0
theorem dS (V:Int):(cW (fit V)).length < 256:=by
 unfold fit;split
 ·assumption
 ·rw[zM];decide
def dO:Nat->Int->List Int
 | 0,x=>be 8 x
 | 1,x=>be 1 x
 | _,x=>dz 1 (cW (fit x))
theorem But.chg {g:Nat} {w w':World} (h:But g w w'):Chg (·=g) w w':=⟨h.os,h.tape,h.output,h.size,fun b hb hne=>h.block b hb hne⟩
theorem fp {w:World} {ao:Option Addr} {n c:Nat} {V:Int} (h:ef w ao n c V) (hn:n<=1000000) :
  Calls Tryz.prog 138 #[.agg #[.slice ao n c]] w fun e w'=>∃ a1 n1 c1,e=.returned (.agg #[.slice a1 n1 c1])/\ef w' a1 n1 c1 (fit V)/\n1<=1000000/\Below w.heap.size w w':=by
 have G:=af w (.cells #[.slice ao n c] 46);have C:=af (w.alloc (.cells #[.slice ao n c] 46)) (.cells #[.slice none 0 0] 46);have s:=af ((w.alloc (.cells #[.slice ao n c] 46)).alloc (.cells #[.slice none 0 0] 46)) (.cells Tryz.zeroCells219 219);have s1:=bC w (.cells #[.slice ao n c] 46);have s2:=bC (w.alloc (.cells #[.slice ao n c] 46)) (.cells #[.slice none 0 0] 46);have y:=((aj w [.slice ao n c] 46).keep C).keep s;have u:=(aj (w.alloc (.cells #[.slice ao n c] 46)) [.slice none 0 0] 46).keep s;have X:=sf ((w.alloc (.cells #[.slice ao n c] 46)).alloc (.cells #[.slice none 0 0] 46));rw[s2,s1] at X;rw[s1] at u;obtain⟨E,l⟩:∃ E,Hid ((((w.alloc (.cells #[.slice ao n c] 46)).alloc (.cells #[.slice none 0 0] 46)).alloc (.cells Tryz.zeroCells219 219))=E):=⟨_,rfl⟩
 have v:=ai (ai G C) s;rw[l.out] at v y u X;have f:=ah v;have r:=ah y;have p:=ah u;have H:=ah X;have F:=ah (h.keep v);have B:=ah h;have q:=ah (show ¬ (w.heap.size=w.heap.size+1+1) by omega);have m:=ah (show ¬ (w.heap.size+1=w.heap.size+1+1) by omega);clear G C s1 s2 y u s X h v;by_cases hf:(cW V).length < 256
 ·have D:=ah (show ff V 0=0 by unfold ff;rw[if_pos hf]);have z:=ah (show fit V=V by unfold fit;rw[if_pos hf])
  have J:=ah (show (fN V 0 []).length<=17592186044416 by
   unfold fN wrote;rw[if_pos hf,if_pos rfl];simp[dz,aD]
   omega)
  clear hf;go_enter Tryz.func138,Tryz.ntmps138;go_wp2_with fail;rw[l.out];refine(oH H.out F.out (by omega) (by simp;omega)).mono ?_
  rintro A I ⟨rfl,j,d⟩;rw[D.out] at j;go_wp2_with fail;refine(su j J.out).mono ?_
  rintro A K ⟨rfl,-,b⟩;have o:=r.out.chg (But.chg d) q.out;have g:=p.out.chg (But.chg d) m.out;have d1:=(o.keep b).cell (i:=0) rfl;have d2:=(g.keep b).cell (i:=0) rfl;have f2:=(g.keep b).free 0;have t:=ah ((d.below f.out (by omega) (Nat.le_refl _)).trans (b.mono (by have:=f.out.size;have:=d.size;omega)));have x:=ah (show Slot _ _ _ _ from⟨((g.keep b).setCell (i:=0) (.slice ao n c)).blk⟩);clear o g j d b;go_wp2;refine bodyPost_ret (lV rfl rfl x.out) rfl ?_
  refine⟨ao,n,c,rfl,?_,hn,?_⟩
  ·rw[z.out];exact B.out.keep (t.out.setCell (Nat.le_succ _) _)
  ·exact t.out.setCell (Nat.le_succ _) _
 ·have D:=ah (show ff V 0=42 by unfold ff;rw[if_neg hf];rfl);have z:=ah (show fit V=0 by unfold fit;rw[if_neg hf]);clear hf;go_enter Tryz.func138,Tryz.ntmps138;go_wp2_with fail;rw[l.out];refine(oH H.out F.out (by omega) (by simp;omega)).mono ?_
  rintro A I ⟨rfl,j,d⟩;rw[D.out] at j;go_wp2_with fail;refine(wrOutE j (by decide)).mono ?_
  rintro A K ⟨rfl,b⟩;have o:=r.out.chg (But.chg d) q.out;have g:=p.out.chg (But.chg d) m.out;have d1:=(o.keep b).cell (i:=0) rfl;have d2:=(g.keep b).cell (i:=0) rfl;have f2:=(g.keep b).free 0;have t:=ah ((d.below f.out (by omega) (Nat.le_refl _)).trans (b.mono (by have:=f.out.size;have:=d.size;omega)));have x:=ah (show Slot _ _ _ _ from⟨((g.keep b).setCell (i:=0) (.slice none 0 0)).blk⟩);clear o g j d b;go_wp2;refine bodyPost_ret (lV rfl rfl x.out) rfl ?_
  refine⟨none,0,0,rfl,?_,by decide,?_⟩
  ·rw[z.out];exact(jW _).a
  ·exact t.out.setCell (Nat.le_succ _) _
section
variable {w0 w:World}{bw rb o n c:Nat}{cs:List Value}{L:List Int}{x:Bool}{y V:Int}{ao:Option Addr}{xs:Nat->Int}
theorem z8(k:Nat)(x:Int):(dO k x).length<=300:=by
 unfold dO;split
 ·rw[aD];decide
 ·rw[aD];decide
 ·have:=dS x;simp only[dz,List.length_append,aD];omega
def pnx(xs:Nat->Int)(k o:Nat)(L:List Int):List Int:=L ++ dO k (xs o)
theorem fk(xs:Nat->Int)(l:List (Nat × Nat)):∀ L:List Int,(thr (pnx xs) l L).length<=L.length+300 * l.length:=by
 induction l with
 | nil=>intro L;simp[thr]
 | cons p l ih =>
  intro L;have h:=ih (pnx xs p.1 p.2 L);have a:=z8 p.1 (xs p.2)
  have e:thr (pnx xs) (p :: l) L=thr (pnx xs) l (pnx xs p.1 p.2 L):=rfl;rw[e];simp only[pnx,List.length_append] at h;simp only[List.length_cons];simp only[pnx];omega
def okL(L:List Int):Prop:=L.length<=1000000000000
structure PI(w0:World)(bw rb:Nat)(cs:List Value)(T:TypeId)(L:List Int)(w:World):Prop where
 wr:WrA w bw 0 L
 bel:Below w0.heap.size w0 w
 blk:Blk w rb cs T
 hb:w0.heap.size<=bw
 ne:rb≠bw
def px(w0:World)(kd:Nat->Nat)(cs:List Value)(xs:Nat->Int):Prop:=∀ o,(kd o=0->cs[o]?=some (.int .u64 (xs o)))/\(kd o=1->∃ b:Bool,cs[o]?=some (.bool b)/\xs o=if b then 1 else 0)/\(kd o=2->∃ ao n c,cs[o]?=some (.slice ao n c)/\ef w0 ao n c (xs o)/\n<=1000000)
theorem PI.step{w':World}{T:TypeId}{L':List Int}(h:PI w0 bw rb cs T L w)(X:WrA w' bw 0 L')(B:But bw w w'):PI w0 bw rb cs T L' w' :=
 ⟨X,B.below h.bel h.hb (Nat.le_refl _),h.blk.chg (But.chg B) (fun e=>h.ne e),h.hb,h.ne⟩
theorem Ac{x:Int}(c:w.cell? ⟨rb,o,none⟩=some (.int .u64 x))(X:WrA w bw 0 L)(i:L.length<=1000000000000) :
  Calls Tryz.prog 132 #[.pointer (some ⟨rb,o,none⟩),.pointer (some ⟨bw,0,none⟩)] w fun e w'=>e=.returned (.tuple #[])/\WrA w' bw 0 (L ++ dO 0 x)/\But bw w w':=by
 have t:=wj (x:=x) X (by omega);clear X;go_enter Tryz.func132,Tryz.ntmps132;go_wp2_with (go_at_call 133;refine t.mono ?_;rintro g f ⟨rfl,d,b⟩;clear t);go_end0;exact⟨rfl,d,b⟩
theorem yJ(hy:(if x then (1:Int) else 0)=y)(c:w.cell? ⟨rb,o,none⟩=some (.bool x))(X:WrA w bw 0 L)(i:L.length<=1000000000000) :
  Calls Tryz.prog 134 #[.pointer (some ⟨rb,o,none⟩),.pointer (some ⟨bw,0,none⟩)] w fun e w'=>e=.returned (.tuple #[])/\WrA w' bw 0 (L ++ dO 1 y)/\But bw w w':=by
 have t:=pV (x:=x) X (by omega);rw[hy] at t;clear X hy;go_enter Tryz.func134,Tryz.ntmps134;go_wp2_with (go_at_call 135;refine t.mono ?_;rintro g f ⟨rfl,d,b⟩;clear t);go_end0;exact⟨rfl,d,b⟩
theorem Bw(cc:w.cell? ⟨rb,o,none⟩=some (.slice ao n c))(f:ef w ao n c V)(hn:n<=1000000)(X:WrA w bw 0 L)(s:L.length<=1000000000000) :
  Calls Tryz.prog 136 #[.pointer (some ⟨rb,o,none⟩),.pointer (some ⟨bw,0,none⟩)] w fun e w'=>e=.returned (.tuple #[])/\WrA w' bw 0 (L ++ dO 2 V)/\But bw w w':=by
 have t:=fp f hn;have q:=ah X;clear X f;go_enter Tryz.func136,Tryz.ntmps136;go_wp2_with first
  | (go_at_call 138;refine t.mono ?_;rintro m r ⟨u,v,c1,rfl,l,j,d⟩;clear t)
  | (go_at_call 137;refine(oH (q.out.keep d) l (by omega) (by omega)).mono ?_;rintro m x ⟨rfl,g,i⟩)
 go_end0
 have p:ff (fit V) 0=0:=by unfold ff;rw[if_pos (dS V)]
 have b:fN (fit V) 0 L=L ++ dO 2 V:=by unfold fN wrote;rw[if_pos (dS V),if_pos rfl];rfl
 rw[p,b] at g;exact⟨rfl,g,(But.of d).trans i⟩
def bL(o:Nat):Nat:=([0,0]:List Nat).getD o 9
theorem yQ{T:TypeId}(F:px w0 bL cs xs):HC (List Int) (PI w0 bw rb cs T) (·=bw) rb 132 134 136 (.pointer (some ⟨bw,0,none⟩)) (pnx xs) bL okL where
 oks:=fun k o L h=>by
  unfold okL pnx at *;rw[List.length_append] at h;omega
 keep:=fun L w i h B=>⟨h.wr.keep B,h.bel.trans (B.mono h.bel.size),h.blk.keep B,h.hb,h.ne⟩
 old:=fun L w b h e=>by have j:b=bw:=e;subst j;exact h.wr.lt
 e1:=fun _ _=>by kernel_rfl
 e2:=fun _ _=>by kernel_rfl
 e3:=fun _ _=>by kernel_rfl
 u:=fun L w o h a f=>by
  have g:L.length<=1000000000000:=by unfold okL pnx at a;rw[List.length_append] at a;omega
  refine(Ac (h.blk.cell ((F o).1 f)) h.wr g).mono ?_
  rintro e i ⟨rfl,X,B⟩;exact⟨rfl,h.step X B,But.chg B⟩
 t:=fun L w o h a f=>by
  have g:L.length<=1000000000000:=by unfold okL pnx at a;rw[List.length_append] at a;omega
  obtain⟨b,hb,hx⟩:=(F o).2.1 f;refine(yJ hx.symm (h.blk.cell hb) h.wr g).mono ?_
  rintro e i ⟨rfl,X,B⟩;exact⟨rfl,h.step X B,But.chg B⟩
 d:=fun L w o h a f=>by
  have g:L.length<=1000000000000:=by unfold okL pnx at a;rw[List.length_append] at a;omega
  obtain⟨m,n,c,hb,l,hn⟩:=(F o).2.2 f;refine(Bw (h.blk.cell hb) (l.keep h.bel) hn h.wr g).mono ?_
  rintro e i ⟨rfl,X,B⟩;exact⟨rfl,h.step X B,But.chg B⟩
def fx(o:Nat):Nat:=([2]:List Nat).getD o 9
def uU(o:Nat):Nat:=([2,0]:List Nat).getD o 9
theorem pO{x:Int}(c:w.cell? ⟨rb,o,none⟩=some (.int .u64 x))(X:WrA w bw 0 L)(i:L.length<=1000000000000) :
  Calls Tryz.prog 190 #[.pointer (some ⟨rb,o,none⟩),.pointer (some ⟨bw,0,none⟩)] w fun e w'=>e=.returned (.tuple #[])/\WrA w' bw 0 (L ++ dO 0 x)/\But bw w w':=by
 have t:=wj (x:=x) X (by omega);clear X;go_enter Tryz.func190,Tryz.ntmps190;go_wp2_with (go_at_call 133;refine t.mono ?_;rintro g f ⟨rfl,d,b⟩;clear t);go_end0;exact⟨rfl,d,b⟩
theorem qu(hy:(if x then (1:Int) else 0)=y)(c:w.cell? ⟨rb,o,none⟩=some (.bool x))(X:WrA w bw 0 L)(i:L.length<=1000000000000) :
  Calls Tryz.prog 191 #[.pointer (some ⟨rb,o,none⟩),.pointer (some ⟨bw,0,none⟩)] w fun e w'=>e=.returned (.tuple #[])/\WrA w' bw 0 (L ++ dO 1 y)/\But bw w w':=by
 have t:=pV (x:=x) X (by omega);rw[hy] at t;clear X hy;go_enter Tryz.func191,Tryz.ntmps191;go_wp2_with (go_at_call 135;refine t.mono ?_;rintro g f ⟨rfl,d,b⟩;clear t);go_end0;exact⟨rfl,d,b⟩
theorem pN(cc:w.cell? ⟨rb,o,none⟩=some (.slice ao n c))(f:ef w ao n c V)(hn:n<=1000000)(X:WrA w bw 0 L)(s:L.length<=1000000000000) :
  Calls Tryz.prog 192 #[.pointer (some ⟨rb,o,none⟩),.pointer (some ⟨bw,0,none⟩)] w fun e w'=>e=.returned (.tuple #[])/\WrA w' bw 0 (L ++ dO 2 V)/\But bw w w':=by
 have t:=fp f hn;have q:=ah X;clear X f;go_enter Tryz.func192,Tryz.ntmps192;go_wp2_with first
  | (go_at_call 138;refine t.mono ?_;rintro m r ⟨u,v,c1,rfl,l,j,d⟩;clear t)
  | (go_at_call 137;refine(oH (q.out.keep d) l (by omega) (by omega)).mono ?_;rintro m x ⟨rfl,g,i⟩)
 go_end0
 have p:ff (fit V) 0=0:=by unfold ff;rw[if_pos (dS V)]
 have b:fN (fit V) 0 L=L ++ dO 2 V:=by unfold fN wrote;rw[if_pos (dS V),if_pos rfl];rfl
 rw[p,b] at g;exact⟨rfl,g,(But.of d).trans i⟩
def aM(o:Nat):Nat:=([0,0,0,0,0,0]:List Nat).getD o 9
theorem ql{T:TypeId}(F:px w0 aM cs xs):HC (List Int) (PI w0 bw rb cs T) (·=bw) rb 190 191 192 (.pointer (some ⟨bw,0,none⟩)) (pnx xs) aM okL where
 oks:=fun k o L h=>by
  unfold okL pnx at *;rw[List.length_append] at h;omega
 keep:=fun L w i h B=>⟨h.wr.keep B,h.bel.trans (B.mono h.bel.size),h.blk.keep B,h.hb,h.ne⟩
 old:=fun L w b h e=>by have j:b=bw:=e;subst j;exact h.wr.lt
 e1:=fun _ _=>by kernel_rfl
 e2:=fun _ _=>by kernel_rfl
 e3:=fun _ _=>by kernel_rfl
 u:=fun L w o h a f=>by
  have g:L.length<=1000000000000:=by unfold okL pnx at a;rw[List.length_append] at a;omega
  refine(pO (h.blk.cell ((F o).1 f)) h.wr g).mono ?_
  rintro e i ⟨rfl,X,B⟩;exact⟨rfl,h.step X B,But.chg B⟩
 t:=fun L w o h a f=>by
  have g:L.length<=1000000000000:=by unfold okL pnx at a;rw[List.length_append] at a;omega
  obtain⟨b,hb,hx⟩:=(F o).2.1 f;refine(qu hx.symm (h.blk.cell hb) h.wr g).mono ?_
  rintro e i ⟨rfl,X,B⟩;exact⟨rfl,h.step X B,But.chg B⟩
 d:=fun L w o h a f=>by
  have g:L.length<=1000000000000:=by unfold okL pnx at a;rw[List.length_append] at a;omega
  obtain⟨m,n,c,hb,l,hn⟩:=(F o).2.2 f;refine(pN (h.blk.cell hb) (l.keep h.bel) hn h.wr g).mono ?_
  rintro e i ⟨rfl,X,B⟩;exact⟨rfl,h.step X B,But.chg B⟩
theorem CD{x:Int}(c:w.cell? ⟨rb,o,none⟩=some (.int .u64 x))(X:WrA w bw 0 L)(i:L.length<=1000000000000) :
  Calls Tryz.prog 198 #[.pointer (some ⟨rb,o,none⟩),.pointer (some ⟨bw,0,none⟩)] w fun e w'=>e=.returned (.tuple #[])/\WrA w' bw 0 (L ++ dO 0 x)/\But bw w w':=by
 have t:=wj (x:=x) X (by omega);clear X;go_enter Tryz.func198,Tryz.ntmps198;go_wp2_with (go_at_call 133;refine t.mono ?_;rintro g f ⟨rfl,d,b⟩;clear t);go_end0;exact⟨rfl,d,b⟩
theorem Dh(hy:(if x then (1:Int) else 0)=y)(c:w.cell? ⟨rb,o,none⟩=some (.bool x))(X:WrA w bw 0 L)(i:L.length<=1000000000000) :
  Calls Tryz.prog 199 #[.pointer (some ⟨rb,o,none⟩),.pointer (some ⟨bw,0,none⟩)] w fun e w'=>e=.returned (.tuple #[])/\WrA w' bw 0 (L ++ dO 1 y)/\But bw w w':=by
 have t:=pV (x:=x) X (by omega);rw[hy] at t;clear X hy;go_enter Tryz.func199,Tryz.ntmps199;go_wp2_with (go_at_call 135;refine t.mono ?_;rintro g f ⟨rfl,d,b⟩;clear t);go_end0;exact⟨rfl,d,b⟩
theorem Dc(cc:w.cell? ⟨rb,o,none⟩=some (.slice ao n c))(f:ef w ao n c V)(hn:n<=1000000)(X:WrA w bw 0 L)(s:L.length<=1000000000000) :
  Calls Tryz.prog 200 #[.pointer (some ⟨rb,o,none⟩),.pointer (some ⟨bw,0,none⟩)] w fun e w'=>e=.returned (.tuple #[])/\WrA w' bw 0 (L ++ dO 2 V)/\But bw w w':=by
 have t:=fp f hn;have q:=ah X;clear X f;go_enter Tryz.func200,Tryz.ntmps200;go_wp2_with first
  | (go_at_call 138;refine t.mono ?_;rintro m r ⟨u,v,c1,rfl,l,j,d⟩;clear t)
  | (go_at_call 137;refine(oH (q.out.keep d) l (by omega) (by omega)).mono ?_;rintro m x ⟨rfl,g,i⟩)
 go_end0
 have p:ff (fit V) 0=0:=by unfold ff;rw[if_pos (dS V)]
 have b:fN (fit V) 0 L=L ++ dO 2 V:=by unfold fN wrote;rw[if_pos (dS V),if_pos rfl];rfl
 rw[p,b] at g;exact⟨rfl,g,(But.of d).trans i⟩
def bR(o:Nat):Nat:=([0,0,0,0,0,0,2]:List Nat).getD o 9
theorem DW{T:TypeId}(F:px w0 bR cs xs):HC (List Int) (PI w0 bw rb cs T) (·=bw) rb 198 199 200 (.pointer (some ⟨bw,0,none⟩)) (pnx xs) bR okL where
 oks:=fun k o L h=>by
  unfold okL pnx at *;rw[List.length_append] at h;omega
 keep:=fun L w i h B=>⟨h.wr.keep B,h.bel.trans (B.mono h.bel.size),h.blk.keep B,h.hb,h.ne⟩
 old:=fun L w b h e=>by have j:b=bw:=e;subst j;exact h.wr.lt
 e1:=fun _ _=>by kernel_rfl
 e2:=fun _ _=>by kernel_rfl
 e3:=fun _ _=>by kernel_rfl
 u:=fun L w o h a f=>by
  have g:L.length<=1000000000000:=by unfold okL pnx at a;rw[List.length_append] at a;omega
  refine(CD (h.blk.cell ((F o).1 f)) h.wr g).mono ?_
  rintro e i ⟨rfl,X,B⟩;exact⟨rfl,h.step X B,But.chg B⟩
 t:=fun L w o h a f=>by
  have g:L.length<=1000000000000:=by unfold okL pnx at a;rw[List.length_append] at a;omega
  obtain⟨b,hb,hx⟩:=(F o).2.1 f;refine(Dh hx.symm (h.blk.cell hb) h.wr g).mono ?_
  rintro e i ⟨rfl,X,B⟩;exact⟨rfl,h.step X B,But.chg B⟩
 d:=fun L w o h a f=>by
  have g:L.length<=1000000000000:=by unfold okL pnx at a;rw[List.length_append] at a;omega
  obtain⟨m,n,c,hb,l,hn⟩:=(F o).2.2 f;refine(Dc (h.blk.cell hb) (l.keep h.bel) hn h.wr g).mono ?_
  rintro e i ⟨rfl,X,B⟩;exact⟨rfl,h.step X B,But.chg B⟩
theorem xf{x:Int}(c:w.cell? ⟨rb,o,none⟩=some (.int .u64 x))(X:WrA w bw 0 L)(i:L.length<=1000000000000) :
  Calls Tryz.prog 187 #[.pointer (some ⟨rb,o,none⟩),.pointer (some ⟨bw,0,none⟩)] w fun e w'=>e=.returned (.tuple #[])/\WrA w' bw 0 (L ++ dO 0 x)/\But bw w w':=by
 have t:=wj (x:=x) X (by omega);clear X;go_enter Tryz.func187,Tryz.ntmps187;go_wp2_with (go_at_call 133;refine t.mono ?_;rintro g f ⟨rfl,d,b⟩;clear t);go_end0;exact⟨rfl,d,b⟩
theorem yA(hy:(if x then (1:Int) else 0)=y)(c:w.cell? ⟨rb,o,none⟩=some (.bool x))(X:WrA w bw 0 L)(i:L.length<=1000000000000) :
  Calls Tryz.prog 188 #[.pointer (some ⟨rb,o,none⟩),.pointer (some ⟨bw,0,none⟩)] w fun e w'=>e=.returned (.tuple #[])/\WrA w' bw 0 (L ++ dO 1 y)/\But bw w w':=by
 have t:=pV (x:=x) X (by omega);rw[hy] at t;clear X hy;go_enter Tryz.func188,Tryz.ntmps188;go_wp2_with (go_at_call 135;refine t.mono ?_;rintro g f ⟨rfl,d,b⟩;clear t);go_end0;exact⟨rfl,d,b⟩
theorem wS(cc:w.cell? ⟨rb,o,none⟩=some (.slice ao n c))(f:ef w ao n c V)(hn:n<=1000000)(X:WrA w bw 0 L)(s:L.length<=1000000000000) :
  Calls Tryz.prog 189 #[.pointer (some ⟨rb,o,none⟩),.pointer (some ⟨bw,0,none⟩)] w fun e w'=>e=.returned (.tuple #[])/\WrA w' bw 0 (L ++ dO 2 V)/\But bw w w':=by
 have t:=fp f hn;have q:=ah X;clear X f;go_enter Tryz.func189,Tryz.ntmps189;go_wp2_with first
  | (go_at_call 138;refine t.mono ?_;rintro m r ⟨u,v,c1,rfl,l,j,d⟩;clear t)
  | (go_at_call 137;refine(oH (q.out.keep d) l (by omega) (by omega)).mono ?_;rintro m x ⟨rfl,g,i⟩)
 go_end0
 have p:ff (fit V) 0=0:=by unfold ff;rw[if_pos (dS V)]
 have b:fN (fit V) 0 L=L ++ dO 2 V:=by unfold fN wrote;rw[if_pos (dS V),if_pos rfl];rfl
 rw[p,b] at g;exact⟨rfl,g,(But.of d).trans i⟩
def bg(o:Nat):Nat:=([0]:List Nat).getD o 9
theorem yn{T:TypeId}(F:px w0 bg cs xs):HC (List Int) (PI w0 bw rb cs T) (·=bw) rb 187 188 189 (.pointer (some ⟨bw,0,none⟩)) (pnx xs) bg okL where
 oks:=fun k o L h=>by
  unfold okL pnx at *;rw[List.length_append] at h;omega
 keep:=fun L w i h B=>⟨h.wr.keep B,h.bel.trans (B.mono h.bel.size),h.blk.keep B,h.hb,h.ne⟩
 old:=fun L w b h e=>by have j:b=bw:=e;subst j;exact h.wr.lt
 e1:=fun _ _=>by kernel_rfl
 e2:=fun _ _=>by kernel_rfl
 e3:=fun _ _=>by kernel_rfl
 u:=fun L w o h a f=>by
  have g:L.length<=1000000000000:=by unfold okL pnx at a;rw[List.length_append] at a;omega
  refine(xf (h.blk.cell ((F o).1 f)) h.wr g).mono ?_
  rintro e i ⟨rfl,X,B⟩;exact⟨rfl,h.step X B,But.chg B⟩
 t:=fun L w o h a f=>by
  have g:L.length<=1000000000000:=by unfold okL pnx at a;rw[List.length_append] at a;omega
  obtain⟨b,hb,hx⟩:=(F o).2.1 f;refine(yA hx.symm (h.blk.cell hb) h.wr g).mono ?_
  rintro e i ⟨rfl,X,B⟩;exact⟨rfl,h.step X B,But.chg B⟩
 d:=fun L w o h a f=>by
  have g:L.length<=1000000000000:=by unfold okL pnx at a;rw[List.length_append] at a;omega
  obtain⟨m,n,c,hb,l,hn⟩:=(F o).2.2 f;refine(wS (h.blk.cell hb) (l.keep h.bel) hn h.wr g).mono ?_
  rintro e i ⟨rfl,X,B⟩;exact⟨rfl,h.step X B,But.chg B⟩
end
section
variable {w:World}{x0 x1 x2 x3 x4 x5 x6:Int}{a0 a6:Option Addr}{n6 c6:Nat}
theorem yH : px w bL [.int .u64 x0, .int .u64 x1] (fun o => ([x0, x1] : List Int).getD o 0) := fun o => match o with
    | 0=>⟨fun _=>rfl,fun h=>absurd h (by decide),fun h=>absurd h (by decide)⟩
    | 1=>⟨fun _=>rfl,fun h=>absurd h (by decide),fun h=>absurd h (by decide)⟩
    | k+2=>⟨fun h=>absurd h (by simp[bL]),fun h=>absurd h (by simp[bL]),fun h=>absurd h (by simp[bL])⟩
theorem yj :
  Calls Tryz.prog 85 #[.agg #[.int .u64 x0,.int .u64 x1],.func (.func 86) #[] #[]] w fun e w'=>∃ b n,e=.returned (.slice (some ⟨b,0,none⟩) n n)/\n=(thr (pnx (fun o=>([x0,x1]:List Int).getD o 0)) [(0,0),(0,1)] []).length/\Box w' b ((thr (pnx (fun o=>([x0,x1]:List Int).getD o 0)) [(0,0),(0,1)] []).map (Value.int .u8)) 5/\w.heap.size<=b/\Below w.heap.size w w':=by
 have F:=yH (x0:=x0) (x1:=x1) (w:=w);have p:=af w (.cells #[.int .u64 x0,.int .u64 x1] 40);have l:=af (w.alloc (.cells #[.int .u64 x0,.int .u64 x1] 40)) (.cells Tryz.zeroCells219 219);have s1:=bC w (.cells #[.int .u64 x0,.int .u64 x1] 40);have X:=sf (w.alloc (.cells #[.int .u64 x0,.int .u64 x1] 40));have B:=(aj w [.int .u64 x0,.int .u64 x1] 40).keep l;rw[s1] at X;obtain⟨i,c⟩:∃ i,Hid ((w.alloc (.cells #[.int .u64 x0,.int .u64 x1] 40)).alloc (.cells Tryz.zeroCells219 219)=i):=⟨_,rfl⟩
 have g:=ai p l;rw[c.out] at g X B;obtain⟨M,f⟩:∃ M,Hid (thr (pnx (fun o=>([x0,x1]:List Int).getD o 0)) [(0,0),(0,1)] []=M):=⟨_,rfl⟩
 have hlen:M.length<=3000:=by have h:=fk (fun o=>([x0,x1]:List Int).getD o 0) [(0,0),(0,1)] [];rw[f.out] at h;simp at h;omega
 have U:=lj (yQ (bw:=w.heap.size+1) (rb:=w.heap.size) (T:=40) F) (s:=[]) (w:=i) ⟨X,g,B,Nat.le_succ _,by omega⟩ (by simp[bL]) (by rw[f.out];show M.length<=1000000000000;omega);rw[f.out] at U ⊢;have x:=ah U;clear U F p l s1 X B g;go_enter Tryz.func85,Tryz.ntmps85;go_wp2_with fail;rw[c.out];refine x.out.mono ?_
 rintro v u ⟨rfl,d,y⟩;go_wp2_with fail;refine(su d.wr (by omega)).mono ?_
 rintro v t ⟨rfl,m,r⟩;have q:=ah (show w.heap.size<=u.heap.size/\Below w.heap.size w t from⟨d.bel.size,ai d.bel r⟩);have j:=ah m;clear d y m r;go_wp2;go_ret;exact⟨_,_,rfl,rfl,j.out,q.out.1,q.out.2⟩
theorem fl_Pool{n0 c0:Nat}(a : ef w a0 n0 c0 x0)(m0 : n0 ≤ 1000000) : px w fx [.slice a0 n0 c0] (fun o => ([x0] : List Int).getD o 0) := fun o => match o with
    | 0=>⟨fun h=>absurd h (by decide),fun h=>absurd h (by decide),fun _=>⟨a0,n0,c0,rfl,a,m0⟩⟩
    | k+1=>⟨fun h=>absurd h (by simp[fx]),fun h=>absurd h (by simp[fx]),fun h=>absurd h (by simp[fx])⟩
theorem rh : px w aM [.int .u64 x0, .int .u64 x1, .int .u64 x2, .int .u64 x3, .int .u64 x4, .int .u64 x5] (fun o => ([x0, x1, x2, x3, x4, x5] : List Int).getD o 0) := fun o => match o with
    | 0=>⟨fun _=>rfl,fun h=>absurd h (by decide),fun h=>absurd h (by decide)⟩
    | 1=>⟨fun _=>rfl,fun h=>absurd h (by decide),fun h=>absurd h (by decide)⟩
    | 2=>⟨fun _=>rfl,fun h=>absurd h (by decide),fun h=>absurd h (by decide)⟩
    | 3=>⟨fun _=>rfl,fun h=>absurd h (by decide),fun h=>absurd h (by decide)⟩
    | 4=>⟨fun _=>rfl,fun h=>absurd h (by decide),fun h=>absurd h (by decide)⟩
    | 5=>⟨fun _=>rfl,fun h=>absurd h (by decide),fun h=>absurd h (by decide)⟩
    | k+6=>⟨fun h=>absurd h (by simp[aM]),fun h=>absurd h (by simp[aM]),fun h=>absurd h (by simp[aM])⟩
theorem og :
  Calls Tryz.prog 143 #[.agg #[.int .u64 x0,.int .u64 x1,.int .u64 x2,.int .u64 x3,.int .u64 x4,.int .u64 x5],.func (.func 144) #[] #[]] w fun e w'=>∃ b n,e=.returned (.slice (some ⟨b,0,none⟩) n n)/\n=(thr (pnx (fun o=>([x0,x1,x2,x3,x4,x5]:List Int).getD o 0)) [(0,0),(0,1),(0,2),(0,3),(0,4),(0,5)] []).length/\Box w' b ((thr (pnx (fun o=>([x0,x1,x2,x3,x4,x5]:List Int).getD o 0)) [(0,0),(0,1),(0,2),(0,3),(0,4),(0,5)] []).map (Value.int .u8)) 5/\w.heap.size<=b/\Below w.heap.size w w':=by
 have F:=rh (x0:=x0) (x1:=x1) (x2:=x2) (x3:=x3) (x4:=x4) (x5:=x5) (w:=w);have p:=af w (.cells #[.int .u64 x0,.int .u64 x1,.int .u64 x2,.int .u64 x3,.int .u64 x4,.int .u64 x5] 42);have l:=af (w.alloc (.cells #[.int .u64 x0,.int .u64 x1,.int .u64 x2,.int .u64 x3,.int .u64 x4,.int .u64 x5] 42)) (.cells Tryz.zeroCells219 219);have s1:=bC w (.cells #[.int .u64 x0,.int .u64 x1,.int .u64 x2,.int .u64 x3,.int .u64 x4,.int .u64 x5] 42);have X:=sf (w.alloc (.cells #[.int .u64 x0,.int .u64 x1,.int .u64 x2,.int .u64 x3,.int .u64 x4,.int .u64 x5] 42));have B:=(aj w [.int .u64 x0,.int .u64 x1,.int .u64 x2,.int .u64 x3,.int .u64 x4,.int .u64 x5] 42).keep l;rw[s1] at X;obtain⟨i,c⟩:∃ i,Hid ((w.alloc (.cells #[.int .u64 x0,.int .u64 x1,.int .u64 x2,.int .u64 x3,.int .u64 x4,.int .u64 x5] 42)).alloc (.cells Tryz.zeroCells219 219)=i):=⟨_,rfl⟩
 have g:=ai p l;rw[c.out] at g X B;obtain⟨M,f⟩:∃ M,Hid (thr (pnx (fun o=>([x0,x1,x2,x3,x4,x5]:List Int).getD o 0)) [(0,0),(0,1),(0,2),(0,3),(0,4),(0,5)] []=M):=⟨_,rfl⟩
 have hlen:M.length<=3000:=by have h:=fk (fun o=>([x0,x1,x2,x3,x4,x5]:List Int).getD o 0) [(0,0),(0,1),(0,2),(0,3),(0,4),(0,5)] [];rw[f.out] at h;simp at h;omega
 have U:=gz (ql (bw:=w.heap.size+1) (rb:=w.heap.size) (T:=42) F) (s:=[]) (w:=i) ⟨X,g,B,Nat.le_succ _,by omega⟩ (by simp[aM]) (by rw[f.out];show M.length<=1000000000000;omega);rw[f.out] at U ⊢;have x:=ah U;clear U F p l s1 X B g;go_enter Tryz.func143,Tryz.ntmps143;go_wp2_with fail;rw[c.out];refine x.out.mono ?_
 rintro v u ⟨rfl,d,y⟩;go_wp2_with fail;refine(su d.wr (by omega)).mono ?_
 rintro v t ⟨rfl,m,r⟩;have q:=ah (show w.heap.size<=u.heap.size/\Below w.heap.size w t from⟨d.bel.size,ai d.bel r⟩);have j:=ah m;clear d y m r;go_wp2;go_ret;exact⟨_,_,rfl,rfl,j.out,q.out.1,q.out.2⟩
theorem Dq(b : ef w a6 n6 c6 x6)(a : n6 ≤ 1000000) : px w bR [.int .u64 x0, .int .u64 x1, .int .u64 x2, .int .u64 x3, .int .u64 x4, .int .u64 x5, .slice a6 n6 c6] (fun o => ([x0, x1, x2, x3, x4, x5, x6] : List Int).getD o 0) := fun o => match o with
    | 0=>⟨fun _=>rfl,fun h=>absurd h (by decide),fun h=>absurd h (by decide)⟩
    | 1=>⟨fun _=>rfl,fun h=>absurd h (by decide),fun h=>absurd h (by decide)⟩
    | 2=>⟨fun _=>rfl,fun h=>absurd h (by decide),fun h=>absurd h (by decide)⟩
    | 3=>⟨fun _=>rfl,fun h=>absurd h (by decide),fun h=>absurd h (by decide)⟩
    | 4=>⟨fun _=>rfl,fun h=>absurd h (by decide),fun h=>absurd h (by decide)⟩
    | 5=>⟨fun _=>rfl,fun h=>absurd h (by decide),fun h=>absurd h (by decide)⟩
    | 6=>⟨fun h=>absurd h (by decide),fun h=>absurd h (by decide),fun _=>⟨a6,n6,c6,rfl,b,a⟩⟩
    | k+7=>⟨fun h=>absurd h (by simp[bR]),fun h=>absurd h (by simp[bR]),fun h=>absurd h (by simp[bR])⟩
theorem zY(A:ef w a6 n6 c6 x6)(u:n6<=1000000) :
  Calls Tryz.prog 148 #[.agg #[.int .u64 x0,.int .u64 x1,.int .u64 x2,.int .u64 x3,.int .u64 x4,.int .u64 x5,.slice a6 n6 c6],.func (.func 149) #[] #[]] w fun e w'=>∃ b n,e=.returned (.slice (some ⟨b,0,none⟩) n n)/\n=(thr (pnx (fun o=>([x0,x1,x2,x3,x4,x5,x6]:List Int).getD o 0)) [(0,0),(0,1),(0,2),(0,3),(0,4),(0,5),(2,6)] []).length/\Box w' b ((thr (pnx (fun o=>([x0,x1,x2,x3,x4,x5,x6]:List Int).getD o 0)) [(0,0),(0,1),(0,2),(0,3),(0,4),(0,5),(2,6)] []).map (Value.int .u8)) 5/\w.heap.size<=b/\Below w.heap.size w w':=by
 have F:=Dq A u (x0:=x0) (x1:=x1) (x2:=x2) (x3:=x3) (x4:=x4) (x5:=x5) (w:=w);have p:=af w (.cells #[.int .u64 x0,.int .u64 x1,.int .u64 x2,.int .u64 x3,.int .u64 x4,.int .u64 x5,.slice a6 n6 c6] 48);have l:=af (w.alloc (.cells #[.int .u64 x0,.int .u64 x1,.int .u64 x2,.int .u64 x3,.int .u64 x4,.int .u64 x5,.slice a6 n6 c6] 48)) (.cells Tryz.zeroCells219 219);have s1:=bC w (.cells #[.int .u64 x0,.int .u64 x1,.int .u64 x2,.int .u64 x3,.int .u64 x4,.int .u64 x5,.slice a6 n6 c6] 48);have X:=sf (w.alloc (.cells #[.int .u64 x0,.int .u64 x1,.int .u64 x2,.int .u64 x3,.int .u64 x4,.int .u64 x5,.slice a6 n6 c6] 48));have B:=(aj w [.int .u64 x0,.int .u64 x1,.int .u64 x2,.int .u64 x3,.int .u64 x4,.int .u64 x5,.slice a6 n6 c6] 48).keep l;rw[s1] at X;obtain⟨i,c⟩:∃ i,Hid ((w.alloc (.cells #[.int .u64 x0,.int .u64 x1,.int .u64 x2,.int .u64 x3,.int .u64 x4,.int .u64 x5,.slice a6 n6 c6] 48)).alloc (.cells Tryz.zeroCells219 219)=i):=⟨_,rfl⟩
 have g:=ai p l;rw[c.out] at g X B;obtain⟨M,f⟩:∃ M,Hid (thr (pnx (fun o=>([x0,x1,x2,x3,x4,x5,x6]:List Int).getD o 0)) [(0,0),(0,1),(0,2),(0,3),(0,4),(0,5),(2,6)] []=M):=⟨_,rfl⟩
 have hlen:M.length<=3000:=by have h:=fk (fun o=>([x0,x1,x2,x3,x4,x5,x6]:List Int).getD o 0) [(0,0),(0,1),(0,2),(0,3),(0,4),(0,5),(2,6)] [];rw[f.out] at h;simp at h;omega
 have U:=nM (DW (bw:=w.heap.size+1) (rb:=w.heap.size) (T:=48) F) (s:=[]) (w:=i) ⟨X,g,B,Nat.le_succ _,by omega⟩ (by simp[bR]) (by rw[f.out];show M.length<=1000000000000;omega);rw[f.out] at U ⊢;have y:=ah U;clear U F p l s1 X B g;go_enter Tryz.func148,Tryz.ntmps148;go_wp2_with fail;rw[c.out];refine y.out.mono ?_
 rintro x v ⟨rfl,d,z⟩;go_wp2_with fail;refine(su d.wr (by omega)).mono ?_
 rintro x t ⟨rfl,m,r⟩;have q:=ah (show w.heap.size<=v.heap.size/\Below w.heap.size w t from⟨d.bel.size,ai d.bel r⟩);have j:=ah m;clear d z m r;go_wp2;go_ret;exact⟨_,_,rfl,rfl,j.out,q.out.1,q.out.2⟩
theorem xI : px w bg [.int .u64 x0] (fun o => ([x0] : List Int).getD o 0) := fun o => match o with
    | 0=>⟨fun _=>rfl,fun h=>absurd h (by decide),fun h=>absurd h (by decide)⟩
    | k+1=>⟨fun h=>absurd h (by simp[bg]),fun h=>absurd h (by simp[bg]),fun h=>absurd h (by simp[bg])⟩
theorem tu :
  Calls Tryz.prog 142 #[.int .u64 x0,.func (.func 117) #[] #[]] w fun e w'=>∃ b n,e=.returned (.slice (some ⟨b,0,none⟩) n n)/\n=(thr (pnx (fun o=>([x0]:List Int).getD o 0)) [(0,0)] []).length/\Box w' b ((thr (pnx (fun o=>([x0]:List Int).getD o 0)) [(0,0)] []).map (Value.int .u8)) 5/\w.heap.size<=b/\Below w.heap.size w w':=by
 have F:=xI (x0:=x0) (w:=w);have p:=af w (.cells #[.int .u64 x0] 22);have l:=af (w.alloc (.cells #[.int .u64 x0] 22)) (.cells Tryz.zeroCells219 219);have s1:=bC w (.cells #[.int .u64 x0] 22);have X:=sf (w.alloc (.cells #[.int .u64 x0] 22));have B:=(aj w [.int .u64 x0] 22).keep l;rw[s1] at X;obtain⟨i,c⟩:∃ i,Hid ((w.alloc (.cells #[.int .u64 x0] 22)).alloc (.cells Tryz.zeroCells219 219)=i):=⟨_,rfl⟩
 have g:=ai p l;rw[c.out] at g X B;obtain⟨M,f⟩:∃ M,Hid (thr (pnx (fun o=>([x0]:List Int).getD o 0)) [(0,0)] []=M):=⟨_,rfl⟩
 have hlen:M.length<=3000:=by have h:=fk (fun o=>([x0]:List Int).getD o 0) [(0,0)] [];rw[f.out] at h;simp at h;omega
 have U:=jk (yn (bw:=w.heap.size+1) (rb:=w.heap.size) (T:=22) F) (s:=[]) (w:=i) ⟨X,g,B,Nat.le_succ _,by omega⟩ (by simp[bg]) (by rw[f.out];show M.length<=1000000000000;omega);rw[f.out] at U ⊢;have x:=ah U;clear U F p l s1 X B g;go_enter Tryz.func142,Tryz.ntmps142;go_wp2_with fail;rw[c.out];refine x.out.mono ?_
 rintro v u ⟨rfl,d,y⟩;go_wp2_with fail;refine(su d.wr (by omega)).mono ?_
 rintro v t ⟨rfl,m,r⟩;have q:=ah (show w.heap.size<=u.heap.size/\Below w.heap.size w t from⟨d.bel.size,ai d.bel r⟩);have j:=ah m;clear d y m r;go_wp2;go_ret;exact⟨_,_,rfl,rfl,j.out,q.out.1,q.out.2⟩
end
end Rc
end
section
namespace Rc
open Go.RowKit Go.Lib Pg Lim
attribute [local go_sem] Oper.semAt_some
section
variable {w w':World}{B n c g b:Nat}{ao:Option Addr}{x err:Int}{v:Value}{r l:List Int}
structure dg(w:World)(B:Nat)(ao:Option Addr)(n c:Nat)(x:Int):Prop where
 ex:∃ b o l,l.length=n/\n<=c/\IsN l x/\At w ao b o l/\B<=b
theorem fb(w:World)(B:Nat):dg w B none 0 0 0:=⟨B,0,[],rfl,Nat.le_refl _,vx,⟨.inl rfl,fun i hi=>by simp at hi⟩,Nat.le_refl _⟩
theorem dg.low{B':Nat}(h:dg w B ao n c x)(hB:B'<=B):dg w B' ao n c x:=by
 obtain⟨b,o,l,h1,h2,h3,h4,h5⟩:=h.ex;exact⟨b,o,l,h1,h2,h3,h4,Nat.le_trans hB h5⟩
theorem dg.off(h:dg w B ao n c x)(_hs:w.heap.size<=w'.heap.size)(hw:∀ b,B<=b->b < w.heap.size->w'.heap[b]?=w.heap[b]?):dg w' B ao n c x:=by
 obtain⟨b,o,l,g,e,f,a,d⟩:=h.ex;refine⟨b,o,l,g,e,f,⟨a.loc,fun i hi=>?_⟩,d⟩;have hc:=a.cell i hi;rw[World.cell?_of_block (w:=w) (hw b d (aH hc))];exact hc
theorem vh(h:jc w w' v r)(d:IsN r x)(k:B<=w.heap.size):∃ a c,v=.slice a r.length c/\dg w' B a r.length c x:=by
 obtain⟨i,b,o,c,e,j,f,g,l⟩:=h.is;exact⟨i,c,e,b,o,r,rfl,j,d,g,Nat.le_trans k f⟩
theorem uQ(h:RdA w g b 0 l) :
  Calls Tryz.prog 241 #[.pointer (some ⟨g,0,none⟩)] w fun e w'=>∃ v,e=.returned (.tuple #[v,.int .i64 (rdE (aY l) 0)])/\∃ l1,RdA w' g b 0 l1/\But g w w'/\∀ x k,aY l=.inr (x,k)->l1=l.drop k/\∃ ao n c,v=.slice ao n c/\dg w' w.heap.size ao n c x/\n<=255:=by
 have f:=rU (m:=1) h;by_cases p:1<=l.length
 ·have t:=E5 (m:=1) h p (by decide);have Q:=BP h p;rw[show (256:Int) ^ 1=256 by decide] at Q;rw[<- f] at t;have U:=(show Hid _ from h.oct)
  by_cases H:1+aR 1 l<=l.length
  ·by_cases z:0 < aR 1 l/\nth (l.drop 1) 0=0
   ·have d:aY l=.inl 41:=by unfold aY; rw[if_pos p,if_pos H,if_pos z]
    have s:Hid (rdE (aY l) 0=41):=by show _=_;rw[d];rfl
    have u:=(show Hid _ from d)
    have D:=(show Hid _ from z)
    clear d h z f;generalize aR 1 l=N at *;go_enter Tryz.func241,Tryz.ntmps241;go_wp2_with fail;refine t.mono ?_
    rintro e J ⟨rfl,B,y⟩;have t2:=Bx (m:=N) B (by rw[List.length_drop];omega);clear t;go_wp2_with fail;refine t2.mono ?_
    rintro e E ⟨ao,rfl,hA,I,G⟩;obtain⟨o,i,A,F,q,C⟩:=hA.ex;have t3:=CT ao N N b o _ E i D.out.1 C (by rw[dw D.out.1];exact D.out.2);clear t2 i A F q C hA;go_wp2_with fail;refine t3.mono ?_
    rintro e P ⟨rfl,rfl⟩;clear t3;go_wp2;go_ret2;exact⟨_,by rw[s.out];rfl,_,I,y.trans G,fun x k e=>by rw[u.out] at e;cases e⟩
   ·have d:aY l=.inr (bp ((l.drop 1).take (aR 1 l)),1 + aR 1 l):=by unfold aY; rw[if_pos p,if_pos H,if_neg z]
    have s:Hid (rdE (aY l) 0=0):=by show _=_;rw[d];rfl
    have u:=(show Hid _ from d)
    have D:=(show Hid _ from z)
    clear d h z f;generalize aR 1 l=N at *;go_enter Tryz.func241,Tryz.ntmps241;go_wp2_with fail;refine t.mono ?_
    rintro e J ⟨rfl,B,y⟩;have t2:=Bx (m:=N) B (by rw[List.length_drop];omega);clear t;go_wp2_with fail;refine t2.mono ?_
    rintro e E ⟨ao,rfl,hA,I,G⟩;obtain⟨o,i,A,F,q,C⟩:=hA.ex;have t3:=BU ao N N b o _ E i (by omega) q C (fun j L=>D.out ⟨j,by rw[dw j] at L;exact L⟩);clear t2 i A F q C hA;go_wp2_with fail;refine t3.mono ?_
    rintro e P ⟨v,r,rfl,i,A,F,q⟩;obtain⟨S,T,rfl,M⟩:=vh i A (show w.heap.size<=E.heap.size from(y.trans G).size);have K:=(show Hid _ from M)
    have O:=(show Hid _ from q)
    clear t3 i A q M;go_wp2;go_ret2
    exact⟨_,by rw[s.out]; rfl,_,I.keep O.out,(y.trans G).trans (But.of O.out),fun x k e=>by
     rw[u.out] at e
     cases e
     exact⟨by rw[List.drop_drop],_,_,_,rfl,K.out,by omega⟩⟩
  ·have d:aY l=.inl 40:=by unfold aY; rw[if_pos p,if_neg H]
   have s:Hid (rdE (aY l) 0=40):=by show _=_;rw[d];rfl
   have u:=(show Hid _ from d)
   clear d h f;generalize aR 1 l=N at *;go_enter Tryz.func241,Tryz.ntmps241;go_wp2_with fail;refine t.mono ?_
   rintro e J ⟨rfl,B,y⟩;have t2:=ER (m:=N) B (by rw[List.length_drop];omega);clear t H;go_wp2_with fail;refine t2.mono ?_
   rintro e E ⟨rfl,rfl⟩;clear t2;go_wp2;go_ret2;exact⟨_,by rw[s.out];rfl,_,B,y,fun x k e=>by rw[u.out] at e;cases e⟩
 ·have t:=zP (m:=1) h (by omega)
  have d:aY l=.inl 40:=by unfold aY;rw[if_neg p]
  have s:Hid (rdE (aY l) 0=40):=by show _=_;rw[d];rfl
  have u:=(show Hid _ from d)
  have R:=(show Hid _ from h)
  clear d h p f;go_enter Tryz.func241,Tryz.ntmps241;go_wp2_with fail;refine t.mono ?_
  rintro e J ⟨rfl,rfl⟩;clear t;go_wp2;go_ret2;exact⟨_,by rw[s.out];rfl,_,R.out,But.refl _ _,fun x k e=>by rw[u.out] at e;cases e⟩
theorem rdNatW(h:RdA w g b err l) :
  Calls Tryz.prog 215 #[.pointer (some ⟨g,0,none⟩)] w fun e w'=>∃ ao n c,e=.returned (.slice ao n c)/\dg w' w.heap.size ao n c (rdV 0 (aY l) err)/\n<=255/\RdA w' g b (rdE (aY l) err) (rdL (aY l) err l)/\But g w w':=by
 have t:=enNa (z:=(0:Int)) (p:=aY l) (V:=fun x v w'=>∃ ao n c,v=.slice ao n c/\dg w' w.heap.size ao n c x/\n<=255) h (fun _=>Eu) (fun w'=>⟨none,0,0,rfl,fb w' w.heap.size,by decide⟩) (fun e=>by subst e;exact uQ h);clear h;generalize rdV 0 (aY l) err=V at *;generalize rdE (aY l) err=E at *;generalize rdL (aY l) err l=R at *;go_enter Tryz.func215,Tryz.ntmps215;go_wp2_with fail;refine t.mono ?_
 rintro e m ⟨v,rfl,⟨ao,n,c,rfl,f,j⟩,d,i⟩;clear t;go_wp2;go_ret;exact⟨ao,n,c,rfl,f,j,d,i⟩
theorem ri(h:RdA w g b err l) :
  Calls Tryz.prog 168 #[.pointer (some ⟨g,0,none⟩)] w fun e w'=>∃ ao n c,e=.returned (.agg #[.slice ao n c])/\dg w' w.heap.size ao n c (rdV 0 (aY l) err)/\n<=255/\RdA w' g b (rdE (aY l) err) (rdL (aY l) err l)/\But g w w':=by
 have f:=(show Hid _ from af w (.cells #[.slice none 0 0] 46))
 have q:=jl w (.slice none 0 0) 46
 have r:w.heap.size≠g:=by have:=h.lt;omega
 have i:=(show Hid _ from r)
 have t:=rdNatW (h.keep f.out);clear h r;generalize rdV 0 (aY l) err=V at *;generalize rdE (aY l) err=E at *;generalize rdL (aY l) err l=R at *;go_enter Tryz.func168,Tryz.ntmps168;go_wp2_with fail;refine t.mono ?_
 rintro e p ⟨ao,n,c,rfl,m,s,o,j⟩;have d:=q.but j i.out;have c1:=d.cell;have f1:=d.free;have y:=d.put (.slice ao n c);have z:=(show Hid (dg (p.setCell ⟨w.heap.size,0,none⟩ (.slice ao n c)) w.heap.size ao n c V) from(m.off (w':=p.setCell ⟨w.heap.size,0,none⟩ (.slice ao n c)) (by rw[size_set];exact Nat.le_refl _) (fun b hb _=>Below.heap_setCell _ _ _ b (by have:=bC w (.cells #[.slice none 0 0] 46);show b≠w.heap.size;omega))).low f.out.size)
 have v:=(show Hid _ from o.put (u:=.slice ao n c) d i.out (fun x e=>by cases e))
 have A:=(show Hid _ from((But.of (g:=g) f.out).trans j).put (Nat.le_refl _) (.slice ao n c))
 clear t q d o j m f i;go_wp2;refine bodyPost_ret (lV rfl rfl y) rfl ?_
 exact⟨ao,n,c,rfl,z.out,s,v.out,A.out⟩
end
end Rc
end
end Go.Proofs.YtidnifmehnjipaaGreat
