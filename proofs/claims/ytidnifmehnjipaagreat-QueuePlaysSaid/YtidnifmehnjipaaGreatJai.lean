import Derived.Test.YtidnifmehnjipaaGreatJab
import Derived.Test.YtidnifmehnjipaaGreatChecked
import Derived.Laws.MathBits
import Derived.ScopeJumps
set_option maxRecDepth 100000
set_option maxHeartbeats 8000000
namespace Go.Proofs.YtidnifmehnjipaaGreat
section
namespace Lim
section
variable {l a b:List Int}{i k:Nat}{x:Int}
def nth(l:List Int)(i:Nat):Int:=l.getD i 0
def val:List Int->Int
 | []=>0
 | x :: l=>x+18446744073709551616 * val l
def Words(l:List Int):Prop:=∀ x∈l,0<=x/\x < 18446744073709551616
def aU:List Int->Nat
 | []=>0
 | x :: l=>if aU l=0 then (if x=0 then 0 else 1) else aU l+1
def norm(l:List Int):List Int:=l.take (aU l)
def IsN(l:List Int)(n:Int):Prop:=Words l/\aU l=l.length/\val l=n
theorem de(x:Int)(l:List Int):nth (x :: l) 0=x:=by simp[nth]
theorem dL(x:Int)(l:List Int)(i:Nat):nth (x :: l) (i+1)=nth l i:=by simp[nth]
theorem j6(h:l.length<=i):nth l i=0:=by
 simp[nth,List.getElem?_eq_none h]
theorem da(h:i < l.length):nth l i=l[i]:=by
 simp[nth,List.getElem?_eq_getElem h]
theorem qK(h:i < l.length):nth l i∈l:=by
 rw[da h];exact List.getElem_mem h
theorem Words.nth(h:Words l)(i:Nat):0<=nth l i/\nth l i < 18446744073709551616:=by
 by_cases hi:i < l.length
 ·exact h _ (qK hi)
 ·rw[j6 (by omega)];decide
theorem Words.nil:Words []:=fun _ h=>by simp at h
theorem Words.tail(h:Words (x :: l)):Words l:=fun y hy=>h y (List.mem_cons_of_mem _ hy)
theorem Words.head(h:Words (x :: l)):0<=x/\x < 18446744073709551616:=h x (List.mem_cons_self)
theorem Words.take(h:Words l)(k:Nat):Words (l.take k):=fun x hx=>h x (List.mem_of_mem_take hx)
theorem Words.drop(h:Words l)(k:Nat):Words (l.drop k):=fun x hx=>h x (List.mem_of_mem_drop hx)
theorem dw(h:i < k):nth (l.take k) i=nth l i:=by
 simp[nth,h]
theorem fO(l:List Int)(k i:Nat):nth (l.drop k) i=nth l (k+i):=by
 simp[nth,List.getElem?_drop]
theorem pQ(hl:a.length=b.length)(h:∀ i,i < a.length->nth a i=nth b i):a=b:=by
 apply List.ext_getElem hl;intro i h1 h2;have:=h i h1;rwa [da h1,da h2] at this
theorem lX(a:k < l.length):nth (l.set k x) i=if i=k then x else nth l i:=by
 simp only[nth,List.getD_eq_getElem?_getD,List.getElem?_set];by_cases h:k=i
 ·subst h;simp[a]
 ·simp[h,show ¬ i=k from fun e=>h e.symm]
theorem Words.set(h:Words l)(k:Nat)(h0:0<=x)(h1:x < 18446744073709551616):Words (l.set k x):=by
 intro y hy;rcases List.mem_or_eq_of_mem_set hy with e | e
 ·exact h y e
 ·subst e;exact⟨h0,h1⟩
theorem cF(h:k < l.length):l.take (k+1)=l.take k ++ [nth l k]:=by
 rw[da h,List.take_succ_eq_append_getElem h]
theorem cJ(h:Words l):0<=val l:=by
 induction l with
 | nil=>simp[val]
 | cons x l ih=>have:=h.head;have:=ih h.tail;simp only[val];omega
theorem um(a b:List Int):val (a ++ b)=val a+18446744073709551616 ^ a.length * val b:=by
 induction a with
 | nil=>simp[val]
 | cons x a ih=>simp only[List.cons_append,val,ih,List.length_cons,Int.pow_succ];grind
theorem p9(h:Words l):val l < 18446744073709551616 ^ l.length:=by
 induction l with
 | nil=>simp[val]
 | cons x l ih =>
  have:=h.head;have:=ih h.tail;simp only[val,List.length_cons,Int.pow_succ];omega
theorem mD(x:Int):val [x]=x:=by simp[val]
theorem dZ(l:List Int)(k:Nat)(h:k<=l.length):val l=val (l.take k)+18446744073709551616 ^ k * val (l.drop k):=by
 conv=>lhs;rw[<- List.take_append_drop k l]
 rw[um,List.length_take,Nat.min_eq_left h]
theorem fh(l:List Int):aU l<=l.length:=by
 induction l with
 | nil=>simp[aU]
 | cons x l ih=>simp only[aU,List.length_cons];split<;>(try split)<;>omega
theorem fD:aU l=0<->∀ i,nth l i=0:=by
 induction l with
 | nil=>simp[aU,nth]
 | cons x l ih =>
  simp only[aU];constructor
  ·intro h i;by_cases e:aU l=0
   ·by_cases a:x=0
    ·cases i with
     | zero=>rw[de,a]
     | succ i=>rw[dL];exact ih.1 e i
    ·simp[e,a] at h
   ·simp[e] at h
  ·intro h
   have b:x=0:=by have:=h 0;rwa [de] at this
   have c:aU l=0:=ih.2 fun i=>by have:=h (i+1);rwa [dL] at this
   simp[c,b]
theorem jf(d:k<=l.length)(b:∀ i,k<=i->nth l i=0)(c:k≠0->nth l (k - 1)≠0):aU l=k:=by
 induction l generalizing k with
 | nil=>simp[aU] at *;omega
 | cons x l ih =>
  cases k with
  | zero =>
   have:aU (x :: l)=0:=fD.2 fun i=>b i (Nat.zero_le _)
   exact this
  | succ k =>
   have e:aU l=k:=ih (by simpa using d) (fun i hi=>by have:=b (i + 1) (by omega); rwa [dL] at this) (fun a=>by
    have:=c (by omega);rw[show k+1 - 1=(k - 1)+1 from by omega,dL] at this;exact this)
   simp only[aU,e];by_cases a:k=0
   ·subst a;have:=c (by omega);rw[show (0+1 - 1)=0 from rfl,de] at this;simp[this]
   ·simp[a]
theorem gq(h:aU l≤i):nth l i=0:=by
  induction l generalizing i with
  | nil=>simp[nth]
  | cons x l ih =>
    simp only[aU] at h;by_cases e:aU l=0
    · simp only[e,if_true] at h
      cases i with
      | zero => by_cases a : x = 0
                · rw[de,a]
                · simp[a] at h
      | succ i=>rw[dL];exact fD.1 e i
    · simp only[e,if_false] at h
      cases i with
      | zero=>omega
      | succ i=>rw[dL];exact ih (by omega)
theorem iv(h:aU l≠0):nth l (aU l - 1)≠0:=by
 induction l with
 | nil=>simp[aU] at h
 | cons x l ih =>
  simp only[aU] at h ⊢;by_cases e:aU l=0
  ·simp only[e,if_true] at h ⊢;by_cases a:x=0
   ·simp[a] at h
   ·simp[a,de]
  ·simp only[e,if_false] at h ⊢;have:=ih e;rw[show aU l+1 - 1=(aU l - 1)+1 from by omega,dL];exact this
theorem cj(l:List Int):(norm l).length=aU l:=by
 rw[norm,List.length_take,Nat.min_eq_left (fh l)]
theorem gW(l:List Int)(i:Nat):nth (norm l) i=nth l i:=by
 by_cases h:i < aU l
 ·exact dw h
 ·rw[j6 (by rw[cj];omega),gq (by omega)]
theorem Words.norm(h:Words l):Words (norm l):=h.take _
theorem xK(l:List Int):aU (norm l)=(norm l).length:=by
 rw[cj];apply jf (by rw[cj];omega)
 ·intro i hi;rw[gW];exact gq hi
 ·intro h;rw[gW];exact iv h
theorem fE(h:∀ i,nth l i=0):val l=0:=by
 induction l with
 | nil=>rfl
 | cons x l ih =>
  have h0:=h 0;rw[de] at h0;rw[val,h0,ih fun i=>by have:=h (i+1);rwa [dL] at this];rfl
theorem me(l:List Int):val (norm l)=val l:=by
 rw[dZ l (aU l) (fh l),fE (l:=l.drop (aU l)) fun i=>by rw[fO];exact gq (by omega)];simp[norm]
theorem EI(h:Words l)(hn:aU l≠0):0 < val l:=by
 induction l with
 | nil=>simp[aU] at hn
 | cons x l ih =>
  have hx:=h.head;have b:=cJ h.tail;simp only[val];by_cases e:aU l=0
  ·simp only[aU,e,if_true] at hn;have:x≠0:=by intro a; simp[a] at hn
   omega
  ·have:=ih h.tail e;omega
theorem gT(h:Words l):aU l=0<->val l=0:=by
 constructor
 ·intro e;exact fE (fD.1 e)
 ·intro e;by_cases n:aU l=0
  ·exact n
  ·have:=EI h n;omega
theorem nC(h:Words l)(hn:aU l≠0):18446744073709551616 ^ (aU l - 1)<=val l:=by
 have e:=me l;have a:=cj l;have hw:=h.norm;have f:=dZ (norm l) (aU l - 1) (by omega)
 have b:(norm l).drop (aU l - 1)=[nth l (aU l - 1)]:=by
  apply pQ
  ·simp[a];omega
  ·intro i hi;simp[a] at hi;have:i=0:=by omega
   subst this;rw[fO,gW,de];rfl
 have g:=cJ (hw.take (aU l - 1));have hx:=h.nth (aU l - 1);have c:=iv hn
 have d:(0:Int) < 18446744073709551616 ^ (aU l - 1):=Int.pow_pos (by decide);rw[b,mD] at f;have:18446744073709551616 ^ (aU l - 1) * 1<=18446744073709551616 ^ (aU l - 1) * nth l (aU l - 1):=Int.mul_le_mul_of_nonneg_left (by omega) (Int.le_of_lt d);omega
theorem fm(h:Words l):val l < 18446744073709551616 ^ aU l:=by
 have:=p9 h.norm;rwa [me,cj] at this
theorem val_inj:∀ {a b:List Int},Words a->Words b->a.length=b.length->val a=val b->a=b
 | [],[],_,_,_,_=>rfl
 | x :: a,y :: b,ha,hb,hl,hv=>by
  have h1:=ha.head;have c:=hb.head;simp only[val] at hv
  have e:x=y:=by omega
  have e2:val a=val b:=by omega
  rw[e,val_inj ha.tail hb.tail (by simpa using hl) e2]
theorem jz{a b:Nat}(h:a<=b):(18446744073709551616:Int) ^ a<=18446744073709551616 ^ b:=by
 obtain⟨d,rfl⟩:=Nat.exists_eq_add_of_le h;rw[Int.pow_add]
 have c:(0:Int) < 18446744073709551616 ^ a:=Int.pow_pos (by decide)
 have e:(0:Int) < 18446744073709551616 ^ d:=Int.pow_pos (by decide);have:(18446744073709551616:Int) ^ a * 1<=18446744073709551616 ^ a * 18446744073709551616 ^ d:=Int.mul_le_mul_of_nonneg_left (by omega) (Int.le_of_lt c);omega
theorem fg(ha:Words a)(hb:Words b)(h:aU a < aU b):val a < val b:=by
 have h1:=fm ha;have h2:=nC hb (by omega);have:=jz (show aU a<=aU b - 1 by omega);omega
theorem mo(ha:Words a)(hb:Words b)(h:val a=val b):aU a=aU b:=by
 rcases Nat.lt_trichotomy (aU a) (aU b) with h1 | h1 | h1
 ·have:=fg ha hb h1;omega
 ·exact h1
 ·have:=fg hb ha h1;omega
theorem uG{n:Int}(ha:IsN a n)(hb:IsN b n):a=b:=by
 apply val_inj ha.1 hb.1
 ·rw[<- ha.2.1,<- hb.2.1];exact mo ha.1 hb.1 (ha.2.2.trans hb.2.2.symm)
 ·exact ha.2.2.trans hb.2.2.symm
end
end Lim
end
section
open Go.RowKit Lim
def Cells (w:World) (ao:Option Addr) (l:List Int):Prop :=
 l=[]\/∃ b o,ao=some ⟨b,o,none⟩/\∀ i,i < l.length->w.cell? ⟨b,o+i,none⟩=some (.int .u64 (nth l i))
theorem Bb (ao:Option Addr) (n c:Nat) (l:List Int) (w:World) (p:l.length=n) (hc:n<=c) (hb:n<=4398046511104) (d:Cells w ao l) :
  Calls Tryz.prog 254 #[.slice ao n c] w fun e w'=>e=.returned (.slice ao (aU l) (aU l))/\w'=w:=by
 go_enter Tryz.func254,Tryz.ntmps254;go_wp2;go_loop [3] (fun t=>∃ k:Nat,k<=n/\t=.int .i64 k/\Hid (∀ i,k<=i->nth l i=0)) (fun t=>(intOf t).toNat)
 case atStart=>exact⟨n,Nat.le_refl _,rfl,fun i hi=>j6 (by omega)⟩
 case round =>
  obtain⟨k,q,rfl,g⟩:=hrel;by_cases j:0 < k
  ·rcases d with e | ⟨b,o,rfl,d⟩
   ·subst e;simp at p;omega
   ·have f:=d (k - 1) (by omega)
    have m:w.cell? ⟨b,o+k - 1,none⟩=some (.int .u64 (nth l (k - 1))):=by rw[<- f];congr 2;omega
    clear d;go_wp2
    ·go_round
     case rel=>exact⟨k - 1,by omega,by go_num,fun i hi=>by
      by_cases e:i=k - 1
      ·subst e;exact beq_iff_eq.1 (by assumption)
      ·exact g.out i (by omega)⟩
     case measure=>simp[intOf];omega
    ·go_ret;rw[jf (k:=k) (by omega) g.out (fun _=>beq_eq_false_iff_ne.1 (by assumption))];exact⟨rfl,rfl⟩
  ·go_wp2;go_ret;rw[jf (k:=k) (by omega) g.out (fun _=>by omega)];exact⟨rfl,rfl⟩
theorem and32 (z:Int) (h0:0<=z) (h1:z < 18446744073709551616):bits .and .u64 z 4294967295=z % 4294967296:=and_low32 z h0 h1
section
variable {w w1 w':World}{ao:Option Addr}{b o n i B b' o':Nat}{l:List Int}{v:Value}
structure At(w:World)(ao:Option Addr)(b o:Nat)(l:List Int):Prop where
 loc:l=[]\/ao=some ⟨b,o,none⟩
 cell:∀ i,i < l.length->w.cell? ⟨b,o+i,none⟩=some (.int .u64 (nth l i))
theorem At.cells(h:At w ao b o l):Cells w ao l:=by
 rcases h.loc with e | e
 ·exact .inl e
 ·exact .inr ⟨b,o,e,h.cell⟩
def rP(w:World)(b o n:Nat):Prop:=∀ i,i < n->w.frozen? ⟨b,o+i,none⟩=false
structure Wr(b o n:Nat)(w w':World):Prop where
 os:w'.os=w.os
 tape:w'.tape=w.tape
 output:w'.output=w.output
 size:w'.heap.size=w.heap.size
 block:∀ k,k≠b->w'.heap[k]?=w.heap[k]?
 cell:∀ i,(i < o\/o+n<=i)->w'.cell? ⟨b,i,none⟩=w.cell? ⟨b,i,none⟩
 frozen:∀ i,w'.frozen? ⟨b,i,none⟩=w.frozen? ⟨b,i,none⟩
theorem Wr.refl(b o n:Nat)(w:World):Wr b o n w w:=⟨rfl,rfl,rfl,rfl,fun _ _=>rfl,fun _ _=>rfl,fun _=>rfl⟩
theorem Wr.trans{a:World}(h:Wr b o n w w1)(k:Wr b o n w1 a):Wr b o n w a :=
 ⟨k.os.trans h.os,k.tape.trans h.tape,k.output.trans h.output,k.size.trans h.size,fun i hi=>(k.block i hi).trans (h.block i hi),fun i hi=>(k.cell i hi).trans (h.cell i hi),fun i=>(k.frozen i).trans (h.frozen i)⟩
theorem Wr.setCell(h:Wr b o n w w1)(e:o<=i)(c:i < o+n)(v:Value):Wr b o n w (w1.setCell ⟨b,i,none⟩ v) :=
 h.trans ⟨rfl,rfl,rfl,by simp[World.setCell],fun k a=>Below.heap_setCell _ _ _ _ a,fun j d=>by
   simp only[World.cell?,World.setCell,Array.getElem?_modify,if_true]
   cases hh:w1.heap[b]? with
   | none=>simp
   | some ob =>
    cases ob<;>simp
    rw[Array.getElem?_setIfInBounds,if_neg (by omega)],fun j=>by
   simp only[World.frozen?,World.setCell,Array.getElem?_modify,if_true]
   cases hh:w1.heap[b]? with
   | none=>simp
   | some ob=>cases ob<;>simp⟩
theorem Wr.other(h:Wr b o n w w'){k:Nat}(hk:k≠b):w'.cell? ⟨k,i,none⟩=w.cell? ⟨k,i,none⟩:=World.cell?_of_block (w:=w) (h.block k hk)
theorem Wr.below(h:Wr b o n w w')(hB:B<=b):Below B w w' :=
 ⟨h.os,h.tape,h.output,by rw[h.size];exact Nat.le_refl _,fun k hk=>h.block k (by omega)⟩
theorem Wr.free(h:Wr b o n w w'){a:Nat}(k:rP w b' o' a):rP w' b' o' a:=by
 intro i hi;by_cases e:b'=b
 ·subst e;rw[h.frozen];exact k i hi
 ·rw[World.frozen?_of_block (w:=w) (h.block b' e)];exact k i hi
theorem At.wr(h:Wr b o n w w')(k:At w ao b' o' l)(hb:l=[]\/b'≠b):At w' ao b' o' l :=
 ⟨k.loc,fun i hi=>by
  rcases hb with e | e
  ·subst e;simp at hi
  ·rw[h.other e];exact k.cell i hi⟩
theorem At.below(h:Below B w w')(k:At w ao b o l)(hb:l=[]\/b < B):At w' ao b o l :=
 ⟨k.loc,fun i hi=>by
  rcases hb with e | e
  ·subst e;simp at hi
  ·rw[h.cell (p:=⟨b,o+i,none⟩) e];exact k.cell i hi⟩
theorem aH(h:w.cell? ⟨b,o,none⟩=some v):b < w.heap.size:=by
 simp only[World.cell?] at h;by_cases hb:b < w.heap.size
 ·exact hb
 ·rw[Array.getElem?_eq_none (by omega)] at h;simp at h
theorem At.lt(k:At w ao b o l):l=[]\/b < w.heap.size:=by
 cases l with
 | nil=>exact .inl rfl
 | cons x l=>exact .inr (aH (k.cell 0 (by simp)))
theorem At.keep(h:Below w.heap.size w w')(k:At w ao b o l):At w' ao b o l:=k.below h k.lt
theorem At.setCell(k:At w ao b o l)(hi:i < l.length)(x:Int):At (w.setCell ⟨b,o+i,none⟩ (.int .u64 x)) ao b o (l.set i x) :=
  ⟨by rcases k.loc with e | e
      · subst e;simp at hi
      · exact .inr e,fun j g=>by
    rw[List.length_set] at g;have hc:=k.cell j g;rw[lX hi];have a:=k.cell i hi;simp only[World.cell?,World.setCell,Array.getElem?_modify,if_true] at hc a ⊢
    cases hh:w.heap[b]? with
    | none=>rw[hh] at hc;simp at hc
    | some ob =>
      rw[hh] at hc a
      cases ob with
      | cells c e f =>
        simp at hc a ⊢;rw[Array.getElem?_setIfInBounds];by_cases e:j=i
        · subst e
          obtain⟨d,_⟩:= Array.getElem?_eq_some_iff.1 a;simp[d]
        · rw[if_neg (by omega),if_neg e];exact hc
      | _=>simp at hc⟩
theorem At.drew(h:At w ao b o l):At w.drew ao b o l:=⟨h.loc,h.cell⟩
theorem Wr.drew(h:Wr b o n w w'):Wr b o n w w'.drew:=⟨h.os,h.tape,h.output,h.size,h.block,h.cell,h.frozen⟩
theorem At.sub(k:At w ao b o l)(n:Nat):At w ao b o (l.take n) :=
  ⟨by rcases k.loc with e | e
      · subst e;exact .inl (by simp)
      · exact .inr e,fun i hi=>by
    rw[List.length_take] at hi
    rw[dw (by omega)];exact k.cell i (by omega)⟩
end
section
variable {w:World}{g:Nat}{l:List Int}{ops:Array Oper}{rest:List Oper}
theorem nH:(Tryz.prog.info? 22).map (fun i=>(i.zero,i.size,i.bytes))=some (some (.int .u64 0),1,8):=by kernel_rfl
theorem yx:Tryz.prog.underlying 44=some (.slice 22):=by kernel_rfl
def Row(w:World)(g:Nat)(l:List Int):Prop:=w.heap[g]?=some (.cells (l.map (Value.int .u64)).toArray 22 (0,0))
theorem Row.at(h:Row w g l):At w (some ⟨g,0,none⟩) g 0 l :=
 ⟨.inr rfl,fun i hi=>by
  unfold Row at h;simp only[World.cell?,h]
  simp[da hi,hi]⟩
theorem Row.free(h:Row w g l)(o n:Nat):rP w g o n:=by
 intro i _;unfold Row at h;simp[World.frozen?,h]
theorem Row.lt(h:Row w g l):g < w.heap.size:=(Array.getElem?_eq_some_iff.1 h).1
structure jc(w w':World)(v:Value)(l:List Int):Prop where
 is:∃ ao b o c,v=.slice ao l.length c/\l.length<=c/\w.heap.size<=b/\At w' ao b o l/\rP w' b o l.length
theorem rF(n:Nat):madeCells (Value.int .u64 0).cells n=((List.replicate n 0).map (Value.int .u64)).toArray:=by
 apply Array.ext
 ·simp[size_madeCells]
 ·intro j b a;simp[madeCells,Value.cells,Nat.mod_one]
theorem dP{o:Oper}{a:Act}{Q:Exit->Act->World->Prop}(g:o.guard=none)(l c:Operand)(d:o.op=Op.makeSlice 44 l c)(n:Nat)(L C:Int)(m:a.eval l=.int .i64 L)(hc:a.eval c=.int .i64 C)(j:L=(n:Int))(f:C=(n:Int))(hn:n<=17592186044416)(h:∀ w',Row w' w.heap.size (List.replicate n 0)->Below w.heap.size w w'->w'.heap.size=w.heap.size+1->wpList Tryz.prog ops Q rest (a.put o.dst (.slice (some ⟨w.heap.size,0,none⟩) n n)) w') :
  wpList Tryz.prog ops Q (o :: rest) a w:=by
 obtain⟨i,hi,k,p,hb⟩:=info_parts nH;refine wpList_plain g fun K e=>?_
 have b:=run_make (P:=Tryz.prog) w 44 22 i (.int .u64 0) yx hi k .i64 .i64 (n:Int) (n:Int) (by omega) (by omega) (by rw[hb];omega) (by omega);subst j;subst f;unfold Oper.wp;simp only[execOp,d,m,hc];simp[b,Result.andThen];refine e _ _ (h _ ?_ ?_ ?_)
 ·show (w.heap.push _)[w.heap.size]?=_
  rw[Array.getElem?_push_size,p,Nat.mul_one,rF]
 ·exact(Below.refl _ _).alloc (Nat.le_refl _) _
 ·simp
end
theorem q8 {k:IntKind} {a b:Int} (h:a=b):Ending.returned (.int k a)=.returned (.int k b):=by rw[h]
theorem w64 (z:Int) (h0:0<=z) (h1:z<=1000):wrap64 z=z:=by
 unfold wrap64;omega
theorem ga (k:Int) (i:Nat) (b:0<=k) (a:k<=56) (h:i < 256):wrap64 (k+wrap64 (bitLen i:Int))=k+bitLen i:=by
 have:=bitLen_le8 i h;rw[w64 (bitLen i) (by omega) (by omega),w64 _ (by omega) (by omega)]
theorem iM (x:Int) (b i:Nat) (h:x.toNat / 2 ^ b=i) (hi:i≠0):((bitLen x.toNat:Nat):Int)=b+bitLen i:=by
 rw[bitLen_shift x.toNat b (by rw[h];exact hi),h];omega
theorem len64 (x:Int) (w:World) (b:0<=x) (c:x < 18446744073709551616) :
  Calls Tryz.prog 259 #[.int .u64 x] w fun e w'=>e=.returned (.int .i64 (bitLen x.toNat))/\w'=w:=by
 by_cases c0:4294967296<=x
 ·by_cases c1:65536<=x / 4294967296
  ·by_cases c2:256<=x / 4294967296 / 65536
   ·go_enter Tryz.func259,Tryz.ntmps259;go_wp2;go_ret;refine⟨q8 ?_,rfl⟩;rw[len8tab_get,ga 56 (x / 4294967296 / 65536 / 256).toNat (by decide) (by decide) (by omega),iM x 56 (x / 4294967296 / 65536 / 256).toNat (by rw[show (2:Nat) ^ 56=72057594037927936 from rfl];omega) (by omega)];rfl
   ·go_enter Tryz.func259,Tryz.ntmps259;go_wp2;go_ret;refine⟨q8 ?_,rfl⟩;rw[len8tab_get,ga 48 (x / 4294967296 / 65536).toNat (by decide) (by decide) (by omega),iM x 48 (x / 4294967296 / 65536).toNat (by rw[show (2:Nat) ^ 48=281474976710656 from rfl];omega) (by omega)];rfl
  ·by_cases c2:256<=x / 4294967296
   ·go_enter Tryz.func259,Tryz.ntmps259;go_wp2;go_ret;refine⟨q8 ?_,rfl⟩;rw[len8tab_get,ga 40 (x / 4294967296 / 256).toNat (by decide) (by decide) (by omega),iM x 40 (x / 4294967296 / 256).toNat (by rw[show (2:Nat) ^ 40=1099511627776 from rfl];omega) (by omega)];rfl
   ·go_enter Tryz.func259,Tryz.ntmps259;go_wp2;go_ret;refine⟨q8 ?_,rfl⟩;rw[len8tab_get,ga 32 (x / 4294967296).toNat (by decide) (by decide) (by omega),iM x 32 (x / 4294967296).toNat (by rw[show (2:Nat) ^ 32=4294967296 from rfl];omega) (by omega)];rfl
 ·by_cases c1:65536<=x
  ·by_cases c2:256<=x / 65536
   ·go_enter Tryz.func259,Tryz.ntmps259;go_wp2;go_ret;refine⟨q8 ?_,rfl⟩;rw[len8tab_get,ga 24 (x / 65536 / 256).toNat (by decide) (by decide) (by omega),iM x 24 (x / 65536 / 256).toNat (by rw[show (2:Nat) ^ 24=16777216 from rfl];omega) (by omega)];rfl
   ·go_enter Tryz.func259,Tryz.ntmps259;go_wp2;go_ret;refine⟨q8 ?_,rfl⟩;rw[len8tab_get,ga 16 (x / 65536).toNat (by decide) (by decide) (by omega),iM x 16 (x / 65536).toNat (by rw[show (2:Nat) ^ 16=65536 from rfl];omega) (by omega)];rfl
  ·by_cases c2:256<=x
   ·go_enter Tryz.func259,Tryz.ntmps259;go_wp2;go_ret;refine⟨q8 ?_,rfl⟩;rw[len8tab_get,ga 8 (x / 256).toNat (by decide) (by decide) (by omega),iM x 8 (x / 256).toNat (by rw[show (2:Nat) ^ 8=256 from rfl];omega) (by omega)];rfl
   ·go_enter Tryz.func259,Tryz.ntmps259;go_wp2;go_ret;refine⟨q8 ?_,rfl⟩;rw[len8tab_get];have:=bitLen_le8 x.toNat (by omega);rw[w64 (bitLen x.toNat:Int) (by omega) (by omega),w64 _ (by omega) (by omega)]
theorem ld {n:Nat} (h:n < 18446744073709551616):bitLen n<=64:=by
 unfold bitLen;split
 ·omega
 ·have:=(Nat.log2_lt (k:=64) ‹_›).2 (by omega);omega
theorem clz64 (x:Int) (w:World) (b:0<=x) (c:x < 18446744073709551616) :
  Calls Tryz.prog 255 #[.int .u64 x] w fun e w'=>e=.returned (.int .i64 (64 - bitLen x.toNat))/\w'=w:=by
 have f:=ld (n:=x.toNat) (by omega);have t1:=len64 x w b c;generalize bitLen x.toNat=L at *;go_enter Tryz.func255,Tryz.ntmps255;go_wp2_with fail;refine t1.mono ?_
 rintro e d ⟨rfl,rfl⟩;go_wp2;go_ret;exact⟨rfl,rfl⟩
theorem te (a b:Int) (s:Nat) (k:Int) (j:a=k * 2 ^ s) (i:0<=k) (d:a < 18446744073709551616) (c:0<=b) (m:b < 2 ^ s) (g:b < 18446744073709551616):bits .or .u64 a b=a+b:=by
 have l:(0:Int) < 2 ^ s:=Int.pow_pos (by decide)
 have f:0<=a:=by rw[j];exact Int.mul_nonneg i (Int.le_of_lt l)
 rw[u64_or a b f d c g];obtain⟨k,rfl⟩:=Int.eq_ofNat_of_zero_le i;obtain⟨b,rfl⟩:=Int.eq_ofNat_of_zero_le c
 have e:a.toNat=2 ^ s * k:=by
  have:a=((2 ^ s * k:Nat):Int):=by rw[j,Int.natCast_mul,Int.natCast_pow,Int.mul_comm];rfl
  rw[this,Int.toNat_natCast]
 have h:b < 2 ^ s:=by
  have:((2 ^ s:Nat):Int)=2 ^ s:=by rw[Int.natCast_pow];rfl
  omega
 rw[e,Int.toNat_natCast,<- Nat.two_pow_add_eq_or_of_lt h,<- e];omega
theorem jc.of {w w':World} {l:List Int} {ao:Option Addr} {n c b o:Nat} (hn:n=l.length) (f:n<=c) (a:w.heap.size<=b) (d:At w' ao b o l) (e:rP w' b o n):jc w w' (.slice ao n c) l:=by
 subst hn;exact⟨ao,b,o,c,rfl,f,a,d,e⟩
theorem pow_pos (k:Nat):(0:Int) < 18446744073709551616 ^ k:=Int.pow_pos (by decide)
theorem iK (n:Nat):Words (List.replicate n 0):=fun x hx=>by rw[List.eq_of_mem_replicate hx];decide
theorem af (w:World) (o:Obj):Below w.heap.size w (w.alloc o):=(Below.refl _ _).alloc (Nat.le_refl _) _
theorem vx:IsN [] 0:=⟨Words.nil,rfl,rfl⟩
theorem jc.mono {w0 w w1:World} {v:Value} {l:List Int} (h:jc w w1 v l) (hb:w0.heap.size<=w.heap.size):jc w0 w1 v l:=by
 obtain⟨ao,b,o,c,e,h1,h2,h3,h4⟩:=h;exact⟨ao,b,o,c,e,h1,by omega,h3,h4⟩
section
variable {l l':List Int}
def eqB(l l':List Int):Bool:=decide (l=l')
theorem zX(h:l=l'):eqB l l'=true:=by simp[eqB,h]
theorem o7(h:l≠l'):eqB l l'=false:=by simp[eqB,h]
theorem retB{a b:Bool}(h:a=b):Ending.returned (.bool a)=.returned (.bool b):=by rw[h]
theorem CW(ao:Option Addr)(n c b o:Nat)(ao':Option Addr)(q c' b' o':Nat)(l l':List Int)(w:World)(A:l.length=n)(r:l'.length=q)(C:n<=4398046511104)(v:q<=4398046511104)(s:At w ao b o l)(g:At w ao' b' o' l') :
  Calls Tryz.prog 118 #[.slice ao n c,.slice ao' q c'] w fun e w'=>e=.returned (.bool (eqB l l'))/\Below w.heap.size w w':=by
 by_cases m:n=q
 ·subst m;go_enter Tryz.func118,Tryz.ntmps118;go_wp2_with fail;go_loopw [5] (fun u wr=>∃ k:Nat,k<=n/\u=.int .i64 k/\Hid (∀ i,i < k->nth l i=nth l' i)/\Below w.heap.size w wr) (fun u _=>n - (intOf u).toNat)
  case atStart=>exact⟨0,Nat.zero_le _,rfl,fun i hi=>by omega,Below.refl _ _⟩
  case round =>
   obtain⟨k,J,rfl,z,f⟩:=hrel;by_cases G:k < n
   ·have j:=s.keep f
    have d:=g.keep f;rcases s.loc with e | rfl
    ·subst e;simp at A;omega
    rcases g.loc with e | rfl
    ·subst e;simp at r;omega
    have B:=j.cell k (by omega);have F:=d.cell k (by omega)
    have H:(k:Int) < n:=by omega
    by_cases p:nth l k=nth l' k
    ·have D:Hid (nth l k=nth l' k):=p;rw[p] at B;generalize nth l' k=x at B F;clear p s g j d;go_wp2_with fail;go_quiet (fail);go_wp2;go_roundw
     case rel=>exact⟨k + 1,by omega,by go_num,fun i hi=>by
      by_cases e:i=k
      ·subst e;exact D.out
      ·exact z.out i (by omega),below_drewN f _⟩
     case measure=>simp[intOf];omega
    ·have t:eqB l l'=false:=o7 fun e=>p (by rw[e])
     have E:(nth l k != nth l' k)=true:=by rw[bne_iff_ne];exact p
     generalize nth l k=x at *;generalize nth l' k=y at *;clear s g j d;go_wp2_with fail;go_quiet (fail);go_wp2;go_ret;exact⟨retB t.symm,below_drewN f _⟩
   ·go_wp2;go_ret;exact⟨retB (zX (pQ (by omega) fun i hi=>z.out i (by omega))).symm,f⟩
 ·have I:((n:Int) != (q:Int))=true:=by rw[bne_iff_ne]; omega
  have t:eqB l l'=false:=o7 fun e=>m (by rw[<- A,<- r,e])
  go_enter Tryz.func118,Tryz.ntmps118;go_wp2;go_ret;exact⟨retB t.symm,Below.refl _ _⟩
end
section
variable {w w':World}{ao:Option Addr}{b o:Nat}{l:List Int}
structure AtB(w:World)(ao:Option Addr)(b o:Nat)(l:List Int):Prop where
 loc:l=[]\/ao=some ⟨b,o,none⟩
 cell:∀ i,i < l.length->w.cell? ⟨b,o+i,none⟩=some (.int .u8 (nth l i))
theorem AtB.lt(k:AtB w ao b o l):l=[]\/b < w.heap.size:=by
 cases l with
 | nil=>exact .inl rfl
 | cons x l=>exact .inr (aH (k.cell 0 (by simp)))
theorem AtB.keep(h:Below w.heap.size w w')(k:AtB w ao b o l):AtB w' ao b o l :=
 ⟨k.loc,fun i hi=>by
  rcases k.lt with e | e
  ·subst e;simp at hi
  ·rw[h.cell (p:=⟨b,o+i,none⟩) e];exact k.cell i hi⟩
theorem AtB.wr{n:Nat}(h:Wr b o n w w'){b' o':Nat}(k:AtB w ao b' o' l)(hb:l=[]\/b'≠b):AtB w' ao b' o' l :=
 ⟨k.loc,fun i hi=>by
  rcases hb with e | e
  ·subst e;simp at hi
  ·rw[h.other e];exact k.cell i hi⟩
theorem AtB.setCell(k:AtB w ao b o l){i:Nat}(hi:i < l.length)(x:Int):AtB (w.setCell ⟨b,o+i,none⟩ (.int .u8 x)) ao b o (l.set i x) :=
  ⟨by rcases k.loc with e | e
      · subst e;simp at hi
      · exact .inr e,fun j g=>by
    rw[List.length_set] at g;have hc:=k.cell j g;rw[lX hi];have a:=k.cell i hi;simp only[World.cell?,World.setCell,Array.getElem?_modify,if_true] at hc a ⊢
    cases hh:w.heap[b]? with
    | none=>rw[hh] at hc;simp at hc
    | some ob =>
      rw[hh] at hc a
      cases ob with
      | cells c e f =>
        simp at hc a ⊢;rw[Array.getElem?_setIfInBounds];by_cases e:j=i
        · subst e
          obtain⟨d,_⟩:= Array.getElem?_eq_some_iff.1 a;simp[d]
        · rw[if_neg (by omega),if_neg e];exact hc
      | _=>simp at hc⟩
structure Dy(w w':World)(v:Value)(l:List Int):Prop where
 is:∃ ao b o c,v=.slice ao l.length c/\l.length<=c/\w.heap.size<=b/\AtB w' ao b o l/\rP w' b o l.length
def aZ(l:List Int):Prop:=∀ x∈l,0<=x/\x < 256
theorem aZ.nth(h:aZ l)(i:Nat):0<=nth l i/\nth l i < 256:=by
 by_cases hi:i < l.length
 ·exact h _ (qK hi)
 ·rw[j6 (by omega)];decide
def bp:List Int->Int
 | []=>0
 | x :: l=>x * 256 ^ l.length+bp l
theorem bG(h:aZ l):0<=bp l/\bp l < 256 ^ l.length:=by
 induction l with
 | nil=>simp[bp]
 | cons x l ih =>
  have e:=ih (fun y hy=>h y (List.mem_cons_of_mem _ hy));have b:=h x List.mem_cons_self
  have a:(0:Int) < 256 ^ l.length:=Int.pow_pos (by decide)
  have c:0<=x * 256 ^ l.length:=Int.mul_nonneg b.1 (Int.le_of_lt a)
  have d:x * 256 ^ l.length<=255 * 256 ^ l.length:=Int.mul_le_mul_of_nonneg_right (by omega) (Int.le_of_lt a);rw[bp,List.length_cons,Int.pow_succ];omega
def IsB(l:List Int)(n:Int):Prop:=aZ l/\(l≠[]->nth l 0≠0)/\bp l=n
theorem mn:∀ {a b:List Int},aZ a->aZ b->a.length=b.length->bp a=bp b->a=b
 | [],[],_,_,_,_=>rfl
 | x :: a,y :: b,ha,hb,hl,hv=>by
  have ha':aZ a:=fun z g=>ha z (List.mem_cons_of_mem _ g)
  have f:aZ b:=fun z g=>hb z (List.mem_cons_of_mem _ g)
  have d:a.length=b.length:=by simpa using hl
  have i:=bG ha';have j:=bG f;rw[bp,bp,d] at hv;rw[d] at i
  have h:(0:Int) < 256 ^ b.length:=Int.pow_pos (by decide)
  have e:x=y:=by
   rcases Int.lt_trichotomy x y with c | c | c
   ·have:(x+1) * 256 ^ b.length<=y * 256 ^ b.length:=Int.mul_le_mul_of_nonneg_right (by omega) (Int.le_of_lt h);rw[Int.add_mul] at this;omega
   ·exact c
   ·have:(y+1) * 256 ^ b.length<=x * 256 ^ b.length:=Int.mul_le_mul_of_nonneg_right (by omega) (Int.le_of_lt h);rw[Int.add_mul] at this;omega
  subst e;rw[mn ha' f d (by omega)]
theorem pS(h:aZ l)(b:l≠[])(c:nth l 0≠0):256 ^ (l.length - 1)<=bp l:=by
 cases l with
 | nil=>exact absurd rfl b
 | cons x l =>
  rw[de] at c;have e:=h x List.mem_cons_self;have f:=bG (l:=l) (fun z d=>h z (List.mem_cons_of_mem _ d))
  have a:(0:Int) < 256 ^ l.length:=Int.pow_pos (by decide);have:1 * 256 ^ l.length<=x * 256 ^ l.length:=Int.mul_le_mul_of_nonneg_right (by omega) (Int.le_of_lt a);rw[bp,List.length_cons,Nat.add_sub_cancel];omega
theorem eI{a:Nat}(h:a<=b):(256:Int) ^ a<=256 ^ b:=by
 have:(256:Nat) ^ a<=256 ^ b:=Nat.pow_le_pow_right (by decide) h
 have e1:((256 ^ a:Nat):Int)=(256:Int) ^ a:=by rw[Int.natCast_pow];rfl
 have e2:((256 ^ b:Nat):Int)=(256:Int) ^ b:=by rw[Int.natCast_pow];rfl
 omega
theorem mF{a b:List Int}{n:Int}(c:IsB a n)(hb:IsB b n):a=b:=by
 apply mn c.1 hb.1
 ·have key:∀ {a b:List Int},IsB a n->IsB b n->¬ a.length < b.length:=by
   intro a b c hb d;have g:=(bG c.1).2;have f:=pS hb.1 (fun e=>by subst e;simp at d) (hb.2.1 (fun e=>by subst e;simp at d));rw[c.2.2] at g;rw[hb.2.2] at f;have:=eI (show a.length<=b.length - 1 by omega);omega
  have g:=key c hb;have f:=key hb c;omega
 ·rw[c.2.2,hb.2.2]
end
section
variable {l:List Int}{i:Nat}
theorem bpow(k:Nat):(18446744073709551616:Int) ^ k=((2 ^ (64 * k):Nat):Int):=by
 rw[Nat.pow_mul,Int.natCast_pow];rfl
theorem Av(wl:Words l)(hn:aU l≠0):bitLen (val l).toNat=64 * (aU l - 1)+bitLen (nth l (aU l - 1)).toNat:=by
 have g:=cJ wl;have a:=dZ (norm l) (aU l - 1) (by rw[cj];omega)
 have e:(norm l).drop (aU l - 1)=[nth l (aU l - 1)]:=by
  apply pQ
  ·simp[cj];omega
  ·intro i hi;simp[cj] at hi;have:i=0:=by omega
   subst this;rw[fO,gW,de];rfl
 rw[e,mD,me] at a;have d:=p9 (wl.norm.take (aU l - 1));have f:=cJ (wl.norm.take (aU l - 1));rw[List.length_take,cj,Nat.min_eq_left (by omega)] at d;have h:=wl.nth (aU l - 1);have m:=iv hn;generalize nth l (aU l - 1)=x at *;generalize val ((norm l).take (aU l - 1))=y at *;generalize aU l - 1=k at *;rw[bpow] at a d;obtain⟨x,rfl⟩:=Int.eq_ofNat_of_zero_le h.1;obtain⟨y,rfl⟩:=Int.eq_ofNat_of_zero_le f;obtain⟨v,j⟩:=Int.eq_ofNat_of_zero_le g;rw[j] at a ⊢
 have c:v / 2 ^ (64 * k)=x:=by
  have b:v=y+2 ^ (64 * k) * x:=by
   have:(v:Int)=((y+2 ^ (64 * k) * x:Nat):Int):=by rw[a,Int.natCast_add,Int.natCast_mul]
   exact Int.ofNat.inj this
  rw[b,Nat.add_mul_div_left _ _ (Nat.two_pow_pos _),Nat.div_eq_of_lt (by omega),Nat.zero_add]
 rw[Int.toNat_natCast,Int.toNat_natCast,bitLen_shift v (64 * k) (by rw[c];omega),c]
theorem Bj(ao:Option Addr)(n c b o:Nat)(l:List Int)(w:World)(r:l.length=n)(hc:n<=c)(p:n<=1099511627776)(wl:Words l)(g:At w ao b o l) :
  Calls Tryz.prog 247 #[.slice ao n c] w fun e w'=>e=.returned (.int .i64 (bitLen (val l).toNat))/\Below w.heap.size w w':=by
 have hn:=fh l;have t1:=Bb ao n c l w r hc (by omega) g.cells;by_cases f:aU l=0
 ·rw[f] at t1
  have s:(val l).toNat=0:=by rw[(gT wl).1 f];rfl
  rw[s,show bitLen 0=0 from rfl];go_enter Tryz.func247,Tryz.ntmps247;go_wp2_with fail;refine t1.mono ?_
  rintro e t ⟨rfl,rfl⟩;go_wp2_with fail;go_ret;exact⟨rfl,Below.refl _ _⟩
 ·have i:=Av wl f;have hx:=wl.nth (aU l - 1);have d:=g.cell (aU l - 1) (by omega);have j:=ld (n:=(nth l (aU l - 1)).toNat) (by omega);have t2:=fun q=>clz64 (nth l (aU l - 1)) q hx.1 hx.2
  rcases g.loc with e | rfl
  ·subst e;simp[aU] at f
  rw[i];generalize nth l (aU l - 1)=x at *;generalize bitLen x.toNat=L at *;clear i g;obtain⟨k,m⟩:∃ k,aU l=k+1:=⟨aU l - 1,by omega⟩
  rw[m] at t1 d hn ⊢;rw[Nat.add_sub_cancel] at d ⊢;clear m f
  have u:(k:Int) < (k:Int)+1:=by omega
  go_enter Tryz.func247,Tryz.ntmps247;go_wp2_with fail;refine t1.mono ?_
  rintro e t ⟨rfl,rfl⟩;clear t1;go_wp2_with fail;refine(t2 _).mono ?_
  rintro e v ⟨rfl,rfl⟩;go_wp2;go_ret;exact⟨q8 (by omega),Below.refl _ _⟩
theorem Bo:IsN [] 0:=⟨Words.nil,rfl,rfl⟩
structure wE(lb:List Int)(m k:Nat)(lz:List Int):Prop where
 len:lz.length=m
 words:Words lz
 val:Lim.val lz=bp (lb.drop (lb.length - k))
theorem oZ(h:i < l.length):bp (l.drop i)=nth l i * 256 ^ (l.length - 1 - i)+bp (l.drop (i+1)):=by
 rw[List.drop_eq_getElem_cons h,bp,da h,List.length_drop,show l.length - (i+1)=l.length - 1 - i from by omega]
theorem aZ.drop(h:aZ l)(k:Nat):aZ (l.drop k):=fun x hx=>h x (List.mem_of_mem_drop hx)
theorem vo(h:i < l.length)(x:Int):val (l.set i x)=val l+18446744073709551616 ^ i * (x - nth l i):=by
 have e1:=dZ (l.set i x) i (by simp;omega);have e2:=dZ l i (by omega);rw[List.take_set_of_le (Nat.le_refl _),List.drop_set,if_neg (by omega),Nat.sub_self] at e1;rw[List.drop_eq_getElem_cons h,List.set_cons_zero,val] at e1;rw[List.drop_eq_getElem_cons h,val] at e2;rw[e1,e2,da h];grind
theorem vm(wl:Words l)(h:i < l.length){P:Int}(e:val l < 18446744073709551616 ^ i * P):nth l i < P:=by
 have e2:=dZ l i (by omega);rw[List.drop_eq_getElem_cons h,val] at e2;have f:=cJ (wl.take i);have c:=cJ (wl.drop (i+1));have a:=pow_pos i
 have d:0<=18446744073709551616 ^ i * (18446744073709551616 * val (l.drop (i+1))):=Int.mul_nonneg (Int.le_of_lt a) (by omega);rw[Int.mul_add] at e2
 have b:18446744073709551616 ^ i * nth l i < 18446744073709551616 ^ i * P:=by rw[da h];omega
 exact Int.lt_of_mul_lt_mul_left b (Int.le_of_lt a)
theorem j4(k:Nat):(256:Int) ^ k=18446744073709551616 ^ (k / 8) * 2 ^ (8 * (k % 8)):=by
 have e:(18446744073709551616:Int)=256 ^ 8:=by decide
 have e2:(2:Int) ^ (8 * (k % 8))=256 ^ (k % 8):=by rw[Int.pow_mul];rfl
 rw[e,e2,<- Int.pow_mul,<- Int.pow_add];congr 1;omega
theorem vW{a d:List Int}{m k:Nat}(hb:aZ a)(hm:(a.length+7) / 8=m)(h:wE a m k d)(p:k < a.length) :
  bits .or .u64 (nth d (k / 8)) (IntKind.u64.wrap (nth a (a.length - 1 - k) * 2 ^ (8 * (k % 8))))=nth d (k / 8)+nth a (a.length - 1 - k) * 2 ^ (8 * (k % 8)) /\
  wE a m (k+1) (d.set (k / 8) (nth d (k / 8)+nth a (a.length - 1 - k) * 2 ^ (8 * (k % 8)))):=by
 have o:=h.len;have hx:=hb.nth (a.length - 1 - k);have f:=bG (hb.drop (a.length - k));rw[List.length_drop,show a.length - (a.length - k)=k from by omega] at f;have j:=h.val;have c:=h.words.nth (k / 8);have g:=vm h.words (i:=k / 8) (by omega) (P:=2 ^ (8 * (k % 8))) (by rw[<- j4,j];exact f.2)
 have hS:(0:Int) < 2 ^ (8 * (k % 8)):=Int.pow_pos (by decide)
 have q:(2:Int) ^ (8 * (k % 8)) * 256<=18446744073709551616:=by
  have:(2:Nat) ^ (8 * (k % 8))<=2 ^ 56:=Nat.pow_le_pow_right (by decide) (by omega)
  have e:((2 ^ (8 * (k % 8)):Nat):Int)=(2:Int) ^ (8 * (k % 8)):=by rw[Int.natCast_pow];rfl
  have e2:(2:Nat) ^ 56=72057594037927936:=by decide
  omega
 have b:0<=nth a (a.length - 1 - k) * 2 ^ (8 * (k % 8)):=Int.mul_nonneg hx.1 (Int.le_of_lt hS)
 have n:nth a (a.length - 1 - k) * 2 ^ (8 * (k % 8))<=255 * 2 ^ (8 * (k % 8)):=Int.mul_le_mul_of_nonneg_right (by omega) (Int.le_of_lt hS);constructor
 ·rw[IntKind.wrap_u64,Int.emod_eq_of_lt b (by omega)];rw[u64_or _ _ c.1 c.2 b (by omega),Nat.or_comm,<- u64_or _ _ b (by omega) c.1 c.2];rw[te _ _ (8 * (k % 8)) _ rfl hx.1 (by omega) c.1 g c.2,Int.add_comm]
 ·refine⟨by simp[o],h.words.set _ (by omega) (by omega),?_⟩;rw[vo (by omega),j,show a.length - (k+1)=a.length - 1 - k from by omega,oZ (l:=a) (i:=a.length - 1 - k) (by omega),show a.length - 1 - k+1=a.length - k from by omega,show a.length - 1 - (a.length - 1 - k)=k from by omega,j4 k];grind
theorem CT(ao:Option Addr)(n c b o:Nat)(d:List Int)(w:World)(g:d.length=n)(hn:0 < n)(f:AtB w ao b o d)(i:nth d 0=0) :
  Calls Tryz.prog 251 #[.slice ao n c] w fun e w'=>e=.returned (.tuple #[.slice none 0 0,.int .i64 13])/\w'=w:=by
 rcases f.loc with e | rfl
 ·subst e;simp at g;omega
 have hc:=f.cell 0 (by omega);rw[i,Nat.add_zero] at hc;go_enter Tryz.func251,Tryz.ntmps251;go_wp2;go_ret2;exact⟨rfl,rfl⟩
theorem BU(ao:Option Addr)(n c b o:Nat)(l:List Int)(w:World)(G:l.length=n)(T:n<=1099511627776)(B:aZ l)(F:AtB w ao b o l)(R:0 < n->nth l 0≠0) :
  Calls Tryz.prog 251 #[.slice ao n c] w fun e w'=>∃ v r,e=.returned (.tuple #[v,.int .i64 0])/\jc w w' v r/\IsN r (bp l)/\r.length<=n/\Below w.heap.size w w':=by
 obtain⟨m,hm⟩:∃ m:Nat,((n:Int)+7) / 8=m:=⟨(n+7) / 8,by omega⟩
 have hm2:m<=n:=by omega
 have A:l=[]\/b≠w.heap.size:=by
  rcases F.lt with e | e
  ·exact .inl e
  ·exact .inr (by omega)
 by_cases hn:0 < n
 ·rcases F.loc with e | rfl
  ·subst e;simp at G;omega
  have hc:=F.cell 0 (by omega);rw[Nat.add_zero] at hc
  have y:(nth l 0 == 0)=false:=beq_eq_false_iff_ne.2 (R hn)
  have t:nth l 0≠0:=R hn;have HF:=(show Hid _ from t)
  clear t R;go_enter Tryz.func251,Tryz.ntmps251;go_wp2_with (at_make;refine dP rfl _ _ rfl m _ _ rfl rfl (by omega) (by omega) (by omega) ?_;intro S d f J);have q:=F.keep f;clear hc y;go_loopw [22] (fun M wr=>∃ (k:Nat) (p:List Int),k<=n/\M=.int .i64 k/\wE l m k p/\At wr (some ⟨w.heap.size,0,none⟩) w.heap.size 0 p/\Wr w.heap.size 0 m S wr) (fun M _=>n - (intOf M).toNat)
  case atStart=>exact⟨0,_,Nat.zero_le _,rfl,⟨by simp,iK _,by rw[Nat.sub_zero,List.drop_length,fE fun i=>by simp[nth,List.getElem?_replicate];split<;>rfl];rfl⟩,d.at,Wr.refl _ _ _ _⟩
  case round =>
   obtain⟨k,p,hk,rfl,hinv,s,g⟩:=hrel;have hlen:=hinv.len;by_cases Y:k < n
   ·obtain⟨i,hi⟩:∃ i:Nat,(k:Int) / 8=i:=⟨k / 8,by omega⟩
    obtain⟨j,hj⟩:∃ j:Nat,(k:Int) % 8=j:=⟨k % 8,by omega⟩
    obtain⟨h,hh⟩:∃ h:Nat,(n:Int) - 1 - k=h:=⟨n - 1 - k,by omega⟩
    have X:(i:Int) < m:=by omega
    have V:(h:Int) < n:=by omega
    have Z:j < 8:=by omega
    have y:=s.cell i (by omega);have hcb:=(q.wr g A).cell h (by omega);have Q:=g.free (d.free 0 m) i (by omega);rw[Nat.zero_add] at y Q;have D:=vW B (m:=m) (by omega) hinv (by omega);rw[show k / 8=i from by omega,show k % 8=j from by omega,show l.length - 1 - k=h from by omega] at D;obtain⟨E,u⟩:=D;have HS:=(show Hid _ from u)
    have W:=(show Hid _ from s)
    have HW:=(show Hid _ from g)
    have hxx:=B.nth h;clear u s g hinv d q B;generalize nth p i=z at *;generalize nth l h=x at *;go_wp2_with fail;go_region;go_wp2;rw[Nat.mul_comm j 8,E];refine⟨⟨k+1,_,by omega,by go_num,HS.out,?_,?_⟩,by simp[intOf];omega⟩
    ·have:=(W.out.setCell (i:=i) (by omega) (z+x * 2 ^ (8 * j))).drew;rwa [Nat.zero_add] at this
    ·exact(HW.out.setCell (by omega) (by omega) _).drew
   ·have I:k=n:=by omega
    subst I;have H:=hinv.val;rw[<- G,Nat.sub_self,List.drop_zero] at H;have O:=g.free (d.free 0 m);have HB:=f.trans (g.below (Nat.le_refl _));have K:=bG B;have P:=pS B (fun e=>by subst e;simp at G;omega) HF.out
    have C:aU p=p.length:=by
     have h1:=fh p;by_cases c:aU p < p.length
     ·have h2:=fm hinv.words;have h3:=jz (show aU p<=m - 1 by omega)
      have h4:(18446744073709551616:Int) ^ (m - 1)<=256 ^ (l.length - 1):=by
       rw[show (18446744073709551616:Int)=256 ^ 8 from by decide,<- Int.pow_mul];exact eI (by omega)
      rw[H] at h2;omega
     ·omega
    have HI:IsN p (bp l):=⟨hinv.words,C,H⟩
    clear hinv d g f q H K P C;go_wp2;go_ret2;exact⟨_,p,rfl,jc.of hlen.symm (Nat.le_refl _) (Nat.le_refl _) s O,HI,by omega,HB⟩
 ·have N:n=0:=by omega
  subst N
  have U:l=[]:=List.eq_nil_of_length_eq_zero G;subst U
  have L:m=0:=by omega
  subst L;clear hm F A;go_enter Tryz.func251,Tryz.ntmps251;go_wp2_with (at_make;refine dP rfl _ _ rfl 0 _ _ rfl rfl (by omega) (by omega) (by omega) ?_;intro S d f J);refine wp_loop_rounds 1 ?_
  rw[rounds_succ];go_wp2;go_ret2;exact⟨_,[],rfl,jc.of rfl (Nat.le_refl _) (Nat.le_refl _) d.at (d.free _ _),Bo,by simp,f⟩
end
section
variable {w w':World}{ao ao':Option Addr}{n c g:Nat}{x:Int}{v:Value}{tmps:Array Value}
structure ef(w:World)(ao:Option Addr)(n c:Nat)(x:Int):Prop where
 ex:∃ b o l,l.length=n/\n<=c/\Words l/\At w ao b o l/\val l=x
structure gF(w:World)(ao:Option Addr)(n c:Nat)(x:Int):Prop where
 ex:∃ b o l,l.length=n/\n<=c/\IsN l x/\At w ao b o l
theorem gF.a(h:gF w ao n c x):ef w ao n c x:=by
 obtain⟨b,o,l,h1,h2,h3,h4⟩:=h.ex;exact⟨b,o,l,h1,h2,h3.1,h4,h3.2.2⟩
theorem ef.keep(h:ef w ao n c x)(hb:Below w.heap.size w w'):ef w' ao n c x:=by
 obtain⟨b,o,l,h1,h2,h3,h4,h5⟩:=h.ex;exact⟨b,o,l,h1,h2,h3,h4.keep hb,h5⟩
theorem gF.keep(h:gF w ao n c x)(hb:Below w.heap.size w w'):gF w' ao n c x:=by
 obtain⟨b,o,l,h1,h2,h3,h4⟩:=h.ex;exact⟨b,o,l,h1,h2,h3,h4.keep hb⟩
theorem ef.AJ(h:ef w ao n c x):0<=x:=by
 obtain⟨b,o,l,h1,h2,h3,h4,h5⟩:=h.ex;rw[<- h5];exact cJ h3
theorem jW(w:World):gF w none 0 0 0:=⟨0,0,[],rfl,Nat.le_refl _,vx,.inl rfl,fun i hi=>by simp at hi⟩
theorem ai{wa:World}(b:Below w.heap.size w wa)(h:Below wa.heap.size wa w'):Below w.heap.size w w':=b.trans (h.mono b.size)
theorem nSame{d c':Nat}{y:Int}(h:gF w ao n c x)(r:gF w ao' d c' y)(hn:n<=4398046511104)(g:d<=4398046511104) :
  Calls Tryz.prog 118 #[.slice ao n c,.slice ao' d c'] w fun e w'=>e=.returned (.bool (decide (x=y)))/\Below w.heap.size w w':=by
 obtain⟨b,o,l,u,A,j,s⟩:=h.ex;obtain⟨p,z,m,i,v,a,f⟩:=r.ex;have t:=CW ao n c b o ao' d c' p z l m w u i hn g s f
 have e:eqB l m=decide (x=y):=by
  unfold eqB;by_cases k:x=y
  ·rw[decide_eq_true k,decide_eq_true (uG j (k▸a))]
  ·rw[decide_eq_false k,decide_eq_false (fun q=>k (by rw[<- j.2.2,<- a.2.2,q]))]
 rw[e] at t;exact t
structure Slot(w:World)(g:Nat)(v:Value)(t:TypeId):Prop where
 blk:w.heap[g]?=some (.cells #[v] t (0,0))
theorem Slot.cell{t:TypeId}(h:Slot w g v t):w.cell? ⟨g,0,none⟩=some v:=cell_of_one h.blk
theorem Slot.free{t:TypeId}(h:Slot w g v t):w.frozen? ⟨g,0,none⟩=false:=free_of_one h.blk
theorem Slot.lt{t:TypeId}(h:Slot w g v t):g < w.heap.size:=lt_of_block h.blk
theorem Slot.keep{t:TypeId}(h:Slot w g v t)(hb:Below w.heap.size w w'):Slot w' g v t:=⟨by rw[hb.block g h.lt];exact h.blk⟩
theorem Slot.put{t:TypeId}(h:Slot w g v t)(u:Value):Slot (w.setCell ⟨g,0,none⟩ u) g u t:=⟨one_setCell h.blk⟩
theorem jl(w:World)(v:Value)(t:TypeId):Slot (w.alloc (.cells #[v] t)) w.heap.size v t:=⟨by
 show (w.heap.push _)[w.heap.size]?=_
 rw[Array.getElem?_push_size]⟩
theorem Slot.alloc{t:TypeId}(h:Slot w g v t)(o:Obj):Slot (w.alloc o) g v t:=h.keep (af w o)
theorem uw(w:World)(o:Obj)(v:Value)(t:TypeId):Slot ((w.alloc o).alloc (.cells #[v] t)) (w.heap.size+1) v t:=by
 have:=jl (w.alloc o) v t;rwa [show (w.alloc o).heap.size=w.heap.size+1 by simp] at this
theorem below2(w:World)(o o':Obj):Below w.heap.size w ((w.alloc o).alloc o'):=ai (af w o) (af _ o')
theorem Br:(Tryz.prog.info? 46).map (·.size)=some 1:=by kernel_rfl
theorem xV:∃ f,Tryz.prog.underlying 46=some (.struct f):=by
  cases h:Tryz.prog.underlying 46 with
  | none => exact absurd h (by have : (Tryz.prog.underlying 46).isSome = true := by kernel_rfl
                               intro e;rw[e] at this;simp at this)
  | some d =>
    have:(match Tryz.prog.underlying 46 with | some (.struct _)=>true | _=>false)=true:=by kernel_rfl
    rw[h] at this
    cases d <;> first | exact⟨_,rfl⟩ | simp at this
theorem Be{t:TypeId}(s:Slot w g v t):(loadVar 46 ⟨g,0,none⟩).run Tryz.prog w=.ok (.agg #[v]) w:=by
 obtain⟨f,hu⟩:=xV;exact run_loadVar_row w g t 46 #[v] (0,0) _ s.blk hu rfl Br
theorem lV{fn:Func}{p:Tmp}(h:fn.results=#[.cell p 46]){t:TypeId}(b:tmps.getD p undef=.pointer (some ⟨g,0,none⟩))(s:Slot w g v t) :
  (results fn tmps).run Tryz.prog w=.ok (.agg #[v]) w:=by
 have a:tmps[p]?.getD undef=.pointer (some ⟨g,0,none⟩):=by simpa using b
 simp[results,h,a,asAddr,Be s]
end
section
variable {ops:Array Oper} {Q:Exit->Act->World->Prop} {S:World->Prop} {fuel:Nat} {listed:Array Bool} {a:Act} {w:World}
theorem cC {i:Nat} (h:i < ops.size):ops[i]?=some (ops.getD i default):=by
 simp[Array.getD,h]
theorem i3 {α β γ:Type} {p:α->β->γ->Prop}:∀ c a w,p c a w->p c a w:=fun _ _ _ h=>h
theorem bh (hr:Region.ready .any ops listed=[]) (h:Q .normal a w):wpAnyH Tryz.prog .any ops Q S fuel listed a w:=wpAnyH_done hr h fuel
end
end
section
open Pg (gE aO)
open Go.RowKit Lim
section
variable {w w':World}{g:Nat}{cs ds:List Value}
structure Box(w:World)(g:Nat)(cs:List Value)(t:TypeId):Prop where
 blk:w.heap[g]?=some (.cells cs.toArray t (0,0))
theorem Box.lt{t:TypeId}(h:Box w g cs t):g < w.heap.size:=lt_of_block h.blk
theorem Box.keep{t:TypeId}(h:Box w g cs t)(hb:Below w.heap.size w w'):Box w' g cs t:=⟨by rw[hb.block g h.lt];exact h.blk⟩
theorem Box.drew{t:TypeId}(h:Box w g cs t):Box w.drew g cs t:=⟨h.blk⟩
theorem fy(w:World)(cs:List Value)(t:TypeId):Box (w.alloc (.cells cs.toArray t)) w.heap.size cs t:=⟨by
 show (w.heap.push _)[w.heap.size]?=_
 rw[Array.getElem?_push_size]⟩
theorem Box.row{t:TypeId}(h:Box w g cs t):Box (w.setRow g ds.toArray) g ds t:=⟨by rw[setRow_heap w g _ _ _ _ h.blk]⟩
theorem oC{B:Nat}(h:Below B w w')(hB:B<=g)(ds:Array Value):Below B w (w'.setRow g ds) :=
 h.trans ⟨rfl,rfl,rfl,by simp[World.setRow],fun k hk=>setRow_other w' g k ds (by omega)⟩
theorem Box.off{g':Nat}{t:TypeId}(h:Box w g cs t)(hne:g≠g')(hw:∀ k,k≠g'->w'.heap[k]?=w.heap[k]?):Box w' g cs t:=⟨by rw[hw g hne];exact h.blk⟩
end
section
variable {ops:Array Oper} {Q:Exit->Act->World->Prop} {S:World->Prop} {fuel:Nat} {listed:Array Bool} {a:Act} {w:World}
theorem aL:AllReadyH Tryz.prog .any ops Q S fuel listed a w []:=AllReadyH.nil
theorem sD {rs:List Nat} (i:Nat) (d:Option Tmp) (T:TypeId) (cs:List Value) (hc:gE ops a i d=true) (b:(execOp a.eval (ops.getD i default)).run Tryz.prog w=.ok (.value (.pointer (some ⟨w.heap.size,0,none⟩))) (w.alloc (.cells cs.toArray T)))
  (f:∀ V,Box V w.heap.size cs T->Below w.heap.size w V->S V/\wpAnyH Tryz.prog .any ops Q S fuel (listed.setIfInBounds i true) (a.put d (.pointer (some ⟨w.heap.size,0,none⟩))) V)
  (e:AllReadyH Tryz.prog .any ops Q S fuel listed a w rs):AllReadyH Tryz.prog .any ops Q S fuel listed a w (i :: rs):=by
 obtain⟨g,c⟩:=f _ (fy w cs T) (af w _);exact aO i d _ _ hc b g c e
end
end
section
open Go.RowKit Lim
section
variable {w:World}{g m:Nat}{l r:List Int}{ops:Array Oper}{rest:List Oper}{V:Int}{ao:Option Addr}
theorem iu:(Tryz.prog.info? 5).map (fun i=>(i.zero,i.size,i.bytes))=some (some (.int .u8 0),1,1):=by kernel_rfl
theorem bW:Tryz.prog.underlying 36=some (.slice 5):=by kernel_rfl
def vf(w:World)(g:Nat)(l:List Int):Prop:=w.heap[g]?=some (.cells (l.map (Value.int .u8)).toArray 5 (0,0))
theorem vf.at(h:vf w g l):AtB w (some ⟨g,0,none⟩) g 0 l :=
 ⟨.inr rfl,fun i hi=>by
  unfold vf at h;simp only[World.cell?,h]
  simp[da hi,hi]⟩
theorem vf.free(h:vf w g l)(o n:Nat):rP w g o n:=by
 intro i _;unfold vf at h;simp[World.frozen?,h]
theorem wD(n:Nat):madeCells (Value.int .u8 0).cells n=((List.replicate n 0).map (Value.int .u8)).toArray:=by
 apply Array.ext
 ·simp[size_madeCells]
 ·intro j b a;simp[madeCells,Value.cells,Nat.mod_one]
theorem pP{o:Oper}{a:Act}{Q:Exit->Act->World->Prop}(g:o.guard=none)(l c:Operand)(d:o.op=Op.makeSlice 36 l c)(n:Nat)(L C:Int)(m:a.eval l=.int .i64 L)(hc:a.eval c=.int .i64 C)(j:L=(n:Int))(f:C=(n:Int))(hn:n<=17592186044416)(h:∀ w',vf w' w.heap.size (List.replicate n 0)->Below w.heap.size w w'->w'.heap.size=w.heap.size+1->wpList Tryz.prog ops Q rest (a.put o.dst (.slice (some ⟨w.heap.size,0,none⟩) n n)) w') :
  wpList Tryz.prog ops Q (o :: rest) a w:=by
 obtain⟨i,hi,k,p,hb⟩:=info_parts iu;refine wpList_plain g fun K e=>?_
 have b:=run_make (P:=Tryz.prog) w 36 5 i (.int .u8 0) bW hi k .i64 .i64 (n:Int) (n:Int) (by omega) (by omega) (by rw[hb];omega) (by omega);subst j;subst f;unfold Oper.wp;simp only[execOp,d,m,hc];simp[b,Result.andThen];refine e _ _ (h _ ?_ ?_ ?_)
 ·show (w.heap.push _)[w.heap.size]?=_
  rw[Array.getElem?_push_size,p,Nat.mul_one,wD]
 ·exact(Below.refl _ _).alloc (Nat.le_refl _) _
 ·simp
theorem mS(V:Int)(d:0<=V)(k:Nat):V % 256 ^ (k+1)=(V / 256 ^ k % 256) * 256 ^ k+V % 256 ^ k:=by
 obtain⟨v,rfl⟩:=Int.eq_ofNat_of_zero_le d
 have e:∀ j:Nat,(256:Int) ^ j=((256 ^ j:Nat):Int):=fun j=>by rw[Int.natCast_pow];rfl
 rw[e,e];have:=Nat.mod_mul (x:=v) (a:=256 ^ k) (b:=256);rw[<- Nat.pow_succ] at this
 have c:((v % 256 ^ (k+1):Nat):Int)=((v % 256 ^ k+256 ^ k * (v / 256 ^ k % 256):Nat):Int):=by rw[this]
 rw[Int.natCast_add,Int.natCast_mul] at c;simp only[Int.natCast_emod,Int.natCast_ediv] at c;rw[c,Int.add_comm,Int.mul_comm];rfl
theorem kO(a:0<=V)(h:∀ i,i < r.length->nth r (r.length - 1 - i)=V / 256 ^ i % 256):∀ k,k<=r.length->bp (r.drop (r.length - k))=V % 256 ^ k
 | 0,_=>by rw[Nat.sub_zero,List.drop_length];simp[bp]
 | k + 1,hk=>by
  have ih:=kO a h k (by omega);rw[show r.length - (k+1)=r.length - 1 - k from by omega,oZ (by omega),show r.length - 1 - k+1=r.length - k from by omega,ih,h k (by omega),show r.length - 1 - (r.length - 1 - k)=k from by omega,mS V a k]
theorem Dd(wl:Words l)(i:Nat)(hi:i / 8 < l.length):nth l (i / 8) / 2 ^ (8 * (i % 8)) % 256=val l / 256 ^ i % 256:=by
 have e2:=dZ l (i / 8) (by omega);rw[List.drop_eq_getElem_cons hi,val,<- da hi] at e2;have b:=cJ (wl.take (i / 8));have a:=p9 (wl.take (i / 8));rw[List.length_take,Nat.min_eq_left (by omega)] at a;have c:=pow_pos (i / 8)
 have hS:(0:Int) < 2 ^ (8 * (i % 8)):=Int.pow_pos (by decide)
 have d:(18446744073709551616:Int)=2 ^ (8 * (i % 8)) * (256 * 2 ^ (56 - 8 * (i % 8))):=by
  rw[show (256:Int)=2 ^ 8 from rfl,<- Int.pow_add,<- Int.pow_add,show 8 * (i % 8)+(8+(56 - 8 * (i % 8)))=64 from by omega];rfl
 rw[j4,<- Int.ediv_ediv_of_nonneg (Int.le_of_lt c),e2,Int.add_mul_ediv_left _ _ (by omega),Int.ediv_eq_zero_of_lt b a,Int.zero_add];generalize nth l (i / 8)=x at *;generalize val (l.drop (i / 8+1))=y at *
 conv=>rhs;rw[d]
 rw[Int.mul_assoc,Int.add_mul_ediv_left _ _ (by omega),Int.mul_assoc,Int.add_mul_emod_self_left]
structure mI(V:Int)(m k:Nat)(r:List Int):Prop where
 len:r.length=m
 oct:aZ r
 dig:∀ i,i < k->nth r (m - 1 - i)=V / 256 ^ i % 256
theorem mI.step{k:Nat}{x:Int}(h:mI V m k r)(b:k < m)(hx:x=V / 256 ^ k % 256):mI V m (k+1) (r.set (m - 1 - k) x):=by
 have a:=h.len;refine⟨by simp[a],fun y hy=>?_,fun i hi=>?_⟩
 ·rcases List.mem_or_eq_of_mem_set hy with e | e
  ·exact h.oct y e
  ·subst e;rw[hx];exact⟨Int.emod_nonneg _ (by decide),Int.emod_lt_of_pos _ (by decide)⟩
 ·rw[lX (by omega)];by_cases e:i=k
  ·subst e;rw[if_pos rfl];exact hx
  ·rw[if_neg (by omega)];exact h.dig i (by omega)
theorem mI.done(h:mI V m m r)(j:0<=V)(c:V < 256 ^ m)(k:m≠0->256 ^ (m - 1)<=V):IsB r V:=by
 have f:=h.len;have g:=kO j (r:=r) (fun i hi=>by rw[f];exact h.dig i (by omega)) m (by omega);rw[f,Nat.sub_self,List.drop_zero,Int.emod_eq_of_lt j c] at g;refine⟨h.oct,fun a=>?_,g⟩
 have hm:m≠0:=fun e=>a (List.eq_nil_of_length_eq_zero (by omega))
 have b:=h.dig (m - 1) (by omega);rw[show m - 1 - (m - 1)=0 from by omega] at b;rw[b]
 have d:(0:Int) < 256 ^ (m - 1):=Int.pow_pos (by decide)
 have n:1<=V / 256 ^ (m - 1):=by rw[Int.le_ediv_iff_mul_le d];have:=k hm;omega
 have l:V / 256 ^ (m - 1) < 256:=by
  rw[Int.ediv_lt_iff_lt_mul d,Int.mul_comm,<- Int.pow_succ,show (m - 1).succ=m from by omega];exact c
 rw[Int.emod_eq_of_lt (by omega) l];omega
theorem oD(d:0<=V):V < 256 ^ ((bitLen V.toNat+7) / 8)/\((bitLen V.toNat+7) / 8≠0->256 ^ ((bitLen V.toNat+7) / 8 - 1)<=V):=by
 obtain⟨v,rfl⟩:=Int.eq_ofNat_of_zero_le d;rw[Int.toNat_natCast];have b:=bitLen_spec v
 have e:∀ j:Nat,(256:Int) ^ j=((2 ^ (8 * j):Nat):Int):=fun j=>by rw[Nat.pow_mul,Int.natCast_pow];rfl
 rw[e,e];constructor
 ·have:=Nat.pow_le_pow_right (n:=2) (by decide) (show bitLen v<=8 * ((bitLen v+7) / 8) by omega);have c:=b.1;omega
 ·intro hm
  have a:v≠0:=by intro e;subst e;simp[bitLen] at hm
  have:=Nat.pow_le_pow_right (n:=2) (by decide) (show 8 * ((bitLen v+7) / 8 - 1)<=bitLen v - 1 by omega);have c:=b.2 a;omega
theorem Dy.of{w':World}{n c b o:Nat}(hn:n=l.length)(h1:n<=c)(h2:w.heap.size<=b)(h3:AtB w' ao b o l)(h4:rP w' b o n):Dy w w' (.slice ao n c) l:=by
 subst hn;exact⟨ao,b,o,c,rfl,h1,h2,h3,h4⟩
theorem ec(ao:Option Addr)(n c b o:Nat)(l:List Int)(w:World)(K:l.length=n)(hc:n<=c)(C:n<=1099511627776)(wl:Words l)(M:At w ao b o l) :
  Calls Tryz.prog 227 #[.slice ao n c] w fun e w'=>∃ v r,e=.returned v/\Dy w w' v r/\IsB r (val l)/\r.length=(bitLen (val l).toNat+7) / 8/\r.length<=8 * n/\Below w.heap.size w w':=by
 have O:=cJ wl;obtain⟨A,B⟩:=oD O;have t1:=Bj ao n c b o l w K hc C wl M
 have P:bitLen (val l).toNat<=64 * n:=by
  have h1:=p9 wl;rw[K,bpow] at h1;have h2:=(bitLen_spec (val l).toNat).2;by_cases c:bitLen (val l).toNat<=64 * n
  ·exact c
  ·have T:(val l).toNat≠0:=by intro e; rw[e] at c; simp[bitLen] at c
   have h4:=Nat.pow_le_pow_right (n:=2) (by decide) (show 64 * n<=bitLen (val l).toNat - 1 by omega);have:=h2 T;omega
 obtain⟨m,hm⟩:∃ m:Nat,((bitLen (val l).toNat:Int)+7) / 8=m:=⟨(bitLen (val l).toNat+7) / 8,by omega⟩
 have y:(bitLen (val l).toNat+7) / 8=m:=by omega
 rw[y] at A B ⊢;generalize bitLen (val l).toNat=L at *;have HM:=(show Hid ((L+7) / 8=m) from y)
 have hm8:m<=8 * n:=by omega
 clear y;go_enter Tryz.func227,Tryz.ntmps227;go_wp2_with fail;refine t1.mono ?_
 rintro e D ⟨rfl,t⟩;have u:=M.keep t;have p:=t.size;clear t1 M;go_wp2_with (at_make;refine pP rfl _ _ rfl m _ _ rfl rfl (by omega) (by omega) (by omega) ?_;intro w2 d g S);have s:=u.keep g
 have F:l=[]\/b≠D.heap.size:=by
  rcases u.lt with e | e
  ·exact .inl e
  ·exact .inr (by omega)
 clear u;go_loopw [12] (fun I wr=>∃ (k:Nat) (r:List Int),k<=m/\I=.int .i64 k/\mI (val l) m k r/\AtB wr (some ⟨D.heap.size,0,none⟩) D.heap.size 0 r/\Wr D.heap.size 0 m w2 wr) (fun I _=>m - (intOf I).toNat)
 case atStart=>exact⟨0,_,Nat.zero_le _,rfl,⟨by simp,fun x hx=>by rw[List.eq_of_mem_replicate hx];decide,fun i hi=>by omega⟩,d.at,Wr.refl _ _ _ _⟩
 case round =>
  obtain⟨k,r,hk,rfl,hinv,q,f⟩:=hrel;have hlen:=hinv.len;by_cases H:k < m
  ·obtain⟨i,hi⟩:∃ i:Nat,(k:Int) / 8=i:=⟨k / 8,by omega⟩
   obtain⟨j,hj⟩:∃ j:Nat,(k:Int) % 8=j:=⟨k % 8,by omega⟩
   obtain⟨h,hh⟩:∃ h:Nat,(m:Int) - 1 - k=h:=⟨m - 1 - k,by omega⟩
   have V:(i:Int) < n:=by omega
   have Q:(h:Int) < m:=by omega
   have W:j < 8:=by omega
   rcases s.loc with e | rfl
   ·subst e;simp at K;omega
   have U:=(s.wr f F).cell i (by omega);have N:=f.free (d.free 0 m) h (by omega);have G:=q.cell h (by omega);rw[Nat.zero_add] at N G;have hx:=wl.nth i;have z:=Dd wl k (by omega);rw[show k / 8=i from by omega,show k % 8=j from by omega] at z
   have X:Hid (mI (val l) m (k+1) (r.set h (nth l i / 2 ^ (8 * j) % 256))):=by
    have:=hinv.step (x:=nth l i / 2 ^ (8 * j) % 256) H z
    rwa [show m - 1 - k=h from by omega] at this
   have R:=(show Hid _ from q)
   have Y:=(show Hid _ from f)
   clear q f hinv d s wl z
   generalize nth l i=x at *;go_wp2_with fail;rw[Nat.mul_comm j 8];refine⟨⟨k+1,_,by omega,by go_num,X.out,?_,?_⟩,by simp[intOf];omega⟩
   ·have:=R.out.setCell (i:=h) (by omega) (x / 2 ^ (8 * j) % 256);rwa [Nat.zero_add] at this
   ·exact Y.out.setCell (by omega) (by omega) _
  ·have E:k=m:=by omega
   subst E;have Z:=hinv.done O A B;have J:=f.free (d.free 0 k);have HB:=(t.trans (g.mono p)).trans (f.below p);clear hinv d f g s t;go_wp2;go_ret;exact⟨_,r,rfl,Dy.of hlen.symm (Nat.le_refl _) p q J,Z,by omega,by omega,HB⟩
end
end
end Go.Proofs.YtidnifmehnjipaaGreat
