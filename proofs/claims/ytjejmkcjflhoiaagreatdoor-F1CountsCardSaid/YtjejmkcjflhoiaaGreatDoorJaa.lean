import Derived.Test.YtjejmkcjflhoiaaGreatDoorChecked
import Derived.WalkKit
import Derived.WalkSpells
import Derived.WalkLawsBesides
import Derived.Laws.Externs
import Derived.Laws.MathBits
import Derived.Laws.CopyOwn
import Derived.Deep.QuietTactic
import Derived.BigQuiet
import Derived.Deep.RegionWith
import Derived.ScopeJumps
import Derived.WalkSmall
import Derived.OneCell
set_option maxRecDepth 100000
set_option maxHeartbeats 8000000
namespace Go.Proofs.YtjejmkcjflhoiaaGreatDoor
section
namespace Lim
section
variable {l a b:List Int}{i k:Nat}{x:Int}
def nth(l:List Int)(i:Nat):Int:=l.getD i 0
def val:List Int->Int
 | []=>0
 | x :: l=>x+18446744073709551616 * val l
def Words(l:List Int):Prop:=∀ x∈l,0<=x/\x < 18446744073709551616
def aI:List Int->Nat
 | []=>0
 | x :: l=>if aI l=0 then (if x=0 then 0 else 1) else aI l+1
def norm(l:List Int):List Int:=l.take (aI l)
def IsN(l:List Int)(n:Int):Prop:=Words l/\aI l=l.length/\val l=n
theorem C9(i:Nat):nth [] i=0:=by simp[nth]
theorem cQ(x:Int)(l:List Int):nth (x :: l) 0=x:=by simp[nth]
theorem dM(x:Int)(l:List Int)(i:Nat):nth (x :: l) (i+1)=nth l i:=by simp[nth]
theorem gl(h:l.length<=i):nth l i=0:=by
 simp[nth,List.getElem?_eq_none h]
theorem b8(h:i < l.length):nth l i=l[i]:=by
 simp[nth,List.getElem?_eq_getElem h]
theorem lZ(h:i < l.length):nth l i∈l:=by
 rw[b8 h];exact List.getElem_mem h
theorem Words.nth(h:Words l)(i:Nat):0<=nth l i/\nth l i < 18446744073709551616:=by
 by_cases hi:i < l.length
 ·exact h _ (lZ hi)
 ·rw[gl (by omega)];decide
theorem Words.nil:Words []:=fun _ h=>by simp at h
theorem Words.cons(h0:0<=x)(h1:x < 18446744073709551616)(h:Words l):Words (x :: l):=by
 intro y hy;rcases List.mem_cons.1 hy with e | e
 ·subst e;exact⟨h0,h1⟩
 ·exact h y e
theorem Words.tail(h:Words (x :: l)):Words l:=fun y hy=>h y (List.mem_cons_of_mem _ hy)
theorem Words.head(h:Words (x :: l)):0<=x/\x < 18446744073709551616:=h x (List.mem_cons_self)
theorem Words.take(h:Words l)(k:Nat):Words (l.take k):=fun x hx=>h x (List.mem_of_mem_take hx)
theorem Words.drop(h:Words l)(k:Nat):Words (l.drop k):=fun x hx=>h x (List.mem_of_mem_drop hx)
theorem Words.append(ha:Words a)(hb:Words b):Words (a ++ b):=by
 intro x hx;rcases List.mem_append.1 hx with e | e
 ·exact ha x e
 ·exact hb x e
theorem dA(h:i < k):nth (l.take k) i=nth l i:=by
 simp[nth,h]
theorem dL(l:List Int)(k i:Nat):nth (l.drop k) i=nth l (k+i):=by
 simp[nth,List.getElem?_drop]
theorem dh(h:i < a.length):nth (a ++ b) i=nth a i:=by
 simp[nth,List.getElem?_append_left h]
theorem bP(h:a.length<=i):nth (a ++ b) i=nth b (i - a.length):=by
 simp[nth,List.getElem?_append_right h]
theorem me(hl:a.length=b.length)(h:∀ i,i < a.length->nth a i=nth b i):a=b:=by
 apply List.ext_getElem hl;intro i h1 h2;have:=h i h1;rwa [b8 h1,b8 h2] at this
theorem dH(a:k < l.length):nth (l.set k x) i=if i=k then x else nth l i:=by
 simp only[nth,List.getD_eq_getElem?_getD,List.getElem?_set];by_cases h:k=i
 ·subst h;simp[a]
 ·simp[h,show ¬ i=k from fun e=>h e.symm]
theorem Words.set(h:Words l)(k:Nat)(h0:0<=x)(h1:x < 18446744073709551616):Words (l.set k x):=by
 intro y hy;rcases List.mem_or_eq_of_mem_set hy with e | e
 ·exact h y e
 ·subst e;exact⟨h0,h1⟩
theorem dY(h:k < l.length):l.take (k+1)=l.take k ++ [nth l k]:=by
 rw[b8 h,List.take_succ_eq_append_getElem h]
theorem aO(h:Words l):0<=val l:=by
 induction l with
 | nil=>simp[val]
 | cons x l ih=>have:=h.head;have:=ih h.tail;simp only[val];omega
theorem ez(a b:List Int):val (a ++ b)=val a+18446744073709551616 ^ a.length * val b:=by
 induction a with
 | nil=>simp[val]
 | cons x a ih=>simp only[List.cons_append,val,ih,List.length_cons,Int.pow_succ];grind
theorem dJ(h:Words l):val l < 18446744073709551616 ^ l.length:=by
 induction l with
 | nil=>simp[val]
 | cons x l ih =>
  have:=h.head;have:=ih h.tail;simp only[val,List.length_cons,Int.pow_succ];omega
theorem eP(x:Int):val [x]=x:=by simp[val]
theorem dB(h:k < l.length):val (l.take (k+1))=val (l.take k)+18446744073709551616 ^ k * nth l k:=by
 rw[dY h,ez,eP,List.length_take,Nat.min_eq_left (by omega)]
theorem bL(l:List Int)(k:Nat)(h:k<=l.length):val l=val (l.take k)+18446744073709551616 ^ k * val (l.drop k):=by
 conv=>lhs;rw[<- List.take_append_drop k l]
 rw[ez,List.length_take,Nat.min_eq_left h]
theorem bI(l:List Int):aI l<=l.length:=by
 induction l with
 | nil=>simp[aI]
 | cons x l ih=>simp only[aI,List.length_cons];split<;>(try split)<;>omega
theorem gv:aI l=0<->∀ i,nth l i=0:=by
 induction l with
 | nil=>simp[aI,nth]
 | cons x l ih =>
  simp only[aI];constructor
  ·intro h i;by_cases e:aI l=0
   ·by_cases a:x=0
    ·cases i with
     | zero=>rw[cQ,a]
     | succ i=>rw[dM];exact ih.1 e i
    ·simp[e,a] at h
   ·simp[e] at h
  ·intro h
   have b:x=0:=by have:=h 0;rwa [cQ] at this
   have c:aI l=0:=ih.2 fun i=>by have:=h (i+1);rwa [dM] at this
   simp[c,b]
theorem ku(d:k<=l.length)(c:∀ i,k<=i->nth l i=0)(b:k≠0->nth l (k - 1)≠0):aI l=k:=by
 induction l generalizing k with
 | nil=>simp[aI] at *;omega
 | cons x l ih =>
  cases k with
  | zero =>
   have:aI (x :: l)=0:=gv.2 fun i=>c i (Nat.zero_le _)
   exact this
  | succ k =>
   have e:aI l=k:=ih (by simpa using d) (fun i hi=>by have:=c (i + 1) (by omega); rwa [dM] at this) (fun a=>by
    have:=b (by omega);rw[show k+1 - 1=(k - 1)+1 from by omega,dM] at this;exact this)
   simp only[aI,e];by_cases a:k=0
   ·subst a;have:=b (by omega);rw[show (0+1 - 1)=0 from rfl,cQ] at this;simp[this]
   ·simp[a]
theorem fW(h:aI l≤i):nth l i=0:=by
  induction l generalizing i with
  | nil=>simp[nth]
  | cons x l ih =>
    simp only[aI] at h;by_cases e:aI l=0
    · simp only[e,if_true] at h
      cases i with
      | zero => by_cases a : x = 0
                · rw[cQ,a]
                · simp[a] at h
      | succ i=>rw[dM];exact gv.1 e i
    · simp only[e,if_false] at h
      cases i with
      | zero=>omega
      | succ i=>rw[dM];exact ih (by omega)
theorem iU(h:aI l≠0):nth l (aI l - 1)≠0:=by
 induction l with
 | nil=>simp[aI] at h
 | cons x l ih =>
  simp only[aI] at h ⊢;by_cases e:aI l=0
  ·simp only[e,if_true] at h ⊢;by_cases a:x=0
   ·simp[a] at h
   ·simp[a,cQ]
  ·simp only[e,if_false] at h ⊢;have:=ih e;rw[show aI l+1 - 1=(aI l - 1)+1 from by omega,dM];exact this
theorem aL(l:List Int):(norm l).length=aI l:=by
 rw[norm,List.length_take,Nat.min_eq_left (bI l)]
theorem gC(l:List Int)(i:Nat):nth (norm l) i=nth l i:=by
 by_cases h:i < aI l
 ·exact dA h
 ·rw[gl (by rw[aL];omega),fW (by omega)]
theorem Words.norm(h:Words l):Words (norm l):=h.take _
theorem oH(l:List Int):aI (norm l)=(norm l).length:=by
 rw[aL];apply ku (by rw[aL];omega)
 ·intro i hi;rw[gC];exact fW hi
 ·intro h;rw[gC];exact iU h
theorem fB(h:∀ i,nth l i=0):val l=0:=by
 induction l with
 | nil=>rfl
 | cons x l ih =>
  have h0:=h 0;rw[cQ] at h0;rw[val,h0,ih fun i=>by have:=h (i+1);rwa [dM] at this];rfl
theorem dj(l:List Int):val (norm l)=val l:=by
 rw[bL l (aI l) (bI l),fB (l:=l.drop (aI l)) fun i=>by rw[dL];exact fW (by omega)];simp[norm]
theorem cE(h:Words l):IsN (norm l) (val l):=⟨h.norm,oH l,dj l⟩
theorem pF(h:Words l)(hn:aI l≠0):0 < val l:=by
 induction l with
 | nil=>simp[aI] at hn
 | cons x l ih =>
  have hx:=h.head;have hv:=aO h.tail;simp only[val];by_cases e:aI l=0
  ·simp only[aI,e,if_true] at hn;have:x≠0:=by intro a; simp[a] at hn
   omega
  ·have:=ih h.tail e;omega
theorem cA(h:Words l):aI l=0<->val l=0:=by
 constructor
 ·intro e;exact fB (gv.1 e)
 ·intro e;by_cases n:aI l=0
  ·exact n
  ·have:=pF h n;omega
theorem eF(h:Words l)(hn:aI l≠0):18446744073709551616 ^ (aI l - 1)<=val l:=by
 have e:=dj l;have a:=aL l;have hw:=h.norm;have hs:=bL (norm l) (aI l - 1) (by omega)
 have hd:(norm l).drop (aI l - 1)=[nth l (aI l - 1)]:=by
  apply me
  ·simp[a];omega
  ·intro i hi;simp[a] at hi;have:i=0:=by omega
   subst this;rw[dL,gC,cQ];rfl
 have d:=aO (hw.take (aI l - 1));have hx:=h.nth (aI l - 1);have b:=iU hn
 have c:(0:Int) < 18446744073709551616 ^ (aI l - 1):=Int.pow_pos (by decide);rw[hd,eP] at hs;have:18446744073709551616 ^ (aI l - 1) * 1<=18446744073709551616 ^ (aI l - 1) * nth l (aI l - 1):=Int.mul_le_mul_of_nonneg_left (by omega) (Int.le_of_lt c);omega
theorem iF(h:Words l):val l < 18446744073709551616 ^ aI l:=by
 have:=dJ h.norm;rwa [dj,aL] at this
theorem iw{a b:Nat}(h:a<=b):(18446744073709551616:Int) ^ a<=18446744073709551616 ^ b:=by
 obtain⟨d,rfl⟩:=Nat.exists_eq_add_of_le h;rw[Int.pow_add]
 have c:(0:Int) < 18446744073709551616 ^ a:=Int.pow_pos (by decide)
 have e:(0:Int) < 18446744073709551616 ^ d:=Int.pow_pos (by decide);have:(18446744073709551616:Int) ^ a * 1<=18446744073709551616 ^ a * 18446744073709551616 ^ d:=Int.mul_le_mul_of_nonneg_left (by omega) (Int.le_of_lt c);omega
theorem dG(ha:Words a)(hb:Words b)(h:aI a < aI b):val a < val b:=by
 have h1:=iF ha;have h2:=eF hb (by omega);have:=iw (show aI a<=aI b - 1 by omega);omega
end
end Lim
end
section
open Go.RowKit Lim
def Cells (w:World) (ao:Option Addr) (l:List Int):Prop :=
 l=[]\/∃ b o,ao=some ⟨b,o,none⟩/\∀ i,i < l.length->w.cell? ⟨b,o+i,none⟩=some (.int .u64 (nth l i))
theorem bH (ao:Option Addr) (n c:Nat) (l:List Int) (w:World) (j:l.length=n) (hc:n<=c) (hb:n<=4398046511104) (d:Cells w ao l) :
  Calls Tryz.prog 70 #[.slice ao n c] w fun e w'=>e=.returned (.slice ao (aI l) (aI l))/\w'=w:=by
 go_enter Tryz.func70,Tryz.ntmps70;go_wp2;go_loop [3] (fun t=>∃ k:Nat,k<=n/\t=.int .i64 k/\Hid (∀ i,k<=i->nth l i=0)) (fun t=>(intOf t).toNat)
 case atStart=>exact⟨n,Nat.le_refl _,rfl,fun i hi=>gl (by omega)⟩
 case round =>
  obtain⟨k,q,rfl,f⟩:=hrel;by_cases m:0 < k
  ·rcases d with e | ⟨b,o,rfl,d⟩
   ·subst e;simp at j;omega
   ·have g:=d (k - 1) (by omega)
    have p:w.cell? ⟨b,o+k - 1,none⟩=some (.int .u64 (nth l (k - 1))):=by rw[<- g];congr 2;omega
    clear d;go_wp2
    ·go_round
     case rel=>exact⟨k - 1,by omega,by go_num,fun i hi=>by
      by_cases e:i=k - 1
      ·subst e;exact beq_iff_eq.1 (by assumption)
      ·exact f.out i (by omega)⟩
     case measure=>simp[intOf];omega
    ·go_ret;rw[ku (k:=k) (by omega) f.out (fun _=>beq_eq_false_iff_ne.1 (by assumption))];exact⟨rfl,rfl⟩
  ·go_wp2;go_ret;rw[ku (k:=k) (by omega) f.out (fun _=>by omega)];exact⟨rfl,rfl⟩
end
section
open Go.RowKit Lim
def bor (x y:Int):Int:=if x < y then 1 else 0
theorem sl (x y:Int) (hx:0<=x) (hy:0<=y) (w:World):(callFunc 119 #[.int .u64 x,.int .u64 y,.int .u64 0]).run Tryz.prog w =
  .ok (.value (.tuple #[.int .u64 ((x+y) % 18446744073709551616),.int .u64 ((x+y) / 18446744073709551616)])) w:=by
 obtain⟨x,rfl⟩:=Int.eq_ofNat_of_zero_le hx;obtain⟨y,rfl⟩:=Int.eq_ofNat_of_zero_le hy;rw[run_callFunc_extern Tryz.func119 (by kernel_rfl) (by kernel_rfl) (by kernel_rfl) (e:=add64Entry) (by kernel_rfl),run_add64 (P:=Tryz.prog) x y 0 (by omega) (by omega) (by omega) (by omega),Int.add_zero];rfl
theorem CI (x y:Int) (hx:0<=x) (w:World):(callFunc 119 #[.int .u64 x,.int .u64 (y % 18446744073709551616),.int .u64 0]).run Tryz.prog w =
  .ok (.value (.tuple #[.int .u64 ((x+y % 18446744073709551616) % 18446744073709551616),.int .u64 ((x+y % 18446744073709551616) / 18446744073709551616)])) w :=
 sl x _ hx (Int.emod_nonneg _ (by decide)) w
theorem Fb (x y:Int) (hx:0<=x) (a:x < 18446744073709551616) (hy:0<=y) (b:y < 18446744073709551616) (w:World):(callFunc 163 #[.int .u64 x,.int .u64 y,.int .u64 0]).run Tryz.prog w =
  .ok (.value (.tuple #[.int .u64 ((x - y) % 18446744073709551616),.int .u64 (bor x y)])) w:=by
 obtain⟨x,rfl⟩:=Int.eq_ofNat_of_zero_le hx;obtain⟨y,rfl⟩:=Int.eq_ofNat_of_zero_le hy
 have this:(callFunc 163 #[.int .u64 (x:Int),.int .u64 (y:Int),.int .u64 0]).run Tryz.prog w =
   .ok (.value (.tuple #[.int .u64 (((x+18446744073709551616 - y - 0) % 18446744073709551616:Nat):Int),.int .u64 ((if x < y+0 then 1 else 0:Nat):Int)])) w:=by kernel_rfl
 rw[this]
 have e1:(((x+18446744073709551616 - y - 0) % 18446744073709551616:Nat):Int)=((x:Int) - y) % 18446744073709551616:=by omega
 have e2:((if x < y+0 then 1 else 0:Nat):Int)=bor x y:=by unfold bor;split<;>split<;>omega
 rw[e1,e2]
theorem oy {k k':IntKind} {a b c d:Int} (h:a=b) (h':c=d):Ending.returned (.tuple #[.int k a,.int k' c])=.returned (.tuple #[.int k b,.int k' d]):=by rw[h,h']
theorem sW (z:Int) (h0:0<=z) (h1:z < 18446744073709551616):bits .and .u64 z 4294967295=z % 4294967296:=and_low32 z h0 h1
theorem mul64 (x y:Int) (hx:0<=x) (b:x < 18446744073709551616) (hy:0<=y) (c:y < 18446744073709551616) (w:World) :
  Calls Tryz.prog 118 #[.int .u64 x,.int .u64 y] w fun e w'=>e=.returned (.tuple #[.int .u64 (x * y / 18446744073709551616),.int .u64 (x * y % 18446744073709551616)])/\w'=w:=by
 go_enter Tryz.func118,Tryz.ntmps118;go_wp2;go_ret2;refine⟨oy ?_ ?_,rfl⟩
 ·show IntKind.u64.wrap (IntKind.u64.wrap (IntKind.u64.wrap (x / 4294967296 * (y / 4294967296))+IntKind.u64.wrap (IntKind.u64.wrap (x / 4294967296 * bits BinOp.and IntKind.u64 y 4294967295)+IntKind.u64.wrap (bits BinOp.and IntKind.u64 x 4294967295 * bits BinOp.and IntKind.u64 y 4294967295) / 4294967296) / 4294967296)+IntKind.u64.wrap (bits BinOp.and IntKind.u64 (IntKind.u64.wrap (IntKind.u64.wrap (x / 4294967296 * bits BinOp.and IntKind.u64 y 4294967295)+IntKind.u64.wrap (bits BinOp.and IntKind.u64 x 4294967295 * bits BinOp.and IntKind.u64 y 4294967295) / 4294967296)) 4294967295+IntKind.u64.wrap (bits BinOp.and IntKind.u64 x 4294967295 * (y / 4294967296))) / 4294967296)=_
  simp only[IntKind.wrap_u64];rw[sW x hx b,sW y hy c,sW _ (Int.emod_nonneg _ (by decide)) (Int.emod_lt_of_pos _ (by decide))];exact mul64_arith x y hx b hy c
 ·show IntKind.u64.wrap (x * y)=_
  rw[IntKind.wrap_u64]
theorem lY (x y:Int) (hx:0<=x) (a:x < 18446744073709551616) (hy:0<=y) (b:y < 18446744073709551616) (w:World) :
  Calls Tryz.prog 118 #[.int .u64 x,.int .u64 y] w fun e w'=>∃ hi lo:Int,e=.returned (.tuple #[.int .u64 hi,.int .u64 lo])/\0<=hi/\hi<=18446744073709551614/\0<=lo/\lo < 18446744073709551616/\Hid (hi * 18446744073709551616+lo=x * y)/\w'=w:=by
 refine(mul64 x y hx a hy b w).mono ?_
 rintro e w' ⟨rfl,rfl⟩
 have d:0<=x * y:=Int.mul_nonneg hx hy
 have c:x * y<=18446744073709551615 * 18446744073709551615:=Int.mul_le_mul (by omega) (by omega) hy (by decide);exact⟨_,_,rfl,by omega,by omega,by omega,by omega,by show _=_;omega,rfl⟩
end
section
open Go.RowKit Lim
section
variable {w w1 w':World}{ao ao':Option Addr}{b o n o' n' i k B b':Nat}{l m:List Int}{v:Value}
structure At(w:World)(ao:Option Addr)(b o:Nat)(l:List Int):Prop where
 loc:l=[]\/ao=some ⟨b,o,none⟩
 cell:∀ i,i < l.length->w.cell? ⟨b,o+i,none⟩=some (.int .u64 (nth l i))
theorem At.cells(h:At w ao b o l):Cells w ao l:=by
 rcases h.loc with e | e
 ·exact .inl e
 ·exact .inr ⟨b,o,e,h.cell⟩
def dI(w:World)(b o n:Nat):Prop:=∀ i,i < n->w.frozen? ⟨b,o+i,none⟩=false
structure Wr(b o n:Nat)(w w':World):Prop where
 os:w'.os=w.os
 tape:w'.tape=w.tape
 output:w'.output=w.output
 size:w'.heap.size=w.heap.size
 block:∀ k,k≠b->w'.heap[k]?=w.heap[k]?
 cell:∀ i,(i < o\/o+n<=i)->w'.cell? ⟨b,i,none⟩=w.cell? ⟨b,i,none⟩
 frozen:∀ i,w'.frozen? ⟨b,i,none⟩=w.frozen? ⟨b,i,none⟩
theorem Wr.refl(b o n:Nat)(w:World):Wr b o n w w:=⟨rfl,rfl,rfl,rfl,fun _ _=>rfl,fun _ _=>rfl,fun _=>rfl⟩
theorem Wr.trans{a:World}(h:Wr b o n w w1)(k:Wr b o n w1 a):Wr b o n w a :=
 ⟨k.os.trans h.os,k.tape.trans h.tape,k.output.trans h.output,k.size.trans h.size,fun i hi=>(k.block i hi).trans (h.block i hi),fun i hi=>(k.cell i hi).trans (h.cell i hi),fun i=>(k.frozen i).trans (h.frozen i)⟩
theorem Wr.mono(h:Wr b o n w w')(h1:o'<=o)(h2:o+n<=o' + n'):Wr b o' n' w w' :=
 ⟨h.os,h.tape,h.output,h.size,h.block,fun i hi=>h.cell i (by omega),h.frozen⟩
theorem Wr.setCell(h:Wr b o n w w1)(c:o<=i)(d:i < o+n)(v:Value):Wr b o n w (w1.setCell ⟨b,i,none⟩ v) :=
 h.trans ⟨rfl,rfl,rfl,by simp[World.setCell],fun k a=>Below.heap_setCell _ _ _ _ a,fun j e=>by
   simp only[World.cell?,World.setCell,Array.getElem?_modify,if_true]
   cases hh:w1.heap[b]? with
   | none=>simp
   | some ob =>
    cases ob<;>simp
    rw[Array.getElem?_setIfInBounds,if_neg (by omega)],fun j=>by
   simp only[World.frozen?,World.setCell,Array.getElem?_modify,if_true]
   cases hh:w1.heap[b]? with
   | none=>simp
   | some ob=>cases ob<;>simp⟩
theorem Wr.other(h:Wr b o n w w')(hk:k≠b):w'.cell? ⟨k,i,none⟩=w.cell? ⟨k,i,none⟩:=World.cell?_of_block (w:=w) (h.block k hk)
theorem Wr.below(h:Wr b o n w w')(hB:B<=b):Below B w w' :=
 ⟨h.os,h.tape,h.output,by rw[h.size];exact Nat.le_refl _,fun k hk=>h.block k (by omega)⟩
theorem Wr.free(h:Wr b o n w w')(k:dI w b' o' n'):dI w' b' o' n':=by
 intro i hi;by_cases e:b'=b
 ·subst e;rw[h.frozen];exact k i hi
 ·rw[World.frozen?_of_block (w:=w) (h.block b' e)];exact k i hi
theorem At.wr(h:Wr b o n w w')(k:At w ao b' o' l)(hb:l=[]\/b'≠b):At w' ao b' o' l :=
 ⟨k.loc,fun i hi=>by
  rcases hb with e | e
  ·subst e;simp at hi
  ·rw[h.other e];exact k.cell i hi⟩
theorem At.below(h:Below B w w')(k:At w ao b o l)(hb:l=[]\/b < B):At w' ao b o l :=
 ⟨k.loc,fun i hi=>by
  rcases hb with e | e
  ·subst e;simp at hi
  ·rw[h.cell (p:=⟨b,o+i,none⟩) e];exact k.cell i hi⟩
theorem aK(h:w.cell? ⟨b,o,none⟩=some v):b < w.heap.size:=by
 simp only[World.cell?] at h;by_cases hb:b < w.heap.size
 ·exact hb
 ·rw[Array.getElem?_eq_none (by omega)] at h;simp at h
theorem At.lt(k:At w ao b o l):l=[]\/b < w.heap.size:=by
 cases l with
 | nil=>exact .inl rfl
 | cons x l=>exact .inr (aK (k.cell 0 (by simp)))
theorem At.keep(h:Below w.heap.size w w')(k:At w ao b o l):At w' ao b o l:=k.below h k.lt
theorem At.setCell(k:At w ao b o l)(hi:i < l.length)(x:Int):At (w.setCell ⟨b,o+i,none⟩ (.int .u64 x)) ao b o (l.set i x) :=
  ⟨by rcases k.loc with e | e
      · subst e;simp at hi
      · exact .inr e,fun j g=>by
    rw[List.length_set] at g;have hc:=k.cell j g;rw[dH hi];have a:=k.cell i hi;simp only[World.cell?,World.setCell,Array.getElem?_modify,if_true] at hc a ⊢
    cases hh:w.heap[b]? with
    | none=>rw[hh] at hc;simp at hc
    | some ob =>
      rw[hh] at hc a
      cases ob with
      | cells c e f =>
        simp at hc a ⊢;rw[Array.getElem?_setIfInBounds];by_cases e:j=i
        · subst e
          obtain⟨d,_⟩:= Array.getElem?_eq_some_iff.1 a;simp[d]
        · rw[if_neg (by omega),if_neg e];exact hc
      | _=>simp at hc⟩
theorem At.drew(h:At w ao b o l):At w.drew ao b o l:=⟨h.loc,h.cell⟩
theorem dI.drew(h:dI w b o n):dI w.drew b o n:=h
theorem Wr.drew(h:Wr b o n w w'):Wr b o n w w'.drew:=⟨h.os,h.tape,h.output,h.size,h.block,h.cell,h.frozen⟩
theorem At.drewN(h:At w ao b o l)(n:Nat):At (w.drewN n) ao b o l:=⟨h.loc,h.cell⟩
theorem Wr.drewN(h:Wr b o n w w')(k:Nat):Wr b o n w (w'.drewN k):=⟨h.os,h.tape,h.output,h.size,h.block,h.cell,h.frozen⟩
def patch(l:List Int)(k:Nat)(m:List Int):List Int:=l.take k ++ (m ++ l.drop (k+m.length))
theorem fo(h:k+m.length<=l.length):(patch l k m).length=l.length:=by simp[patch];omega
theorem lB(hl:Words l)(hm:Words m):Words (patch l k m):=(hl.take k).append (hm.append (hl.drop _))
theorem pH(h:k+m.length<=l.length)(hi:i < m.length):nth (patch l k m) (k+i)=nth m i:=by
 have e:(l.take k).length=k:=by simp;omega
 rw[patch,bP (by omega),e,Nat.add_sub_cancel_left,dh hi]
theorem oC(h:k+m.length<=l.length)(hi:i < k\/k+m.length<=i):nth (patch l k m) i=nth l i:=by
 have e:(l.take k).length=k:=by simp;omega
 rcases hi with hi | hi
 ·rw[patch,dh (by omega),dA hi]
 ·rw[patch,bP (by omega),e,bP (by omega),dL];congr 1;omega
theorem pB(h:k+m.length<=l.length):val (patch l k m)=val l+18446744073709551616 ^ k * (val m - val ((l.drop k).take m.length)):=by
 have e:(l.take k).length=k:=by simp;omega
 have b:=bL l k (by omega);have a:=bL (l.drop k) m.length (by simp;omega);rw[List.drop_drop] at a;rw[patch,ez,ez,e,b,a];grind
theorem At.patch(h:At w ao b o l)(hw:Wr b (o+k) n w w')(hm:At w' ao' b (o+k) m)(hn:m.length=n)(c:k+n≤l.length):At w' ao b o (patch l k m) :=
  ⟨by rcases h.loc with e | e
      · left;subst e;simp at c;simp[Go.Proofs.YtjejmkcjflhoiaaGreatDoor.patch,List.eq_nil_of_length_eq_zero (show m.length=0 by omega)]
      · exact .inr e,fun i hi=>by
    rw[fo (by omega)] at hi;by_cases a:k≤i∧i < k+n
    · obtain⟨j,rfl⟩:= Nat.exists_eq_add_of_le a.1
      rw[pH (by omega) (by omega),← hm.cell j (by omega),Nat.add_assoc]
    · rw[oC (by omega) (by omega),hw.cell _ (by omega)];exact h.cell i hi⟩
theorem At.fP(h:At w ao b o l)(k n:Nat):At w (some ⟨b,o+k,none⟩) b (o+k) ((l.drop k).take n) :=
 ⟨.inr rfl,fun i hi=>by
  simp only[List.length_take,List.length_drop] at hi
  rw[dA (by omega),dL,Nat.add_assoc];exact h.cell _ (by omega)⟩
theorem dI.fP(h:dI w b o n){m:Nat}(hk:k + m<=n):dI w b (o + k) m:=fun i hi=>by
 rw[Nat.add_assoc];exact h _ (by omega)
theorem At.sub(k:At w ao b o l)(n:Nat):At w ao b o (l.take n) :=
  ⟨by rcases k.loc with e | e
      · subst e;exact .inl (by simp)
      · exact .inr e,fun i hi=>by
    rw[List.length_take] at hi
    rw[dA (by omega)];exact k.cell i (by omega)⟩
end
end
section
open Go.RowKit Lim
section
variable {w:World}{g:Nat}{l:List Int}{ops:Array Oper}{rest:List Oper}{o:Oper}{a:Act}
theorem il:(Tryz.prog.info? 22).map (fun i=>(i.zero,i.size,i.bytes))=some (some (.int .u64 0),1,8):=by kernel_rfl
theorem gG:Tryz.prog.underlying 30=some (.slice 22):=by kernel_rfl
def Row(w:World)(g:Nat)(l:List Int):Prop:=w.heap[g]?=some (.cells (l.map (Value.int .u64)).toArray 22 (0,0))
theorem Row.at(h:Row w g l):At w (some ⟨g,0,none⟩) g 0 l :=
 ⟨.inr rfl,fun i hi=>by
  unfold Row at h;simp only[World.cell?,h]
  simp[b8 hi,hi]⟩
theorem Row.free(h:Row w g l)(o n:Nat):dI w g o n:=by
 intro i _;unfold Row at h;simp[World.frozen?,h]
theorem Row.lt(h:Row w g l):g < w.heap.size:=(Array.getElem?_eq_some_iff.1 h).1
structure dK(w w':World)(v:Value)(l:List Int):Prop where
 is:∃ ao b o c,v=.slice ao l.length c/\l.length<=c/\w.heap.size<=b/\At w' ao b o l/\dI w' b o l.length
theorem rL(n:Nat):madeCells (Value.int .u64 0).cells n=((List.replicate n 0).map (Value.int .u64)).toArray:=by
 apply Array.ext
 ·simp[size_madeCells]
 ·intro j a b;simp[madeCells,Value.cells,Nat.mod_one]
theorem di{Q:Exit->Act->World->Prop}(j:o.guard=none)(l c:Operand)(d:o.op=Op.makeSlice 30 l c)(n:Nat)(L C:Int)(h:a.eval l=.int .i64 L)(hc:a.eval c=.int .i64 C)(hL:L=(n:Int))(hC:C=(n:Int))(hn:n<=17592186044416)(g:∀ w',Row w' w.heap.size (List.replicate n 0)->Below w.heap.size w w'->w'.heap.size=w.heap.size+1->wpList Tryz.prog ops Q rest (a.put o.dst (.slice (some ⟨w.heap.size,0,none⟩) n n)) w') :
  wpList Tryz.prog ops Q (o :: rest) a w:=by
 obtain⟨i,hi,f,hs,hb⟩:=info_parts il;refine wpList_plain j fun K e=>?_
 have b:=run_make (P:=Tryz.prog) w 30 22 i (.int .u64 0) gG hi f .i64 .i64 (n:Int) (n:Int) (by omega) (by omega) (by rw[hb];omega) (by omega);subst hL;subst hC;unfold Oper.wp;simp only[execOp,d,h,hc];simp[b,Result.andThen];refine e _ _ (g _ ?_ ?_ ?_)
 ·show (w.heap.push _)[w.heap.size]?=_
  rw[Array.getElem?_push_size,hs,Nat.mul_one,rL]
 ·exact(Below.refl _ _).alloc (Nat.le_refl _) _
 ·simp
theorem gT{Q:Exit->Act->World->Prop}(n:o.guard=none)(d s:Operand)(A:o.op=.call { callee:=.builtin .copy,args:=#[d,s],argTypes:=#[30,30] })(g dLen dCap sLen sCap:Nat)(sp:Option Addr)(hd:a.eval d=.slice (some ⟨g,0,none⟩) dLen dCap)(hs:a.eval s=.slice sp sLen sCap)(lz ls:List Int)(b:Row w g lz)(u:lz.length=dLen)(b' o':Nat)(l:ls.length=sLen)(hle:sLen<=dLen)(m:At w sp b' o' ls)(h:∀ w',Row w' g (ls ++ lz.drop sLen)->Wr g 0 dLen w w'->wpList Tryz.prog ops Q rest (a.put o.dst (goInt sLen)) w'):wpList Tryz.prog ops Q (o :: rest) a w:=by
 obtain⟨i,hi,D,z,hb⟩:=info_parts il
 have c:(Tryz.prog.info? 22).map (·.size)=some 1:=by rw[hi];simp[z]
 by_cases t:sLen=0
 ·have C:ls=[]:=List.eq_nil_of_length_eq_zero (by omega);subst C;refine wpList_copy_nothing n d s _ _ A _ gG c _ sp dLen dCap sLen sCap hd hs (by subst t;exact Nat.zero_min _) ?_
  have:=h w (by rw[t];simpa using b) (Wr.refl _ _ _ _);rwa [t] at this
 ·obtain rfl:sp=some ⟨b',o',none⟩:=by
   rcases m.loc with e | e
   ·subst e;simp at l;omega
   ·exact e
  have p:Nat.min sLen dLen=sLen:=Nat.min_eq_left hle
  have hlen:(ls.map (Value.int .u64)).length=sLen:=by simp[l]
  refine wpList_copy_own n d s _ _ A _ gG c g 0 dLen dCap ⟨b',o',none⟩ sLen sCap hd hs _ _ b (ls.map (Value.int .u64)) (by rw[p,hlen]) ?_ (by simp[l,u];omega) (ints_oneCell _ _) ?_
  ·intro j v hv;rw[List.getElem?_map] at hv
   have f:j < ls.length:=by
    rcases Nat.lt_or_ge j ls.length with f | f
    ·exact f
    ·rw[List.getElem?_eq_none f] at hv;simp at hv
   rw[List.getElem?_eq_getElem f] at hv;simp at hv;subst hv;have:=m.cell j f;rw[b8 f] at this;rw[<- this];by_cases q:j=0
   ·subst q;exact congrArg w.cell? (by simp[Addr.add])
   ·exact congrArg w.cell? (by simp[Addr.add,q])
  ·rw[hlen]
   have r:Row (w.setRow g (List.take 0 (List.map (Value.int .u64) lz).toArray.toList ++ (List.map (Value.int .u64) ls ++ List.drop (0+sLen) (List.map (Value.int .u64) lz).toArray.toList)).toArray) g (ls ++ lz.drop sLen):=by
    unfold Row;rw[setRow_heap w g _ _ _ _ b,Nat.zero_add];simp only[List.take_zero,List.nil_append,<- List.map_drop,<- List.map_append]
   refine h _ r ⟨rfl,rfl,rfl,by simp[World.setRow],fun k B=>setRow_other w g k _ B,fun j f=>?_,fun j=>?_⟩
   ·have y:w.heap[g]?=_:=b
    have x:(w.setRow g (List.take 0 (List.map (Value.int .u64) lz).toArray.toList ++ (List.map (Value.int .u64) ls ++ List.drop (0+sLen) (List.map (Value.int .u64) lz).toArray.toList)).toArray).heap[g]?=_:=r;simp only[World.cell?,y,x];simp;rw[List.getElem?_eq_none (by simp;omega),List.getElem?_eq_none (by omega)];rfl
   ·have y:w.heap[g]?=_:=b
    have x:(w.setRow g (List.take 0 (List.map (Value.int .u64) lz).toArray.toList ++ (List.map (Value.int .u64) ls ++ List.drop (0+sLen) (List.map (Value.int .u64) lz).toArray.toList)).toArray).heap[g]?=_:=r;simp only[World.frozen?,y,x]
end
end
section
open Go.RowKit Lim
section
variable {x y:Int}{l a b:List Int}
def sgn(x y:Int):Int:=if x < y then -1 else if y < x then 1 else 0
theorem ij(h:x < y):sgn x y=-1:=by simp[sgn,h]
theorem kB(h:y < x):sgn x y=1:=by simp only[sgn];rw[if_neg (by omega),if_pos h]
theorem ux(h:x=y):sgn x y=0:=by simp[sgn,h]
theorem gA(l:List Int):val l=nth l 0+18446744073709551616 * val l.tail:=by
 cases l with
 | nil=>simp[val,nth]
 | cons x l=>simp[val,nth]
theorem fI(l:List Int)(i:Nat):nth l.tail i=nth l (i+1):=by
 cases l with
 | nil=>simp[nth]
 | cons x l=>simp[nth]
theorem Lim.Words.tl(h:Words l):Words l.tail:=fun x hx=>h x (List.mem_of_mem_tail hx)
theorem pO:∀ {a b:List Int},(∀ i,nth a i=nth b i)->val a=val b
 | [],b,h=>by rw[fB (l:=b) fun i=>by rw[<- h i,C9]];rfl
 | x :: a,b,h=>by
  rw[gA (x :: a),gA b,h 0,List.tail_cons,pO (a:=a) (b:=b.tail) fun i=>by rw[fI,<- h (i+1),dM]]
theorem kN:∀ (h:Nat) {a b:List Int},Words a->Words b->(∀ i,h < i->nth a i=nth b i)->nth a h < nth b h->val a < val b
 | 0,a,b,_,_,he,hl=>by
  rw[gA a,gA b,pO (a:=a.tail) (b:=b.tail) fun i=>by rw[fI,fI];exact he _ (by omega)];omega
 | h + 1,a,b,ha,hb,he,hl=>by
  have:=kN h ha.tl hb.tl (fun i hi=>by rw[fI,fI];exact he _ (by omega)) (by rw[fI,fI];exact hl);have c:=ha.nth 0;have d:=hb.nth 0;rw[gA a,gA b];omega
theorem sgn_at(e:Words a)(hb:Words b)(h:Nat)(he:∀ i,h < i->nth a i=nth b i)(d:nth a h≠nth b h):sgn (nth a h) (nth b h)=sgn (val a) (val b):=by
 rcases Int.lt_or_gt_of_ne d with c | c
 ·rw[ij c,ij (kN h e hb he c)]
 ·rw[kB c,kB (kN h hb e (fun i hi=>(he i hi).symm) c)]
theorem zK(e:Words a)(hb:Words b)(c:aI a≠aI b):sgn (aI a) (aI b)=sgn (val a) (val b):=by
 rcases Nat.lt_or_gt_of_ne c with d | d
 ·rw[ij (by omega),ij (dG e hb d)]
 ·rw[kB (by omega),kB (dG hb e d)]
theorem sE(x y:Int)(w:World):Calls Tryz.prog 79 #[.int .i64 x,.int .i64 y] w fun e w'=>e=.returned (.int .i64 (sgn x y))/\w'=w:=by
 rcases Int.lt_trichotomy x y with h | h | h
 ·rw[ij h];go_enter Tryz.func79,Tryz.ntmps79;go_wp2;go_ret;exact⟨rfl,rfl⟩
 ·rw[ux h];subst h;go_enter Tryz.func79,Tryz.ntmps79;go_wp2;go_ret;exact⟨rfl,rfl⟩
 ·rw[kB h]
  have b:¬ x < y:=by omega
  go_enter Tryz.func79,Tryz.ntmps79;go_wp2;go_ret;exact⟨rfl,rfl⟩
theorem sf(x y:Int)(w:World):Calls Tryz.prog 80 #[.int .u64 x,.int .u64 y] w fun e w'=>e=.returned (.int .i64 (sgn x y))/\w'=w:=by
 rcases Int.lt_trichotomy x y with h | h | h
 ·rw[ij h];go_enter Tryz.func80,Tryz.ntmps80;go_wp2;go_ret;exact⟨rfl,rfl⟩
 ·rw[ux h];subst h;go_enter Tryz.func80,Tryz.ntmps80;go_wp2;go_ret;exact⟨rfl,rfl⟩
 ·rw[kB h]
  have b:¬ x < y:=by omega
  go_enter Tryz.func80,Tryz.ntmps80;go_wp2;go_ret;exact⟨rfl,rfl⟩
theorem kE{k:IntKind}{a b:Int}(h:a=b):Ending.returned (.int k a)=.returned (.int k b):=by rw[h]
theorem jS(ao:Option Addr)(n c b o:Nat)(ao':Option Addr)(n' c' b' o':Nat)(l d:List Int)(w:World)(X:l.length=n)(A:d.length=n')(hc:n<=c)(B:n'<=c')(K:n<=1099511627776)(C:n'<=1099511627776)(wl:Words l)(p:Words d)(v:At w ao b o l)(g:At w ao' b' o' d) :
  Calls Tryz.prog 41 #[.slice ao n c,.slice ao' n' c'] w fun e w'=>e=.returned (.int .i64 (sgn (val l) (val d)))/\Below w.heap.size w w':=by
 have hn:=bI l
 have G:=bI d;have t1:=bH ao n c l w X hc (by omega) v.cells;have t2:=bH ao' n' c' d w A B (by omega) g.cells
 have s:∀ i,aI l<=i->nth l i=0:=fun i hi=>fW hi
 have m:∀ i,aI d<=i->nth d i=0:=fun i hi=>fW hi
 have u:Hid (aI l≠aI d->sgn (aI l) (aI d)=sgn (val l) (val d)):=zK wl p
 have I:Hid (∀ i,aI l<=i->nth l i=0):=s
 have r:Hid (∀ i,aI d<=i->nth d i=0):=m;clear s m;generalize aI l=N at *;generalize aI d=M at *;go_enter Tryz.func41,Tryz.ntmps41;go_wp2_with fail;refine t1.mono ?_
 rintro e w1 ⟨rfl,rfl⟩;go_wp2_with fail;refine t2.mono ?_
 rintro e Q ⟨rfl,rfl⟩;clear t1 t2;by_cases t:N=M
 ·subst t;go_wp2_with fail;go_loopw [25] (fun E wr=>∃ k:Nat,k<=N/\E=.int .i64 k/\Hid (∀ i,N - k<=i->nth l i=nth d i)/\Below Q.heap.size Q wr) (fun E _=>N - (intOf E).toNat)
  case atStart=>exact⟨0,Nat.zero_le _,rfl,fun i hi=>by rw[I.out i (by omega),r.out i (by omega)],Below.refl _ _⟩
  case round =>
   obtain⟨k,hk,rfl,D,f⟩:=hrel;by_cases V:k < N
   ·have q:=v.keep f
    have j:=g.keep f;rcases v.loc with e | rfl
    ·subst e;simp at hn;omega
    rcases g.loc with e | rfl
    ·subst e;simp at G;omega
    obtain⟨h,J⟩:∃ h:Nat,N=h+1+k:=⟨N - 1 - k,by omega⟩
    have q1:=q.cell h (by omega);have O:=j.cell h (by omega)
    have Y:Hid (N=h+1+k):=J
    have P:(N:Int) - 1 - k=h:=by omega
    have H:Hid (∀ i,h < i->nth l i=nth d i):=fun i hi=>D.out i (by omega)
    have S:Hid (nth l h≠nth d h->sgn (nth l h) (nth d h)=sgn (val l) (val d)):=sgn_at wl p h H.out
    have U:(h:Int) < N:=by omega
    clear J D I r u v g q j wl p;generalize hx:nth l h=x at *;generalize hy:nth d h=y at *
    have L:Hid (x=y->nth l h=nth d h):=fun e=>hx.trans (e.trans hy.symm)
    clear hx hy;by_cases hd:x=y
    ·have Z:Hid (nth l h=nth d h):=L.out hd;clear L;subst hd;go_wp2_with fail;go_quiet (fail);go_wp2;go_roundw
     case rel=>exact⟨k + 1,by omega,by go_num,fun i hi=>by
      by_cases e:i=h
      ·subst e;exact Z.out
      ·exact H.out i (by have:=Y.out;omega),below_drewN f _⟩
     case measure=>simp[intOf];omega
    ·have R:(x != y)=true:=by rw[bne_iff_ne]; exact hd
     go_wp2_with fail;go_quiet (fail);go_wp2_with fail
     have q3:(wr.drewN nq).cell? ⟨b,o+h,none⟩=some (.int .u64 x):=q1
     have q4:(wr.drewN nq).cell? ⟨b',o' + h,none⟩=some (.int .u64 y):=O;have F:=below_drewN f nq;clear q1 O f;generalize wr.drewN nq=W at *;go_quiet ((go_at_call 80;exact Calls.quiet_of_same (sf _ _ _)));go_wp2;go_ret;exact⟨kE (S.out hd),below_drewN F _⟩
   ·have z:k=N:=by omega
    subst z;go_wp2;go_ret;rw[ux (pO fun i=>D.out i (by omega))];exact⟨rfl,f⟩
 ·have T:((N:Int) != (M:Int))=true:=by rw[bne_iff_ne]; omega
  go_wp2_with (go_at_call 79;refine(sE _ _ _).mono ?_;rintro e w' ⟨rfl,rfl⟩);go_ret;exact⟨kE (u.out t),Below.refl _ _⟩
end
end
section
open Go.RowKit Lim
section
variable {n:Nat}
theorem w64(z:Int)(h0:0<=z)(h1:z<=1000):wrap64 z=z:=by
 unfold wrap64;omega
theorem gH(k:Int)(i:Nat)(h0:0<=k)(hk:k<=56)(h:i < 256):wrap64 (k+wrap64 (bitLen i:Int))=k+bitLen i:=by
 have:=bitLen_le8 i h;rw[w64 (bitLen i) (by omega) (by omega),w64 _ (by omega) (by omega)]
theorem jk(x:Int)(b i:Nat)(h:x.toNat / 2 ^ b=i)(hi:i≠0):((bitLen x.toNat:Nat):Int)=b+bitLen i:=by
 rw[bitLen_shift x.toNat b (by rw[h];exact hi),h];omega
theorem len64(x:Int)(w:World)(c:0<=x)(b:x < 18446744073709551616) :
  Calls Tryz.prog 142 #[.int .u64 x] w fun e w'=>e=.returned (.int .i64 (bitLen x.toNat))/\w'=w:=by
 by_cases c0:4294967296<=x
 ·by_cases c1:65536<=x / 4294967296
  ·by_cases c2:256<=x / 4294967296 / 65536
   ·go_enter Tryz.func142,Tryz.ntmps142;go_wp2;go_ret;refine⟨kE ?_,rfl⟩;rw[len8tab_get,gH 56 (x / 4294967296 / 65536 / 256).toNat (by decide) (by decide) (by omega),jk x 56 (x / 4294967296 / 65536 / 256).toNat (by rw[show (2:Nat) ^ 56=72057594037927936 from rfl];omega) (by omega)];rfl
   ·go_enter Tryz.func142,Tryz.ntmps142;go_wp2;go_ret;refine⟨kE ?_,rfl⟩;rw[len8tab_get,gH 48 (x / 4294967296 / 65536).toNat (by decide) (by decide) (by omega),jk x 48 (x / 4294967296 / 65536).toNat (by rw[show (2:Nat) ^ 48=281474976710656 from rfl];omega) (by omega)];rfl
  ·by_cases c2:256<=x / 4294967296
   ·go_enter Tryz.func142,Tryz.ntmps142;go_wp2;go_ret;refine⟨kE ?_,rfl⟩;rw[len8tab_get,gH 40 (x / 4294967296 / 256).toNat (by decide) (by decide) (by omega),jk x 40 (x / 4294967296 / 256).toNat (by rw[show (2:Nat) ^ 40=1099511627776 from rfl];omega) (by omega)];rfl
   ·go_enter Tryz.func142,Tryz.ntmps142;go_wp2;go_ret;refine⟨kE ?_,rfl⟩;rw[len8tab_get,gH 32 (x / 4294967296).toNat (by decide) (by decide) (by omega),jk x 32 (x / 4294967296).toNat (by rw[show (2:Nat) ^ 32=4294967296 from rfl];omega) (by omega)];rfl
 ·by_cases c1:65536<=x
  ·by_cases c2:256<=x / 65536
   ·go_enter Tryz.func142,Tryz.ntmps142;go_wp2;go_ret;refine⟨kE ?_,rfl⟩;rw[len8tab_get,gH 24 (x / 65536 / 256).toNat (by decide) (by decide) (by omega),jk x 24 (x / 65536 / 256).toNat (by rw[show (2:Nat) ^ 24=16777216 from rfl];omega) (by omega)];rfl
   ·go_enter Tryz.func142,Tryz.ntmps142;go_wp2;go_ret;refine⟨kE ?_,rfl⟩;rw[len8tab_get,gH 16 (x / 65536).toNat (by decide) (by decide) (by omega),jk x 16 (x / 65536).toNat (by rw[show (2:Nat) ^ 16=65536 from rfl];omega) (by omega)];rfl
  ·by_cases c2:256<=x
   ·go_enter Tryz.func142,Tryz.ntmps142;go_wp2;go_ret;refine⟨kE ?_,rfl⟩;rw[len8tab_get,gH 8 (x / 256).toNat (by decide) (by decide) (by omega),jk x 8 (x / 256).toNat (by rw[show (2:Nat) ^ 8=256 from rfl];omega) (by omega)];rfl
   ·go_enter Tryz.func142,Tryz.ntmps142;go_wp2;go_ret;refine⟨kE ?_,rfl⟩;rw[len8tab_get];have:=bitLen_le8 x.toNat (by omega);rw[w64 (bitLen x.toNat:Int) (by omega) (by omega),w64 _ (by omega) (by omega)]
theorem mL(h:n≠0):1<=bitLen n:=by unfold bitLen;rw[if_neg h];omega
theorem im(h:n < 18446744073709551616):bitLen n<=64:=by
 unfold bitLen;split
 ·omega
 ·have:=(Nat.log2_lt (k:=64) ‹_›).2 (by omega);omega
theorem EU(x:Int)(w:World)(c:0<=x)(b:x < 18446744073709551616) :
  Calls Tryz.prog 94 #[.int .u64 x] w fun e w'=>e=.returned (.int .i64 (64 - bitLen x.toNat))/\w'=w:=by
 have d:=im (n:=x.toNat) (by omega);have t1:=len64 x w c b;generalize bitLen x.toNat=L at *;go_enter Tryz.func94,Tryz.ntmps94;go_wp2_with fail;refine t1.mono ?_
 rintro e f ⟨rfl,rfl⟩;go_wp2;go_ret;exact⟨rfl,rfl⟩
end
end
section
open Go.RowKit Lim
section
variable {y y1 y0 u a q r:Int}
theorem Fg(y:Int)(w:World)(g:0 < y)(d:y < 18446744073709551616) :
  Calls Tryz.prog 94 #[.int .u64 y] w fun e w'=>∃ s:Nat,e=.returned (.int .i64 s)/\s<=63/\Hid (9223372036854775808<=y * 2 ^ s/\y * 2 ^ s < 18446744073709551616)/\w'=w:=by
 refine(EU y w (by omega) d).mono ?_
 rintro e w' ⟨rfl,rfl⟩;have h:=im (n:=y.toNat) (by omega);have i:=mL (n:=y.toNat) (by omega);have hs:=bitLen_spec y.toNat;generalize bitLen y.toNat=L at *;refine⟨64 - L,kE (by omega),by omega,?_,rfl⟩;have a:=hs.1;have b:=hs.2 (by omega);obtain⟨n,rfl⟩:∃ n:Nat,y=n:=⟨y.toNat,by omega⟩
 rw[Int.toNat_natCast] at a b
 have e1:(2:Nat) ^ L * 2 ^ (64 - L)=18446744073709551616:=by rw[<- Nat.pow_add,show L+(64 - L)=64 from by omega]
 have e2:(2:Nat) ^ (L - 1) * 2 ^ (64 - L)=9223372036854775808:=by rw[<- Nat.pow_add,show L - 1+(64 - L)=63 from by omega]
 have k1:n * 2 ^ (64 - L) < 2 ^ L * 2 ^ (64 - L):=Nat.mul_lt_mul_of_pos_right a (Nat.two_pow_pos _)
 have f:2 ^ (L - 1) * 2 ^ (64 - L)<=n * 2 ^ (64 - L):=Nat.mul_le_mul_right _ b;rw[e1] at k1;rw[e2] at f
 have c:((n * 2 ^ (64 - L):Nat):Int)=(n:Int) * 2 ^ (64 - L):=by rw[Int.natCast_mul,Int.natCast_pow];rfl
 show _/\_
 rw[<- c];omega
structure fg(y y1 u a q r:Int):Prop where
 eq:q * y1+r=u
 r0:0<=r
 up:u * 4294967296+a < (q+1) * y
 q0:0<=q
 qb:q<=4294967297
theorem fg.start(e:y=y1 * 4294967296+y0)(c:0<=y0)(h:y0 < 4294967296)(l:2147483648<=y1)(u0:0<=u)(i:u < y)(a0:0<=a)(a1:a < 4294967296) :
  fg y y1 u a (u / y1) (u % y1):=by
 have f:=Int.mul_ediv_add_emod u y1;have d:=Int.emod_nonneg u (show y1≠0 by omega);have g:=Int.emod_lt_of_pos u (show 0 < y1 by omega)
 have b:0<=u / y1:=Int.ediv_nonneg u0 (by omega);generalize u / y1=q at *;generalize u % y1=r at *;refine⟨by rw[Int.mul_comm];exact f,d,?_,b,?_⟩
 ·have k1:(q + 1) * y=(y1 * q + y1) * 4294967296 + (q + 1) * y0:=by rw[e]; grind
  have j:0<=(q+1) * y0:=Int.mul_nonneg (by omega) c;rw[k1];omega
 ·by_cases hc:q<=4294967297
  ·exact hc
  ·have k:y1 * 4294967298<=y1 * q:=Int.mul_le_mul_of_nonneg_left (by omega) (by omega);omega
theorem fg.big(h:fg y y1 u a q r)(a1:a < 4294967296)(y0:0 < y)(d:u < y)(b:4294967296<=q)(c:0<=y1):fg y y1 u a (q - 1) (r+y1):=by
 have k:y * 4294967296<=y * q:=Int.mul_le_mul_of_nonneg_left b (by omega);have:=h.eq;have:=h.r0;have:=h.qb;refine⟨by rw[Int.sub_mul];omega,by omega,?_,by omega,by omega⟩;rw[Int.sub_add_cancel,Int.mul_comm q y];omega
theorem fg.more(h:fg y y1 u a q r)(e:y=y1 * 4294967296+y0)(u0:0<=u)(a0:0<=a)(f:0<=y1)(hc:4294967296 * r+a < q * y0):fg y y1 u a (q - 1) (r+y1):=by
 have he:=h.eq;have:=h.r0;have:=h.qb;have:=h.q0
 have k:q * y=q * y1 * 4294967296+q * y0:=by rw[e];grind
 have b:u * 4294967296+a < q * y:=by rw[k];omega
 have d:1<=q:=by
  by_cases c:1<=q
  ·exact c
  ·have:q=0:=by omega
   subst this;simp at b;omega
 refine⟨by rw[Int.sub_mul];omega,by omega,?_,by omega,by omega⟩;rw[Int.sub_add_cancel];exact b
structure Dig(y u a q:Int):Prop where
 lo:q * y<=u * 4294967296+a
 hi:u * 4294967296+a < (q+1) * y
 q0:0<=q
 q1:q < 4294967296
theorem fg.dig(h:fg y y1 u a q r)(e:y=y1 * 4294967296+y0)(d:0 < y)(b:u < y)(a1:a < 4294967296)(hc:q * y0<=4294967296 * r+a):Dig y u a q:=by
 have he:=h.eq
 have k:q * y=q * y1 * 4294967296+q * y0:=by rw[e];grind
 have lo:q * y<=u * 4294967296+a:=by rw[k];omega
 refine⟨lo,h.up,h.q0,?_⟩;by_cases c:q < 4294967296
 ·exact c
 ·have:4294967296 * y<=q * y:=Int.mul_le_mul_of_nonneg_right (by omega) (by omega);omega
theorem fg.lP(h:fg y y1 u a q r)(e:y=y1 * 4294967296+y0)(f:0 < y)(c:u < y)(a0:0<=a)(a1:a < 4294967296)(d:0<=y0)(i:y0 < 4294967296)(b:q<=4294967296)(g:4294967296<=r):Dig y u a q :=
 h.dig e f c a1 (by
  have:q * y0<=4294967296 * y0:=Int.mul_le_mul_of_nonneg_right b d
  omega)
theorem Dig.rest(h:Dig y u a q):0<=u * 4294967296+a - q * y/\u * 4294967296+a - q * y < y:=by
 have:=h.lo;have h2:=h.hi;rw[Int.add_mul] at h2;omega
theorem ediv64(x S T:Int)(hS:0 < S)(h:S * T=18446744073709551616):x * S / 18446744073709551616=x / T:=by
 rw[<- h,Int.mul_comm S T,Int.mul_ediv_mul_of_pos_left _ _ hS]
theorem qe(a b:Int)(s:Nat)(k:Int)(i:a=k * 2 ^ s)(j:0<=k)(f:a < 18446744073709551616)(c:0<=b)(m:b < 2 ^ s)(g:b < 18446744073709551616):bits .or .u64 a b=a+b:=by
 have l:(0:Int) < 2 ^ s:=Int.pow_pos (by decide)
 have d:0<=a:=by rw[i];exact Int.mul_nonneg j (Int.le_of_lt l)
 rw[u64_or a b d f c g];obtain⟨k,rfl⟩:=Int.eq_ofNat_of_zero_le j;obtain⟨b,rfl⟩:=Int.eq_ofNat_of_zero_le c
 have e:a.toNat=2 ^ s * k:=by
  have:a=((2 ^ s * k:Nat):Int):=by rw[i,Int.natCast_mul,Int.natCast_pow,Int.mul_comm];rfl
  rw[this,Int.toNat_natCast]
 have h:b < 2 ^ s:=by
  have:((2 ^ s:Nat):Int)=2 ^ s:=by rw[Int.natCast_pow];rfl
  omega
 rw[e,Int.toNat_natCast,<- Nat.two_pow_add_eq_or_of_lt h,<- e];omega
theorem B9(hi lo y:Int)(s:Nat)(h:0<=hi)(n:hi < y)(f:0<=lo)(l1:lo < 18446744073709551616)(hs:s<=63)(o:9223372036854775808<=y * 2 ^ s/\y * 2 ^ s < 18446744073709551616) :
  ∃ Y Yh Yl U A A1 A0:Int,IntKind.u64.wrap (y * 2 ^ s)=Y/\Y / 4294967296=Yh/\bits .and .u64 Y 4294967295=Yl/\bits .or .u64 (IntKind.u64.wrap (hi * 2 ^ s)) (lo / 2 ^ (64 - s))=U /\
   IntKind.u64.wrap (lo * 2 ^ s)=A/\A / 4294967296=A1/\bits .and .u64 A 4294967295=A0/\0<=Yl/\Yl < 4294967296/\2147483648<=Yh/\Yh < 4294967296/\0<=U/\U < Y/\Y < 18446744073709551616/\0<=A1/\A1 < 4294967296/\0<=A0/\A0 < 4294967296 /\
   Hid (Y=Yh * 4294967296+Yl)/\Hid ((U * 4294967296+A1) * 4294967296+A0=(hi * 18446744073709551616+lo) * 2 ^ s/\Y=y * 2 ^ s):=by
 have hS:(0:Int) < 2 ^ s:=Int.pow_pos (by decide)
 have i:(0:Int) < 2 ^ (64 - s):=Int.pow_pos (by decide)
 have c:(2:Int) ^ s * 2 ^ (64 - s)=18446744073709551616:=by rw[<- Int.pow_add,show s+(64 - s)=64 from by omega];rfl
 have g:(2:Int) ^ s * 1<=2 ^ s * 2 ^ (64 - s):=Int.mul_le_mul_of_nonneg_left (by omega) (Int.le_of_lt hS)
 have e:0<=hi * 2 ^ s:=Int.mul_nonneg h (Int.le_of_lt hS)
 have d:(hi+1) * 2 ^ s<=y * 2 ^ s:=Int.mul_le_mul_of_nonneg_right (by omega) (Int.le_of_lt hS);rw[Int.add_mul,Int.one_mul] at d
 have l:0<=lo * 2 ^ s:=Int.mul_nonneg f (Int.le_of_lt hS)
 have a:0<=lo / 2 ^ (64 - s):=Int.ediv_nonneg f (Int.le_of_lt i)
 have b:lo / 2 ^ (64 - s) < 2 ^ s:=by
  rw[Int.ediv_lt_iff_lt_mul i,c];exact l1
 have k:=ediv64 lo (2 ^ s) (2 ^ (64 - s)) hS c
 have m:bits .or .u64 (IntKind.u64.wrap (hi * 2 ^ s)) (lo / 2 ^ (64 - s))=hi * 2 ^ s+lo / 2 ^ (64 - s):=by
  rw[IntKind.wrap_u64,Int.emod_eq_of_lt e (by omega)];exact qe _ _ s hi rfl h (by omega) a b (by omega)
 have j:IntKind.u64.wrap (y * 2 ^ s)=y * 2 ^ s:=by rw[IntKind.wrap_u64];omega
 have hA:IntKind.u64.wrap (lo * 2 ^ s)=lo * 2 ^ s % 18446744073709551616:=IntKind.wrap_u64 _
 have e3:(hi * 18446744073709551616+lo) * 2 ^ s=hi * 2 ^ s * 18446744073709551616+lo * 2 ^ s:=by grind
 rw[m,j,hA];rw[<- k] at a b ⊢;rw[e3];generalize hi * 2 ^ s=H at *;generalize lo * 2 ^ s=p at *;generalize y * 2 ^ s=Y at *;refine⟨Y,_,_,_,_,_,_,rfl,rfl,sW _ (by omega) (by omega),rfl,rfl,rfl,sW _ (by omega) (by omega),by omega,by omega,by omega,by omega,by omega,by omega,by omega,by omega,by omega,by omega,by omega,?_,?_,rfl⟩
 ·show _=_;omega
 ·omega
theorem yr(U A p V:Int)(h:V=U * 4294967296+A - p)(b:0<=V)(a:V < 18446744073709551616):IntKind.u64.wrap (IntKind.u64.wrap (IntKind.u64.wrap (U * 4294967296)+A) - IntKind.u64.wrap p)=V:=by
 simp only[IntKind.wrap_u64];omega
theorem Cq(u y:Int)(hu:0<=u)(b:u < 18446744073709551616)(hy:0 < y):IntKind.u64.wrap (u - IntKind.u64.wrap (u / y * y))=u % y:=by
 have a:=Int.mul_ediv_add_emod u y;have c:=Int.emod_nonneg u (show y≠0 by omega);have d:=Int.mul_nonneg (Int.ediv_nonneg hu (Int.le_of_lt hy)) (Int.le_of_lt hy);rw[Int.mul_comm] at a;generalize u / y * y=p at *;generalize u % y=r at *;simp only[IntKind.wrap_u64];omega
theorem iI(Y b c u a:Int)(hy:Y=b * 4294967296+c)(g:0<=c)(d:c < 4294967296)(e:2147483648<=b)(h:b < 4294967296)(u0:0<=u)(f:u < Y)(i:Y < 18446744073709551616)(a0:0<=a)(a1:a < 4294967296) :
  IntKind.u64.wrap (u - IntKind.u64.wrap (u / b * b))=u % b/\fg Y b u a (u / b) (u % b)/\u % b < 4294967296 :=
 ⟨Cq u b u0 (by omega) (by omega),fg.start hy g d e u0 f a0 a1,by have:=Int.emod_lt_of_pos u (show 0 < b by omega);omega⟩
theorem dy{Y:Int}(h:Dig Y u a q)(b:Y < 18446744073709551616):∃ V:Int,IntKind.u64.wrap (IntKind.u64.wrap (IntKind.u64.wrap (u * 4294967296)+a) - IntKind.u64.wrap (q * Y))=V/\0<=V/\V < Y/\Hid (V=u * 4294967296+a - q * Y):=by
 have:=h.rest;exact⟨u * 4294967296+a - q * Y,yr u a (q * Y) _ rfl this.1 (by omega),this.1,this.2,rfl⟩
theorem fp(hi lo y Y U h d Q V a:Int)(s:Nat)(hy:0 < y)(e:(U * 4294967296+h) * 4294967296+d=(hi * 18446744073709551616+lo) * 2 ^ s)(g:Y=y * 2 ^ s)(i:V=U * 4294967296+h - Q * Y)(hd:Dig Y V d a) :
  Q * 4294967296+a=(hi * 18446744073709551616+lo) / y/\(V * 4294967296+d - a * Y) / 2 ^ s=(hi * 18446744073709551616+lo) % y:=by
 have hS:(0:Int) < 2 ^ s:=Int.pow_pos (by decide);have f:=hd.rest;have j:=hd.q0;have k:=hd.q1;generalize hN:hi * 18446744073709551616+lo=N at *
 have key:N * 2 ^ s=(Q * 4294967296+a) * y * 2 ^ s+(V * 4294967296+d - a * Y):=by rw[<- e,i,g];grind
 generalize hR:V * 4294967296+d - a * Y=R at *
 have hdiv:R=(N - (Q * 4294967296+a) * y) * 2 ^ s:=by rw[Int.sub_mul];omega
 generalize hK:Q * 4294967296+a=K at *;generalize hD:N - K * y=D at *;rw[hdiv] at f;rw[g] at f
 have d0:0<=D:=by
  by_cases c:0<=D
  ·exact c
  ·have:D * 2 ^ s <= -1 * 2 ^ s:=Int.mul_le_mul_of_nonneg_right (by omega) (Int.le_of_lt hS);omega
 have d1:D < y:=Int.lt_of_mul_lt_mul_right f.2 (Int.le_of_lt hS)
 have b:N=y * K+D:=by rw[<- hD,Int.mul_comm y K];omega
 constructor
 ·have:N / y=K:=by rw[b,Int.add_comm,Int.add_mul_ediv_left _ _ (by omega),Int.ediv_eq_zero_of_lt d0 d1,Int.zero_add]
  omega
 ·rw[hdiv,Int.mul_ediv_cancel _ (by omega),b,Int.add_comm,Int.add_mul_emod_self_left,Int.emod_eq_of_lt d0 d1]
theorem oV(hi lo y:Int)(w:World)(h0:0 < hi)(h1:hi < y)(l0:0<=lo)(l1:lo < 18446744073709551616)(y1:y < 18446744073709551616) :
  Calls Tryz.prog 161 #[.int .u64 hi,.int .u64 lo,.int .u64 y] w fun e w'=>e=.returned (.tuple #[.int .u64 ((hi * 18446744073709551616+lo) / y),.int .u64 ((hi * 18446744073709551616+lo) % y)])/\w'=w:=by
 have hb0:(hi == 0)=false:=beq_eq_false_iff_ne.2 (by omega)
 have hb1:(y == 0)=false:=beq_eq_false_iff_ne.2 (by omega);go_enter Tryz.func161,Tryz.ntmps161;go_wp2_with fail;refine(Fg y _ (by omega) y1).mono ?_
 rintro e w' ⟨s,rfl,hs,HS,rfl⟩;obtain⟨Y,n,K,U,A,v,i,e1,e2,e3,e4,e5,e6,e7,f,m,P,O,u0,u1,D,a10,M,S,j,x,z⟩:=B9 hi lo y s (by omega) h1 l0 l1 hs HS.out;obtain⟨d2,u,t⟩:=iI Y n K U v x.out f m P O u0 u1 D a10 M;go_wp2_with fail;clear e1 e2 e3 e4 e5 e6 e7 d2 HS hb0 hb1;go_loop [15,16] (fun tq tr=>∃ q r:Int,tq=.int .u64 q/\tr=.int .u64 r/\fg Y n U v q r/\r < 4294967296) (fun tq _=>(intOf tq).toNat)
 case atStart=>exact⟨_,_,rfl,rfl,u,t⟩
 case round =>
  clear u t;obtain⟨q,r,rfl,rfl,g,hr⟩:=hrel;have q0:=g.q0;have qb:=g.qb;have r0:=g.r0;by_cases c1:4294967296<=q
  ·have b:=g.big M (by omega) u1 c1 (by omega);obtain⟨Q,E⟩:∃ Q,q - 1=Q:=⟨_,rfl⟩
   obtain⟨R,H⟩:∃ R,r+n=R:=⟨_,rfl⟩
   rw[E,H] at b;have L:=b.q0
   have I:Q < q:=by omega
   have T:R < 8589934592:=by omega
   have W:=b.r0;by_cases c2:4294967296<=R
   ·have d:Hid (Dig Y U v Q):=b.lP x.out (by omega) u1 (by omega) M f m (by omega) c2;have N:=d.out.q1;obtain⟨V,v1,v2,v3,C⟩:=dy d.out D;obtain⟨d2,u,t⟩:=iI Y n K V i x.out f m P O v2 v3 D S j;obtain⟨l,o⟩:∃ l,l=Q:=⟨_,rfl⟩
    have QQ0:0<=l:=by omega
    have X:l < 4294967296:=by omega
    have C:Hid (V=U * 4294967296+v - l * Y):=by rw[o];exact C
    go_wp2_with fail;rw[<- o];clear v1 d2 o;go_loop [18,16] (fun tq tr=>∃ q r:Int,tq=.int .u64 q/\tr=.int .u64 r/\fg Y n V i q r/\r < 4294967296) (fun tq _=>(intOf tq).toNat)
    case atStart=>exact⟨_,_,rfl,rfl,u,t⟩
    case round =>
     clear u t d;obtain⟨q,r,rfl,rfl,g,hr⟩:=hrel;have q0:=g.q0;have qb:=g.qb;have r0:=g.r0;by_cases c1:4294967296<=q
     ·have b:=g.big j (by omega) v3 c1 (by omega);obtain⟨Q,E⟩:∃ Q,q - 1=Q:=⟨_,rfl⟩
      obtain⟨R,H⟩:∃ R,r+n=R:=⟨_,rfl⟩
      rw[E,H] at b;have L:=b.q0
      have I:Q < q:=by omega
      have T:R < 8589934592:=by omega
      have W:=b.r0;by_cases c2:4294967296<=R
      ·have d:Hid (Dig Y V i Q):=b.lP x.out (by omega) v3 (by omega) j f m (by omega) c2;have N:=d.out.q1;obtain⟨Z,z1,z2,z3,B⟩:=dy d.out D;go_wp2;go_ret2;have c:=fp hi lo y Y U v i l V Q s (by omega) z.out.1 z.out.2 C.out d.out;exact⟨oy c.1 (by rw[<- c.2,<- B.out]),rfl⟩
      ·have J:Hid (fg Y n V i Q R):=b;clear b g;go_wp2;go_round
       case rel=>exact⟨Q,R,rfl,rfl,J.out,by omega⟩
       case measure=>simp[intOf];omega
     ·obtain⟨p,G⟩:∃ p,q * K=p:=⟨_,rfl⟩
      have p0:0<=p:=by rw[<- G];exact Int.mul_nonneg q0 f
      have p1:p < 18446744073709551616:=by
       have:=Int.mul_le_mul (show q<=4294967295 by omega) (show K<=4294967295 by omega) f (by decide);omega
      by_cases c3:4294967296 * r+i < p
      ·have b:=g.more x.out (by omega) (by omega) (by omega) (by rw[G];exact c3);obtain⟨Q,E⟩:∃ Q,q - 1=Q:=⟨_,rfl⟩
       obtain⟨R,H⟩:∃ R,r+n=R:=⟨_,rfl⟩
       rw[E,H] at b;have L:=b.q0
       have I:Q < q:=by omega
       have T:R < 8589934592:=by omega
       have W:=b.r0;by_cases c2:4294967296<=R
       ·have d:Hid (Dig Y V i Q):=b.lP x.out (by omega) v3 (by omega) j f m (by omega) c2;have N:=d.out.q1;obtain⟨Z,z1,z2,z3,B⟩:=dy d.out D;go_wp2;go_ret2;have c:=fp hi lo y Y U v i l V Q s (by omega) z.out.1 z.out.2 C.out d.out;exact⟨oy c.1 (by rw[<- c.2,<- B.out]),rfl⟩
       ·have J:Hid (fg Y n V i Q R):=b;clear b g;go_wp2;go_round
        case rel=>exact⟨Q,R,rfl,rfl,J.out,by omega⟩
        case measure=>simp[intOf];omega
      ·have d:Hid (Dig Y V i q):=g.dig x.out (by omega) v3 j (by rw[G];omega);have N:=d.out.q1;have L:=d.out.q0;clear g
       have F:∃ Q,Q=q:=⟨_,rfl⟩
       obtain⟨Q,rfl⟩:=F;obtain⟨Z,z1,z2,z3,B⟩:=dy d.out D;go_wp2;go_ret2;have c:=fp hi lo y Y U v i l V Q s (by omega) z.out.1 z.out.2 C.out d.out;exact⟨oy c.1 (by rw[<- c.2,<- B.out]),rfl⟩
   ·have J:Hid (fg Y n U v Q R):=b;clear b g;go_wp2;go_round
    case rel=>exact⟨Q,R,rfl,rfl,J.out,by omega⟩
    case measure=>simp[intOf];omega
  ·obtain⟨p,G⟩:∃ p,q * K=p:=⟨_,rfl⟩
   have p0:0<=p:=by rw[<- G];exact Int.mul_nonneg q0 f
   have p1:p < 18446744073709551616:=by
    have:=Int.mul_le_mul (show q<=4294967295 by omega) (show K<=4294967295 by omega) f (by decide);omega
   by_cases c3:4294967296 * r+v < p
   ·have b:=g.more x.out (by omega) (by omega) (by omega) (by rw[G];exact c3);obtain⟨Q,E⟩:∃ Q,q - 1=Q:=⟨_,rfl⟩
    obtain⟨R,H⟩:∃ R,r+n=R:=⟨_,rfl⟩
    rw[E,H] at b;have L:=b.q0
    have I:Q < q:=by omega
    have T:R < 8589934592:=by omega
    have W:=b.r0;by_cases c2:4294967296<=R
    ·have d:Hid (Dig Y U v Q):=b.lP x.out (by omega) u1 (by omega) M f m (by omega) c2;have N:=d.out.q1;obtain⟨V,v1,v2,v3,C⟩:=dy d.out D;obtain⟨d2,u,t⟩:=iI Y n K V i x.out f m P O v2 v3 D S j;obtain⟨l,o⟩:∃ l,l=Q:=⟨_,rfl⟩
     have QQ0:0<=l:=by omega
     have X:l < 4294967296:=by omega
     have C:Hid (V=U * 4294967296+v - l * Y):=by rw[o];exact C
     go_wp2_with fail;rw[<- o];clear v1 d2 o;go_loop [18,16] (fun tq tr=>∃ q r:Int,tq=.int .u64 q/\tr=.int .u64 r/\fg Y n V i q r/\r < 4294967296) (fun tq _=>(intOf tq).toNat)
     case atStart=>exact⟨_,_,rfl,rfl,u,t⟩
     case round =>
      clear u t d;obtain⟨q,r,rfl,rfl,g,hr⟩:=hrel;have q0:=g.q0;have qb:=g.qb;have r0:=g.r0;by_cases c1:4294967296<=q
      ·have b:=g.big j (by omega) v3 c1 (by omega);obtain⟨Q,E⟩:∃ Q,q - 1=Q:=⟨_,rfl⟩
       obtain⟨R,H⟩:∃ R,r+n=R:=⟨_,rfl⟩
       rw[E,H] at b;have L:=b.q0
       have I:Q < q:=by omega
       have T:R < 8589934592:=by omega
       have W:=b.r0;by_cases c2:4294967296<=R
       ·have d:Hid (Dig Y V i Q):=b.lP x.out (by omega) v3 (by omega) j f m (by omega) c2;have N:=d.out.q1;obtain⟨Z,z1,z2,z3,B⟩:=dy d.out D;go_wp2;go_ret2;have c:=fp hi lo y Y U v i l V Q s (by omega) z.out.1 z.out.2 C.out d.out;exact⟨oy c.1 (by rw[<- c.2,<- B.out]),rfl⟩
       ·have J:Hid (fg Y n V i Q R):=b;clear b g;go_wp2;go_round
        case rel=>exact⟨Q,R,rfl,rfl,J.out,by omega⟩
        case measure=>simp[intOf];omega
      ·obtain⟨p,G⟩:∃ p,q * K=p:=⟨_,rfl⟩
       have p0:0<=p:=by rw[<- G];exact Int.mul_nonneg q0 f
       have p1:p < 18446744073709551616:=by
        have:=Int.mul_le_mul (show q<=4294967295 by omega) (show K<=4294967295 by omega) f (by decide);omega
       by_cases c3:4294967296 * r+i < p
       ·have b:=g.more x.out (by omega) (by omega) (by omega) (by rw[G];exact c3);obtain⟨Q,E⟩:∃ Q,q - 1=Q:=⟨_,rfl⟩
        obtain⟨R,H⟩:∃ R,r+n=R:=⟨_,rfl⟩
        rw[E,H] at b;have L:=b.q0
        have I:Q < q:=by omega
        have T:R < 8589934592:=by omega
        have W:=b.r0;by_cases c2:4294967296<=R
        ·have d:Hid (Dig Y V i Q):=b.lP x.out (by omega) v3 (by omega) j f m (by omega) c2;have N:=d.out.q1;obtain⟨Z,z1,z2,z3,B⟩:=dy d.out D;go_wp2;go_ret2;have c:=fp hi lo y Y U v i l V Q s (by omega) z.out.1 z.out.2 C.out d.out;exact⟨oy c.1 (by rw[<- c.2,<- B.out]),rfl⟩
        ·have J:Hid (fg Y n V i Q R):=b;clear b g;go_wp2;go_round
         case rel=>exact⟨Q,R,rfl,rfl,J.out,by omega⟩
         case measure=>simp[intOf];omega
       ·have d:Hid (Dig Y V i q):=g.dig x.out (by omega) v3 j (by rw[G];omega);have N:=d.out.q1;have L:=d.out.q0;clear g
        have F:∃ Q,Q=q:=⟨_,rfl⟩
        obtain⟨Q,rfl⟩:=F;obtain⟨Z,z1,z2,z3,B⟩:=dy d.out D;go_wp2;go_ret2;have c:=fp hi lo y Y U v i l V Q s (by omega) z.out.1 z.out.2 C.out d.out;exact⟨oy c.1 (by rw[<- c.2,<- B.out]),rfl⟩
    ·have J:Hid (fg Y n U v Q R):=b;clear b g;go_wp2;go_round
     case rel=>exact⟨Q,R,rfl,rfl,J.out,by omega⟩
     case measure=>simp[intOf];omega
   ·have d:Hid (Dig Y U v q):=g.dig x.out (by omega) u1 M (by rw[G];omega);have N:=d.out.q1;have L:=d.out.q0;clear g
    have F:∃ Q,Q=q:=⟨_,rfl⟩
    obtain⟨Q,rfl⟩:=F;obtain⟨V,v1,v2,v3,C⟩:=dy d.out D;obtain⟨d2,u,t⟩:=iI Y n K V i x.out f m P O v2 v3 D S j;obtain⟨l,o⟩:∃ l,l=Q:=⟨_,rfl⟩
    have QQ0:0<=l:=by omega
    have X:l < 4294967296:=by omega
    have C:Hid (V=U * 4294967296+v - l * Y):=by rw[o];exact C
    go_wp2_with fail;rw[<- o];clear v1 d2 o;go_loop [18,16] (fun tq tr=>∃ q r:Int,tq=.int .u64 q/\tr=.int .u64 r/\fg Y n V i q r/\r < 4294967296) (fun tq _=>(intOf tq).toNat)
    case atStart=>exact⟨_,_,rfl,rfl,u,t⟩
    case round =>
     clear u t d;obtain⟨q,r,rfl,rfl,g,hr⟩:=hrel;have q0:=g.q0;have qb:=g.qb;have r0:=g.r0;by_cases c1:4294967296<=q
     ·have b:=g.big j (by omega) v3 c1 (by omega);obtain⟨Q,E⟩:∃ Q,q - 1=Q:=⟨_,rfl⟩
      obtain⟨R,H⟩:∃ R,r+n=R:=⟨_,rfl⟩
      rw[E,H] at b;have L:=b.q0
      have I:Q < q:=by omega
      have T:R < 8589934592:=by omega
      have W:=b.r0;by_cases c2:4294967296<=R
      ·have d:Hid (Dig Y V i Q):=b.lP x.out (by omega) v3 (by omega) j f m (by omega) c2;have N:=d.out.q1;obtain⟨Z,z1,z2,z3,B⟩:=dy d.out D;go_wp2;go_ret2;have c:=fp hi lo y Y U v i l V Q s (by omega) z.out.1 z.out.2 C.out d.out;exact⟨oy c.1 (by rw[<- c.2,<- B.out]),rfl⟩
      ·have J:Hid (fg Y n V i Q R):=b;clear b g;go_wp2;go_round
       case rel=>exact⟨Q,R,rfl,rfl,J.out,by omega⟩
       case measure=>simp[intOf];omega
     ·obtain⟨p,G⟩:∃ p,q * K=p:=⟨_,rfl⟩
      have p0:0<=p:=by rw[<- G];exact Int.mul_nonneg q0 f
      have p1:p < 18446744073709551616:=by
       have:=Int.mul_le_mul (show q<=4294967295 by omega) (show K<=4294967295 by omega) f (by decide);omega
      by_cases c3:4294967296 * r+i < p
      ·have b:=g.more x.out (by omega) (by omega) (by omega) (by rw[G];exact c3);obtain⟨Q,E⟩:∃ Q,q - 1=Q:=⟨_,rfl⟩
       obtain⟨R,H⟩:∃ R,r+n=R:=⟨_,rfl⟩
       rw[E,H] at b;have L:=b.q0
       have I:Q < q:=by omega
       have T:R < 8589934592:=by omega
       have W:=b.r0;by_cases c2:4294967296<=R
       ·have d:Hid (Dig Y V i Q):=b.lP x.out (by omega) v3 (by omega) j f m (by omega) c2;have N:=d.out.q1;obtain⟨Z,z1,z2,z3,B⟩:=dy d.out D;go_wp2;go_ret2;have c:=fp hi lo y Y U v i l V Q s (by omega) z.out.1 z.out.2 C.out d.out;exact⟨oy c.1 (by rw[<- c.2,<- B.out]),rfl⟩
       ·have J:Hid (fg Y n V i Q R):=b;clear b g;go_wp2;go_round
        case rel=>exact⟨Q,R,rfl,rfl,J.out,by omega⟩
        case measure=>simp[intOf];omega
      ·have d:Hid (Dig Y V i q):=g.dig x.out (by omega) v3 j (by rw[G];omega);have N:=d.out.q1;have L:=d.out.q0;clear g
       have F:∃ Q,Q=q:=⟨_,rfl⟩
       obtain⟨Q,rfl⟩:=F;obtain⟨Z,z1,z2,z3,B⟩:=dy d.out D;go_wp2;go_ret2;have c:=fp hi lo y Y U v i l V Q s (by omega) z.out.1 z.out.2 C.out d.out;exact⟨oy c.1 (by rw[<- c.2,<- B.out]),rfl⟩
theorem mC(lo y:Int)(w:World)(hy:0 < y)(c:0<=lo)(l1:lo < 18446744073709551616)(y1:y < 18446744073709551616) :
  Calls Tryz.prog 161 #[.int .u64 0,.int .u64 lo,.int .u64 y] w fun e w'=>e=.returned (.tuple #[.int .u64 (lo / y),.int .u64 (lo % y)])/\∃ n,w'=w.drewN n:=by
 have b:(y == 0)=false:=beq_eq_false_iff_ne.2 (by omega);go_enter Tryz.func161,Tryz.ntmps161;go_wp2_with fail;go_quiet (fail);go_wp2;go_ret2;exact⟨rfl,_,rfl⟩
theorem div64(hi lo y:Int)(w:World)(f:0<=hi)(b:hi < y)(a:0<=lo)(l1:lo < 18446744073709551616)(y1:y < 18446744073709551616) :
  Calls Tryz.prog 161 #[.int .u64 hi,.int .u64 lo,.int .u64 y] w fun e w'=>∃ q r:Int,e=.returned (.tuple #[.int .u64 q,.int .u64 r])/\0<=q/\q < 18446744073709551616/\0<=r/\r < y/\Hid (q * y+r=hi * 18446744073709551616+lo)/\∃ n,w'=w.drewN n:=by
 have fin:∀ N:Int,0<=N->N < y * 18446744073709551616->0<=N / y/\N / y < 18446744073709551616/\0<=N % y/\N % y < y/\Hid (N / y * y+N % y=N):=by
  intro N n0 d;refine⟨Int.ediv_nonneg n0 (by omega),(Int.ediv_lt_iff_lt_mul (by omega)).2 (by rw[Int.mul_comm];exact d),Int.emod_nonneg _ (by omega),Int.emod_lt_of_pos _ (by omega),?_⟩
  show _=_
  rw[Int.mul_comm];exact Int.mul_ediv_add_emod N y
 by_cases c:hi=0
 ·subst c;refine(mC lo y w (by omega) a l1 y1).mono ?_
  rintro e w' ⟨rfl,hw⟩;obtain⟨f1,f2,f3,f4,f5⟩:=fin lo a (by omega);exact⟨_,_,rfl,f1,f2,f3,f4,by simpa using f5,hw⟩
 ·refine(oV hi lo y w (by omega) b a l1 y1).mono ?_
  rintro e w' ⟨rfl,rfl⟩;obtain⟨f1,f2,f3,f4,f5⟩:=fin (hi * 18446744073709551616+lo) (by omega) (by omega);exact⟨_,_,rfl,f1,f2,f3,f4,f5,0,rfl⟩
end
end
section
open Go.RowKit Lim
section
variable {l:List Int}{h:Nat}
theorem et(hl:h < l.length):val (l.drop h)=nth l h+18446744073709551616 * val (l.drop (h+1)):=by
 rw[List.drop_eq_getElem_cons hl,val,b8 hl]
structure jU(lz:List Int)(d:Int)(h:Nat)(lz1:List Int)(left:Int):Prop where
 len:lz1.length=lz.length
 words:Words lz1
 low:∀ i,i < h->nth lz1 i=nth lz i
 val:Lim.val (lz1.drop h) * d+left=Lim.val (lz.drop h)
theorem jU.step{lz lz1:List Int}{d left q r:Int}(hv:jU lz d (h+1) lz1 left)(b:h < lz.length)(q0:0<=q)(q1:q < 18446744073709551616)(e:q * d+r=left * 18446744073709551616+nth lz h):jU lz d h (lz1.set h q) r:=by
 have a:=hv.len;refine⟨by simp[a],hv.words.set h q0 q1,fun i hi=>by rw[dH (by omega),if_neg (by omega)];exact hv.low i (by omega),?_⟩;rw[et (by simp;omega),dH (by omega),if_pos rfl,List.drop_set,if_pos (by omega),et b,<- hv.val];grind
theorem hH(s:Option Addr)(j l b G:Nat)(d:Int)(lz:List Int)(w:World)(p:lz.length=b)(F:b<=2199023255552)(m:b<=G)(d0:0 < d)(d1:d < 18446744073709551616)(A:Words lz)(y:At w s j l lz)(t:dI w j l b) :
  Calls Tryz.prog 102 #[.slice s b G,.int .u64 d] w fun e w'=>∃ (left:Int) (lz':List Int),e=.returned (.int .u64 left)/\0<=left/\left < d/\lz'.length=b/\Words lz'/\At w' s j l lz'/\Wr j l b w w'/\val lz' * d+left=val lz:=by
 go_enter Tryz.func102,Tryz.ntmps102;go_wp2;go_loopw [5,10] (fun tc z wr=>∃ (k:Nat) (c:Int) (f:List Int),k<=b/\z=.int .i64 k/\tc=.int .u64 c/\0<=c/\c < d/\jU lz d (b - k) f c/\At wr s j l f/\Wr j l b w wr) (fun _ z _=>b - (intOf z).toNat)
 case atStart=>exact⟨0,0,lz,Nat.zero_le _,rfl,rfl,by decide,d0,⟨rfl,A,fun _ _=>rfl,by simp[<- p,val]⟩,y,Wr.refl _ _ _ _⟩
 case round =>
  obtain⟨k,c,f,O,rfl,rfl,o,n,hinv,g,i⟩:=hrel;have D:=hinv.len;by_cases N:k < b
  ·rcases y.loc with e | rfl
   ·subst e;simp at p;omega
   obtain⟨h,H⟩:∃ h:Nat,b=h+1+k:=⟨b - 1 - k,by omega⟩
   have m:=g.cell h (by omega);have J:=i.free t h (by omega);have C:=A.nth h;rw[hinv.low h (by omega)] at m
   have I:(b:Int) - 1 - k=h:=by omega
   have L:(h:Int) < b:=by omega
   obtain⟨u,x⟩:=C
   have K:Hid (jU lz d (h+1) f c):=by rw[show h+1=b - k from by omega];exact hinv
   have M:Hid (b=h+1+k):=H;clear H hinv y A;go_wp2_with (go_at_call 161;refine(div64 _ _ _ _ o n u x d1).mono ?_;rintro e w' ⟨q,r,rfl,q0,q1,r0,r1,B,E,rfl⟩);have hn:=M.out;refine⟨⟨k+1,r,f.set h q,by omega,by go_num,rfl,r0,r1,by rw[show b - (k+1)=h from by omega];exact K.out.step (by omega) q0 q1 B.out,?_,?_⟩,by simp[intOf];omega⟩
   ·exact(g.setCell (by omega) q).drewN E
   ·exact(i.setCell (by omega) (by omega) _).drewN E
  ·have v:k=b:=by omega
   subst v;go_wp2;go_ret;refine⟨c,f,rfl,o,n,by omega,hinv.words,g,i,?_⟩;have:=hinv.val;rwa [Nat.sub_self,List.drop_zero,List.drop_zero] at this
end
end
section
open Go.RowKit Lim
theorem dK.of {w w':World} {l:List Int} {ao:Option Addr} {n c b o:Nat} (hn:n=l.length) (a:n<=c) (d:w.heap.size<=b) (f:At w' ao b o l) (e:dI w' b o n):dK w w' (.slice ao n c) l:=by
 subst hn;exact⟨ao,b,o,c,rfl,a,d,f,e⟩
theorem jO (ao:Option Addr) (n c b o:Nat) (l:List Int) (w:World) (r:l.length=n) (hc:n<=c) (p:n<=1099511627776) (q:At w ao b o l) :
  Calls Tryz.prog 101 #[.slice ao n c] w fun e w'=>e=.returned (.slice (some ⟨w.heap.size,0,none⟩) (aI l) (aI l))/\Row w' w.heap.size (norm l)/\Below w.heap.size w w':=by
 have hn:=bI l;have t1:=bH ao n c l w r hc (by omega) q.cells;have hs:=q.sub (aI l);have i:=aL l;rw[show l.take (aI l)=norm l from rfl] at hs;generalize aI l=N at *;generalize norm l=L at *;go_enter Tryz.func101,Tryz.ntmps101;go_wp2_with fail;refine t1.mono ?_
 rintro e v ⟨rfl,rfl⟩;clear t1
 go_wp2_with (first
  | (at_make;refine di rfl _ _ rfl N _ _ rfl rfl rfl rfl (by omega) ?_;intro u g d s;have m:=hs.keep d)
  | (refine gT rfl (.tmp 10) (.tmp 11) rfl _ _ _ _ _ _ rfl rfl _ _ g (by simp) _ _ i (Nat.le_refl _) m ?_;intro t f j))
 go_ret;refine⟨rfl,?_,?_⟩
 ·simpa using f
 ·exact d.trans (j.below (Nat.le_refl _))
end
section
open Go.RowKit Lim
section
variable {lz lb lz1:List Int}{m c:Int}{k:Nat}
theorem zZ(z x m c hi lo:Int)(d:0<=z/\z < 18446744073709551616)(hc:0<=c/\c < 18446744073709551616)(a:0<=hi)(e:hi<=18446744073709551614)(g:0<=lo)(f:lo < 18446744073709551616)(b:hi * 18446744073709551616+lo=x * m)(hb:x * m<=340282366920938463426481119284349108225) :
  0<=hi+(lo+c) / 18446744073709551616/\hi+(lo+c) / 18446744073709551616<=18446744073709551615 /\
  0<=hi+(lo+c) / 18446744073709551616+(z+(lo+c) % 18446744073709551616) / 18446744073709551616 /\
  hi+(lo+c) / 18446744073709551616+(z+(lo+c) % 18446744073709551616) / 18446744073709551616<=18446744073709551615 /\
  (z+(lo+c) % 18446744073709551616) % 18446744073709551616+18446744073709551616 * (hi+(lo+c) / 18446744073709551616+(z+(lo+c) % 18446744073709551616) / 18446744073709551616)=z+x * m+c:=by
 omega
def dq(lz lb:List Int)(m:Int)(k:Nat)(lz1:List Int)(c:Int):Prop :=
 lz1.length=lz.length/\Words lz1/\(∀ i,k<=i->nth lz1 i=nth lz i)/\val (lz1.take k)+18446744073709551616 ^ k * c=val (lz.take k)+val (lb.take k) * m
theorem dq.step{a c':Int}(h:dq lz lb m k lz1 c)(g:k < lz.length)(b:0<=a)(d:a < 18446744073709551616)(e:a+18446744073709551616 * c'=nth lz k+nth lb k * m+c):dq lz lb m (k+1) (lz1.set k a) c':=by
 obtain⟨f,l,n,o⟩:=h;refine⟨by simp[f],l.set k b d,fun i hi=>?_,?_⟩
 ·rw[dH (by omega),if_neg (by omega)];exact n i (by omega)
 ·have hb:val (lb.take (k+1))=val (lb.take k)+18446744073709551616 ^ k * nth lb k:=by
   by_cases j:k < lb.length
   ·exact dB j
   ·rw[List.take_of_length_le (by omega),List.take_of_length_le (by omega),gl (by omega)];simp
  rw[dB (by simp[f];omega),dB g,hb,List.take_set_of_le (Nat.le_refl _),dH (by omega),if_pos rfl,Int.pow_succ];have:18446744073709551616 ^ k * (a+18446744073709551616 * c')=18446744073709551616 ^ k * (nth lz k+nth lb k * m+c):=by rw[e]
  grind
theorem dq.done{n:Nat}(hn:lz.length=n)(h:dq lz lb m k lz1 c)(hc:c=0\/lz.length=k)(q:lb.length<=k)(j:k<=n) :
  val lz1=(val lz+val lb * m) % 18446744073709551616 ^ n:=by
 obtain⟨d,g,p,b⟩:=h;rw[List.take_of_length_le (l:=lb) (by omega)] at b;have a:=dJ g;have f:=aO g;rw[d,hn] at a;rcases hc with e | e
 ·subst e
  have hd:lz1.drop k=lz.drop k:=me (by simp[d]) fun i hi=>by rw[dL,dL];exact p _ (by omega)
  have e1:=bL lz1 k (by omega);have e2:=bL lz k (by omega);rw[hd] at e1;have:val lz+val lb * m=val lz1:=by rw[e1,e2];simp only[Int.mul_zero,Int.add_zero] at b;omega
  rw[this];exact(Int.emod_eq_of_lt f a).symm
 ·have o:k=n:=by omega
  subst o;rw[List.take_of_length_le (l:=lz1) (by omega),List.take_of_length_le (l:=lz) (by omega)] at b;rw[<- b,Int.add_mul_emod_self_left];exact(Int.emod_eq_of_lt f a).symm
theorem eI(D:Option Addr)(n o i cz:Nat)(ab:Option Addr)(bb ob u Z:Nat)(m:Int)(lz lb:List Int)(w:World)(A:lz.length=i)(K:lb.length=u)(hle:u≤i)(aa:i≤2199023255552)(p:i≤cz)(X:u≤Z)(I:0≤m)(S:m < 18446744073709551616)(E:Words lz)(U:Words lb)(G:At w D n o lz)(q:dI w n o i)(hb:At w ab bb ob lb)(z:lb=[]∨bb≠n) :
    Calls Tryz.prog 71 #[.slice D i cz, .slice ab u Z, .int .u64 m] w fun e w' => e = .returned (.tuple #[]) ∧
      ∃ lz',lz'.length=i∧Words lz'∧At w' D n o lz'∧Wr n o i w w'∧val lz'=(val lz+val lb * m) % 18446744073709551616 ^ i:=by
  go_enter Tryz.func71,Tryz.ntmps71;go_wp2;go_loopw [6,14] (fun tc B wr=>∃ (k:Nat) (c:Int) (g:List Int),k≤u∧B=.int .i64 k∧tc=.int .u64 c∧0≤c∧c < 18446744073709551616∧dq lz lb m k g c∧At wr D n o g∧Wr n o i w wr) (fun _ B _=>u - (intOf B).toNat)
  case atStart=>exact⟨0,0,lz,Nat.zero_le _,rfl,rfl,by decide,by decide,⟨rfl,E,fun _ _=>rfl,by simp[val]⟩,G,Wr.refl _ _ _ _⟩
  case round =>
    obtain⟨k,c,g,hk,rfl,rfl,s,v,hinv,f,b⟩:= hrel;have y:=hinv.1;by_cases hlt:k < u
    · rcases hb.loc with e | rfl
      · subst e;simp at K;omega
      rcases G.loc with e | rfl
      · subst e;simp at A;omega
      have H:=hb.wr b z;have X:=H.cell k (by omega);have p:=f.cell k (by omega);have M:=b.free q k (by omega);have hx:=U.nth k;have x:=E.nth k;rw[hinv.2.2.1 k (Nat.le_refl _)] at p;obtain⟨T,Q⟩:= hx;obtain⟨r,F⟩:= x
      have C:Hid (dq lz lb m k g c):=hinv
      have P:Hid (At wr (some ⟨n,o,none⟩) n o g):=f
      have L:Hid (Wr n o i w wr):=b;clear hinv f b H G hb q E U z
      go_wp2_with (first
        | (go_at_call 118;refine(lY _ _ T Q I S _).mono ?_;rintro e w' ⟨hi,lo,rfl,h1,h2,h3,h4,h5,rfl⟩)
        | simp only[sl _ _ h3 s]
        | simp only[CI _ _ r])
      have V:nth lb k * m≤340282366920938463426481119284349108225:=by
        have:=Int.mul_le_mul (show nth lb k≤18446744073709551615 by omega) (show m≤18446744073709551615 by omega) I (by decide);simpa using this
      obtain⟨s1,s2,s3,s4,J⟩:= zZ (nth lz k) (nth lb k) m c hi lo ⟨r,F⟩ ⟨s,v⟩ h1 h2 h3 h4 h5 V;rw[Int.add_emod_emod] at J;rw[IntWalk.u64_in _ ⟨s3,s4⟩];refine⟨⟨k+1,_,_,by omega,by go_num,rfl,s3,by omega,C.out.step (by omega) (Int.emod_nonneg _ (by decide)) (Int.emod_lt_of_pos _ (by decide)) J,P.out.setCell (by omega) _,L.out.setCell (by omega) (by omega) _⟩,by simp[intOf];omega⟩
    · have N : k = u := by omega
      subst N
      have C:Hid (dq lz lb m k g c):=hinv;clear hinv;go_wp2;go_loopw [6,11] (fun tc B wr=>∃ (j:Nat) (c:Int) (g:List Int),k≤j∧j≤i∧B=.int .i64 j∧tc=.int .u64 c∧0≤c∧c < 18446744073709551616∧dq lz lb m j g c∧At wr D n o g∧Wr n o i w wr) (fun _ B _=>i - (intOf B).toNat)
      case atStart=>exact⟨k,c,g,Nat.le_refl _,by omega,rfl,rfl,s,v,C.out,f,b⟩
      case round =>
        clear f b C y s v;obtain⟨j,d,t,hkj,hj,rfl,rfl,O,hd1,hinv,f,b⟩:= hrel;have R:=hinv.1;by_cases Y:j < i
        · by_cases hd:d=0
          · subst hd
            go_wp2;go_end0;refine⟨rfl,t,by omega,hinv.2.1,f,b,?_⟩;exact dq.done (by omega) hinv (.inl rfl) (by omega) (by omega)
          · rcases G.loc with e | rfl
            · subst e;simp at A;omega
            have p:=f.cell j (by omega);have M:=b.free q j (by omega);have x:=E.nth j;rw[hinv.2.2.1 j (Nat.le_refl _)] at p;obtain⟨r,F⟩:= x
            have hdb:(d != 0)=true:=by rw[bne_iff_ne];exact hd
            have C:Hid (dq lz lb m j t d):=hinv
            have P:Hid (At wr (some ⟨n,o,none⟩) n o t):=f
            have L:Hid (Wr n o i w wr):=b;clear hinv f b G hb q E U z;go_wp2_with (simp only[sl _ _ r O])
            have J:(nth lz j+d) % 18446744073709551616+18446744073709551616 * ((nth lz j+d) / 18446744073709551616)=nth lz j+nth lb j * m+d:=by
              rw[gl (l:=lb) (by omega)];omega
            refine⟨⟨j+1,_,_,by omega,by omega,by go_num,rfl,by omega,by omega,C.out.step (by omega) (Int.emod_nonneg _ (by decide)) (Int.emod_lt_of_pos _ (by decide)) J,P.out.setCell (by omega) _,L.out.setCell (by omega) (by omega) _⟩,by simp[intOf];omega⟩
        · have W : j = i := by omega
          subst W;go_wp2;go_end0;refine⟨rfl,t,by omega,hinv.2.1,f,b,?_⟩;exact dq.done (by omega) hinv (.inr A) (by omega) (by omega)
end
end
section
open Go.RowKit Lim
section
variable {l:List Int}
theorem qp{n:Int}(h:IsN l n):0<=n/\n < 18446744073709551616 ^ l.length:=by
 rw[<- h.2.2];exact⟨aO h.1,dJ h.1⟩
theorem pow_pos(k:Nat):(0:Int) < 18446744073709551616 ^ k:=Int.pow_pos (by decide)
theorem wQ{L L' lz:List Int}{x y:Int}(hL:IsN L x)(a:IsN L' y)(hle:L'.length<=L.length)(hw:Words lz)(hv:val lz=(val (L ++ [0])+val L' * 1) % 18446744073709551616 ^ (L.length+1)):IsN (norm lz) (x+y):=by
 have b:=qp hL;have c:=qp a;have d:=iw hle;have f:=pow_pos L.length
 have e:val (L ++ [0])+val L' * 1=x+y:=by rw[ez,hL.2.2,a.2.2];simp[val]
 rw[e,Int.emod_eq_of_lt (by omega) (by rw[Int.pow_succ];omega)] at hv;rw[<- hv];exact cE hw
theorem eQ(n:Nat):Words (List.replicate n 0):=fun x hx=>by rw[List.eq_of_mem_replicate hx];decide
theorem CW(ao:Option Addr)(n c b o:Nat)(ao':Option Addr)(n' c' b' o':Nat)(l u:List Int)(w:World)(hl:l.length=n)(W:u.length=n')(hc:n<=c)(Y:n'<=c')(ae:n<=1099511627776)(ab:n'<=1099511627776)(wl:Words l)(ac:Words u)(X:At w ao b o l)(M:At w ao' b' o' u) :
  Calls Tryz.prog 34 #[.slice ao n c,.slice ao' n' c'] w fun e w'=>∃ v r,e=.returned v/\dK w w' v r/\IsN r (val l+val u)/\r.length<=n+n' + 1/\Below w.heap.size w w':=by
 have hn:=bI l
 have hn':=bI u;have t1:=bH ao n c l w hl hc (by omega) X.cells;have t2:=bH ao' n' c' u w W Y (by omega) M.cells;have hs:=X.sub (aI l)
 have D:=M.sub (aI u);have F:=aL l
 have t:=aL u;have T:=cE wl
 have E:=cE ac;rw[show l.take (aI l)=norm l from rfl] at hs;rw[show u.take (aI u)=norm u from rfl] at D;generalize aI l=N at *;generalize aI u=P at *;generalize norm l=L at *;generalize norm u=S at *;clear X M;go_enter Tryz.func34,Tryz.ntmps34;go_wp2_with fail;refine t1.mono ?_
 rintro e w1 ⟨rfl,rfl⟩;go_wp2_with fail;refine t2.mono ?_
 rintro e G ⟨rfl,rfl⟩;clear t1 t2;by_cases hlt:N < P
 ·have B:L=[]\/b≠G.heap.size:=by
   rcases hs.lt with e | e
   ·exact .inl e
   ·exact .inr (by omega)
  go_wp2_with (first
   | (at_make;refine di rfl _ _ rfl (P+1) _ _ rfl rfl (by omega) (by omega) (by omega) ?_;intro w3 s d ad;have z:=D.keep d;have C:=hs.keep d)
   | (refine gT rfl (.tmp 23) (.tmp 24) rfl _ _ _ _ _ _ rfl rfl _ _ s (by simp) _ _ t (by omega) z ?_;intro Q g f))
  have q:Row Q G.heap.size (S ++ [0]):=by
   have:=g;rw[List.drop_replicate,show P+1 - P=1 from by omega] at this;simpa using this
  have A:=C.wr f B;refine(eI _ G.heap.size 0 _ _ _ b o _ _ 1 (S ++ [0]) L Q (by simp[t]) F (by omega) (by omega) (Nat.le_refl _) (Nat.le_refl _) (by decide) (by decide) (E.1.append (eQ 1)) T.1 q.at (q.free _ _) A B).mono ?_
  rintro e V ⟨rfl,p,J,H,j,m,y⟩
  have U:IsN (norm p) (_+_):=wQ E T (by omega) H (by rw[y,t]);have I:=m.free (q.free 0 (P+1));have aa:=bI p;have O:=aL p;have x:=j.sub (aI p);have Z:=(d.trans (f.below (Nat.le_refl _))).trans (m.below (Nat.le_refl _));rw[show p.take (aI p)=norm p from rfl] at x;have t3:=bH (some ⟨G.heap.size,0,none⟩) (P+1) (P+1) p V J (Nat.le_refl _) (by omega) j.cells;clear q A C z s g f m d j y;generalize aI p=K at *;generalize norm p=R at *;go_wp2_with fail;refine t3.mono ?_
  rintro e w6 ⟨rfl,rfl⟩;go_wp2;go_ret;exact⟨_,R,rfl,dK.of O.symm (Nat.le_refl _) (Nat.le_refl _) x (fun i hi=>I i (by omega)),by rw[Int.add_comm];exact U,by omega,Z⟩
 ·have B:S=[]\/b'≠G.heap.size:=by
   rcases D.lt with e | e
   ·exact .inl e
   ·exact .inr (by omega)
  go_wp2_with (first
   | (at_make;refine di rfl _ _ rfl (N+1) _ _ rfl rfl (by omega) (by omega) (by omega) ?_;intro w3 s d ad;have z:=hs.keep d;have C:=D.keep d)
   | (refine gT rfl (.tmp 23) (.tmp 24) rfl _ _ _ _ _ _ rfl rfl _ _ s (by simp) _ _ F (by omega) z ?_;intro Q g f))
  have q:Row Q G.heap.size (L ++ [0]):=by
   have:=g;rw[List.drop_replicate,show N+1 - N=1 from by omega] at this;simpa using this
  have A:=C.wr f B;refine(eI _ G.heap.size 0 _ _ _ b' o' _ _ 1 (L ++ [0]) S Q (by simp[F]) t (by omega) (by omega) (Nat.le_refl _) (Nat.le_refl _) (by decide) (by decide) (T.1.append (eQ 1)) E.1 q.at (q.free _ _) A B).mono ?_
  rintro e V ⟨rfl,p,J,H,j,m,y⟩
  have U:IsN (norm p) (_+_):=wQ T E (by omega) H (by rw[y,F]);have I:=m.free (q.free 0 (N+1));have aa:=bI p;have O:=aL p;have x:=j.sub (aI p);have Z:=(d.trans (f.below (Nat.le_refl _))).trans (m.below (Nat.le_refl _));rw[show p.take (aI p)=norm p from rfl] at x;have t3:=bH (some ⟨G.heap.size,0,none⟩) (N+1) (N+1) p V J (Nat.le_refl _) (by omega) j.cells;clear q A C z s g f m d j y;generalize aI p=K at *;generalize norm p=R at *;go_wp2_with fail;refine t3.mono ?_
  rintro e w6 ⟨rfl,rfl⟩;go_wp2;go_ret;exact⟨_,R,rfl,dK.of O.symm (Nat.le_refl _) (Nat.le_refl _) x (fun i hi=>I i (by omega)),U,by omega,Z⟩
end
end
section
open Go.RowKit Lim
theorem Av (x y:Int):0<=bor x y/\bor x y<=1:=by unfold bor;split<;>decide
theorem vO (x y:Int) (hx:0<=x/\x < 18446744073709551616) (hy:0<=y/\y < 18446744073709551616):(x - y) % 18446744073709551616=x - y+18446744073709551616 * bor x y:=by
 unfold bor;split<;>omega
theorem DG (x y:Int) (hx:0<=x) (a:x < 18446744073709551616) (w:World):(callFunc 163 #[.int .u64 x,.int .u64 (y % 18446744073709551616),.int .u64 0]).run Tryz.prog w =
  .ok (.value (.tuple #[.int .u64 ((x - y % 18446744073709551616) % 18446744073709551616),.int .u64 (bor x (y % 18446744073709551616))])) w :=
 Fb x _ hx a (Int.emod_nonneg _ (by decide)) (Int.emod_lt_of_pos _ (by decide)) w
theorem yx (z x m c hi lo:Int) (a:0<=z/\z < 18446744073709551616) (hc:0<=c/\c < 18446744073709551616) (b:0<=hi) (e:hi<=18446744073709551614) (g:0<=lo) (f:lo < 18446744073709551616) (d:hi * 18446744073709551616+lo=x * m)
  (hb:x * m<=340282366920938463426481119284349108225) :
  0<=hi+(lo+c) / 18446744073709551616/\hi+(lo+c) / 18446744073709551616<=18446744073709551615 /\
  0<=hi+(lo+c) / 18446744073709551616+bor z ((lo+c) % 18446744073709551616) /\
  hi+(lo+c) / 18446744073709551616+bor z ((lo+c) % 18446744073709551616)<=18446744073709551615 /\
  (z - (lo+c) % 18446744073709551616) % 18446744073709551616+18446744073709551616 * (-(hi+(lo+c) / 18446744073709551616+bor z ((lo+c) % 18446744073709551616)))=z+x * -m + -c:=by
 rw[vO z _ a ⟨by omega,by omega⟩,show x * -m=-(x * m) from Int.mul_neg x m];have:=Av z ((lo+c) % 18446744073709551616);unfold bor at *;split<;>omega
theorem dq.gq {lz lb lz1:List Int} {m c:Int} {k n:Nat} (hn:lz.length=n) (h:dq lz lb m k lz1 c) (hc:c=0\/lz.length=k) (j:lb.length<=k) (d:k<=n) :
  val lz1+18446744073709551616 ^ n * c=val lz+val lb * m:=by
 obtain⟨b,o,g,a⟩:=h;rw[List.take_of_length_le (l:=lb) (by omega)] at a;rcases hc with e | e
 ·subst e
  have hd:lz1.drop k=lz.drop k:=me (by simp[b]) fun i hi=>by rw[dL,dL];exact g _ (by omega)
  have e1:=bL lz1 k (by omega);have e2:=bL lz k (by omega);rw[hd] at e1;simp only[Int.mul_zero,Int.add_zero] at a ⊢;rw[e1,e2];omega
 ·have f:k=n:=by omega
  subst f;rw[List.take_of_length_le (l:=lz1) (by omega),List.take_of_length_le (l:=lz) (by omega)] at a;exact a
theorem jg (B:Option Addr) (n p g cz:Nat) (ab:Option Addr) (bb ob z cb:Nat) (m:Int) (lz lb:List Int) (w:World)
    (v:lz.length=g) (Q:lb.length=z) (hle:z≤g) (hbig:g≤2199023255552) (s:g≤cz) (hcb:z≤cb) (M:0≤m) (X:m < 18446744073709551616)
    (J:Words lz) (Z:Words lb) (K:At w B n p lz) (x:dI w n p g) (hb:At w ab bb ob lb) (E:lb=[]∨bb≠n) :
    Calls Tryz.prog 108 #[.slice B g cz, .slice ab z cb, .int .u64 m] w fun e w' => ∃ gq : Int, e = .returned (.int .u64 gq) ∧ 0 ≤ gq ∧ gq < 18446744073709551616 ∧
      ∃ lz',lz'.length=g∧Words lz'∧At w' B n p lz'∧Wr n p g w w'∧val lz'=val lz - val lb * m+18446744073709551616 ^ g * gq:=by
  have fin:∀ (j:Nat) (d:Int) (o:List Int) (wr:World),z≤j→j≤g→0≤d→d < 18446744073709551616→dq lz lb (-m) j o (-d)→At wr B n p o→Wr n p g w wr→(d=0∨g=j) →
      ∃ gq:Int,Ending.returned (.int .u64 d)=.returned (.int .u64 gq)∧0≤gq∧gq < 18446744073709551616 ∧
      ∃ lz',lz'.length=g∧Words lz'∧At wr B n p lz'∧Wr n p g w wr∧val lz'=val lz - val lb * m+18446744073709551616 ^ g * gq:=by
    intro j d o wr h1 h2 P h4 I h6 h7 h8;refine⟨d,rfl,P,h4,o,by rw[I.1,v],I.2.1,h6,h7,?_⟩
    have := I.gq v (by rcases h8 with e | e
                       · left;omega
                       · right;omega) (by omega) h2
    rw[Int.mul_neg,Int.mul_neg] at this;omega
  have N:=(show Hid _ from fin);clear fin;go_enter Tryz.func108,Tryz.ntmps108;go_wp2;go_loopw [7,15] (fun tc F wr=>∃ (k:Nat) (c:Int) (i:List Int),k≤z∧F=.int .i64 k∧tc=.int .u64 c∧0≤c∧c < 18446744073709551616∧dq lz lb (-m) k i (-c)∧At wr B n p i∧Wr n p g w wr) (fun _ F _=>z - (intOf F).toNat)
  case atStart=>exact⟨0,0,lz,Nat.zero_le _,rfl,rfl,by decide,by decide,⟨rfl,J,fun _ _=>rfl,by simp[val]⟩,K,Wr.refl _ _ _ _⟩
  case round =>
    obtain⟨k,c,i,hk,rfl,rfl,y,A,hinv,f,b⟩:= hrel;have D:=hinv.1;by_cases hlt:k < z
    · rcases hb.loc with e | rfl
      · subst e;simp at Q;omega
      rcases K.loc with e | rfl
      · subst e;simp at v;omega
      have L:=hb.wr b E;have hcb:=L.cell k (by omega);have s:=f.cell k (by omega);have S:=b.free x k (by omega);have hx:=Z.nth k;have C:=J.nth k;rw[hinv.2.2.1 k (Nat.le_refl _)] at s;obtain⟨Y,V⟩:= hx;obtain⟨q,r⟩:= C
      have G:Hid (dq lz lb (-m) k i (-c)):=hinv
      have U:Hid (At wr (some ⟨n,p,none⟩) n p i):=f
      have R:Hid (Wr n p g w wr):=b;clear hinv f b L K hb x J Z E
      go_wp2_with (first
        | (go_at_call 118;refine(lY _ _ Y V M X _).mono ?_;rintro e w' ⟨hi,lo,rfl,h1,h2,P,h4,I,rfl⟩)
        | simp only[sl _ _ P y]
        | simp only[DG _ _ q r])
      have hxm:nth lb k * m≤340282366920938463426481119284349108225:=by
        have:=Int.mul_le_mul (show nth lb k≤18446744073709551615 by omega) (show m≤18446744073709551615 by omega) M (by decide);simpa using this
      obtain⟨s1,s2,s3,s4,O⟩:= yx (nth lz k) (nth lb k) m c hi lo ⟨q,r⟩ ⟨y,A⟩ h1 h2 P h4 I hxm;rw[Int.sub_emod_emod] at O;rw[IntWalk.u64_in _ ⟨s3,s4⟩];refine⟨⟨k+1,_,_,by omega,by go_num,rfl,s3,by omega,G.out.step (by omega) (Int.emod_nonneg _ (by decide)) (Int.emod_lt_of_pos _ (by decide)) O,U.out.setCell (by omega) _,R.out.setCell (by omega) (by omega) _⟩,by simp[intOf];omega⟩
    · have T : k = z := by omega
      subst T
      have G:Hid (dq lz lb (-m) k i (-c)):=hinv;clear hinv;go_wp2;go_loopw [7,12] (fun tc F wr=>∃ (j:Nat) (c:Int) (i:List Int),k≤j∧j≤g∧F=.int .i64 j∧tc=.int .u64 c∧0≤c∧c < 18446744073709551616∧dq lz lb (-m) j i (-c)∧At wr B n p i∧Wr n p g w wr) (fun _ F _=>g - (intOf F).toNat)
      case atStart=>exact⟨k,c,i,Nat.le_refl _,by omega,rfl,rfl,y,A,G.out,f,b⟩
      case round =>
        clear f b G D y A;obtain⟨j,d,o,H,hj,rfl,rfl,u,t,hinv,f,b⟩:= hrel;have W:=hinv.1;by_cases hlt2:j < g
        · by_cases hd:d=0
          · subst hd
            go_wp2;go_ret;exact N.out j 0 o _ H hj u t hinv f b (.inl rfl)
          · rcases K.loc with e | rfl
            · subst e;simp at v;omega
            have s:=f.cell j (by omega);have S:=b.free x j (by omega);have C:=J.nth j;rw[hinv.2.2.1 j (Nat.le_refl _)] at s;obtain⟨q,r⟩:= C
            have hdb:(d != 0)=true:=by rw[bne_iff_ne];exact hd
            have G:Hid (dq lz lb (-m) j o (-d)):=hinv
            have U:Hid (At wr (some ⟨n,p,none⟩) n p o):=f
            have R:Hid (Wr n p g w wr):=b;clear hinv f b K hb x J Z E;go_wp2_with (simp only[Fb _ _ q r u t]);have hbb:=Av (nth lz j) d
            have O:(nth lz j - d) % 18446744073709551616+18446744073709551616 * -bor (nth lz j) d=nth lz j+nth lb j * -m + -d:=by
              rw[gl (l:=lb) (by omega),vO _ _ ⟨q,r⟩ ⟨u,t⟩];omega
            refine⟨⟨j+1,_,_,by omega,by omega,by go_num,rfl,by omega,by omega,G.out.step (by omega) (Int.emod_nonneg _ (by decide)) (Int.emod_lt_of_pos _ (by decide)) O,U.out.setCell (by omega) _,R.out.setCell (by omega) (by omega) _⟩,by simp[intOf];omega⟩
        · have hjn : j = g := by omega
          subst hjn;go_wp2;go_ret;exact N.out j d o _ H hj u t hinv f b (.inr rfl)
end
section
open Go.RowKit Lim
theorem Dx {L L' lz:List Int} {x y gq:Int} (hL:IsN L x) (a:IsN L' y) (hle:y<=x) (hw:Words lz) (c:lz.length=L.length) (i:0<=gq)
  (hv:val lz=val L - val L' * 1+18446744073709551616 ^ L.length * gq):IsN (norm lz) (x - y):=by
 have f:=qp hL;have j:=qp a;have d:=dJ hw;have g:=aO hw;have e:=pow_pos L.length;rw[hL.2.2,a.2.2] at hv;rw[c] at d
 have b:gq=0:=by
  by_cases h:0 < gq
  ·have:18446744073709551616 ^ L.length * 1<=18446744073709551616 ^ L.length * gq:=Int.mul_le_mul_of_nonneg_left (by omega) (Int.le_of_lt e);omega
  ·omega
 subst b;have:x - y=val lz:=by rw[hv];simp
 rw[this];exact cE hw
theorem sub_lt (ao:Option Addr) (n c b o:Nat) (ao':Option Addr) (n' c' b' o':Nat) (l g:List Int) (w:World) (t:l.length=n) (m:g.length=n') (hc:n<=c) (p:n'<=c') (f:n<=1099511627776) (d:n'<=1099511627776)
  (wl:Words l) (j:Words g) (s:At w ao b o l) (r:At w ao' b' o' g) (i:val l < val g) :
  Calls Tryz.prog 63 #[.slice ao n c,.slice ao' n' c'] w fun e w'=>e=.returned (.tuple #[.slice none 0 0,.int .i64 10])/\Below w.heap.size w w':=by
 have t1:=jS ao n c b o ao' n' c' b' o' l g w t m hc p f d wl j s r;rw[ij i] at t1;go_enter Tryz.func63,Tryz.ntmps63;go_wp2_with fail;refine t1.mono ?_
 rintro e u ⟨rfl,q⟩;go_wp2_with fail;go_ret2;exact⟨rfl,q⟩
theorem sub_ge (ao:Option Addr) (n c b o:Nat) (ao':Option Addr) (n' c' b' o':Nat) (l d:List Int) (w:World) (Y:l.length=n) (F:d.length=n') (hc:n<=c) (H:n'<=c') (t:n<=1099511627776) (A:n'<=1099511627776)
  (wl:Words l) (B:Words d) (S:At w ao b o l) (z:At w ao' b' o' d) (V:val d<=val l) :
  Calls Tryz.prog 63 #[.slice ao n c,.slice ao' n' c'] w fun e w'=>∃ v r,e=.returned (.tuple #[v,.int .i64 0])/\dK w w' v r/\IsN r (val l - val d)/\r.length<=n/\Below w.heap.size w w':=by
 have t1:=jS ao n c b o ao' n' c' b' o' l d w Y F hc H t A wl B S z
 have hs0:0<=sgn (val l) (val d):=by unfold sgn;split<;>(try split)<;>omega
 have hle:aI d<=aI l:=by
  rcases Nat.lt_or_ge (aI l) (aI d) with h | h
  ·have:=dG wl B h;omega
  ·exact h
 generalize hsg:sgn (val l) (val d)=sg at *;clear hsg;go_enter Tryz.func63,Tryz.ntmps63;go_wp2_with fail;refine t1.mono ?_
 rintro e M ⟨rfl,m⟩;have G:=S.keep m
 have q:=z.keep m;clear t1;go_wp2_with fail;refine(jO ao n c b o l M Y hc t G).mono ?_
 rintro e w2 ⟨rfl,f,x⟩
 have j:=q.keep x
 have y:=j.sub (aI d)
 have W:norm d=[]\/b'≠M.heap.size:=by
  rcases(q.sub (aI d)).lt with e | e
  ·exact .inl e
  ·exact .inr (by omega)
 rw[show d.take (aI d)=norm d from rfl] at y;have t2:=bH ao' n' c' d w2 F H (by omega) j.cells;have hn:=bI l
 have hn':=bI d;have J:=aL l
 have D:=aL d;have Z:=cE wl
 have I:=cE B;clear S z G q j;generalize aI l=N at *;generalize aI d=N' at *;generalize norm l=L at *;generalize norm d=L' at *;go_wp2_with fail;refine t2.mono ?_
 rintro e w3 ⟨rfl,rfl⟩;clear t2;go_wp2_with fail;refine(jg _ M.heap.size 0 _ _ _ b' o' _ _ 1 L L' w3 J D hle (by omega) (Nat.le_refl _) (Nat.le_refl _) (by decide) (by decide) Z.1 I.1 f.at (f.free _ _) y W).mono ?_
 rintro e X ⟨gq,rfl,T,ho1,s,Q,O,p,u,E⟩
 have HF:IsN (norm s) (_ - _):=Dx Z I V O (by omega) T (by rw[E,J]);have P:=u.free (f.free 0 N);have hz1:=bI s;have U:=aL s;have C:=p.sub (aI s);have g:=m.size
 have HB:Below w.heap.size w X:=(m.trans (x.mono g)).trans (u.below g);rw[show s.take (aI s)=norm s from rfl] at C;have t3:=bH (some ⟨M.heap.size,0,none⟩) N N s X Q (Nat.le_refl _) (by omega) p.cells;clear y f u p E m x;generalize aI s=K at *;generalize norm s=R at *;go_wp2_with fail;refine t3.mono ?_
 rintro e w5 ⟨rfl,rfl⟩;go_wp2;go_ret2;exact⟨_,R,rfl,dK.of U.symm (Nat.le_refl _) g C (fun i hi=>P i (by omega)),HF,by omega,HB⟩
end
section
open Go.RowKit Lim
section
variable {w w1:World}{v:Value}{l:List Int}
theorem Row.built(w:World)(l:List Int):Row (w.alloc (.cells (l.map (Value.int .u64)).toArray 22)) w.heap.size l:=by
 show (w.heap.push _)[w.heap.size]?=_
 rw[Array.getElem?_push_size]
theorem Row.built1(w:World)(x:Int):Row (w.alloc (.cells #[.int .u64 x] 22)) w.heap.size [x]:=Row.built w [x]
theorem ae(w:World)(o:Obj):Below w.heap.size w (w.alloc o):=(Below.refl _ _).alloc (Nat.le_refl _) _
theorem yU(x:Int)(w:World)(m:0<=x)(j:x < 18446744073709551616) :
  Calls Tryz.prog 46 #[.int .u64 x] w fun e w'=>∃ v r,e=.returned v/\dK w w' v r/\IsN r x/\r.length<=1/\Below w.heap.size w w':=by
 have c:=Row.built1 w x;have hb:=ae w (.cells #[.int .u64 x] 22)
 have hw:Words [x]:=Words.cons m j Words.nil;have t1:=bH (some ⟨w.heap.size,0,none⟩) 1 1 [x] (w.alloc (.cells #[.int .u64 x] 22)) rfl (by decide) (by decide) c.at.cells;have g:=bI [x];have d:=aL [x];have b:=c.at.sub (aI [x])
 have l:IsN (norm [x]) x:=by have:=cE hw;rwa [eP] at this
 have f:=c.free 0 1;rw[show [x].take (aI [x])=norm [x] from rfl] at b;rw[List.length_singleton] at g;generalize aI [x]=K at *;generalize norm [x]=R at *;clear c;go_enter Tryz.func46,Tryz.ntmps46;go_wp2_with fail;refine t1.mono ?_
 rintro e n ⟨rfl,rfl⟩;go_wp2;go_ret;exact⟨_,R,rfl,dK.of d.symm (Nat.le_refl _) (Nat.le_refl _) b (fun i hi=>f i (by omega)),l,by omega,hb⟩
theorem div_zero(v:Value)(ao':Option Addr)(n' c' b' o':Nat)(b:List Int)(w:World)(f:b.length=n')(g:n'<=c')(c:n'<=1099511627776)(d:Words b)(i:At w ao' b' o' b)(j:val b=0) :
  Calls Tryz.prog 58 #[v,.slice ao' n' c'] w fun e w'=>e=.returned (.tuple #[.slice none 0 0,.slice none 0 0,.int .i64 11])/\w'=w:=by
 have t1:=bH ao' n' c' b w f g (by omega) i.cells;rw[(cA d).2 j] at t1;go_enter Tryz.func58,Tryz.ntmps58;go_wp2_with fail;refine t1.mono ?_
 rintro e l ⟨rfl,rfl⟩;go_wp2_with fail;go_ret3;exact⟨rfl,rfl⟩
def kh(w w':World)(e:Ending)(x y:Int)(n n':Nat):Prop :=
 ∃ v u r s,e=.returned (.tuple #[v,u,.int .i64 0])/\dK w w' v r/\dK w w' u s/\IsN r (x / y)/\IsN s (x % y)/\r.length<=n/\s.length<=n+n'/\Below w.heap.size w w'
theorem dK.nil(w w':World):dK w w' (.slice none 0 0) []:=⟨none,w.heap.size,0,0,rfl,Nat.le_refl _,Nat.le_refl _,⟨.inl rfl,fun i hi=>by simp at hi⟩,fun i hi=>by simp at hi⟩
theorem jM:IsN [] 0:=⟨Words.nil,rfl,rfl⟩
theorem dK.later{f:World}(h:dK w w1 v l)(hb:Below w1.heap.size w1 f):dK w f v l:=by
 obtain⟨k,b,o,c,e,g,j,d,m⟩:=h;refine⟨k,b,o,c,e,g,j,d.keep hb,fun i hi=>?_⟩;have a:=aK (d.cell i hi);rw[hb.frozen (p:=⟨b,o+i,none⟩) a];exact m i hi
theorem dK.mono{w0:World}(h:dK w w1 v l)(hb:w0.heap.size<=w.heap.size):dK w0 w1 v l:=by
 obtain⟨ao,b,o,c,e,h1,h2,h3,h4⟩:=h;exact⟨ao,b,o,c,e,h1,by omega,h3,h4⟩
theorem div_lt(ao:Option Addr)(n c b o:Nat)(ao':Option Addr)(n' c' b' o':Nat)(l d:List Int)(w:World)(A:l.length=n)(s:d.length=n')(hc:n<=c)(t:n'<=c')(f:n<=1099511627776)(u:n'<=1099511627776)(wl:Words l)(q:Words d)(z:At w ao b o l)(p:At w ao' b' o' d)(j:val l < val d) :
  Calls Tryz.prog 58 #[.slice ao n c,.slice ao' n' c'] w fun e w'=>kh w w' e (val l) (val d) n n':=by
 have y:=aO wl;have hn:=bI l
 have D:=bI d
 have E:aI d≠0:=fun e=>by have:=(cA q).1 e;omega
 have t1:=bH ao' n' c' d w s t (by omega) p.cells
 have m:=p.sub (aI d);rw[show d.take (aI d)=norm d from rfl] at m;have t2:=jS ao n c b o ao' (aI d) (aI d) b' o' l (norm d) w A (aL d) hc (Nat.le_refl _) f (by omega) wl q.norm z m;rw[dj,ij j] at t2;have C:=cE wl;have v:=aL l
 have B:((aI d:Int) == 0)=false:=beq_eq_false_iff_ne.2 (by omega);go_enter Tryz.func58,Tryz.ntmps58;go_wp2_with fail;refine t1.mono ?_
 rintro e G ⟨rfl,rfl⟩;go_wp2_with fail;refine t2.mono ?_
 rintro e F ⟨rfl,i⟩;go_wp2_with fail;refine(jO ao n c b o l F A hc f (z.keep i)).mono ?_
 rintro e H ⟨rfl,g,x⟩;clear t1 t2;go_wp2;go_ret3;have r:=i.size;exact⟨_,_,[],norm l,rfl,dK.nil _ _,dK.of v.symm (Nat.le_refl _) r g.at (g.free _ _),by rw[Int.ediv_eq_zero_of_lt y j];exact jM,by rw[Int.emod_eq_of_lt y j];exact C,by simp,by omega,i.trans (x.mono r)⟩
theorem div_one(ao:Option Addr)(n c b o:Nat)(ao':Option Addr)(n' c' b' o':Nat)(l f:List Int)(w:World)(hl:l.length=n)(T:f.length=n')(hc:n<=c)(V:n'<=c')(y:n<=1099511627776)(af:n'<=1099511627776)(wl:Words l)(E:Words f)(ha:At w ao b o l)(J:At w ao' b' o' f)(Y:val f<=val l)(h1:aI f=1) :
  Calls Tryz.prog 58 #[.slice ao n c,.slice ao' n' c'] w fun e w'=>kh w w' e (val l) (val f) n n':=by
 have h0:=aO wl;have hn:=bI l
 have hn':=bI f;have t1:=bH ao' n' c' f w T V (by omega) J.cells
 have p:=J.sub (aI f);rw[show f.take (aI f)=norm f from rfl] at p;have t2:=jS ao n c b o ao' (aI f) (aI f) b' o' l (norm f) w hl (aL f) hc (Nat.le_refl _) y (by omega) wl E.norm ha p;rw[dj] at t2
 have ad:0<=sgn (val l) (val f):=by unfold sgn;split<;>(try split)<;>omega
 have x:=aL f
 have B:=cE E;rw[h1] at t1 t2 x;generalize hN':norm f=L' at *;obtain⟨d,rfl⟩:=List.length_eq_one_iff.1 x
 have hd:val f=d:=by have:=B.2.2;rw[eP] at this;exact this.symm
 have ag:=B.1 d (by simp)
 have F:0 < d:=by
  have h2:=B.2.1;by_cases c:d=0
  ·subst c;simp[aI] at h2
  ·omega
 rw[hd] at Y t2 ⊢;rw[hd] at ad;generalize sgn (val l) d=sg at *;rcases p.loc with e | rfl
 ·simp at e
 go_enter Tryz.func58,Tryz.ntmps58;go_wp2_with fail;refine t1.mono ?_
 rintro e w1 ⟨rfl,rfl⟩;go_wp2_with fail;refine t2.mono ?_
 rintro e P ⟨rfl,m⟩;go_wp2_with fail;refine(jO ao n c b o l P hl hc y (ha.keep m)).mono ?_
 rintro e w3 ⟨rfl,g,v⟩;have C:=m.size;have hsz3:=v.size;have I:=((p.keep m).keep v).cell 0 (by simp);rw[cQ] at I;rw[Nat.add_zero] at I;have U:=wl.norm;have ab:=dj l;have X:=aL l;clear t1 t2;generalize aI l=N at *;generalize norm l=L at *;go_wp2_with fail;refine(hH (some ⟨P.heap.size,0,none⟩) P.heap.size 0 N N d L w3 X (by omega) (Nat.le_refl _) F ag.2 U g.at (g.free _ _)).mono ?_
 rintro e w4 ⟨left,j,rfl,M,aa,S,Q,z,t,H⟩;have Z:=t.free (g.free 0 N);have hz1:=bI j;have ae:=aL j;have D:=z.sub (aI j);have HF:=cE Q;have W:=t.size;have hlt3:=g.lt;rw[show j.take (aI j)=norm j from rfl] at D;have t3:=bH (some ⟨P.heap.size,0,none⟩) N N j w4 S (Nat.le_refl _) (by omega) z.cells
 have HB:Below w1.heap.size w1 w4:=(m.trans (v.mono C)).trans (t.below C)
 have ev:val j=val l / d/\left=val l % d:=by
  have hh:=Int.ediv_emod_unique (a:=val l) (b:=d) (r:=left) (q:=val j) F;have:=hh.2 ⟨by rw[<- ab,<- H,Int.mul_comm];omega,M,aa⟩;exact⟨this.1.symm,this.2.symm⟩
 rw[ev.1] at HF
 have A:Hid (left=val l % d):=ev.2;clear t g H m v p ev;generalize aI j=K at *;generalize norm j=R at *;go_wp2_with fail;refine t3.mono ?_
 rintro e w5 ⟨rfl,rfl⟩;go_wp2_with fail;refine(yU left w5 M (by omega)).mono ?_
 rintro e w6 ⟨u,s,rfl,G,ac,hsl,O⟩;go_wp2;go_ret3;refine⟨_,u,R,s,rfl,(dK.of ae.symm (Nat.le_refl _) C D (fun i hi=>Z i (by omega))).later O,G.mono (by omega),HF,by rw[<- A.out];exact ac,by omega,by omega,HB.trans (O.mono (by omega))⟩
end
end
section
open Go.RowKit Lim
section
variable {l:List Int}{S T v1:Int}
theorem gg(s:Nat)(hs:s<=63):(0:Int) < 2 ^ s/\(2:Int) ^ s < 18446744073709551616/\(2:Int) ^ s * 2 ^ (64 - s)=18446744073709551616/\(0:Int) < 2 ^ (64 - s):=by
 have a:(0:Int) < 2 ^ s:=Int.pow_pos (by decide)
 have b:(2:Nat) ^ s<=2 ^ 63:=Nat.pow_le_pow_right (by decide) hs
 have e:((2 ^ s:Nat):Int)=(2:Int) ^ s:=by rw[Int.natCast_pow];rfl
 have e2:(2:Nat) ^ 63=9223372036854775808:=by decide
 refine⟨a,by omega,?_,Int.pow_pos (by decide)⟩;rw[<- Int.pow_add,show s+(64 - s)=64 from by omega];rfl
theorem o4(ao:Option Addr)(n c b o s:Nat)(l:List Int)(w:World)(E:l.length=n)(hc:n<=c)(C:n<=1099511627776)(hs:s<=63)(wl:Words l)(D:At w ao b o l) :
  Calls Tryz.prog 103 #[.slice ao n c,.int .i64 s] w fun e w'=>∃ lz,e=.returned (.slice (some ⟨w.heap.size,0,none⟩) (n+1) (n+1))/\lz.length=n+1/\Words lz/\At w' (some ⟨w.heap.size,0,none⟩) w.heap.size 0 lz/\dI w' w.heap.size 0 (n+1)/\w.heap.size < w'.heap.size/\val lz=val l * 2 ^ s/\Below w.heap.size w w':=by
 obtain⟨p1,F,H,N⟩:=gg s hs
 have A:l=[]\/b≠w.heap.size:=by
  rcases D.lt with e | e
  ·exact .inl e
  ·exact .inr (by omega)
 have m:=aO wl;have t:=dJ wl
 have z:Hid (0<=val l * 2 ^ s/\val l * 2 ^ s < 18446744073709551616 ^ (n+1)):=by
  refine⟨Int.mul_nonneg m (Int.le_of_lt p1),?_⟩
  have O:val l * 2 ^ s<=val l * 18446744073709551616:=Int.mul_le_mul_of_nonneg_left (by omega) m;rw[E] at t;rw[Int.pow_succ];omega
 obtain⟨S,hS⟩:∃ S,(2:Int) ^ s=S:=⟨_,rfl⟩
 rw[hS] at p1 F z ⊢
 have I:IntKind.u64.wrap S=S:=IntWalk.u64_in _ ⟨by omega,by omega⟩;clear H N m t;go_enter Tryz.func103,Tryz.ntmps103;go_wp2_with (at_make;refine di rfl _ _ rfl (n+1) _ _ rfl rfl (by omega) (by omega) (by omega) ?_;intro K d g B);have y:=D.keep g;refine(eI _ w.heap.size 0 (n+1) (n+1) ao b o n c S (List.replicate (n+1) 0) l K (by simp) E (by omega) (by omega) (Nat.le_refl _) hc (by omega) F (eQ _) wl d.at (d.free _ _) y A).mono ?_
 rintro e M ⟨rfl,lz,x,u,r,f,j⟩;have v:=f.free (d.free 0 (n+1));have L:=d.lt;have q:=f.size;rw[fB (l:=List.replicate (n+1) 0) (fun i=>by simp[nth,List.getElem?_replicate];split<;>rfl),Int.zero_add,Int.emod_eq_of_lt z.out.1 z.out.2] at j;have G:=(show Hid _ from j)
 have J:=g.trans (f.below (Nat.le_refl _))
 have p:w.heap.size < M.heap.size:=by omega
 clear j q B d f g;go_wp2;go_ret;exact⟨lz,rfl,x,u,r,v,p,G.out,J⟩
structure nU(lz:List Int)(S:Int)(h:Nat)(lz1:List Int):Prop where
 len:lz1.length=lz.length
 words:Words lz1
 low:∀ i,i < h->nth lz1 i=nth lz i
 val:Lim.val (lz1.drop h)=Lim.val (lz.drop h) / S
theorem CD(S T:Int)(h:S * T=18446744073709551616)(k:Nat):val (l.drop k) % S=nth l k % S:=by
 by_cases a:k < l.length
 ·rw[et a,<- h,Int.mul_assoc,Int.add_mul_emod_self_left]
 ·rw[List.drop_of_length_le (by omega),gl (by omega)];rfl
theorem nU.step{lz lz1:List Int}{b:Int}{h:Nat}(hS:0 < S)(a:S * T=18446744073709551616)(hv:nU lz S (h+1) lz1)(d:h < lz.length)(z0:0<=b)(z1:b < 18446744073709551616)(e:b=nth lz h / S+T * (nth lz (h+1) % S)):nU lz S h (lz1.set h b):=by
 have c:=hv.len;refine⟨by simp[c],hv.words.set h z0 z1,fun i hi=>by rw[dH (by omega),if_neg (by omega)];exact hv.low i (by omega),?_⟩;rw[et (by simp;omega),dH (by omega),if_pos rfl,List.drop_set,if_pos (by omega),hv.val,et d,e,<- CD S T a (h+1)];generalize Lim.val (lz.drop (h+1))=Y
 have e1:nth lz h+18446744073709551616 * Y=nth lz h+S * (T * Y):=by rw[<- a];grind
 rw[e1,Int.add_mul_ediv_left _ _ (by omega)];have e2:=Int.mul_ediv_add_emod Y S
 have e3:T * Y=T * (S * (Y / S)+Y % S):=by rw[e2]
 rw[e3,<- a];grind
theorem yY{x y:Int}(s:Nat)(i:S=2 ^ s)(e:T=2 ^ (64 - s))(hs:s<=63)(hx:0<=x/\x < 18446744073709551616) :
  bits .or .u64 (x / S) (IntKind.u64.wrap (y * T))=x / S+T * (y % S)/\0<=x / S+T * (y % S)/\x / S+T * (y % S) < 18446744073709551616:=by
 obtain⟨p1,l,b,d⟩:=gg s hs;rw[<- i] at p1 l b;rw[<- e] at b d
 have a:0<=x / S:=Int.ediv_nonneg hx.1 (Int.le_of_lt p1)
 have f:x / S < T:=by rw[Int.ediv_lt_iff_lt_mul p1,Int.mul_comm,b];exact hx.2
 have c:=Int.emod_nonneg y (show S≠0 by omega);have j:=Int.emod_lt_of_pos y p1
 have m:IntKind.u64.wrap (y * T)=y % S * T:=by
  rw[IntKind.wrap_u64,<- b,Int.mul_comm y T,Int.mul_comm S T,Int.mul_emod_mul_of_pos _ _ d,Int.mul_comm]
 have g:0<=y % S * T:=Int.mul_nonneg c (Int.le_of_lt d)
 have h:(y % S+1) * T<=S * T:=Int.mul_le_mul_of_nonneg_right (by omega) (Int.le_of_lt d);rw[Int.add_mul,Int.one_mul,b] at h
 have k:T<=18446744073709551616:=by
  have:1 * T<=S * T:=Int.mul_le_mul_of_nonneg_right (by omega) (Int.le_of_lt d);omega
 rw[m,Int.mul_comm T];refine⟨?_,by omega,by omega⟩;rw[u64_or _ _ a (by omega) g (by omega),Nat.or_comm,<- u64_or _ _ g (by omega) a (by omega)];rw[qe _ _ (64 - s) (y % S) (by rw[e]) c (by omega) a (by rw[<- e];exact f) (by omega),Int.add_comm]
theorem yu(m:Option Addr)(g i b A s:Nat)(lz:List Int)(w:World)(u:lz.length=b)(z:b<=2199023255552)(j:b<=A)(hs:s<=63)(r:Words lz)(p:At w m g i lz)(n:dI w g i b) :
  Calls Tryz.prog 105 #[.slice m b A,.int .i64 s] w fun e w'=>e=.returned (.tuple #[])/\∃ lz',lz'.length=b/\Words lz'/\At w' m g i lz'/\Wr g i b w w'/\val lz'=val lz / 2 ^ s:=by
 obtain⟨p1,P,E,Q⟩:=gg s hs;go_enter Tryz.func105,Tryz.ntmps105;go_wp2;go_loopw [4,10] (fun tc q wr=>∃ (k:Nat) (c:List Int),k<=b/\q=.int .i64 k/\tc=.int .u64 (nth lz (b - k))/\nU lz (2 ^ s) (b - k) c/\At wr m g i c/\Wr g i b w wr) (fun _ q _=>b - (intOf q).toNat)
 case atStart=>exact⟨0,lz,Nat.zero_le _,rfl,by rw[gl (by omega)],⟨rfl,r,fun _ _=>rfl,by rw[Nat.sub_zero,List.drop_of_length_le (by omega)];simp[val]⟩,p,Wr.refl _ _ _ _⟩
 case round =>
  obtain⟨k,c,O,rfl,rfl,hinv,d,f⟩:=hrel;have t:=hinv.len;by_cases K:k < b
  ·rcases p.loc with e | rfl
   ·subst e;simp at u;omega
   obtain⟨h,B⟩:∃ h:Nat,b=h+1+k:=⟨b - 1 - k,by omega⟩
   have j:=d.cell h (by omega);have F:=f.free n h (by omega);rw[hinv.low h (by omega)] at j
   have C:(b:Int) - 1 - k=h:=by omega
   have H:(h:Int) < b:=by omega
   have l:b - k=h+1:=by omega
   rw[l] at hinv ⊢;obtain⟨e1,e2,e3⟩:=yY (y:=nth lz (h+1)) s rfl rfl hs (r.nth h)
   have G:Hid (nU lz (2 ^ s) h (c.set h (nth lz h / 2 ^ s+2 ^ (64 - s) * (nth lz (h+1) % 2 ^ s)))):=hinv.step p1 E (by omega) e2 e3 rfl
   have I:Hid (b=h+1+k):=B;have N:=(show Hid _ from d)
   have D:=(show Hid _ from f)
   have L:Hid (nth lz (b - (k+1))=nth lz h):=by show _=_;rw[show b - (k+1)=h from by omega]
   have J:Hid (b - (k+1)=h):=by show _=_;omega
   clear B hinv p r d f l;generalize nth lz h=x at *;generalize nth lz (h+1)=y at *
   have v:(64:Int) - s=((64 - s:Nat):Int):=by omega
   go_wp2_with fail;go_region;go_wp2;refine⟨⟨k+1,_,by omega,by go_num,by rw[L.out],by rw[J.out];exact G.out,?_,?_⟩,by simp[intOf];omega⟩
   ·exact(N.out.setCell (by omega) _).drew
   ·exact(D.out.setCell (by omega) (by have:=I.out;omega) _).drew
  ·have o:k=b:=by omega
   subst o;have hv:=hinv.val;rw[Nat.sub_self,List.drop_zero,List.drop_zero] at hv;have M:=(show Hid _ from hv)
   clear hv;go_wp2;go_end0;exact⟨rfl,c,by omega,hinv.words,d,f,M.out⟩
def sc(u v g:Int):Prop:=0<=g/\g < 18446744073709551616/\(g - 1) * v<=u/\u < (g+1) * v
theorem Cb{u v u0 R P:Int}(d:0 < P)(hv:v < (v1+1) * P)(b:9223372036854775808<=v1)(hu:u=u0 * 18446744073709551616 * P+R)(f:0<=R)(c:v1<=u0)(a:u < v * 18446744073709551616):sc u v 18446744073709551615:=by
 refine⟨by decide,by decide,?_,by rw[show (18446744073709551615+1:Int)=18446744073709551616 from rfl,Int.mul_comm];exact a⟩
 have k1:v * 18446744073709551614<=(v1+1) * P * 18446744073709551614:=Int.mul_le_mul_of_nonneg_right (by omega) (by decide)
 have e:v1 * P<=u0 * P:=Int.mul_le_mul_of_nonneg_right c (by omega)
 have g:9223372036854775808 * P<=v1 * P:=Int.mul_le_mul_of_nonneg_right b (by omega)
 have e1:(v1+1) * P * 18446744073709551614=v1 * P * 18446744073709551614+P * 18446744073709551614:=by grind
 have e2:u0 * 18446744073709551616 * P=u0 * P * 18446744073709551616:=by grind
 rw[show (18446744073709551615 - 1:Int)=18446744073709551614 from rfl,Int.mul_comm];omega
theorem uT{u v v2 a g rest hi Q:Int}(G:0 < Q)(h:v1 * 18446744073709551616 * Q+v2 * Q<=v)(hv:v < v1 * 18446744073709551616 * Q+(v2+1) * Q)(t:9223372036854775808<=v1)(p:0<=v2)(x:v2 < 18446744073709551616)(m:a * (18446744073709551616 * Q)<=u)(hu:u < (a+1) * (18446744073709551616 * Q))(b:0<=g)(i:g < 18446744073709551616)(k:0<=rest)(B:rest < v1)(he:g * v1+rest=a)(lo:Int)(l:0<=lo)(s:lo < 18446744073709551616)(hm:hi * 18446744073709551616+lo=g * v2) :
  (rest < hi->sc u v (g - 1))/\(hi<=rest->sc u v g):=by
 have o:0<=g * v2:=Int.mul_nonneg b p
 have j:g * v2<=g * 18446744073709551615:=Int.mul_le_mul_of_nonneg_left (by omega) b
 have e:0<=hi:=by omega
 have d:hi<=18446744073709551615:=by omega
 obtain⟨X,hX⟩:∃ X,18446744073709551616 * Q=X:=⟨_,rfl⟩
 have y:0 < X:=by omega
 have m1:g * (v1 * 18446744073709551616 * Q+v2 * Q)<=g * v:=Int.mul_le_mul_of_nonneg_left h b
 have m2:g * v<=g * (v1 * 18446744073709551616 * Q+(v2+1) * Q):=Int.mul_le_mul_of_nonneg_left (by omega) b
 have e1:g * (v1 * 18446744073709551616 * Q+v2 * Q)=a * X - rest * X+hi * X+lo * Q:=by
  rw[<- hX,<- he];have:g * (v2 * Q)=(hi * 18446744073709551616+lo) * Q:=by rw[hm];grind
  grind
 have e2:g * (v1 * 18446744073709551616 * Q+(v2+1) * Q)=a * X - rest * X+hi * X+lo * Q+g * Q:=by
  have:g * (v1 * 18446744073709551616 * Q+(v2+1) * Q)=g * (v1 * 18446744073709551616 * Q+v2 * Q)+g * Q:=by grind
  rw[this,e1]
 rw[e1] at m1;rw[e2] at m2
 have e3:v1 * 18446744073709551616 * Q=v1 * X:=by rw[<- hX];grind
 rw[e3] at h;rw[hX] at m hu;rw[Int.add_mul,Int.one_mul] at hu
 have k1:9223372036854775808 * X<=v1 * X:=Int.mul_le_mul_of_nonneg_right t (by omega)
 have r:(rest+1) * X<=v1 * X:=Int.mul_le_mul_of_nonneg_right (by omega) (by omega)
 have H:lo * Q<=18446744073709551615 * Q:=Int.mul_le_mul_of_nonneg_right (by omega) (by omega)
 have z:0<=lo * Q:=Int.mul_nonneg l (by omega)
 have C:g * Q<=18446744073709551615 * Q:=Int.mul_le_mul_of_nonneg_right (by omega) (by omega)
 have E:0<=v2 * Q:=Int.mul_nonneg p (by omega)
 have F:0<=hi * X:=Int.mul_nonneg e (by omega)
 have D:0<=rest * X:=Int.mul_nonneg k (by omega)
 have I:hi * X<=18446744073709551615 * X:=Int.mul_le_mul_of_nonneg_right d (by omega);rw[Int.add_mul,Int.one_mul] at r;constructor
 ·intro w
  have n:(rest+1) * X<=hi * X:=Int.mul_le_mul_of_nonneg_right (by omega) (by omega);rw[Int.add_mul,Int.one_mul] at n
  have q:1<=g:=by
   by_cases c:1<=g
   ·exact c
   ·have:g=0:=by omega
    subst this;simp at hm;omega
  have f:hi<=18446744073709551614:=by omega
  have A:hi * X<=18446744073709551614 * X:=Int.mul_le_mul_of_nonneg_right f (by omega);refine⟨by omega,by omega,?_,?_⟩
  ·rw[show (g - 1 - 1) * v=g * v - 2 * v from by grind];omega
  ·rw[show (g - 1+1) * v=g * v from by grind];omega
 ·intro hle
  have n:hi * X<=rest * X:=Int.mul_le_mul_of_nonneg_right hle (by omega);refine⟨b,i,?_,?_⟩
  ·rw[Int.sub_mul,Int.one_mul];omega
  ·rw[Int.add_mul,Int.one_mul];omega
end
end
section
open Go.RowKit Lim
section
variable {f:FuncId}{args:Array Value}{w:World}{n:Nat}{v:Value}{l:List Int}
theorem rR(hi lo y:Int)(w:World)(d:0<=hi)(b:hi < y)(a:0<=lo)(l1:lo < 18446744073709551616)(y1:y < 18446744073709551616) :
  Calls Tryz.prog 161 #[.int .u64 hi,.int .u64 lo,.int .u64 y] w fun e w'=>e=.returned (.tuple #[.int .u64 ((hi * 18446744073709551616+lo) / y),.int .u64 ((hi * 18446744073709551616+lo) % y)])/\∃ n,w'=w.drewN n:=by
 by_cases c:hi=0
 ·subst c;refine(mC lo y w (by omega) a l1 y1).mono ?_
  rintro e w' ⟨rfl,hw⟩;exact⟨by simp,hw⟩
 ·refine(oV hi lo y w (by omega) b a l1 y1).mono ?_
  rintro e w' ⟨rfl,rfl⟩;exact⟨rfl,0,rfl⟩
theorem oE{P:Program}(h:Calls P f args (w.drewN n) fun e w'=>e=.returned v/\∃ m,w'=(w.drewN n).drewN m):Calls P f args (w.drewN n) fun e w''=>e=.returned v/\∃ m,w''=w.drewN m :=
 h.mono fun _ _ ⟨he,m,hm⟩=>⟨he,n+m,by rw[hm,World.drewN_drewN]⟩
theorem top2(wl:Words l)(hn:l.length=n+2):(nth l (n+1) * 18446744073709551616+nth l n) * 18446744073709551616 ^ n<=val l/\val l < (nth l (n+1) * 18446744073709551616+nth l n+1) * 18446744073709551616 ^ n:=by
 have e1:=bL l n (by omega);have b:=aO (wl.take n);have a:=dJ (wl.take n);rw[List.length_take,Nat.min_eq_left (by omega)] at a;rw[et (by omega),et (by omega),List.drop_of_length_le (show l.length<=n+1+1 by omega)] at e1
 have e2:(18446744073709551616:Int) ^ n * (nth l n+18446744073709551616 * (nth l (n+1)+18446744073709551616 * val []))=(nth l (n+1) * 18446744073709551616+nth l n) * 18446744073709551616 ^ n:=by
  rw[show val []=0 from rfl];grind
 rw[e2] at e1;rw[Int.add_mul (nth l (n+1) * 18446744073709551616+nth l n) 1];omega
theorem xL(au:Option Addr)(cu W G:Nat)(av:Option Addr)(k cv bv B:Nat)(lu i:List Int)(w:World)(r:lu.length=k+3)(t:i.length=k+2)(hbig:k<=1099511627776)(wu:Words lu)(D:Words i)(hu:At w au W G lu)(hv:At w av bv B i)(o:9223372036854775808<=nth i (k+1))(v:val lu < val i * 18446744073709551616) :
  Calls Tryz.prog 162 #[.slice au (k+3) cu,.slice av (k+2) cv] w fun e w'=>∃ g:Int,e=.returned (.int .u64 g)/\sc (val lu) (val i) g/\Below w.heap.size w w':=by
 obtain⟨j,s⟩:=top2 D t;obtain⟨d,f⟩:=top2 (n:=k+1) wu r;have c0:=hu.cell (k+2) (by omega);have c1:=hu.cell (k+1) (by omega);have d1:=hv.cell (k+1) (by omega);have d2:=hv.cell k (by omega);have b0:=wu.nth (k+2);have J:=wu.nth (k+1);have e1:=D.nth (k+1);have e2:=D.nth k;have H:=pow_pos k;have T:=pow_pos (k+1);rcases hu.loc with e | rfl
 ·subst e;simp at r
 rcases hv.loc with e | rfl
 ·subst e;simp at t
 rw[show k+1+1=k+2 from rfl] at d f;have E:=(show Hid _ from v)
 clear hu hv wu D v r t;obtain⟨N,C⟩:∃ N,k+2=N:=⟨_,rfl⟩
 obtain⟨m,hm⟩:∃ m,k+1=m:=⟨_,rfl⟩
 have hN1:(N:Int) - 1=m:=by omega
 have hN2:(N:Int) - 2=k:=by omega
 have hmN:(m:Int) < N:=by omega
 have hkN:(k:Int) < N:=by omega
 have Y:(m:Int) < (N:Int)+1:=by omega
 have Z:(N:Int) < (N:Int)+1:=by omega
 have hNb:N<=1099511627778:=by omega
 have hmle:m<=N:=by omega
 have hmlt:m < N+1:=by omega
 have hmi:(m:Int)<=N:=by omega
 have hwm:IntKind.i64.wrap (m:Int)=m:=by rw[IntKind.wrap_i64];omega
 have hwk:IntKind.i64.wrap (k:Int)=k:=by rw[IntKind.wrap_i64];omega
 generalize nth lu (k+2)=u0 at *;generalize nth lu (k+1)=c at *;generalize nth i (k+1)=v1 at *;generalize nth i k=v2 at *;generalize val lu=U at *;generalize val i=V at *;by_cases K:v1<=u0
 ·have HN:Hid (sc U V 18446744073709551615):=by
   refine Cb (v1:=v1) (u0:=u0) (P:=18446744073709551616 ^ (k+1)) (R:=U - u0 * 18446744073709551616 * 18446744073709551616 ^ (k+1)) T ?_ o (by omega) ?_ K E.out
   ·rw[Int.pow_succ];have:(v1 * 18446744073709551616+v2+1) * 18446744073709551616 ^ k<=(v1 * 18446744073709551616+18446744073709551616) * 18446744073709551616 ^ k:=Int.mul_le_mul_of_nonneg_right (by omega) (by omega)
    have e:(v1 * 18446744073709551616+18446744073709551616) * 18446744073709551616 ^ k=(v1+1) * (18446744073709551616 ^ k * 18446744073709551616):=by grind
    omega
   ·have:0<=c * 18446744073709551616 ^ (k+1):=Int.mul_nonneg J.1 (by omega);rw[Int.add_mul] at d;omega
  rw[show k+3=N+1 from by omega,C] at *;rw[hm] at c1 d1;clear d f j s H T C hm;go_enter Tryz.func162,Tryz.ntmps162;go_wp2_with fail;go_quiet (fail);go_wp2;go_ret;exact⟨_,rfl,HN.out,below_drewN (Below.refl _ _) _⟩
 ·have u:∀ g rest hi lo:Int,0<=g->g < 18446744073709551616->0<=rest->rest < v1->g * v1+rest=u0 * 18446744073709551616+c->0<=lo->lo < 18446744073709551616->hi * 18446744073709551616+lo=g * v2->(rest < hi->sc U V (g - 1))/\(hi<=rest->sc U V g):=by
   intro g rest hi lo h1 h2 h3 h4 h5 h6 h7 h8;refine uT (Q:=18446744073709551616 ^ k) H ?_ ?_ o e2.1 e2.2 ?_ ?_ h1 h2 h3 h4 h5 lo h6 h7 h8
   ·rw[Int.add_mul] at j;exact j
   ·have e:(v1 * 18446744073709551616 + v2 + 1) * 18446744073709551616 ^ k=v1 * 18446744073709551616 * 18446744073709551616 ^ k + (v2 + 1) * 18446744073709551616 ^ k:=by grind
    rw[<- e];exact s
   ·rw[Int.mul_comm 18446744073709551616,<- Int.pow_succ];exact d
   ·rw[Int.mul_comm 18446744073709551616,<- Int.pow_succ];exact f
  have q:=(show Hid _ from u)
  have p:=Int.mul_ediv_add_emod (u0 * 18446744073709551616+c) v1;have F:=Int.emod_nonneg (u0 * 18446744073709551616+c) (show v1≠0 by omega);have X:=Int.emod_lt_of_pos (u0 * 18446744073709551616+c) (show 0 < v1 by omega)
  have A:0<=(u0 * 18446744073709551616+c) / v1:=Int.ediv_nonneg (by omega) (by omega)
  have z:(u0 * 18446744073709551616+c) / v1 < 18446744073709551616:=by
   rw[Int.ediv_lt_iff_lt_mul (by omega)];have:(u0+1) * 18446744073709551616<=v1 * 18446744073709551616:=Int.mul_le_mul_of_nonneg_right (by omega) (by decide);omega
  have tD:=fun wx:World=>rR u0 c v1 wx b0.1 (by omega) J.1 J.2 e1.2
  generalize hg:(u0 * 18446744073709551616+c) / v1=g at *;generalize hr:(u0 * 18446744073709551616+c) % v1=rest at *;rw[Int.mul_comm] at p;have I:=(show Hid _ from p)
  rw[show k+3=N+1 from by omega,C] at *;rw[hm] at c1 d1;clear u p hg hr d f j s H T C hm
  have aa:u0 < v1:=by omega
  go_enter Tryz.func162,Tryz.ntmps162;go_wp2_with fail;go_quiet (fail)
  have O:(w.drewN nq).cell? ⟨W,G+N,none⟩=some (.int .u64 u0):=c0
  have L:(w.drewN nq).cell? ⟨W,G+m,none⟩=some (.int .u64 c):=c1
  have S:(w.drewN nq).cell? ⟨bv,B+m,none⟩=some (.int .u64 v1):=d1
  have x:(w.drewN nq).cell? ⟨bv,B+k,none⟩=some (.int .u64 v2):=d2;have y:=below_drewN (Below.refl w.heap.size w) nq;clear c0 c1 d1 d2;generalize w.drewN nq=W1 at *;go_wp2_with fail;go_quiet ((go_at_call 161;exact oE (tD _)))
  have d2'':(W1.drewN nq).cell? ⟨bv,B+k,none⟩=some (.int .u64 v2):=x;have l:=below_drewN y nq;clear O L S x y tD;generalize W1.drewN nq=W2 at *;go_wp2_with fail;refine(lY g v2 A z e2.1 e2.2 _).mono ?_
  rintro e w3 ⟨hi,lo,rfl,i1,i2,i3,i4,i5,rfl⟩;have b:=q.out g rest hi lo A z F X I.out i3 i4 i5.out;by_cases hc:rest < hi
  ·have M:=(show Hid _ from b.1 hc)
   have hg2:0<=g - 1:=(b.1 hc).1;clear b q;go_wp2;go_ret;exact⟨_,rfl,M.out,l⟩
  ·have M:=(show Hid _ from b.2 (by omega))
   clear b q;go_wp2;go_ret;exact⟨_,rfl,M.out,l⟩
end
end
section
open Go.RowKit Lim
section
variable {L L' lz:List Int}{k:Nat}
theorem Bg(hL:Words L)(a:Words L')(b:Words lz)(g:k < L.length)(i:lz.length=L.length+L'.length)(hv:val lz=val (L.take k) * val L') :
  0<=val ((lz.drop k).take (L'.length+1))+val L' * nth L k/\val ((lz.drop k).take (L'.length+1))+val L' * nth L k < 18446744073709551616 ^ (L'.length+1):=by
 have d:=dJ (hL.take k);have l:=dJ a;have n:=aO (hL.take k);have c:=aO a;have h:=aO (b.take k);have j:=aO ((b.drop k).take (L'.length+1));have h7:=aO ((b.drop k).drop (L'.length+1));have h8:=hL.nth k;rw[List.length_take,Nat.min_eq_left (by omega)] at d;have e1:=bL lz k (by omega);have e2:=bL (lz.drop k) (L'.length+1) (by simp;omega);have f:=pow_pos k;have m:=pow_pos L'.length;have e:=pow_pos (L'.length+1)
 have m1:val (L.take k) * val L'<=18446744073709551616 ^ k * val L':=Int.mul_le_mul_of_nonneg_right (by omega) c
 have m2:(18446744073709551616:Int) ^ k * val (lz.drop k)<=18446744073709551616 ^ k * val L':=by omega
 have m3:val (lz.drop k)<=val L':=Int.le_of_mul_le_mul_left m2 f
 have m4:0<=18446744073709551616 ^ (L'.length+1) * val ((lz.drop k).drop (L'.length+1)):=Int.mul_nonneg (Int.le_of_lt e) h7
 have m5:val L' * nth L k<=val L' * 18446744073709551615:=Int.mul_le_mul_of_nonneg_left (by omega) c
 have m6:0<=val L' * nth L k:=Int.mul_nonneg c h8.1;refine⟨by omega,?_⟩;rw[Int.pow_succ];omega
structure ly(L L' lz:List Int)(k:Nat):Prop where
 len:lz.length=L.length+L'.length
 words:Words lz
 val:Lim.val lz=Lim.val (L.take k) * Lim.val L'
theorem ly.step{lw:List Int}(hL:Words L)(c:Words L')(d:k < L.length)(h:ly L L' lz k)(hw:Words lw)(b:lw.length=L'.length+1)(hv:Lim.val lw=(Lim.val ((lz.drop k).take (L'.length+1))+Lim.val L' * nth L k) % 18446744073709551616 ^ (L'.length+1)):ly L L' (patch lz k lw) (k+1):=by
 have a:=Bg hL c h.words d h.len h.val;rw[Int.emod_eq_of_lt a.1 a.2] at hv;have e:=h.len;refine⟨by rw[fo (by omega)];exact h.len,lB h.words hw,?_⟩;rw[pB (by omega),b,hv,h.val,dB d];grind
theorem pM(ao:Option Addr)(n c b o:Nat)(ao':Option Addr)(n' c' b' o':Nat)(l p:List Int)(w:World)(hl:l.length=n)(X:p.length=n')(hc:n<=c)(Z:n'<=c')(hbig:n<=1099511627776)(ae:n'<=1099511627776)(wl:Words l)(ab:Words p)(Y:At w ao b o l)(I:At w ao' b' o' p) :
  Calls Tryz.prog 60 #[.slice ao n c,.slice ao' n' c'] w fun e w'=>∃ v r,e=.returned v/\dK w w' v r/\IsN r (val l * val p)/\r.length<=n+n'/\Below w.heap.size w w':=by
 have hn:=bI l
 have hn':=bI p;have t1:=bH ao n c l w hl hc (by omega) Y.cells;have t2:=bH ao' n' c' p w X Z (by omega) I.cells;have hs:=Y.sub (aI l)
 have z:=I.sub (aI p);have P:=aL l
 have t:=aL p;have hI:=cE wl
 have J:=cE ab;rw[show l.take (aI l)=norm l from rfl] at hs;rw[show p.take (aI p)=norm p from rfl] at z;generalize aI l=N at *;generalize aI p=d at *;generalize norm l=L at *;generalize norm p=O at *
 have y:L=[]\/b≠w.heap.size:=by
  rcases hs.lt with e | e
  ·exact .inl e
  ·exact .inr (by omega)
 have Q:O=[]\/b'≠w.heap.size:=by
  rcases z.lt with e | e
  ·exact .inl e
  ·exact .inr (by omega)
 clear Y I;go_enter Tryz.func60,Tryz.ntmps60;go_wp2_with fail;refine t1.mono ?_
 rintro e w1 ⟨rfl,rfl⟩;go_wp2_with fail;refine t2.mono ?_
 rintro e A ⟨rfl,rfl⟩;clear t1 t2;go_wp2_with (at_make;refine di rfl _ _ rfl (N+d) _ _ rfl rfl (by omega) (by omega) (by omega) ?_;intro w3 s j hsz);have G:=hs.keep j;have S:=z.keep j;have C:=s.at
 have E:=s.free 0 (N+d);clear hs z s;go_loopw [22] (fun ti wr=>∃ (k:Nat) (f:List Int),k<=N/\ti=.int .i64 k/\ly L O f k/\At wr (some ⟨A.heap.size,0,none⟩) A.heap.size 0 f/\Wr A.heap.size 0 (N+d) w3 wr) (fun ti _=>N - (intOf ti).toNat)
 case atStart=>exact⟨0,_,Nat.zero_le _,rfl,⟨by simp[P,t],eQ _,by simp[val,fB (l:=List.replicate (N+d) 0) fun i=>by simp[nth,List.getElem?_replicate];split<;>rfl]⟩,C,Wr.refl _ _ _ _⟩
 case round =>
  clear C;obtain⟨k,f,hk,rfl,hinv,q,g⟩:=hrel;by_cases hlt:k < N
  ·have hlen:=hinv.len;rcases G.loc with e | rfl
   ·subst e;simp at P;omega
   have y:=y;have hcx:=(G.wr g y).cell k (by omega)
   have B:=S.wr g Q;have hx:=hI.1.nth k;have F:=(g.free E).fP (k:=k) (m:=d+1) (by omega);have u:=(q.drew).fP k (d+1);rw[Nat.zero_add] at u F
   have hkn:k+d+1 - k=d+1:=by omega
   have H:=eI (some ⟨A.heap.size,k,none⟩) A.heap.size k (d+1) (d+1) ao' b' o' d d (nth L k) ((f.drop k).take (d+1)) O wr.drew (by simp;omega) t (by omega) (by omega) (Nat.le_refl _) (Nat.le_refl _) hx.1 hx.2 ((hinv.words.drop k).take _) J.1 u F.drew B.drew Q
   have HX:Hid (∀ lw,Words lw->lw.length=d+1->val lw=(val ((f.drop k).take (d+1))+val O * nth L k) % 18446744073709551616 ^ (d+1)->ly L O (patch f k lw) (k+1)):=by
    intro lw h1 h2 h3;rw[<- t] at h2 h3;exact ly.step hI.1 J.1 (by omega) hinv h1 h2 h3
   have HA:Hid (At wr.drew (some ⟨A.heap.size,0,none⟩) A.heap.size 0 f):=q.drew
   have HW:Hid (Wr A.heap.size 0 (N+d) w3 wr.drew):=g.drew;clear F u B hinv g q;generalize nth L k=x at *;go_wp2_with fail;go_region_with (go_at_call 71;refine H.mono ?_;rintro e w5 ⟨rfl,lw,aa,U,T,D,hvw⟩)
   all_goals go_wp2
   all_goals exact⟨⟨k+1,patch f k lw,by omega,by go_num,HX.out lw U aa hvw,HA.out.patch (k:=k) (n:=d+1) (by rw[Nat.zero_add];exact D) (by rw[Nat.zero_add];exact T) (by omega) (by omega),HW.out.trans (D.mono (by omega) (by omega))⟩,by simp[intOf];omega⟩
  ·have W:k=N:=by omega
   subst W;have hv:=hinv.val;have hlen:=hinv.len;have V:=hinv.words;rw[List.take_of_length_le (by omega),hI.2.2,J.2.2] at hv;have ac:=g.free E;have hz1:=bI f;have ad:=aL f;have M:=q.sub (aI f)
   have HF:IsN (norm f) (val l * val p):=by rw[<- hv];exact cE V
   have HB:=j.trans (g.below (Nat.le_refl _));rw[show f.take (aI f)=norm f from rfl] at M;have t3:=bH (some ⟨A.heap.size,0,none⟩) (k+d) (k+d) f wr (by omega) (Nat.le_refl _) (by omega) q.cells;clear G S q g j hinv hv;generalize aI f=K at *;generalize norm f=R at *;go_wp2_with fail;refine t3.mono ?_
   rintro e w6 ⟨rfl,rfl⟩;go_wp2;go_ret;exact⟨_,R,rfl,dK.of ad.symm (Nat.le_refl _) (Nat.le_refl _) M (fun i hi=>ac i (by omega)),HF,by omega,HB⟩
end
end
section
open Go.RowKit Lim
section
variable {lu lq lu1:List Int}{V:Int}{q0 k a n:Nat}{w:World}
structure lI(lu:List Int)(V:Int)(q0 k m:Nat)(lq lu1:List Int):Prop where
 Em:lq.length=q0
 Ei:lu1.length=q0+(k+2)
 wq:Words lq
 wu:Words lu1
 eq:val lu=18446744073709551616 ^ m * val (lq.drop m) * V+val lu1
 lt:val lu1 < V * 18446744073709551616 ^ m
theorem lI.fP(h:lI lu V q0 k (a+1) lq lu1)(n:a < q0)(r:V < 18446744073709551616 ^ (k+2)) :
  val lu1=val (lu1.take a)+18446744073709551616 ^ a * val ((lu1.drop a).take (k+3))/\val ((lu1.drop a).take (k+3)) < V * 18446744073709551616:=by
 have p:=h.Ei;have e1:=bL lu1 a (by omega);have e2:=bL (lu1.drop a) (k+3) (by simp;omega);have m:=aO (h.wu.take a);have i:=aO ((h.wu.drop a).take (k+3));have q:=aO ((h.wu.drop a).drop (k+3));have d:=h.lt;have b:=pow_pos a
 have e:val ((lu1.drop a).drop (k+3))=0:=by
  by_cases c:val ((lu1.drop a).drop (k+3))=0
  ·exact c
  ·have k1:18446744073709551616 ^ (k+3) * 1<=18446744073709551616 ^ (k+3) * val ((lu1.drop a).drop (k+3)):=Int.mul_le_mul_of_nonneg_left (by omega) (Int.le_of_lt (pow_pos _))
   have j:18446744073709551616 ^ a * 18446744073709551616 ^ (k+3)<=18446744073709551616 ^ a * val (lu1.drop a):=Int.mul_le_mul_of_nonneg_left (by omega) (Int.le_of_lt b)
   have g:(V+1) * 18446744073709551616 ^ (a+1)<=18446744073709551616 ^ (k+2) * 18446744073709551616 ^ (a+1):=Int.mul_le_mul_of_nonneg_right (by omega) (Int.le_of_lt (pow_pos _));rw[Int.add_mul] at g
   have l:(18446744073709551616:Int) ^ (k+2) * 18446744073709551616 ^ (a+1)=18446744073709551616 ^ a * 18446744073709551616 ^ (k+3):=by rw[<- Int.pow_add,<- Int.pow_add];congr 1;omega
   have o:=pow_pos (a+1);omega
 rw[e,Int.mul_zero,Int.add_zero] at e2;rw[e2] at e1;refine⟨e1,?_⟩
 have f:18446744073709551616 ^ a * val ((lu1.drop a).take (k+3)) < 18446744073709551616 ^ a * (V * 18446744073709551616):=by
  have:18446744073709551616 ^ a * (V * 18446744073709551616)=V * 18446744073709551616 ^ (a+1):=by rw[Int.pow_succ];grind
  omega
 exact Int.lt_of_mul_lt_mul_left f (Int.le_of_lt b)
theorem lI.step{d:Int}{nw:List Int}(h:lI lu V q0 k (a+1) lq lu1)(g:a < q0)(n:V < 18446744073709551616 ^ (k+2))(d0:0<=d)(d1:d < 18446744073709551616)(wn:Words nw)(hn:nw.length=k+3)(e:val nw=val ((lu1.drop a).take (k+3)) - d * V)(e1:val nw < V):lI lu V q0 k a (lq.set a d) (patch lu1 a nw):=by
 have hw:=h.fP g n;have i:=h.Ei;have c:=h.Em;have b:=pB (l:=lu1) (m:=nw) (k:=a) (by omega);have f:=dJ (h.wu.take a);rw[List.length_take,Nat.min_eq_left (by omega)] at f;have j:=pow_pos a;refine⟨by simp[c],by rw[fo (by omega)];exact i,h.wq.set a d0 d1,lB h.wu wn,?_,?_⟩
 ·rw[h.eq,et (l:=lq.set a d) (by simp;omega),dH (by omega),if_pos rfl,List.drop_set,if_pos (by omega),b,hn,e,Int.pow_succ];grind
 ·have k1:18446744073709551616 ^ a * (val nw+1)<=18446744073709551616 ^ a * V:=Int.mul_le_mul_of_nonneg_left (by omega) (Int.le_of_lt j);rw[b,hn,Int.mul_sub,Int.mul_comm V];rw[Int.mul_add] at k1;omega
theorem CO{U g o Z:Int}{x:Int}(hn:sc U V g)(j:V < 18446744073709551616 ^ n)(hx:x=U - V * g+18446744073709551616 ^ n * o)(x1:x < 18446744073709551616 ^ n)(m:0<=U)(q:0<=o) :
  (o=0->x=U - g * V/\x < V)/\(o≠0->Z=(x+V * 1) % 18446744073709551616 ^ n->1<=g/\Z=U - (g - 1) * V/\Z < V):=by
 obtain⟨g0,g1,f,k⟩:=hn;rw[Int.sub_mul] at f;rw[Int.add_mul] at k;rw[Int.mul_comm V g] at hx;have d:=pow_pos n;constructor
 ·intro h;subst h;omega
 ·intro h i
  have k1:18446744073709551616 ^ n * 1<=18446744073709551616 ^ n * o:=Int.mul_le_mul_of_nonneg_left (by omega) (Int.le_of_lt d)
  have a:o=1:=by
   by_cases c:2<=o
   ·have p:18446744073709551616 ^ n * 2<=18446744073709551616 ^ n * o:=Int.mul_le_mul_of_nonneg_left c (Int.le_of_lt d);omega
   ·omega
  subst a
  have b:U - g * V < 0:=by omega
  have l:1<=g:=by
   by_cases c:1<=g
   ·exact c
   ·have:g=0:=by omega
    subst this;omega
  have e:x+V * 1=(U - (g - 1) * V)+18446744073709551616 ^ n * 1:=by rw[hx,Int.sub_mul];omega
  rw[e,Int.add_mul_emod_self_left,Int.sub_mul,Int.emod_eq_of_lt (by omega) (by omega)] at i;rw[Int.sub_mul];exact⟨l,by omega,by omega⟩
theorem j1{P:Program}{a:Act}{Q:Exit->Act->World->Prop}{c rest:Code}(l:Nat)(J:Act->World->Prop)(μ:Act->World->Nat)(hf:findLabel c l=some (Code.skip.seq rest))(first:(∀ a w,J a w->rest.wp P (Exit.jump l J Q) a w)->c.wp P (Exit.jump l J Q) a w)(pass:∀ a w,J a w->rest.wp P (Exit.jump l (fun a' w'=>J a' w'/\μ a' w' < μ a w) Q) a w):(Code.scope c).wp P Q a w :=
 wp_scope_jumps l J μ hf (first fun a w b=>wp_mono (pass a w b) fun e a' w' h=>by
  cases e with
  | goto l'=>exact⟨h.1,h.2.1⟩
  | _=>exact h) fun a w b=>wp_seq (wp_skip (pass a w b))
theorem r7{l m a:List Int}(h:k+m.length<=l.length)(hm:a.length=m.length):patch (patch l k m) k a=patch l k a:=by
 have e:(l.take k).length=k:=by simp;omega
 unfold patch;rw[List.take_left' e,hm,<- List.append_assoc (l.take k) m,List.drop_left' (by simp;omega)]
theorem dI.below{B:Nat}{w':World}(h:Below B w w'){b o:Nat}(k:dI w b o n)(hb:b < B):dI w' b o n:=fun i hi=>by
 rw[World.frozen?_of_block (w:=w) (h.block b hb)];exact k i hi
theorem mQ(s z cu:Nat)(av:Option Addr)(k q0 cv bv ov:Nat)(lu F:List Int)(w:World)(ad:lu.length=q0+(k+2))(S:F.length=k+2)(hbig:k<=1099511627776)(hbigq:q0<=1099511627776)(hcu:q0+(k+2)<=cu)(hcv:k+2<=cv)(wu:Words lu)(wv:Words F)(hu:At w (some ⟨s,z,none⟩) s z lu)(hfu:dI w s z (q0+(k+2)))(hv:At w av bv ov F)(ac:bv≠s)(htop:9223372036854775808<=nth F (k+1))(hval:val lu < val F * 18446744073709551616 ^ q0) :
  Calls Tryz.prog 104 #[.slice (some ⟨s,z,none⟩) (q0+(k+2)) cu,.slice av (k+2) cv] w fun e w'=>∃ lq lr:List Int,e=.returned (.slice (some ⟨w.heap.size,0,none⟩) q0 q0)/\lI lu (val F) q0 k 0 lq lr/\At w' (some ⟨w.heap.size,0,none⟩) w.heap.size 0 lq/\dI w' w.heap.size 0 q0/\At w' (some ⟨s,z,none⟩) s z lr/\dI w' s z (q0+(k+2))/\Below s w w':=by
 go_enter Tryz.func104,Tryz.ntmps104;go_wp2;refine j1 0 (fun a' w'=>∃ (m:Nat) (lq v:List Int) (u8 u9 u10 u11 u12 u13 u14 u15 u16 u17 u18 u19 u20 u21 u22 u23 u24 u25 u26 u27 u28 u29 u30 u31 u32 u33 u34 u35 u36 u37 u38 u39 u40 u41 u42 u43 u44 u45 u46 u47 u48 u49 u50 u51 u52 u53 u54:Value),a'={ tmps:=#[.slice (some ⟨s,z,none⟩) (q0+(k+2)) cu,.slice av (k+2) cv,undef,undef,.slice none 0 0,.int .i64 ((k:Int)+2),.int .i64 (m:Int),.slice (some ⟨w.heap.size,0,none⟩) q0 q0,u8,u9,u10,u11,u12,u13,u14,u15,u16,u17,u18,u19,u20,u21,u22,u23,u24,u25,u26,u27,u28,u29,u30,u31,u32,u33,u34,u35,u36,u37,u38,u39,u40,u41,u42,u43,u44,u45,u46,u47,u48,u49,u50,u51,u52,u53,u54],defers:=[] }/\m<=q0/\lI lu (val F) q0 k m lq v/\At w' (some ⟨w.heap.size,0,none⟩) w.heap.size 0 lq/\dI w' w.heap.size 0 q0/\At w' (some ⟨s,z,none⟩) s z v/\dI w' s z (q0+(k+2))/\At w' av bv ov F/\w.heap.size < w'.heap.size/\Below s w w') (fun a' _=>(intOf (a'.tmps.getD 6 undef)).toNat) rfl ?_ ?_
 ·intro aq;go_wp2_with (at_make;refine di rfl _ _ rfl q0 _ _ rfl rfl (by omega) (by omega) (by omega) ?_;intro w1 ao f hsz);go_step3
  have Y:s < w.heap.size:=by
   rcases hu.lt with e | e
   ·subst e;simp at ad
   ·exact e
  have hI:lI lu (val F) q0 k q0 (List.replicate q0 0) lu:=⟨by simp,ad,eQ _,wu,by simp[val],hval⟩
  rename_i K hK;refine hK _ _ (aq _ _ ⟨q0,List.replicate q0 0,lu,_,_,_,_,_,_,_,_,_,_,_,_,_,_,_,_,_,_,_,_,_,_,_,_,_,_,_,_,_,_,_,_,_,_,_,_,_,_,_,_,_,_,_,_,_,_,_,rfl,Nat.le_refl _,hI,ao.at,ao.free 0 q0,hu.keep f,dI.below f hfu Y,hv.keep f,by omega,f.mono (Nat.le_of_lt Y)⟩)
 ·rintro a' wr ⟨m,lq,v,u8,u9,u10,u11,u12,u13,u14,u15,u16,u17,u18,u19,u20,u21,u22,u23,u24,u25,u26,u27,u28,u29,u30,u31,u32,u33,u34,u35,u36,u37,u38,u39,u40,u41,u42,u43,u44,u45,u46,u47,u48,u49,u50,u51,u52,u53,u54,rfl,hm,hinv,hq,ar,R,H,aF,ag,aC⟩;by_cases hm0:m=0
  ·subst hm0;go_wp2;rw[show ∀ J Q b w,Exit.jump 0 J Q .ret b w=Q .ret b w from fun _ _ _ _=>rfl];go_ret;exact⟨lq,v,rfl,hinv,hq,ar,R,H,aC⟩
  ·obtain⟨a,rfl⟩:∃ a,m=a+1:=⟨m - 1,by omega⟩
   have x:=hinv.Em;have u:=hinv.Ei
   have hk1:a+(k+2)+1 - a=k+3:=by omega
   have az:=dJ wv;rw[S] at az;obtain⟨y,hW2⟩:=hinv.fP (by omega) az;have ai:=R.fP a (k+3);have hfwin:=H.fP (k:=a) (m:=k+3) (by omega)
   have r:((v.drop a).take (k+3)).length=k+3:=by simp;omega
   have j:Words ((v.drop a).take (k+3)):=(hinv.wu.drop a).take (k+3);have X:=fun wx hx hy=>xL (some ⟨s,z+a,none⟩) (k+3) s (z+a) av k cv bv ov ((v.drop a).take (k+3)) F wx r S (by omega) j wv hx hy htop hW2
   have c:=fun d nw=>hinv.step (d:=d) (nw:=nw) (by omega) az
   have HH:=(show Hid _ from And.intro y (And.intro r (And.intro j (And.intro x (And.intro u c)))))
   clear hinv y r j x u c
   have e1:((a:Nat):Int)+1 - 1=a:=by omega
   generalize hL:(v.drop a).take (k+3)=L at *;go_wp2_with fail;rw[hk1];refine(X _ ai aF).mono ?_
   rintro e w2 ⟨g,rfl,D,f⟩;obtain⟨y,r,j,x,u,c⟩:=HH.out
   have hsz2:w.heap.size < w2.heap.size:=Nat.lt_of_lt_of_le ag f.size
   have Y:s < wr.heap.size:=by
    rcases R.lt with e | e
    ·subst e;simp at u
    ·exact e
   have HB2:=(show Hid _ from aC.trans (f.mono (Nat.le_of_lt Y)))
   clear aC;have aA:=hq.keep f;have V:=dI.below f ar ag;have hu2:=R.keep f;have af:=dI.below f H Y;have hv2:=aF.keep f;have hc:=aA.cell a (by omega);have hf:=V a (by omega);rw[Nat.zero_add] at hc hf;clear X ai;have hg0:=D.1;have hg1:=D.2.1;clear y r j x u c hq ar R H aF;go_wp2_with fail
   have T:s≠w.heap.size:=by
    rcases hu.lt with e | e
    ·subst e;simp at ad
    ·omega
   have al:s<=w.heap.size:=by
    rcases hu.lt with e | e
    ·subst e;simp at ad
    ·omega
   have hbv:bv≠w.heap.size:=by
    rcases hv.lt with e | e
    ·subst e;simp at S
    ·omega
   obtain⟨y,r,j,x,u,c⟩:=HH.out
   have t:Wr w.heap.size 0 q0 w2 (w2.setCell ⟨w.heap.size,a,none⟩ (.int .u64 g)):=(Wr.refl _ _ _ _).setCell (by omega) (by omega) _;have aD:=aA.setCell (i:=a) (by omega) g;rw[Nat.zero_add] at aD;generalize w2.setCell ⟨w.heap.size,a,none⟩ (.int .u64 g)=w3 at *;have ae:=t.free V;have N:=t.free af;have ax:=hu2.wr t (.inr T);have aB:=hv2.wr t (.inr hbv)
   have hsz3:w.heap.size < w3.heap.size:=by rw[t.size];exact hsz2
   have B:=ax.fP a (k+3);rw[hL] at B;have G:=N.fP (k:=a) (m:=k+3) (by omega);refine(jg (some ⟨s,z+a,none⟩) s (z+a) (k+3) (k+3) av bv ov (k+2) cv g L F w3 r S (by omega) (by omega) (Nat.le_refl _) hcv hg0 hg1 j wv B G aB (.inr ac)).mono ?_
   rintro e w4 ⟨gq,rfl,ho0,ho1,nw,U,hnw,ap,o,C⟩;have HB4:=(show Hid _ from(HB2.out.trans (t.below al)).trans (o.below (Nat.le_refl _)))
   have I:=o.free ae;have O:=o.free N;have ab:=aD.wr o (.inr (Ne.symm T));have aE:=aB.wr o (.inr ac);have ay:=ax.patch o ap U (by omega)
   have an:w.heap.size < w4.heap.size:=by rw[o.size];exact hsz3
   have hP:=fo (l:=v) (m:=nw) (k:=a) (by omega)
   have hVB3:val F < 18446744073709551616 ^ (k+3):=by
    have:=pow_pos (k+2);rw[Int.pow_succ _ (k+2)];omega
   have E:=dJ hnw;rw[U] at E;have A:=fun Z=>CO (Z:=Z) (n:=k+3) D hVB3 C E (aO j) ho0
   clear t V af hu2 hv2 aA ae N ax aB B G o aD;by_cases ho:gq=0
   ·subst ho;have hx:=(A 0).1 rfl;have hJ:=c g nw hg0 hg1 hnw U hx.1 hx.2;have HJ:=(show Hid _ from hJ)
    clear hJ hx A c HH y r j x u C E hP;go_wp2_with fail;go_step3;refine And.intro (Eq.refl 0) (And.intro ?_ ?_)
    ·exact⟨a,lq.set a g,patch v a nw,_,_,_,_,_,_,_,_,_,_,_,_,_,_,_,_,_,_,_,_,_,_,_,_,_,_,_,_,_,_,_,_,_,_,_,_,_,_,_,_,_,_,_,_,_,_,_,rfl,by omega,HJ.out,ab,I,ay,O,aE,an,HB4.out⟩
    ·simp[intOf]
   ·have hg1':1<=g:=((A ((val nw+val F * 1) % 18446744073709551616 ^ (k+3))).2 ho rfl).1;have aa:=ab.cell a (by simp;omega);have aj:=I a (by omega);rw[Nat.zero_add] at aa aj;rw[dH (by omega),if_pos rfl] at aa;have HN:=(show Hid _ from And.intro A (And.intro c (And.intro x (And.intro u (And.intro y (And.intro r (And.intro j (And.intro hP U))))))))
    clear A c HH y r j x u C E hP
    have hgw:IntKind.u64.wrap (g - 1)=g - 1:=by rw[IntKind.wrap_u64];omega
    have hob:(gq == 0)=false:=by simpa using ho
    go_wp2_with fail;obtain⟨A,c,x,u,y,r,j,hP,hnl'⟩:=HN.out
    have q:Wr w.heap.size 0 q0 w4 (w4.setCell ⟨w.heap.size,a,none⟩ (.int .u64 (g - 1))):=(Wr.refl _ _ _ _).setCell (by omega) (by omega) _;have aw:=ab.setCell (i:=a) (by simp;omega) (g - 1);rw[Nat.zero_add,List.set_set] at aw;generalize w4.setCell ⟨w.heap.size,a,none⟩ (.int .u64 (g - 1))=w5 at *;have am:=q.free I;have W:=q.free O;have hu5:=ay.wr q (.inr T);have au:=aE.wr q (.inr hbv);have ah:=ap.wr q (.inr T)
    have hsz5:w.heap.size < w5.heap.size:=by rw[q.size];exact an
    have M:=W.fP (k:=a) (m:=k+3) (by omega);refine(eI (some ⟨s,z+a,none⟩) s (z+a) (k+3) (k+3) av bv ov (k+2) cv 1 nw F w5 U S (by omega) (by omega) (Nat.le_refl _) hcv (by omega) (by omega) hnw wv ah M au (.inr ac)).mono ?_
    rintro e w6 ⟨rfl,n2,ak,hnw6,hat6,p,P⟩;have HB6:=(show Hid _ from(HB4.out.trans (q.below al)).trans (p.below (Nat.le_refl _)))
    have hfq6:=p.free am;have hfu6:=p.free W;have hq6:=aw.wr p (.inr (Ne.symm T));have hv6:=au.wr p (.inr ac);have hu6:=hu5.patch p hat6 ak (by omega);rw[r7 (by omega) (by omega)] at hu6
    have hsz6:w.heap.size < w6.heap.size:=by rw[p.size];exact hsz5
    have hx:=(A (val n2)).2 ho P;have HJ:=(show Hid _ from c (g - 1) n2 (by omega) (by omega) hnw6 ak hx.2.1 hx.2.2)
    clear hx A c HN y r j x u hP q aw am W hu5 au ah M p ab I ay aE O P aa aj;go_wp2_with fail;go_step3;refine And.intro (Eq.refl 0) (And.intro ?_ ?_)
    ·exact⟨a,lq.set a (g - 1),patch v a n2,_,_,_,_,_,_,_,_,_,_,_,_,_,_,_,_,_,_,_,_,_,_,_,_,_,_,_,_,_,_,_,_,_,_,_,_,_,_,_,_,_,_,_,_,_,_,_,rfl,by omega,HJ.out,hq6,hfq6,hu6,hfu6,hv6,hsz6,HB6.out⟩
    ·simp[intOf]
end
end
section
open Go.RowKit Lim
section
variable {l L:List Int}{k s:Nat}
theorem DF(wl:Words l){n:Nat}(hn:l.length=n+1):nth l n * 18446744073709551616 ^ n<=val l/\val l < (nth l n+1) * 18446744073709551616 ^ n:=by
 have e1:=bL l n (by omega);have b:=aO (wl.take n);have a:=dJ (wl.take n);rw[List.length_take,Nat.min_eq_left (by omega)] at a;rw[et (by omega),List.drop_of_length_le (show l.length<=n+1 by omega)] at e1
 have e2:(18446744073709551616:Int) ^ n * (nth l n+18446744073709551616 * val [])=nth l n * 18446744073709551616 ^ n:=by
  rw[show val []=0 from rfl];grind
 rw[e2] at e1;rw[Int.add_mul (nth l n) 1];omega
theorem fy{a b p:Int}(hp:0 < p)(h:a * p < b * p):a < b:=Int.lt_of_mul_lt_mul_right h (Int.le_of_lt hp)
theorem uG{a:List Int}(j:Words L)(hL:L.length=k+2)(f:Words a)(hv:a.length=k+3)(hs:s<=63)(e:val a=val L * 2 ^ s)(m:9223372036854775808<=nth L (k+1) * 2 ^ s)(h:nth L (k+1) * 2 ^ s < 18446744073709551616):aI a=k+2/\9223372036854775808<=nth a (k+1):=by
 obtain⟨t1,t2⟩:=DF (n:=k+1) j hL;obtain⟨p,q⟩:=DF (n:=k+2) f hv
 have b:(0:Int) < 2 ^ s:=Int.pow_pos (by decide);have d:=pow_pos (k+1);have hC:=pow_pos (k+2)
 have c1:(nth L (k+1)+1) * 2 ^ s<=18446744073709551616:=by
  have hd:(18446744073709551616:Int)=2 ^ (64 - s) * 2 ^ s:=by rw[<- Int.pow_add,show 64 - s+s=64 by omega];rfl
  rw[hd] at h ⊢;have:=fy b h;exact Int.mul_le_mul_of_nonneg_right (by omega) (Int.le_of_lt b)
 have c2:val a < 1 * 18446744073709551616 ^ (k+2):=by
  have k1:val L * 2 ^ s < (nth L (k+1)+1) * 18446744073709551616 ^ (k+1) * 2 ^ s:=Int.mul_lt_mul_of_pos_right t2 b
  have l:(nth L (k+1)+1) * 2 ^ s * 18446744073709551616 ^ (k+1)<=18446744073709551616 * 18446744073709551616 ^ (k+1):=Int.mul_le_mul_of_nonneg_right c1 (Int.le_of_lt d);rw[Int.mul_right_comm] at k1;rw[Int.pow_succ _ (k+1),Int.mul_comm _ 18446744073709551616];omega
 have c3:nth a (k+2) < 1:=fy hC (by omega)
 have g:nth a (k+2)=0:=by have:=f.nth (k+2);omega
 have e1:=bL a (k+2) (by omega);rw[et (by omega),List.drop_of_length_le (show a.length<=k+2+1 by omega),g,show val []=0 from rfl] at e1;obtain⟨v1,v2⟩:=DF (n:=k+1) (f.take (k+2)) (by simp;omega);rw[dA (by omega)] at v1 v2
 have r:9223372036854775808 * 18446744073709551616 ^ (k+1)<=val a:=by
  have k1:nth L (k+1) * 18446744073709551616 ^ (k+1) * 2 ^ s<=val L * 2 ^ s:=Int.mul_le_mul_of_nonneg_right t1 (Int.le_of_lt b)
  have l:9223372036854775808 * 18446744073709551616 ^ (k+1)<=nth L (k+1) * 2 ^ s * 18446744073709551616 ^ (k+1):=Int.mul_le_mul_of_nonneg_right m (Int.le_of_lt d);rw[Int.mul_right_comm] at k1;omega
 have o:9223372036854775808 < nth a (k+1)+1:=fy d (by omega);refine⟨ku (by omega) ?_ ?_,by omega⟩
 ·intro i hi;by_cases c:i=k+2
  ·subst c;exact g
  ·simp[nth,List.getElem?_eq_none (show a.length<=i by omega)]
 ·intro _;rw[show k+2 - 1=k+1 from rfl];omega
theorem Ec{N:Nat}(wl:Words l)(e:l.length=N)(b:Words L)(hL:L.length=k+2)(a:1<=nth L (k+1))(i:k+2<=N) :
  val l * 2 ^ s < val L * 2 ^ s * 18446744073709551616 ^ (N+1 - (k+2)):=by
 obtain⟨t1,t2⟩:=DF (n:=k+1) b hL
 have g:(0:Int) < 2 ^ s:=Int.pow_pos (by decide);have h:=pow_pos (k+1);have c:=pow_pos (N+1 - (k+2));have f:=dJ wl;rw[e] at f
 have k1:1 * 18446744073709551616 ^ (k+1)<=nth L (k+1) * 18446744073709551616 ^ (k+1):=Int.mul_le_mul_of_nonneg_right a (Int.le_of_lt h)
 have d:18446744073709551616 ^ (k+1) * 18446744073709551616 ^ (N+1 - (k+2))<=val L * 18446744073709551616 ^ (N+1 - (k+2)):=Int.mul_le_mul_of_nonneg_right (by omega) (Int.le_of_lt c);rw[<- Int.pow_add,show k+1+(N+1 - (k+2))=N by omega] at d;rw[Int.mul_right_comm];exact Int.mul_lt_mul_of_pos_right (by omega) g
theorem BN{x V Q R P:Int}(c:0 < P)(i:0 < V)(e:x * P=Q * (V * P)+R)(r0:0<=R)(r1:R < V * P):Q=x / V/\R / P=x % V:=by
 have f:R=(x - Q * V) * P:=by rw[Int.sub_mul,e,Int.mul_assoc];omega
 have hd:R / P=x - Q * V:=by rw[f,Int.mul_ediv_cancel _ (by omega)]
 have h:0<=x - Q * V:=by rw[<- hd];exact Int.ediv_nonneg r0 (Int.le_of_lt c)
 have g:x - Q * V < V:=fy c (by rw[<- f];exact r1);have d:=(Int.ediv_emod_unique (a:=x) (b:=V) (r:=x - Q * V) (q:=Q) i).2 ⟨by rw[Int.mul_comm V];omega,h,g⟩;exact⟨d.1.symm,by rw[hd];exact d.2.symm⟩
theorem yG(ao:Option Addr)(n c b o:Nat)(ao':Option Addr)(n' c' b' o':Nat)(l d:List Int)(w:World)(hl:l.length=n)(hl':d.length=n')(hc:n<=c)(hc':n'<=c')(hbig:n<=1099511627776)(hbig':n'<=1099511627776)(wl:Words l)(y:Words d)(ha:At w ao b o l)(ha':At w ao' b' o' d)(hge:val d<=val l)(h2:2<=aI d) :
  Calls Tryz.prog 58 #[.slice ao n c,.slice ao' n' c'] w fun e w'=>kh w w' e (val l) (val d) n n':=by
 have h0:=aO wl;have hn:=bI l
 have hn':=bI d
 have hNN:aI d<=aI l:=by
  by_cases c:aI l < aI d
  ·have:=dG wl y c;omega
  ·omega
 have t1:=bH ao' n' c' d w hl' hc' (by omega) ha'.cells
 have z:=ha'.sub (aI d);rw[show d.take (aI d)=norm d from rfl] at z;have t2:=jS ao n c b o ao' (aI d) (aI d) b' o' l (norm d) w hl (aL d) hc (Nat.le_refl _) (by omega) (by omega) wl y.norm ha z;rw[dj] at t2
 have hs0:0<=sgn (val l) (val d):=by unfold sgn;split<;>(try split)<;>omega
 have f:=aL d
 have B:=y.norm
 have g:=dj d
 have htop:nth (norm d) (aI d - 1)≠0:=by rw[gC];exact iU (by omega)
 generalize norm d=L' at *;generalize v:aI d=r at *;obtain⟨m,hm⟩:∃ m,r=m+1:=⟨r - 1,by omega⟩
 rw[show r - 1=m by omega] at htop
 have hmi:(r:Int) - 1=m:=by omega
 have hmN:m < r:=by omega
 have hmN':(m:Int) < r:=by omega
 have hty:=B.nth m;rcases z.loc with e | rfl
 ·subst e;simp at f;omega
 generalize sgn (val l) (val d)=sg at *;have H1:=(show Hid _ from And.intro g (And.intro hm (And.intro f (And.intro hge (And.intro hl v)))))
 clear g hm f v;go_enter Tryz.func58,Tryz.ntmps58;go_wp2_with fail;refine t1.mono ?_
 rintro e w1 ⟨rfl,rfl⟩;go_wp2_with fail;refine t2.mono ?_
 rintro e w2 ⟨rfl,q⟩;have hcy:=(z.keep q).cell m (by rw[H1.out.2.2.1];exact hmN);clear t1 t2;go_wp2_with fail;refine(Fg (nth L' m) w2 (by omega) hty.2).mono ?_
 rintro e w3 ⟨s,rfl,hs,HS,rfl⟩;have ta:=bH ao n c l w3 hl hc (by omega) (ha.keep q).cells;have hsa:=(ha.keep q).sub (aI l);rw[show l.take (aI l)=norm l from rfl] at hsa;have O:=aL l;have W:=wl.norm;have HV:=(show Hid _ from dj l)
 rw[hl] at hn;generalize norm l=L at *;generalize aI l=N at *;clear hcy;go_wp2_with fail;refine ta.mono ?_
 rintro e w4 ⟨rfl,rfl⟩;clear ta;go_wp2_with fail;refine(o4 ao N N b o s L w4 O (Nat.le_refl _) (by omega) hs W hsa).mono ?_
 rintro e w5 ⟨lu,rfl,hlu,hwu,hatu,hfu,aa,T,P⟩;have hs5:=(z.keep q).keep P;have HU:=(show Hid _ from And.intro hlu (And.intro T O))
 clear hlu T O;go_wp2_with fail;refine(o4 (some ⟨b',o',none⟩) r r b' o' s L' w5 H1.out.2.2.1 (Nat.le_refl _) (by omega) hs B hs5).mono ?_
 rintro e w6 ⟨Q,rfl,hlv,hwv,I,hfv,hszv,A,E⟩;obtain⟨k,hk⟩:∃ k,k+2=r:=⟨r - 2,by omega⟩
 obtain⟨q0,u⟩:∃ q0,q0+(k+2)=N+1:=⟨N+1 - (k+2),by omega⟩
 obtain⟨g,hm,f,Y,R,v⟩:=H1.out
 have hmk:m=k+1:=by omega
 have F:=uG (k:=k) B (by omega) hwv (by omega) hs A (by rw[<- hmk];exact HS.out.1) (by rw[<- hmk];exact HS.out.2);have M:=Ec (s:=s) (N:=N) (k:=k) (l:=L) (L:=L') W HU.out.2.2 B (by omega) (by rw[<- hmk];omega) (by omega);rw[<- HU.out.2.1,<- A,show N+1 - (k+2)=q0 by omega] at M;have tv:=bH (some ⟨w5.heap.size,0,none⟩) (r+1) (r+1) Q w6 hlv (Nat.le_refl _) (by omega) I.cells;rw[F.1,hk] at tv;have hsv:=I.sub (aI Q);rw[show Q.take (aI Q)=norm Q from rfl] at hsv;have t:=aL Q;rw[F.1] at t;have K:=mQ w4.heap.size 0 (N+1) (some ⟨w5.heap.size,0,none⟩) k q0 r w5.heap.size 0 lu (norm Q) w6 (by rw[u];exact HU.out.1) t (by omega) (by omega) (by omega) (by omega) hwu hwv.norm (hatu.keep E) (by rw[u];exact dI.below E hfu aa) hsv (by omega) (by rw[gC];exact F.2) (by rw[dj];exact M);rw[u,hk,dj] at K;have HK:=(show Hid _ from And.intro hk (And.intro u (And.intro A hmk)))
 have hq0n:q0<=N:=by omega
 clear g hm f v hk u hmk F M t A R;go_wp2_with fail;refine tv.mono ?_
 rintro e w7 ⟨rfl,rfl⟩;clear tv;go_wp2_with fail;refine K.mono ?_
 rintro e w8 ⟨lq,lr,rfl,C,ab,hfq,hatr,U,hbd⟩;clear K
 have G:lr.length=N+1:=by rw[C.Ei];exact HK.out.2.1
 have S:=(show Hid _ from C)
 have H:=C.wu;clear C;go_wp2_with fail;refine(yu (some ⟨w4.heap.size,0,none⟩) w4.heap.size 0 (N+1) (N+1) s lr w8 G (by omega) (Nat.le_refl _) hs H hatr U).mono ?_
 rintro e w9 ⟨rfl,V,x,hwz,J,j,D⟩;have hq9:=ab.wr j (.inr (by omega));have hfq9:=j.free hfq;have hfz9:=j.free U;have tq:=bH (some ⟨w7.heap.size,0,none⟩) q0 q0 lq w9 S.out.Em (Nat.le_refl _) (by omega) hq9.cells;have tr:=bH (some ⟨w4.heap.size,0,none⟩) (N+1) (N+1) V w9 x (Nat.le_refl _) (by omega) J.cells;have hz1:=bI V;have hz2:=bI lq;rw[S.out.Em] at hz2;rw[x] at hz1;have HX:=(show Hid _ from And.intro G (And.intro x D))
 clear G x D;go_wp2_with fail;refine tq.mono ?_
 rintro e w10 ⟨rfl,rfl⟩;go_wp2_with fail;refine tr.mono ?_
 rintro e w11 ⟨rfl,rfl⟩;clear tq tr;go_wp2;go_ret3;have hsq:=hq9.sub (aI lq);have hsz:=J.sub (aI V);have p:=q.size;have hsz5:=P.size;have hsz7:=E.size
 have HB:Below w1.heap.size w1 w11:=(((q.trans (P.mono p)).trans (E.mono (by omega))).trans (hbd.mono p)).trans (j.below p);obtain⟨g,hm,f,Y,R,v⟩:=H1.out;obtain⟨G,x,D⟩:=HX.out;have he:=S.out.eq;have Z:=S.out.lt;rw[HU.out.2.1,HV.out,HK.out.2.2.1,g,Int.pow_zero,Int.one_mul,List.drop_zero] at he;rw[HK.out.2.2.1,g,Int.pow_zero,Int.mul_one] at Z
 have hV:0 < val d:=by
  have:val d≠0:=fun e=>by have:=(cA y).2 e;omega
  have:=aO y;omega
 have X:=BN (gg s hs).1 hV he (aO H) Z;have i1:=cE S.out.wq;have i2:=cE hwz;rw[X.1] at i1;rw[D,X.2] at i2;exact⟨_,_,norm lq,norm V,rfl,dK.of (aL lq).symm (Nat.le_refl _) (by omega) hsq (fun i hi=>hfq9 i (by omega)),dK.of (aL V).symm (Nat.le_refl _) p hsz (fun i hi=>hfz9 i (by omega)),i1,i2,by rw[aL];omega,by rw[aL];omega,HB⟩
theorem pZ(ao:Option Addr)(n c b o:Nat)(ao':Option Addr)(n' c' b' o':Nat)(l f:List Int)(w:World)(m:l.length=n)(h:f.length=n')(hc:n<=c)(i:n'<=c')(d:n<=1099511627776)(a:n'<=1099511627776)(wl:Words l)(g:Words f)(k:At w ao b o l)(j:At w ao' b' o' f)(p:val f≠0) :
  Calls Tryz.prog 58 #[.slice ao n c,.slice ao' n' c'] w fun e w'=>kh w w' e (val l) (val f) n n':=by
 by_cases q:val l < val f
 ·exact div_lt ao n c b o ao' n' c' b' o' l f w m h hc i d a wl g k j q
 ·have s:aI f≠0:=fun e=>p ((cA g).1 e)
  by_cases r:aI f=1
  ·exact div_one ao n c b o ao' n' c' b' o' l f w m h hc i d a wl g k j (by omega) r
  ·exact yG ao n c b o ao' n' c' b' o' l f w m h hc i d a wl g k j (by omega) (by omega)
theorem uP(ao:Option Addr)(n c b o:Nat)(ao':Option Addr)(n' c' b' o':Nat)(ad:Option Addr)(g y N M:Nat)(l p i:List Int)(w:World)(S:l.length=n)(A:p.length=n')(I:i.length=g)(hc:n<=c)(C:n'<=c')(z:g<=y)(L:n<=274877906944)(F:n'<=274877906944)(D:g<=274877906944)(wl:Words l)(G:Words p)(wd:Words i)(R:At w ao b o l)(E:At w ao' b' o' p)(t:At w ad N M i)(K:val i≠0) :
  Calls Tryz.prog 106 #[.slice ao n c,.slice ao' n' c',.slice ad g y] w fun e w'=>kh w w' e (val l * val p) (val i) (n+n') g:=by
 go_enter Tryz.func106,Tryz.ntmps106;go_wp2_with fail;refine(pM ao n c b o ao' n' c' b' o' l p w S A hc C (by omega) (by omega) wl G R E).mono ?_
 rintro e X ⟨v,r,rfl,s,O,hlen,d⟩;obtain⟨W,U,or',Y,rfl,H,Z,m,_⟩:=s.is;have j:=t.keep d;have f:=d.size;have t2:=pZ W r.length Y U or' ad g y N M r i X rfl I H z (by omega) (by omega) O.1 wd m j K;rw[O.2.2] at t2;go_wp2_with fail;refine t2.mono ?_
 rintro e w2 ⟨q,u,Q,ru,rfl,T,hu,J,x,V,P,B⟩;go_wp2;go_ret3;exact⟨q,u,Q,ru,rfl,T.mono f,hu.mono f,J,x,by omega,by omega,d.trans (B.mono f)⟩
end
end
section
open Go.RowKit Lim
section
variable {w:World}{B:Nat}{v:Value}{l l1:List Int}{c m c0:Int}
def eD(w:World)(B:Nat)(v:Value)(l:List Int):Prop:=w.ownsRow B 22 1 v l.length (l.map (Value.int .u64))
theorem eD.open(h:eD w B v l):∃ ao c,v=.slice ao l.length c/\l.length<=c/\c<=maxLen/\∃ g,(l=[]\/ao=some ⟨g,0,none⟩)/\B<=g/\At w ao g 0 l/\dI w g 0 l.length:=by
 obtain⟨_,b⟩:=h;rcases b with⟨rfl,h0⟩ | ⟨g,cap,cur,rfl,hB,hh,hle,hmx,hsz,htk⟩
 ·have e:l=[]:=List.eq_nil_of_length_eq_zero h0;subst e;exact⟨none,0,rfl,Nat.le_refl _,by decide,B,.inl rfl,Nat.le_refl _,⟨.inl rfl,fun i hi=>by simp at hi⟩,fun i hi=>by simp at hi⟩
 ·refine⟨some ⟨g,0,none⟩,cap,rfl,hle,hmx,g,.inr rfl,hB,⟨.inr rfl,fun i hi=>?_⟩,fun i hi=>?_⟩
  ·have e:cur.toList[i]?=some (.int .u64 (nth l i)):=by
    have a:(cur.toList.take (l.length * 1))[i]?=some (.int .u64 (nth l i)):=by
     rw[htk,List.getElem?_map,List.getElem?_eq_getElem hi,b8 hi];rfl
    rwa [Nat.mul_one,List.getElem?_take_of_lt hi] at a
   simp only[World.cell?,hh];simpa using e
  ·simp[World.frozen?,hh]
theorem eD.setCell(h:eD w B v l){c g:Nat}(hv:v=.slice (some ⟨g,0,none⟩) l.length c){i:Nat}(hi:i < l.length)(x:Int):eD (w.setCell ⟨g,0+i,none⟩ (.int .u64 x)) B v (l.set i x):=by
 obtain⟨_,a⟩:=h;refine⟨by simp,?_⟩;rcases a with⟨rfl,h0⟩ | ⟨g',cap,cur,rfl,hB,hh,hle,hmx,hsz,htk⟩
 ·omega
 ·simp only[Value.slice.injEq,Option.some.injEq,Addr.mk.injEq,and_true,true_and] at hv;obtain⟨rfl,rfl⟩:=hv;right;refine⟨g',cap,cur.setIfInBounds i (.int .u64 x),by simp,hB,?_,by simpa using hle,hmx,by simpa using hsz,?_⟩
  ·simp only[World.setCell,Array.getElem?_modify,if_true,hh,Nat.zero_add];simp
  ·rw[List.length_set,Nat.mul_one] at *;rw[Array.toList_setIfInBounds,List.map_set,<- htk,List.take_set]
theorem eD.new{w':World}(h:eD w' w.heap.size v l):dK w w' v l:=by
 obtain⟨ao,c,rfl,hc,_,g,_,hg,hat,hf⟩:=h.open;exact⟨ao,g,0,c,rfl,hc,hg,hat,hf⟩
structure nC(l:List Int)(m c0:Int)(k:Nat)(l1:List Int)(c:Int):Prop where
 len:l1.length=l.length
 words:Words l1
 high:∀ i,k<=i->nth l1 i=nth l i
 val:Lim.val (l1.take k)+18446744073709551616 ^ k * c=Lim.val (l.take k) * m+c0
theorem nC.step{a c':Int}{k:Nat}(h:nC l m c0 k l1 c)(g:k < l.length)(b:0<=a)(d:a < 18446744073709551616)(e:a+18446744073709551616 * c'=nth l k * m+c):nC l m c0 (k+1) (l1.set k a) c':=by
 have f:=h.len;refine⟨by simp[f],h.words.set k b d,fun i hi=>by rw[dH (by omega),if_neg (by omega)];exact h.high i (by omega),?_⟩;have j:=h.val;rw[dB (by simp[f];omega),dB g,List.take_set_of_le (Nat.le_refl _),dH (by omega),if_pos rfl,Int.pow_succ];have:18446744073709551616 ^ k * (a+18446744073709551616 * c')=18446744073709551616 ^ k * (nth l k * m+c):=by rw[e]
 grind
theorem oS(n:Nat)(w:World)(hn:n<=19):Calls Tryz.prog 137 #[.int .i64 n] w fun e w'=>e=.returned (.int .u64 (10 ^ n))/\w'=w:=by
 go_enter Tryz.func137,Tryz.ntmps137;go_wp2;go_loop [3,5] (fun g c=>∃ (k:Nat) (p:Int),k<=n/\c=.int .i64 k/\g=.int .u64 p/\Hid (p=10 ^ k)) (fun _ c=>n - (intOf c).toNat)
 case atStart=>exact⟨0,1,Nat.zero_le _,rfl,rfl,rfl⟩
 case round =>
  obtain⟨k,p,j,rfl,rfl,b⟩:=hrel;by_cases f:k < n
  ·have i:(1:Int)<=p:=by rw[b.out]; exact Int.pow_pos (by decide)
   have l:p<=1000000000000000000:=by
    rw[b.out];have:(10:Nat) ^ k<=10 ^ 18:=Nat.pow_le_pow_right (by decide) (by omega)
    have e:((10 ^ k:Nat):Int)=(10:Int) ^ k:=by rw[Int.natCast_pow];rfl
    rw[<- e];omega
   go_wp2;go_round
   case rel=>exact⟨k+1,p * 10,by omega,by go_num,rfl,by show _=_;rw[Int.pow_succ,<- b.out]⟩
   case measure=>simp[intOf];omega
  ·have d:k=n:=by omega
   subst d;go_wp2;go_ret;exact⟨kE b.out,rfl⟩
theorem xq(hc:c≠0):aI (l ++ [c])=(l ++ [c]).length:=by
 apply ku (Nat.le_refl _)
 ·intro i hi;exact gl hi
 ·intro _;rw[List.length_append,List.length_singleton,Nat.add_sub_cancel,bP (Nat.le_refl _),Nat.sub_self,cQ];exact hc
theorem uz{r:List Int}(wl:Words l)(wr:Words r)(hlen:r.length=l.length)(hv:val r=val l * m+c)(hm:0 < m)(hc:0<=c)(hn:aI l=l.length):aI r=r.length:=by
 have d:=bI r;by_cases h:l.length=0
 ·omega
 have f:=eF wl (by omega);have g:=iF wr;have b:=aO wl
 have e:val l * 1<=val l * m:=Int.mul_le_mul_of_nonneg_left (by omega) b;by_cases a:aI r < r.length
 ·have:=iw (show aI r<=aI l - 1 by omega);omega
 ·omega
theorem nC.fin(h:nC l m c0 l.length l1 c):Lim.val (l1 ++ [c])=Lim.val l * m+c0:=by
 have a:=h.val;rw[List.take_of_length_le (by rw[h.len];exact Nat.le_refl _),List.take_of_length_le (Nat.le_refl _)] at a;rw[ez,eP,h.len];exact a
theorem py(B:Nat)(v:Value)(l:List Int)(m c0:Int)(w:World)(hB:B<=w.heap.size)(b:eD w B v l)(H:l.length<=1099511627776)(wl:Words l)(K:0<=m)(U:m < 18446744073709551616)(J:0<=c0)(N:c0 < 18446744073709551616) :
  Calls Tryz.prog 192 #[v,.int .u64 m,.int .u64 c0] w fun e w'=>∃ v' r,e=.returned v'/\eD w' B v' r/\Words r/\val r=val l * m+c0/\r.length<=l.length+1/\(aI l=l.length->0 < m->aI r=r.length)/\Below B w w':=by
 obtain⟨i0,hi,T,X,Y⟩:=info_parts il;obtain⟨ao,cap,rfl,G,hmax,g,p,hBg,_,_⟩:=b.open
 have Q:∃ n,n=l.length:=⟨_,rfl⟩
 obtain⟨n,hn⟩:=Q
 have P:n<=l.length:=by omega
 have hn2:l.length<=n:=by omega
 have s:Hid (n=l.length):=hn;rw[<- hn] at b H G ⊢;clear hn;go_enter Tryz.func192,Tryz.ntmps192;go_wp2;go_loopw [2,13] (fun tc Z wr=>∃ (k:Nat) (c:Int) (l1:List Int),k<=n/\Z=.int .i64 k/\tc=.int .u64 c/\0<=c/\c < 18446744073709551616/\nC l m c0 k l1 c/\eD wr B (.slice ao n cap) l1/\Below B w wr) (fun _ Z _=>n - (intOf Z).toNat)
 case atStart=>exact⟨0,c0,l,Nat.zero_le _,rfl,rfl,J,N,⟨rfl,wl,fun _ _=>rfl,by simp[val]⟩,b,Below.refl _ _⟩
 case round =>
  clear b;obtain⟨k,c,l1,hk,rfl,rfl,q,I,hinv,b,d⟩:=hrel;have j:=hinv.len;by_cases hlt:k < n
  ·rcases p with e | rfl
   ·subst e;simp at P;omega
   obtain⟨ao',c',e',_,_,L,f,E,A,z⟩:=b.open;simp only[Value.slice.injEq] at e';obtain⟨rfl,e1,rfl⟩:=e'
   have W:L=g:=by
    rcases f with e | e
    ·subst e;simp at e1;omega
    ·simpa using e.symm
   subst W;have C:=A.cell k (by omega);have S:=z k (by omega);rw[Nat.zero_add] at C S;rw[hinv.high k (Nat.le_refl _)] at C;obtain⟨V,R⟩:=wl.nth k
   have HI:Hid (nC l m c0 k l1 c):=hinv
   have HM:Hid (eD wr B (.slice (some ⟨L,0,none⟩) n cap) l1):=b
   have HB:Hid (Below B w wr):=d
   have HE:Hid (n=l1.length):=e1;clear hinv b d A z f e1 wl
   go_wp2_with (first
    | (go_at_call 118;refine(lY _ _ V R K U _).mono ?_;rintro e w' ⟨O,lo,rfl,h1,h2,h3,h4,h5,rfl⟩)
    | simp only[sl _ _ h3 q])
   have hxm:nth l k * m<=340282366920938463426481119284349108225:=by
    have:=Int.mul_le_mul (show nth l k<=18446744073709551615 by omega) (show m<=18446744073709551615 by omega) K (by decide);simpa using this
   have h5':=h5.out
   have e5:(lo+c) % 18446744073709551616+18446744073709551616 * (O+(lo+c) / 18446744073709551616)=nth l k * m+c:=by omega
   have HN:=HM.out.setCell (c:=cap) (g:=L) (by rw[<- HE.out]) (i:=k) (by omega) ((lo+c) % 18446744073709551616);rw[Nat.zero_add] at HN;go_roundw
   case rel=>exact⟨k+1,_,_,by omega,by go_num,rfl,by omega,by omega,HI.out.step (by omega) (Int.emod_nonneg _ (by decide)) (Int.emod_lt_of_pos _ (by decide)) e5,HN,HB.out.setCell E _⟩
   case measure=>simp[intOf];omega
  ·have M:k=n:=by omega
   subst M
   have HF:Hid (val (l1 ++ [c])=val l * m+c0):=by rw[s.out] at hinv;exact hinv.fin
   have t:=hinv.words;by_cases hc:c=0
   ·subst hc;go_wp2;go_ret
    have F:val l1=val l * m+c0:=by rw[<- HF.out,ez];simp[val]
    refine⟨_,l1,rfl,b,t,F,by omega,fun h1 h2=>uz wl t (by omega) F h2 J (by omega),d⟩
   ·have hcb:(c != 0)=true:=by rw[bne_iff_ne]; exact hc
    have D:wr.ownsRow B 22 1 (.slice ao k cap) k (l1.map (Value.int .u64)):=by have:=b;unfold eD at this;rwa [j,<- s.out] at this
    have hsz:=d.size;go_wp2_with (at_builtin;refine wpList_append_own _ rfl _ _ 30 rfl B 22 i0 (.int .u64 0) 1 8 gG hi T X Y rfl (by decide) _ _ _ rfl (D.alloc _) ⟨wr.heap.size,0,none⟩ 1 1 [.int .u64 c] rfl rfl ?c1 ?c2 ?c3 ?c4 ?c5 ?_)
    case c1=>exact cell_one_new _ _ _
    case c2=>intro u hu;simp at hu;subst hu;rfl
    case c3=>unfold maxLen;omega
    case c4=>omega
    case c5=>simp;omega
    intro v' w1 y x _;go_wp2;go_ret
    have hM:eD w1 B v' (l1 ++ [c]):=by
     unfold eD;rw[List.length_append,j,<- s.out,List.map_append];exact y
    refine⟨_,l1 ++ [c],rfl,hM,t.append (Words.cons q I Words.nil),HF.out,by simp;omega,fun _ _=>xq hc,?_⟩
    exact(d.alloc (by omega) _).grown x (by simp; omega) (by
     intro g1 o;rcases p with e | rfl
     ·subst e;rcases b.2 with⟨e2,_⟩ | ⟨g2,cap2,cur2,e2,hB2,_⟩
      ·rw[e2] at o;simp[Value.ownBlock] at o
      ·rw[e2] at o;simp[Value.ownBlock] at o;omega
     ·simp[Value.ownBlock] at o;omega)
end
end
section
open Go.RowKit Lim
section
variable {w:World}{l:List Int}{ops:Array Oper}{rest:List Oper}
theorem eD.cell{B g n c:Nat}(h:eD w B (.slice (some ⟨g,0,none⟩) n c) l){i:Nat}(hi:i < l.length):w.cell? ⟨g,i,none⟩=some (.int .u64 (nth l i))/\w.frozen? ⟨g,i,none⟩=false:=by
 obtain⟨p,o,e,_,_,k,a,_,d,b⟩:=h.open;simp only[Value.slice.injEq] at e;obtain⟨rfl,_,_⟩:=e
 have m:k=g:=by
  rcases a with e | e
  ·subst e;simp at hi
  ·simpa using e.symm
 subst m;have f:=d.cell i hi;have j:=b i hi;rw[Nat.zero_add] at f j;exact⟨f,j⟩
theorem yo{o:Oper}{a:Act}{Q:Exit->Act->World->Prop}(k:o.guard=none)(l c:Operand)(d:o.op=Op.makeSlice 30 l c)(n m:Nat)(L C:Int)(j:a.eval l=.int .i64 L)(hc:a.eval c=.int .i64 C)(hL:L=(n:Int))(hC:C=(m:Int))(f:n<=m)(hn:m<=17592186044416)(h:∀ w',eD w' w.heap.size (.slice (some ⟨w.heap.size,0,none⟩) n m) (List.replicate n 0)->Below w.heap.size w w'->w'.heap.size=w.heap.size+1->wpList Tryz.prog ops Q rest (a.put o.dst (.slice (some ⟨w.heap.size,0,none⟩) n m)) w') :
  wpList Tryz.prog ops Q (o :: rest) a w:=by
 obtain⟨i,hi,g,hs,hb⟩:=info_parts il;refine wpList_plain k fun K e=>?_
 have b:=run_make (P:=Tryz.prog) w 30 22 i (.int .u64 0) gG hi g .i64 .i64 (n:Int) (m:Int) (by omega) (by omega) (by rw[hb];omega) (by omega);subst hL;subst hC;unfold Oper.wp;simp only[execOp,d,j,hc];simp[b,Result.andThen];refine e _ _ (h _ ⟨by simp,.inr ⟨w.heap.size,m,((List.replicate m 0).map (Value.int .u64)).toArray,by simp,Nat.le_refl _,?_,by simpa using f,by unfold maxLen;omega,by simp,?_⟩⟩ ?_ ?_)
 ·show (w.heap.push _)[w.heap.size]?=_
  rw[Array.getElem?_push_size,hs,Nat.mul_one,rL]
 ·simp;omega
 ·exact(Below.refl _ _).alloc (Nat.le_refl _) _
 ·simp
theorem xz(n:Nat)(w:World)(hn:n<=4096) :
  Calls Tryz.prog 141 #[.int .i64 n] w fun e w'=>∃ v r,e=.returned (.tuple #[v,.int .i64 0])/\dK w w' v r/\IsN r (10 ^ n)/\r.length<=n+2/\Below w.heap.size w w':=by
 obtain⟨q,P⟩:∃ q:Nat,q=n / 19:=⟨_,rfl⟩
 obtain⟨t,O⟩:∃ t:Nat,t=n % 19:=⟨_,rfl⟩
 have Y:(n:Int) / 19=q:=by omega
 have M:(n:Int) % 19=t:=by omega
 have U:t < 19:=by omega
 have R:Hid (n=19 * q+t):=by show _=_;omega
 have L:q<=n:=by omega
 clear P O
 have T:decide ((n:Int) < 0)=false:=by simp
 have Q:decide (4096 < (n:Int))=false:=by simp;omega
 go_enter Tryz.func141,Tryz.ntmps141;go_wp2_with (at_make;refine yo rfl _ _ rfl 1 (q+1) _ _ rfl rfl rfl (by omega) (by omega) (by omega) ?_;intro w1 b m j;have F:=b.cell (i:=0) (by simp);obtain⟨G,I⟩:=F);have s:=b.setCell (c:=q+1) (g:=w.heap.size) rfl (i:=0) (by simp) 1;rw[show (List.replicate 1 (0:Int)).set 0 1=[1] from rfl,Nat.add_zero] at s;have B:=m.setCell (p:=⟨w.heap.size,0,none⟩) (Nat.le_refl _) (.int .u64 1);clear b m G I;go_loopw [4,19] (fun V H wr=>∃ (k:Nat) (l:List Int),k<=q/\H=.int .i64 k/\eD wr w.heap.size V l/\Words l/\Hid (aI l=l.length)/\Hid (val l=10 ^ (19 * k))/\l.length<=k+1/\Below w.heap.size w wr) (fun _ H _=>q - (intOf H).toNat)
 case atStart=>exact⟨0,[1],Nat.zero_le _,rfl,s,Words.cons (by decide) (by decide) Words.nil,rfl,rfl,by simp,B⟩
 case round =>
  clear s B j;obtain⟨k,l,hk,rfl,hm,wl,C,hv,hlen,y⟩:=hrel;have j:=y.size;by_cases S:k < q
  ·go_wp2_with (go_at_call 192;refine(py w.heap.size _ l 10000000000000000000 0 _ j hm (by omega) wl (by decide) (by decide) (by decide) (by decide)).mono ?_;rintro e N ⟨J,r,rfl,o,u,f,z,A,d⟩);have e1:=hv.out;have e2:=A C.out (by decide);go_roundw
   case rel=>exact⟨k+1,r,by omega,by go_num,o,u,e2,by show _=_;rw[f,e1,Int.add_zero,show 19 * (k+1)=19 * k+19 from by omega,Int.pow_add];rfl,by omega,y.trans d⟩
   case measure=>simp[intOf];omega
  ·have E:k=q:=by omega
   have X:Hid (k=q):=E;clear E
   have D:(0:Int) < 10 ^ t:=Int.pow_pos (by decide)
   have x:(10:Int) ^ t < 18446744073709551616:=by
    have:(10:Nat) ^ t<=10 ^ 18:=Nat.pow_le_pow_right (by decide) (by omega)
    have e:((10 ^ t:Nat):Int)=(10:Int) ^ t:=by rw[Int.natCast_pow];rfl
    have e2:(10:Nat) ^ 18=1000000000000000000:=by decide
    omega
   have K:=oS t wr (by omega);generalize hp:(10:Int) ^ t=p at *
   have W:Hid ((10:Int) ^ t=p):=hp;clear hp;go_wp2_with fail;refine K.mono ?_
   rintro e Z ⟨rfl,rfl⟩;go_wp2_with fail;refine(py w.heap.size _ l p 0 _ j hm (by omega) wl (by omega) x (by decide) (by decide)).mono ?_
   rintro e N ⟨J,r,rfl,o,u,f,z,A,d⟩;have e1:=hv.out;have e2:=A C.out D
   have e3:val r=10 ^ n:=by rw[f,e1,Int.add_zero,R.out,Int.pow_add,W.out,X.out]
   clear f;go_wp2;go_ret2;exact⟨J,r,rfl,o.new,⟨u,e2,e3⟩,by omega,y.trans d⟩
end
end
section
open Go.RowKit Lim
end
section
open Go.RowKit Lim
section
variable {w w':World}{ao:Option Addr}{b o:Nat}{l:List Int}
structure AtB(w:World)(ao:Option Addr)(b o:Nat)(l:List Int):Prop where
 loc:l=[]\/ao=some ⟨b,o,none⟩
 cell:∀ i,i < l.length->w.cell? ⟨b,o+i,none⟩=some (.int .u8 (nth l i))
theorem AtB.lt(k:AtB w ao b o l):l=[]\/b < w.heap.size:=by
 cases l with
 | nil=>exact .inl rfl
 | cons x l=>exact .inr (aK (k.cell 0 (by simp)))
theorem AtB.keep(h:Below w.heap.size w w')(k:AtB w ao b o l):AtB w' ao b o l :=
 ⟨k.loc,fun i hi=>by
  rcases k.lt with e | e
  ·subst e;simp at hi
  ·rw[h.cell (p:=⟨b,o+i,none⟩) e];exact k.cell i hi⟩
theorem AtB.wr{n:Nat}(h:Wr b o n w w'){b' o':Nat}(k:AtB w ao b' o' l)(hb:l=[]\/b'≠b):AtB w' ao b' o' l :=
 ⟨k.loc,fun i hi=>by
  rcases hb with e | e
  ·subst e;simp at hi
  ·rw[h.other e];exact k.cell i hi⟩
theorem AtB.setCell(k:AtB w ao b o l){i:Nat}(hi:i < l.length)(x:Int):AtB (w.setCell ⟨b,o+i,none⟩ (.int .u8 x)) ao b o (l.set i x) :=
  ⟨by rcases k.loc with e | e
      · subst e;simp at hi
      · exact .inr e,fun j g=>by
    rw[List.length_set] at g;have hc:=k.cell j g;rw[dH hi];have a:=k.cell i hi;simp only[World.cell?,World.setCell,Array.getElem?_modify,if_true] at hc a ⊢
    cases hh:w.heap[b]? with
    | none=>rw[hh] at hc;simp at hc
    | some ob =>
      rw[hh] at hc a
      cases ob with
      | cells c e f =>
        simp at hc a ⊢;rw[Array.getElem?_setIfInBounds];by_cases e:j=i
        · subst e
          obtain⟨d,_⟩:= Array.getElem?_eq_some_iff.1 a;simp[d]
        · rw[if_neg (by omega),if_neg e];exact hc
      | _=>simp at hc⟩
structure CT(w w':World)(v:Value)(l:List Int):Prop where
 is:∃ ao b o c,v=.slice ao l.length c/\l.length<=c/\w.heap.size<=b/\AtB w' ao b o l/\dI w' b o l.length
def bE(l:List Int):Prop:=∀ x∈l,0<=x/\x < 256
theorem bE.nth(h:bE l)(i:Nat):0<=nth l i/\nth l i < 256:=by
 by_cases hi:i < l.length
 ·exact h _ (lZ hi)
 ·rw[gl (by omega)];decide
def bU:List Int->Int
 | []=>0
 | x :: l=>x * 256 ^ l.length+bU l
theorem bS(h:bE l):0<=bU l/\bU l < 256 ^ l.length:=by
 induction l with
 | nil=>simp[bU]
 | cons x l ih =>
  have c:=ih (fun y hy=>h y (List.mem_cons_of_mem _ hy));have b:=h x List.mem_cons_self
  have a:(0:Int) < 256 ^ l.length:=Int.pow_pos (by decide)
  have e:0<=x * 256 ^ l.length:=Int.mul_nonneg b.1 (Int.le_of_lt a)
  have d:x * 256 ^ l.length<=255 * 256 ^ l.length:=Int.mul_le_mul_of_nonneg_right (by omega) (Int.le_of_lt a);rw[bU,List.length_cons,Int.pow_succ];omega
def IsB(l:List Int)(n:Int):Prop:=bE l/\(l≠[]->nth l 0≠0)/\bU l=n
theorem nW:∀ {a b:List Int},bE a->bE b->a.length=b.length->bU a=bU b->a=b
 | [],[],_,_,_,_=>rfl
 | x :: a,y :: b,ha,hb,hl,hv=>by
  have ha':bE a:=fun z g=>ha z (List.mem_cons_of_mem _ g)
  have f:bE b:=fun z g=>hb z (List.mem_cons_of_mem _ g)
  have d:a.length=b.length:=by simpa using hl
  have i:=bS ha';have j:=bS f;rw[bU,bU,d] at hv;rw[d] at i
  have h:(0:Int) < 256 ^ b.length:=Int.pow_pos (by decide)
  have e:x=y:=by
   rcases Int.lt_trichotomy x y with c | c | c
   ·have:(x+1) * 256 ^ b.length<=y * 256 ^ b.length:=Int.mul_le_mul_of_nonneg_right (by omega) (Int.le_of_lt h);rw[Int.add_mul] at this;omega
   ·exact c
   ·have:(y+1) * 256 ^ b.length<=x * 256 ^ b.length:=Int.mul_le_mul_of_nonneg_right (by omega) (Int.le_of_lt h);rw[Int.add_mul] at this;omega
  subst e;rw[nW ha' f d (by omega)]
theorem wK(h:bE l)(d:l≠[])(a:nth l 0≠0):256 ^ (l.length - 1)<=bU l:=by
 cases l with
 | nil=>exact absurd rfl d
 | cons x l =>
  rw[cQ] at a;have e:=h x List.mem_cons_self;have f:=bS (l:=l) (fun z b=>h z (List.mem_cons_of_mem _ b))
  have c:(0:Int) < 256 ^ l.length:=Int.pow_pos (by decide);have:1 * 256 ^ l.length<=x * 256 ^ l.length:=Int.mul_le_mul_of_nonneg_right (by omega) (Int.le_of_lt c);rw[bU,List.length_cons,Nat.add_sub_cancel];omega
theorem iA{a:Nat}(h:a<=b):(256:Int) ^ a<=256 ^ b:=by
 have:(256:Nat) ^ a<=256 ^ b:=Nat.pow_le_pow_right (by decide) h
 have e1:((256 ^ a:Nat):Int)=(256:Int) ^ a:=by rw[Int.natCast_pow];rfl
 have e2:((256 ^ b:Nat):Int)=(256:Int) ^ b:=by rw[Int.natCast_pow];rfl
 omega
theorem nP{a b:List Int}{n:Int}(c:IsB a n)(hb:IsB b n):a=b:=by
 apply nW c.1 hb.1
 ·have key:∀ {a b:List Int},IsB a n->IsB b n->¬ a.length < b.length:=by
   intro a b c hb d;have f:=(bS c.1).2;have g:=wK hb.1 (fun e=>by subst e;simp at d) (hb.2.1 (fun e=>by subst e;simp at d));rw[c.2.2] at f;rw[hb.2.2] at g;have:=iA (show a.length<=b.length - 1 by omega);omega
  have f:=key c hb;have g:=key hb c;omega
 ·rw[c.2.2,hb.2.2]
end
end
section
open Go.RowKit Lim
section
variable {l:List Int}{i:Nat}
theorem bpow(k:Nat):(18446744073709551616:Int) ^ k=((2 ^ (64 * k):Nat):Int):=by
 rw[Nat.pow_mul,Int.natCast_pow];rfl
theorem BR(wl:Words l)(hn:aI l≠0):bitLen (val l).toNat=64 * (aI l - 1)+bitLen (nth l (aI l - 1)).toNat:=by
 have d:=aO wl;have hs:=bL (norm l) (aI l - 1) (by rw[aL];omega)
 have hd:(norm l).drop (aI l - 1)=[nth l (aI l - 1)]:=by
  apply me
  ·simp[aL];omega
  ·intro i hi;simp[aL] at hi;have:i=0:=by omega
   subst this;rw[dL,gC,cQ];rfl
 rw[hd,eP,dj] at hs;have b:=dJ (wl.norm.take (aI l - 1));have e:=aO (wl.norm.take (aI l - 1));rw[List.length_take,aL,Nat.min_eq_left (by omega)] at b;have f:=wl.nth (aI l - 1);have g:=iU hn;generalize nth l (aI l - 1)=x at *;generalize val ((norm l).take (aI l - 1))=y at *;generalize aI l - 1=k at *;rw[bpow] at hs b;obtain⟨x,rfl⟩:=Int.eq_ofNat_of_zero_le f.1;obtain⟨y,rfl⟩:=Int.eq_ofNat_of_zero_le e;obtain⟨v,hv⟩:=Int.eq_ofNat_of_zero_le d;rw[hv] at hs ⊢
 have c:v / 2 ^ (64 * k)=x:=by
  have a:v=y+2 ^ (64 * k) * x:=by
   have:(v:Int)=((y+2 ^ (64 * k) * x:Nat):Int):=by rw[hs,Int.natCast_add,Int.natCast_mul]
   exact Int.ofNat.inj this
  rw[a,Nat.add_mul_div_left _ _ (Nat.two_pow_pos _),Nat.div_eq_of_lt (by omega),Nat.zero_add]
 rw[Int.toNat_natCast,Int.toNat_natCast,bitLen_shift v (64 * k) (by rw[c];omega),c]
theorem rW(ao:Option Addr)(n c b o:Nat)(l:List Int)(w:World)(q:l.length=n)(hc:n<=c)(i:n<=1099511627776)(wl:Words l)(g:At w ao b o l) :
  Calls Tryz.prog 54 #[.slice ao n c] w fun e w'=>e=.returned (.int .i64 (bitLen (val l).toNat))/\Below w.heap.size w w':=by
 have hn:=bI l;have t1:=bH ao n c l w q hc (by omega) g.cells;by_cases f:aI l=0
 ·rw[f] at t1
  have hv:(val l).toNat=0:=by rw[(cA wl).1 f];rfl
  rw[hv,show bitLen 0=0 from rfl];go_enter Tryz.func54,Tryz.ntmps54;go_wp2_with fail;refine t1.mono ?_
  rintro e s ⟨rfl,rfl⟩;go_wp2_with fail;go_ret;exact⟨rfl,Below.refl _ _⟩
 ·have j:=BR wl f;have hx:=wl.nth (aI l - 1);have d:=g.cell (aI l - 1) (by omega);have m:=im (n:=(nth l (aI l - 1)).toNat) (by omega);have t2:=fun r=>EU (nth l (aI l - 1)) r hx.1 hx.2
  rcases g.loc with e | rfl
  ·subst e;simp[aI] at f
  rw[j];generalize nth l (aI l - 1)=x at *;generalize bitLen x.toNat=L at *;clear j g;obtain⟨k,p⟩:∃ k,aI l=k+1:=⟨aI l - 1,by omega⟩
  rw[p] at t1 d hn ⊢;rw[Nat.add_sub_cancel] at d ⊢;clear p f
  have t:(k:Int) < (k:Int)+1:=by omega
  go_enter Tryz.func54,Tryz.ntmps54;go_wp2_with fail;refine t1.mono ?_
  rintro e s ⟨rfl,rfl⟩;clear t1;go_wp2_with fail;refine(t2 _).mono ?_
  rintro e u ⟨rfl,rfl⟩;go_wp2;go_ret;exact⟨kE (by omega),Below.refl _ _⟩
theorem Ba:IsN [] 0:=⟨Words.nil,rfl,rfl⟩
structure AE(lb:List Int)(m k:Nat)(lz:List Int):Prop where
 len:lz.length=m
 words:Words lz
 val:Lim.val lz=bU (lb.drop (lb.length - k))
theorem pD(h:i < l.length):bU (l.drop i)=nth l i * 256 ^ (l.length - 1 - i)+bU (l.drop (i+1)):=by
 rw[List.drop_eq_getElem_cons h,bU,b8 h,List.length_drop,show l.length - (i+1)=l.length - 1 - i from by omega]
theorem bE.drop(h:bE l)(k:Nat):bE (l.drop k):=fun x hx=>h x (List.mem_of_mem_drop hx)
theorem D5(h:i < l.length)(x:Int):val (l.set i x)=val l+18446744073709551616 ^ i * (x - nth l i):=by
 have e1:=bL (l.set i x) i (by simp;omega);have e2:=bL l i (by omega);rw[List.take_set_of_le (Nat.le_refl _),List.drop_set,if_neg (by omega),Nat.sub_self] at e1;rw[List.drop_eq_getElem_cons h,List.set_cons_zero,val] at e1;rw[List.drop_eq_getElem_cons h,val] at e2;rw[e1,e2,b8 h];grind
theorem Ed(wl:Words l)(h:i < l.length){P:Int}(f:val l < 18446744073709551616 ^ i * P):nth l i < P:=by
 have e2:=bL l i (by omega);rw[List.drop_eq_getElem_cons h,val] at e2;have c:=aO (wl.take i);have d:=aO (wl.drop (i+1));have a:=pow_pos i
 have e:0<=18446744073709551616 ^ i * (18446744073709551616 * val (l.drop (i+1))):=Int.mul_nonneg (Int.le_of_lt a) (by omega);rw[Int.mul_add] at e2
 have b:18446744073709551616 ^ i * nth l i < 18446744073709551616 ^ i * P:=by rw[b8 h];omega
 exact Int.lt_of_mul_lt_mul_left b (Int.le_of_lt a)
theorem kX(k:Nat):(256:Int) ^ k=18446744073709551616 ^ (k / 8) * 2 ^ (8 * (k % 8)):=by
 have e:(18446744073709551616:Int)=256 ^ 8:=by decide
 have e2:(2:Int) ^ (8 * (k % 8))=256 ^ (k % 8):=by rw[Int.pow_mul];rfl
 rw[e,e2,<- Int.pow_mul,<- Int.pow_add];congr 1;omega
theorem DL{lb lz:List Int}{m k:Nat}(hb:bE lb)(hm:(lb.length+7) / 8=m)(h:AE lb m k lz)(j:k < lb.length) :
  bits .or .u64 (nth lz (k / 8)) (IntKind.u64.wrap (nth lb (lb.length - 1 - k) * 2 ^ (8 * (k % 8))))=nth lz (k / 8)+nth lb (lb.length - 1 - k) * 2 ^ (8 * (k % 8)) /\
  AE lb m (k+1) (lz.set (k / 8) (nth lz (k / 8)+nth lb (lb.length - 1 - k) * 2 ^ (8 * (k % 8)))):=by
 have f:=h.len;have hx:=hb.nth (lb.length - 1 - k);have c:=bS (hb.drop (lb.length - k));rw[List.length_drop,show lb.length - (lb.length - k)=k from by omega] at c;have hv:=h.val;have b:=h.words.nth (k / 8);have d:=Ed h.words (i:=k / 8) (by omega) (P:=2 ^ (8 * (k % 8))) (by rw[<- kX,hv];exact c.2)
 have hS:(0:Int) < 2 ^ (8 * (k % 8)):=Int.pow_pos (by decide)
 have n:(2:Int) ^ (8 * (k % 8)) * 256<=18446744073709551616:=by
  have:(2:Nat) ^ (8 * (k % 8))<=2 ^ 56:=Nat.pow_le_pow_right (by decide) (by omega)
  have e:((2 ^ (8 * (k % 8)):Nat):Int)=(2:Int) ^ (8 * (k % 8)):=by rw[Int.natCast_pow];rfl
  have e2:(2:Nat) ^ 56=72057594037927936:=by decide
  omega
 have a:0<=nth lb (lb.length - 1 - k) * 2 ^ (8 * (k % 8)):=Int.mul_nonneg hx.1 (Int.le_of_lt hS)
 have g:nth lb (lb.length - 1 - k) * 2 ^ (8 * (k % 8))<=255 * 2 ^ (8 * (k % 8)):=Int.mul_le_mul_of_nonneg_right (by omega) (Int.le_of_lt hS);constructor
 ·rw[IntKind.wrap_u64,Int.emod_eq_of_lt a (by omega)];rw[u64_or _ _ b.1 b.2 a (by omega),Nat.or_comm,<- u64_or _ _ a (by omega) b.1 b.2];rw[qe _ _ (8 * (k % 8)) _ rfl hx.1 (by omega) b.1 d b.2,Int.add_comm]
 ·refine⟨by simp[f],h.words.set _ (by omega) (by omega),?_⟩;rw[D5 (by omega),hv,show lb.length - (k+1)=lb.length - 1 - k from by omega,pD (l:=lb) (i:=lb.length - 1 - k) (by omega),show lb.length - 1 - k+1=lb.length - k from by omega,show lb.length - 1 - (lb.length - 1 - k)=k from by omega,kX k];grind
theorem CF(ao:Option Addr)(n c b o:Nat)(lb:List Int)(w:World)(f:lb.length=n)(hn:0 < n)(d:AtB w ao b o lb)(g:nth lb 0=0) :
  Calls Tryz.prog 251 #[.slice ao n c] w fun e w'=>e=.returned (.tuple #[.slice none 0 0,.int .i64 13])/\w'=w:=by
 rcases d.loc with e | rfl
 ·subst e;simp at f;omega
 have hc:=d.cell 0 (by omega);rw[g,Nat.add_zero] at hc;go_enter Tryz.func251,Tryz.ntmps251;go_wp2;go_ret2;exact⟨rfl,rfl⟩
theorem As(ao:Option Addr)(n c b o:Nat)(lb:List Int)(w:World)(F:lb.length=n)(Q:n<=1099511627776)(y:bE lb)(A:AtB w ao b o lb)(H:0 < n->nth lb 0≠0) :
  Calls Tryz.prog 251 #[.slice ao n c] w fun e w'=>∃ v r,e=.returned (.tuple #[v,.int .i64 0])/\dK w w' v r/\IsN r (bU lb)/\r.length<=n/\Below w.heap.size w w':=by
 obtain⟨m,hm⟩:∃ m:Nat,((n:Int)+7) / 8=m:=⟨(n+7) / 8,by omega⟩
 have W:m<=n:=by omega
 have B:lb=[]\/b≠w.heap.size:=by
  rcases A.lt with e | e
  ·exact .inl e
  ·exact .inr (by omega)
 by_cases hn:0 < n
 ·rcases A.loc with e | rfl
  ·subst e;simp at F;omega
  have hc:=A.cell 0 (by omega);rw[Nat.add_zero] at hc
  have u:(nth lb 0 == 0)=false:=beq_eq_false_iff_ne.2 (H hn)
  have t:nth lb 0≠0:=H hn;have HF:=(show Hid _ from t)
  clear t H;go_enter Tryz.func251,Tryz.ntmps251;go_wp2_with (at_make;refine di rfl _ _ rfl m _ _ rfl rfl (by omega) (by omega) (by omega) ?_;intro R d f O);have p:=A.keep f;clear hc u;go_loopw [22] (fun N wr=>∃ (k:Nat) (l:List Int),k<=n/\N=.int .i64 k/\AE lb m k l/\At wr (some ⟨w.heap.size,0,none⟩) w.heap.size 0 l/\Wr w.heap.size 0 m R wr) (fun N _=>n - (intOf N).toNat)
  case atStart=>exact⟨0,_,Nat.zero_le _,rfl,⟨by simp,eQ _,by rw[Nat.sub_zero,List.drop_length,fB fun i=>by simp[nth,List.getElem?_replicate];split<;>rfl];rfl⟩,d.at,Wr.refl _ _ _ _⟩
  case round =>
   obtain⟨k,l,hk,rfl,hinv,q,g⟩:=hrel;have hlen:=hinv.len;by_cases V:k < n
   ·obtain⟨i,hi⟩:∃ i:Nat,(k:Int) / 8=i:=⟨k / 8,by omega⟩
    obtain⟨j,hj⟩:∃ j:Nat,(k:Int) % 8=j:=⟨k % 8,by omega⟩
    obtain⟨h,hh⟩:∃ h:Nat,(n:Int) - 1 - k=h:=⟨n - 1 - k,by omega⟩
    have hi1:(i:Int) < m:=by omega
    have hh1:(h:Int) < n:=by omega
    have X:j < 8:=by omega
    have u:=q.cell i (by omega);have hcb:=(p.wr g B).cell h (by omega);have I:=g.free (d.free 0 m) i (by omega);rw[Nat.zero_add] at u I;have E:=DL y (m:=m) (by omega) hinv (by omega);rw[show k / 8=i from by omega,show k % 8=j from by omega,show lb.length - 1 - k=h from by omega] at E;obtain⟨D,s⟩:=E;have T:=(show Hid _ from s)
    have HA:=(show Hid _ from q)
    have S:=(show Hid _ from g)
    have Z:=y.nth h;clear s q g hinv d p y;generalize nth l i=z at *;generalize nth lb h=x at *;go_wp2_with fail;go_region;go_wp2;rw[Nat.mul_comm j 8,D];refine⟨⟨k+1,_,by omega,by go_num,T.out,?_,?_⟩,by simp[intOf];omega⟩
    ·have:=(HA.out.setCell (i:=i) (by omega) (z+x * 2 ^ (8 * j))).drew;rwa [Nat.zero_add] at this
    ·exact(S.out.setCell (by omega) (by omega) _).drew
   ·have J:k=n:=by omega
    subst J;have hv:=hinv.val;rw[<- F,Nat.sub_self,List.drop_zero] at hv;have M:=g.free (d.free 0 m);have HB:=f.trans (g.below (Nat.le_refl _));have G:=bS y;have K:=wK y (fun e=>by subst e;simp at F;omega) HF.out
    have C:aI l=l.length:=by
     have h1:=bI l;by_cases c:aI l < l.length
     ·have h2:=iF hinv.words;have h3:=iw (show aI l<=m - 1 by omega)
      have h4:(18446744073709551616:Int) ^ (m - 1)<=256 ^ (lb.length - 1):=by
       rw[show (18446744073709551616:Int)=256 ^ 8 from by decide,<- Int.pow_mul];exact iA (by omega)
      rw[hv] at h2;omega
     ·omega
    have U:IsN l (bU lb):=⟨hinv.words,C,hv⟩
    clear hinv d g f p hv G K C;go_wp2;go_ret2;exact⟨_,l,rfl,dK.of hlen.symm (Nat.le_refl _) (Nat.le_refl _) q M,U,by omega,HB⟩
 ·have L:n=0:=by omega
  subst L
  have Y:lb=[]:=List.eq_nil_of_length_eq_zero F;subst Y
  have P:m=0:=by omega
  subst P;clear hm A B;go_enter Tryz.func251,Tryz.ntmps251;go_wp2_with (at_make;refine di rfl _ _ rfl 0 _ _ rfl rfl (by omega) (by omega) (by omega) ?_;intro R d f O);refine wp_loop_rounds 1 ?_
  rw[rounds_succ];go_wp2;go_ret2;exact⟨_,[],rfl,dK.of rfl (Nat.le_refl _) (Nat.le_refl _) d.at (d.free _ _),Ba,by simp,f⟩
end
end
section
open Go.RowKit Lim
theorem Cp {a b:Nat} (h:a<=b):(10:Int) ^ a<=10 ^ b:=by
 have:(10:Nat) ^ a<=10 ^ b:=Nat.pow_le_pow_right (by decide) h
 have e1:((10 ^ a:Nat):Int)=(10:Int) ^ a:=by rw[Int.natCast_pow];rfl
 have e2:((10 ^ b:Nat):Int)=(10:Int) ^ b:=by rw[Int.natCast_pow];rfl
 omega
end
section
open Go.RowKit Lim
end
section
open Go.RowKit Lim
section
variable {w w':World}{ao ao':Option Addr}{n c n' c' g:Nat}{x y:Int}{v:Value}{r l:List Int}{fn:Func}{p:Tmp}{tmps:Array Value}
structure aY(w:World)(ao:Option Addr)(n c:Nat)(x:Int):Prop where
 ex:∃ b o l,l.length=n/\n<=c/\Words l/\At w ao b o l/\val l=x
structure eh(w:World)(ao:Option Addr)(n c:Nat)(x:Int):Prop where
 ex:∃ b o l,l.length=n/\n<=c/\IsN l x/\At w ao b o l
theorem eh.a(h:eh w ao n c x):aY w ao n c x:=by
 obtain⟨b,o,l,h1,h2,h3,h4⟩:=h.ex;exact⟨b,o,l,h1,h2,h3.1,h4,h3.2.2⟩
theorem aY.keep(h:aY w ao n c x)(hb:Below w.heap.size w w'):aY w' ao n c x:=by
 obtain⟨b,o,l,h1,h2,h3,h4,h5⟩:=h.ex;exact⟨b,o,l,h1,h2,h3,h4.keep hb,h5⟩
theorem eh.keep(h:eh w ao n c x)(hb:Below w.heap.size w w'):eh w' ao n c x:=by
 obtain⟨b,o,l,h1,h2,h3,h4⟩:=h.ex;exact⟨b,o,l,h1,h2,h3,h4.keep hb⟩
theorem aY.vx(h:aY w ao n c x):0<=x:=by
 obtain⟨b,o,l,h1,h2,h3,h4,h5⟩:=h.ex;rw[<- h5];exact aO h3
theorem eh.eqv(h:eh w ao n c x)(e:x=y):eh w ao n c y:=e▸h
theorem AJ(w:World):eh w none 0 0 0:=⟨0,0,[],rfl,Nat.le_refl _,jM,.inl rfl,fun i hi=>by simp at hi⟩
theorem dK.o(h:dK w w' v r)(hI:IsN r x):∃ a c,v=.slice a r.length c/\eh w' a r.length c x:=by
 obtain⟨ao,b,o,c,e,h1,h2,h3,h4⟩:=h.is;exact⟨ao,c,e,b,o,r,rfl,h1,hI,h3⟩
theorem aA{wa:World}(b:Below w.heap.size w wa)(h:Below wa.heap.size wa w'):Below w.heap.size w w':=b.trans (h.mono b.size)
theorem nMul(h:aY w ao n c x)(z:aY w ao' n' c' y)(hn:n<=1099511627776)(j:n'<=1099511627776) :
  Calls Tryz.prog 60 #[.slice ao n c,.slice ao' n' c'] w fun e w'=>∃ a k d,e=.returned (.slice a k d)/\eh w' a k d (x * y)/\k<=n+n'/\Below w.heap.size w w':=by
 obtain⟨b,o,l,s,C,D,u,rfl⟩:=h.ex;obtain⟨q,t,A,g,f,i,p,rfl⟩:=z.ex;refine(pM ao n c b o ao' n' c' q t l A w s g C f hn j D i u p).mono ?_
 rintro e w' ⟨v,r,rfl,m,B,hlen,E⟩;obtain⟨a,d,rfl,F⟩:=m.o B;exact⟨a,_,d,rfl,F,hlen,E⟩
theorem nDiv(h:aY w ao n c x)(H:aY w ao' n' c' y)(hn:n<=1099511627776)(q:n'<=1099511627776)(A:y≠0) :
  Calls Tryz.prog 58 #[.slice ao n c,.slice ao' n' c'] w fun e w'=>∃ a k d a' k' d',e=.returned (.tuple #[.slice a k d,.slice a' k' d',.int .i64 0])/\eh w' a k d (x / y)/\eh w' a' k' d' (x % y)/\k<=n/\k'<=n+n'/\Below w.heap.size w w':=by
 obtain⟨b,o,l,D,K,L,G,rfl⟩:=h.ex;obtain⟨C,E,I,m,i,p,B,rfl⟩:=H.ex;refine(pZ ao n c b o ao' n' c' C E l I w D m K i hn q L p G B A).mono ?_
 rintro e w' ⟨v,u,r,s,rfl,t,j,J,F,z,f,M⟩;obtain⟨a,d,rfl,N⟩:=t.o J;obtain⟨a',d',rfl,g⟩:=j.o F;exact⟨a,_,d,a',_,d',rfl,N,g,z,f,M⟩
theorem rV(h:aY w ao' n' c' y)(b:n'<=1099511627776)(k:y=0) :
  Calls Tryz.prog 58 #[v,.slice ao' n' c'] w fun e w'=>e=.returned (.tuple #[.slice none 0 0,.slice none 0 0,.int .i64 11])/\w'=w:=by
 obtain⟨g,i,j,f,c,a,d,rfl⟩:=h.ex;exact div_zero v ao' n' c' g i j w f c b a d k
theorem re{ad:Option Addr}{b f:Nat}{z:Int}(h:aY w ao n c x)(l:aY w ao' n' c' y)(hd:aY w ad b f z)(hn:n<=274877906944)(m:n'<=274877906944)(j:b<=274877906944)(i:z=0) :
  Calls Tryz.prog 106 #[.slice ao n c,.slice ao' n' c',.slice ad b f] w fun e w'=>e=.returned (.tuple #[.slice none 0 0,.slice none 0 0,.int .i64 11])/\Below w.heap.size w w':=by
 go_enter Tryz.func106,Tryz.ntmps106;go_wp2_with fail;refine(nMul h l (by omega) (by omega)).mono ?_
 rintro e r ⟨a,k,d,rfl,p,o,g⟩;go_wp2_with fail;refine(rV (hd.keep g) (by omega) i).mono ?_
 rintro e q ⟨rfl,rfl⟩;go_wp2;go_ret3;exact⟨rfl,g⟩
theorem nBits(h:aY w ao n c x)(hn:n<=1099511627776) :
  Calls Tryz.prog 54 #[.slice ao n c] w fun e w'=>e=.returned (.int .i64 (bitLen x.toNat))/\Below w.heap.size w w':=by
 obtain⟨b,o,l,a,d,g,f,rfl⟩:=h.ex;exact rW ao n c b o l w a d hn g f
theorem nPow(n:Nat)(hn:n<=4096) :
  Calls Tryz.prog 141 #[.int .i64 n] w fun e w'=>∃ a k d,e=.returned (.tuple #[.slice a k d,.int .i64 0])/\eh w' a k d (10 ^ n)/\k<=n+2/\Below w.heap.size w w':=by
 refine(xz n w hn).mono ?_
 rintro e w' ⟨v,r,rfl,b,c,hlen,f⟩;obtain⟨a,d,rfl,g⟩:=b.o c;exact⟨a,_,d,rfl,g,hlen,f⟩
theorem ri(x:Int)(hx:0<=x):(bitLen x.toNat=0)<->x=0:=by
 constructor
 ·intro h;by_cases e:x.toNat=0
  ·omega
  ·have:=mL e;omega
 ·intro h;subst h;rfl
structure Slot(w:World)(g:Nat)(v:Value)(t:TypeId):Prop where
 blk:w.heap[g]?=some (.cells #[v] t (0,0))
theorem Slot.cell{t:TypeId}(h:Slot w g v t):w.cell? ⟨g,0,none⟩=some v:=cell_of_one h.blk
theorem Slot.free{t:TypeId}(h:Slot w g v t):w.frozen? ⟨g,0,none⟩=false:=free_of_one h.blk
theorem Slot.lt{t:TypeId}(h:Slot w g v t):g < w.heap.size:=lt_of_block h.blk
theorem Slot.keep{t:TypeId}(h:Slot w g v t)(hb:Below w.heap.size w w'):Slot w' g v t:=⟨by rw[hb.block g h.lt];exact h.blk⟩
theorem Slot.put{t:TypeId}(h:Slot w g v t)(u:Value):Slot (w.setCell ⟨g,0,none⟩ u) g u t:=⟨one_setCell h.blk⟩
theorem ff(w:World)(v:Value)(t:TypeId):Slot (w.alloc (.cells #[v] t)) w.heap.size v t:=⟨by
 show (w.heap.push _)[w.heap.size]?=_
 rw[Array.getElem?_push_size]⟩
theorem Slot.alloc{t:TypeId}(h:Slot w g v t)(o:Obj):Slot (w.alloc o) g v t:=h.keep (ae w o)
theorem nm(w:World)(o:Obj)(v:Value)(t:TypeId):Slot ((w.alloc o).alloc (.cells #[v] t)) (w.heap.size+1) v t:=by
 have:=ff (w.alloc o) v t;rwa [show (w.alloc o).heap.size=w.heap.size+1 by simp] at this
theorem qy(w:World)(o o':Obj):Below w.heap.size w ((w.alloc o).alloc o'):=aA (ae w o) (ae _ o')
theorem At.put{b o:Nat}(k:At w ao b o l){t:TypeId}(s:Slot w g v t)(hv:∀ x,v≠.int .u64 x)(u:Value):At (w.setCell ⟨g,0,none⟩ u) ao b o l :=
 ⟨k.loc,fun i hi=>by
  have hc:=k.cell i hi;by_cases e:b=g
  ·subst e
   have a:o + i=0->False:=fun c=>by
    rw[c,s.cell] at hc;exact hv _ (Option.some.inj hc)
   have hs:=s.blk;simp only[World.cell?,hs] at hc;have:o+i < 1:=by
    have:=(Array.getElem?_eq_some_iff.1 hc).1;simpa using this
   exact(a (by omega)).elim
  ·rw[World.cell?_of_block (w:=w) (Below.heap_setCell w _ u b e)];exact hc⟩
theorem eh.put(h:eh w ao n c x){t:TypeId}(s:Slot w g v t)(hv:∀ x,v≠.int .u64 x)(u:Value):eh (w.setCell ⟨g,0,none⟩ u) ao n c x:=by
 obtain⟨b,o,l,h1,h2,h3,h4⟩:=h.ex;exact⟨b,o,l,h1,h2,h3,h4.put s hv u⟩
theorem q9:∀ x,Value.slice ao n c≠.int .u64 x:=fun _ h=>by cases h
theorem sG{W w1:World}(b:Below w.heap.size w W)(h:Below W.heap.size W w1)(hg:w.heap.size<=g)(u:Value):Below w.heap.size w (w1.setCell ⟨g,0,none⟩ u):=(aA b h).setCell hg u
theorem Slot.drew{t:TypeId}(h:Slot w g v t):Slot w.drew g v t:=⟨h.blk⟩
theorem aY.drew(h:aY w ao n c x):aY w.drew ao n c x:=by
 obtain⟨b,o,l,h1,h2,h3,h4,h5⟩:=h.ex;exact⟨b,o,l,h1,h2,h3,h4.drew,h5⟩
theorem BD:(Tryz.prog.info? 32).map (·.size)=some 1:=by kernel_rfl
theorem yh:∃ f,Tryz.prog.underlying 32=some (.struct f):=by
  cases h:Tryz.prog.underlying 32 with
  | none => exact absurd h (by have : (Tryz.prog.underlying 32).isSome = true := by kernel_rfl
                               intro e;rw[e] at this;simp at this)
  | some d =>
    have:(match Tryz.prog.underlying 32 with | some (.struct _)=>true | _=>false)=true:=by kernel_rfl
    rw[h] at this
    cases d <;> first | exact⟨_,rfl⟩ | simp at this
theorem r9{t:TypeId}(s:Slot w g v t):(loadVar 32 ⟨g,0,none⟩).run Tryz.prog w=.ok (.agg #[v]) w:=by
 obtain⟨f,hu⟩:=yh;exact run_loadVar_row w g t 32 #[v] (0,0) _ s.blk hu rfl BD
theorem lW(h:fn.results=#[.cell p 32]){t:TypeId}(b:tmps.getD p undef=.pointer (some ⟨g,0,none⟩))(s:Slot w g v t) :
  (results fn tmps).run Tryz.prog w=.ok (.agg #[v]) w:=by
 have a:tmps[p]?.getD undef=.pointer (some ⟨g,0,none⟩):=by simpa using b
 simp[results,h,a,asAddr,r9 s]
theorem rN{u:Tmp}(h:fn.results=#[.tmp u,.cell p 32]){x:Value}{t:TypeId}(c:tmps.getD p undef=.pointer (some ⟨g,0,none⟩))(hu:tmps.getD u undef=x)(s:Slot w g v t) :
  (results fn tmps).run Tryz.prog w=.ok (.tuple #[x,.agg #[v]]) w:=by
 have a:tmps[p]?.getD undef=.pointer (some ⟨g,0,none⟩):=by simpa using c
 have b:tmps[u]?.getD undef=x:=by simpa using hu
 simp[results,h,a,b,asAddr,r9 s]
end
end
end Go.Proofs.YtjejmkcjflhoiaaGreatDoor
