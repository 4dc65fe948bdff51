import Derived.Test.YtjejmkcjflhoiaaGreatDoorJac
import Derived.Test.YtjejmkcjflhoiaaGreatDoorChecked
import Derived.WalkKit
import Derived.WalkSpells
import Derived.WalkLawsBesides
import Derived.Laws.Externs
import Derived.Laws.MathBits
import Derived.Laws.CopyOwn
import Derived.Deep.QuietTactic
import Derived.BigQuiet
import Derived.Deep.RegionWith
import Derived.ScopeJumps
import Derived.WalkSmall
import Derived.OneCell
set_option maxRecDepth 100000
set_option maxHeartbeats 8000000
namespace Go.Proofs.YtjejmkcjflhoiaaGreatDoor
section
namespace Lim
section
variable {l a b:List Int}{i k:Nat}{x:Int}
def nth(l:List Int)(i:Nat):Int:=l.getD i 0
def val:List Int->Int
 | []=>0
 | x :: l=>x+18446744073709551616 * val l
def Words(l:List Int):Prop:=∀ x∈l,0<=x/\x < 18446744073709551616
def aI:List Int->Nat
 | []=>0
 | x :: l=>if aI l=0 then (if x=0 then 0 else 1) else aI l+1
def norm(l:List Int):List Int:=l.take (aI l)
def IsN(l:List Int)(n:Int):Prop:=Words l/\aI l=l.length/\val l=n
theorem ED(i:Nat):nth [] i=0:=by simp[nth]
theorem cU(x:Int)(l:List Int):nth (x :: l) 0=x:=by simp[nth]
theorem dK(x:Int)(l:List Int)(i:Nat):nth (x :: l) (i+1)=nth l i:=by simp[nth]
theorem gx(h:l.length<=i):nth l i=0:=by
 simp[nth,List.getElem?_eq_none h]
theorem b8(h:i < l.length):nth l i=l[i]:=by
 simp[nth,List.getElem?_eq_getElem h]
theorem my(h:i < l.length):nth l i∈l:=by
 rw[b8 h];exact List.getElem_mem h
theorem Words.nth(h:Words l)(i:Nat):0<=nth l i/\nth l i < 18446744073709551616:=by
 by_cases hi:i < l.length
 ·exact h _ (my hi)
 ·rw[gx (by omega)];decide
theorem Words.nil:Words []:=fun _ h=>by simp at h
theorem Words.cons(h0:0<=x)(h1:x < 18446744073709551616)(h:Words l):Words (x :: l):=by
 intro y hy;rcases List.mem_cons.1 hy with e | e
 ·subst e;exact⟨h0,h1⟩
 ·exact h y e
theorem Words.tail(h:Words (x :: l)):Words l:=fun y hy=>h y (List.mem_cons_of_mem _ hy)
theorem Words.head(h:Words (x :: l)):0<=x/\x < 18446744073709551616:=h x (List.mem_cons_self)
theorem Words.take{l:List Int}(h:Words l)(k:Nat):Words (l.take k):=fun x hx=>h x (List.mem_of_mem_take hx)
theorem Words.drop(h:Words l)(k:Nat):Words (l.drop k):=fun x hx=>h x (List.mem_of_mem_drop hx)
theorem Words.append(ha:Words a)(hb:Words b):Words (a ++ b):=by
 intro x hx;rcases List.mem_append.1 hx with e | e
 ·exact ha x e
 ·exact hb x e
theorem dz(h:i < k):nth (l.take k) i=nth l i:=by
 simp[nth,h]
theorem dN(l:List Int)(k i:Nat):nth (l.drop k) i=nth l (k+i):=by
 simp[nth,List.getElem?_drop]
theorem dh(h:i < a.length):nth (a ++ b) i=nth a i:=by
 simp[nth,List.getElem?_append_left h]
theorem bP(h:a.length<=i):nth (a ++ b) i=nth b (i - a.length):=by
 simp[nth,List.getElem?_append_right h]
theorem ml(hl:a.length=b.length)(h:∀ i,i < a.length->nth a i=nth b i):a=b:=by
 apply List.ext_getElem hl;intro i h1 h2;have:=h i h1;rwa [b8 h1,b8 h2] at this
theorem dG(a:k < l.length):nth (l.set k x) i=if i=k then x else nth l i:=by
 simp only[nth,List.getD_eq_getElem?_getD,List.getElem?_set];by_cases h:k=i
 ·subst h;simp[a]
 ·simp[h,show ¬ i=k from fun e=>h e.symm]
theorem Words.set(h:Words l)(k:Nat)(h0:0<=x)(h1:x < 18446744073709551616):Words (l.set k x):=by
 intro y hy;rcases List.mem_or_eq_of_mem_set hy with e | e
 ·exact h y e
 ·subst e;exact⟨h0,h1⟩
theorem ea(h:k < l.length):l.take (k+1)=l.take k ++ [nth l k]:=by
 rw[b8 h,List.take_succ_eq_append_getElem h]
theorem aO(h:Words l):0<=val l:=by
 induction l with
 | nil=>simp[val]
 | cons x l ih=>have:=h.head;have:=ih h.tail;simp only[val];omega
theorem eu(a b:List Int):val (a ++ b)=val a+18446744073709551616 ^ a.length * val b:=by
 induction a with
 | nil=>simp[val]
 | cons x a ih=>simp only[List.cons_append,val,ih,List.length_cons,Int.pow_succ];grind
theorem dL(h:Words l):val l < 18446744073709551616 ^ l.length:=by
 induction l with
 | nil=>simp[val]
 | cons x l ih =>
  have:=h.head;have:=ih h.tail;simp only[val,List.length_cons,Int.pow_succ];omega
theorem eN(x:Int):val [x]=x:=by simp[val]
theorem dB(h:k < l.length):val (l.take (k+1))=val (l.take k)+18446744073709551616 ^ k * nth l k:=by
 rw[ea h,eu,eN,List.length_take,Nat.min_eq_left (by omega)]
theorem bM(l:List Int)(k:Nat)(h:k<=l.length):val l=val (l.take k)+18446744073709551616 ^ k * val (l.drop k):=by
 conv=>lhs;rw[<- List.take_append_drop k l]
 rw[eu,List.length_take,Nat.min_eq_left h]
theorem bH(l:List Int):aI l<=l.length:=by
 induction l with
 | nil=>simp[aI]
 | cons x l ih=>simp only[aI,List.length_cons];split<;>(try split)<;>omega
theorem gm:aI l=0<->∀ i,nth l i=0:=by
 induction l with
 | nil=>simp[aI,nth]
 | cons x l ih =>
  simp only[aI];constructor
  ·intro h i;by_cases e:aI l=0
   ·by_cases a:x=0
    ·cases i with
     | zero=>rw[cU,a]
     | succ i=>rw[dK];exact ih.1 e i
    ·simp[e,a] at h
   ·simp[e] at h
  ·intro h
   have c:x=0:=by have:=h 0;rwa [cU] at this
   have b:aI l=0:=ih.2 fun i=>by have:=h (i+1);rwa [dK] at this
   simp[b,c]
theorem jZ(d:k<=l.length)(c:∀ i,k<=i->nth l i=0)(b:k≠0->nth l (k - 1)≠0):aI l=k:=by
 induction l generalizing k with
 | nil=>simp[aI] at *;omega
 | cons x l ih =>
  cases k with
  | zero =>
   have:aI (x :: l)=0:=gm.2 fun i=>c i (Nat.zero_le _)
   exact this
  | succ k =>
   have e:aI l=k:=ih (by simpa using d) (fun i hi=>by have:=c (i + 1) (by omega); rwa [dK] at this) (fun a=>by
    have:=b (by omega);rw[show k+1 - 1=(k - 1)+1 from by omega,dK] at this;exact this)
   simp only[aI,e];by_cases a:k=0
   ·subst a;have:=b (by omega);rw[show (0+1 - 1)=0 from rfl,cU] at this;simp[this]
   ·simp[a]
theorem fY(h:aI l≤i):nth l i=0:=by
  induction l generalizing i with
  | nil=>simp[nth]
  | cons x l ih =>
    simp only[aI] at h;by_cases e:aI l=0
    · simp only[e,if_true] at h
      cases i with
      | zero => by_cases a : x = 0
                · rw[cU,a]
                · simp[a] at h
      | succ i=>rw[dK];exact gm.1 e i
    · simp only[e,if_false] at h
      cases i with
      | zero=>omega
      | succ i=>rw[dK];exact ih (by omega)
theorem iP(h:aI l≠0):nth l (aI l - 1)≠0:=by
 induction l with
 | nil=>simp[aI] at h
 | cons x l ih =>
  simp only[aI] at h ⊢;by_cases e:aI l=0
  ·simp only[e,if_true] at h ⊢;by_cases a:x=0
   ·simp[a] at h
   ·simp[a,cU]
  ·simp only[e,if_false] at h ⊢;have:=ih e;rw[show aI l+1 - 1=(aI l - 1)+1 from by omega,dK];exact this
theorem aL(l:List Int):(norm l).length=aI l:=by
 rw[norm,List.length_take,Nat.min_eq_left (bH l)]
theorem gy(l:List Int)(i:Nat):nth (norm l) i=nth l i:=by
 by_cases h:i < aI l
 ·exact dz h
 ·rw[gx (by rw[aL];omega),fY (by omega)]
theorem Words.norm(h:Words l):Words (norm l):=h.take _
theorem pz(l:List Int):aI (norm l)=(norm l).length:=by
 rw[aL];apply jZ (by rw[aL];omega)
 ·intro i hi;rw[gy];exact fY hi
 ·intro h;rw[gy];exact iP h
theorem fE(h:∀ i,nth l i=0):val l=0:=by
 induction l with
 | nil=>rfl
 | cons x l ih =>
  have h0:=h 0;rw[cU] at h0;rw[val,h0,ih fun i=>by have:=h (i+1);rwa [dK] at this];rfl
theorem dj(l:List Int):val (norm l)=val l:=by
 rw[bM l (aI l) (bH l),fE (l:=l.drop (aI l)) fun i=>by rw[dN];exact fY (by omega)];simp[norm]
theorem cE(h:Words l):IsN (norm l) (val l):=⟨h.norm,pz l,dj l⟩
theorem qU(h:Words l)(hn:aI l≠0):0 < val l:=by
 induction l with
 | nil=>simp[aI] at hn
 | cons x l ih =>
  have hx:=h.head;have hv:=aO h.tail;simp only[val];by_cases e:aI l=0
  ·simp only[aI,e,if_true] at hn;have:x≠0:=by intro a; simp[a] at hn
   omega
  ·have:=ih h.tail e;omega
theorem cy(h:Words l):aI l=0<->val l=0:=by
 constructor
 ·intro e;exact fE (gm.1 e)
 ·intro e;by_cases n:aI l=0
  ·exact n
  ·have:=qU h n;omega
theorem eH(h:Words l)(hn:aI l≠0):18446744073709551616 ^ (aI l - 1)<=val l:=by
 have e:=dj l;have a:=aL l;have hw:=h.norm;have hs:=bM (norm l) (aI l - 1) (by omega)
 have hd:(norm l).drop (aI l - 1)=[nth l (aI l - 1)]:=by
  apply ml
  ·simp[a];omega
  ·intro i hi;simp[a] at hi;have:i=0:=by omega
   subst this;rw[dN,gy,cU];rfl
 have d:=aO (hw.take (aI l - 1));have hx:=h.nth (aI l - 1);have b:=iP hn
 have c:(0:Int) < 18446744073709551616 ^ (aI l - 1):=Int.pow_pos (by decide);rw[hd,eN] at hs;have:18446744073709551616 ^ (aI l - 1) * 1<=18446744073709551616 ^ (aI l - 1) * nth l (aI l - 1):=Int.mul_le_mul_of_nonneg_left (by omega) (Int.le_of_lt c);omega
theorem il(h:Words l):val l < 18446744073709551616 ^ aI l:=by
 have:=dL h.norm;rwa [dj,aL] at this
theorem iI{a b:Nat}(h:a<=b):(18446744073709551616:Int) ^ a<=18446744073709551616 ^ b:=by
 obtain⟨d,rfl⟩:=Nat.exists_eq_add_of_le h;rw[Int.pow_add]
 have c:(0:Int) < 18446744073709551616 ^ a:=Int.pow_pos (by decide)
 have e:(0:Int) < 18446744073709551616 ^ d:=Int.pow_pos (by decide);have:(18446744073709551616:Int) ^ a * 1<=18446744073709551616 ^ a * 18446744073709551616 ^ d:=Int.mul_le_mul_of_nonneg_left (by omega) (Int.le_of_lt c);omega
theorem dI(ha:Words a)(hb:Words b)(h:aI a < aI b):val a < val b:=by
 have h1:=il ha;have h2:=eH hb (by omega);have:=iI (show aI a<=aI b - 1 by omega);omega
end
end Lim
end
section
open Go.RowKit Lim
def Cells (w:World) (ao:Option Addr) (l:List Int):Prop :=
 l=[]\/∃ b o,ao=some ⟨b,o,none⟩/\∀ i,i < l.length->w.cell? ⟨b,o+i,none⟩=some (.int .u64 (nth l i))
theorem bF (ao:Option Addr) (n c:Nat) (l:List Int) (w:World) (m:l.length=n) (hc:n<=c) (hb:n<=4398046511104) (d:Cells w ao l) :
  Calls Tryz.prog 70 #[.slice ao n c] w fun e w'=>e=.returned (.slice ao (aI l) (aI l))/\w'=w:=by
 go_enter Tryz.func70,Tryz.ntmps70;go_wp2;go_loop [3] (fun t=>∃ k:Nat,k<=n/\t=.int .i64 k/\Hid (∀ i,k<=i->nth l i=0)) (fun t=>(intOf t).toNat)
 case atStart=>exact⟨n,Nat.le_refl _,rfl,fun i hi=>gx (by omega)⟩
 case round =>
  obtain⟨k,q,rfl,g⟩:=hrel;by_cases j:0 < k
  ·rcases d with e | ⟨b,o,rfl,d⟩
   ·subst e;simp at m;omega
   ·have f:=d (k - 1) (by omega)
    have p:w.cell? ⟨b,o+k - 1,none⟩=some (.int .u64 (nth l (k - 1))):=by rw[<- f];congr 2;omega
    clear d;go_wp2
    ·go_round
     case rel=>exact⟨k - 1,by omega,by go_num,fun i hi=>by
      by_cases e:i=k - 1
      ·subst e;exact beq_iff_eq.1 (by assumption)
      ·exact g.out i (by omega)⟩
     case measure=>simp[intOf];omega
    ·go_ret;rw[jZ (k:=k) (by omega) g.out (fun _=>beq_eq_false_iff_ne.1 (by assumption))];exact⟨rfl,rfl⟩
  ·go_wp2;go_ret;rw[jZ (k:=k) (by omega) g.out (fun _=>by omega)];exact⟨rfl,rfl⟩
end
section
open Go.RowKit Lim
def bor (x y:Int):Int:=if x < y then 1 else 0
theorem sd (x y:Int) (hx:0<=x) (hy:0<=y) (w:World):(callFunc 119 #[.int .u64 x,.int .u64 y,.int .u64 0]).run Tryz.prog w =
  .ok (.value (.tuple #[.int .u64 ((x+y) % 18446744073709551616),.int .u64 ((x+y) / 18446744073709551616)])) w:=by
 obtain⟨x,rfl⟩:=Int.eq_ofNat_of_zero_le hx;obtain⟨y,rfl⟩:=Int.eq_ofNat_of_zero_le hy;rw[run_callFunc_extern Tryz.func119 (by kernel_rfl) (by kernel_rfl) (by kernel_rfl) (e:=add64Entry) (by kernel_rfl),run_add64 (P:=Tryz.prog) x y 0 (by omega) (by omega) (by omega) (by omega),Int.add_zero];rfl
theorem Dl (x y:Int) (hx:0<=x) (w:World):(callFunc 119 #[.int .u64 x,.int .u64 (y % 18446744073709551616),.int .u64 0]).run Tryz.prog w =
  .ok (.value (.tuple #[.int .u64 ((x+y % 18446744073709551616) % 18446744073709551616),.int .u64 ((x+y % 18446744073709551616) / 18446744073709551616)])) w :=
 sd x _ hx (Int.emod_nonneg _ (by decide)) w
theorem EX (x y:Int) (hx:0<=x) (a:x < 18446744073709551616) (hy:0<=y) (b:y < 18446744073709551616) (w:World):(callFunc 163 #[.int .u64 x,.int .u64 y,.int .u64 0]).run Tryz.prog w =
  .ok (.value (.tuple #[.int .u64 ((x - y) % 18446744073709551616),.int .u64 (bor x y)])) w:=by
 obtain⟨x,rfl⟩:=Int.eq_ofNat_of_zero_le hx;obtain⟨y,rfl⟩:=Int.eq_ofNat_of_zero_le hy
 have this:(callFunc 163 #[.int .u64 (x:Int),.int .u64 (y:Int),.int .u64 0]).run Tryz.prog w =
   .ok (.value (.tuple #[.int .u64 (((x+18446744073709551616 - y - 0) % 18446744073709551616:Nat):Int),.int .u64 ((if x < y+0 then 1 else 0:Nat):Int)])) w:=by kernel_rfl
 rw[this]
 have e1:(((x+18446744073709551616 - y - 0) % 18446744073709551616:Nat):Int)=((x:Int) - y) % 18446744073709551616:=by omega
 have e2:((if x < y+0 then 1 else 0:Nat):Int)=bor x y:=by unfold bor;split<;>split<;>omega
 rw[e1,e2]
theorem oF {k k':IntKind} {a b c d:Int} (h:a=b) (h':c=d):Ending.returned (.tuple #[.int k a,.int k' c])=.returned (.tuple #[.int k b,.int k' d]):=by rw[h,h']
theorem rI (z:Int) (h0:0<=z) (h1:z < 18446744073709551616):bits .and .u64 z 4294967295=z % 4294967296:=and_low32 z h0 h1
theorem mul64 (x y:Int) (hx:0<=x) (b:x < 18446744073709551616) (hy:0<=y) (c:y < 18446744073709551616) (w:World) :
  Calls Tryz.prog 118 #[.int .u64 x,.int .u64 y] w fun e w'=>e=.returned (.tuple #[.int .u64 (x * y / 18446744073709551616),.int .u64 (x * y % 18446744073709551616)])/\w'=w:=by
 go_enter Tryz.func118,Tryz.ntmps118;go_wp2;go_ret2;refine⟨oF ?_ ?_,rfl⟩
 ·show IntKind.u64.wrap (IntKind.u64.wrap (IntKind.u64.wrap (x / 4294967296 * (y / 4294967296))+IntKind.u64.wrap (IntKind.u64.wrap (x / 4294967296 * bits BinOp.and IntKind.u64 y 4294967295)+IntKind.u64.wrap (bits BinOp.and IntKind.u64 x 4294967295 * bits BinOp.and IntKind.u64 y 4294967295) / 4294967296) / 4294967296)+IntKind.u64.wrap (bits BinOp.and IntKind.u64 (IntKind.u64.wrap (IntKind.u64.wrap (x / 4294967296 * bits BinOp.and IntKind.u64 y 4294967295)+IntKind.u64.wrap (bits BinOp.and IntKind.u64 x 4294967295 * bits BinOp.and IntKind.u64 y 4294967295) / 4294967296)) 4294967295+IntKind.u64.wrap (bits BinOp.and IntKind.u64 x 4294967295 * (y / 4294967296))) / 4294967296)=_
  simp only[IntKind.wrap_u64];rw[rI x hx b,rI y hy c,rI _ (Int.emod_nonneg _ (by decide)) (Int.emod_lt_of_pos _ (by decide))];exact mul64_arith x y hx b hy c
 ·show IntKind.u64.wrap (x * y)=_
  rw[IntKind.wrap_u64]
theorem l7 (x y:Int) (hx:0<=x) (a:x < 18446744073709551616) (hy:0<=y) (b:y < 18446744073709551616) (w:World) :
  Calls Tryz.prog 118 #[.int .u64 x,.int .u64 y] w fun e w'=>∃ hi lo:Int,e=.returned (.tuple #[.int .u64 hi,.int .u64 lo])/\0<=hi/\hi<=18446744073709551614/\0<=lo/\lo < 18446744073709551616/\Hid (hi * 18446744073709551616+lo=x * y)/\w'=w:=by
 refine(mul64 x y hx a hy b w).mono ?_
 rintro e w' ⟨rfl,rfl⟩
 have c:0<=x * y:=Int.mul_nonneg hx hy
 have d:x * y<=18446744073709551615 * 18446744073709551615:=Int.mul_le_mul (by omega) (by omega) hy (by decide);exact⟨_,_,rfl,by omega,by omega,by omega,by omega,by show _=_;omega,rfl⟩
end
section
open Go.RowKit Lim
section
variable {w w1 w':World}{ao ao':Option Addr}{b o n o' n' i k B b':Nat}{l m:List Int}{v:Value}
structure At(w:World)(ao:Option Addr)(b o:Nat)(l:List Int):Prop where
 loc:l=[]\/ao=some ⟨b,o,none⟩
 cell:∀ i,i < l.length->w.cell? ⟨b,o+i,none⟩=some (.int .u64 (nth l i))
theorem At.cells(h:At w ao b o l):Cells w ao l:=by
 rcases h.loc with e | e
 ·exact .inl e
 ·exact .inr ⟨b,o,e,h.cell⟩
def dJ(w:World)(b o n:Nat):Prop:=∀ i,i < n->w.frozen? ⟨b,o+i,none⟩=false
structure Wr(b o n:Nat)(w w':World):Prop where
 os:w'.os=w.os
 tape:w'.tape=w.tape
 output:w'.output=w.output
 size:w'.heap.size=w.heap.size
 block:∀ k,k≠b->w'.heap[k]?=w.heap[k]?
 cell:∀ i,(i < o\/o+n<=i)->w'.cell? ⟨b,i,none⟩=w.cell? ⟨b,i,none⟩
 frozen:∀ i,w'.frozen? ⟨b,i,none⟩=w.frozen? ⟨b,i,none⟩
theorem Wr.refl(b o n:Nat)(w:World):Wr b o n w w:=⟨rfl,rfl,rfl,rfl,fun _ _=>rfl,fun _ _=>rfl,fun _=>rfl⟩
theorem Wr.trans{a:World}(h:Wr b o n w w1)(k:Wr b o n w1 a):Wr b o n w a :=
 ⟨k.os.trans h.os,k.tape.trans h.tape,k.output.trans h.output,k.size.trans h.size,fun i hi=>(k.block i hi).trans (h.block i hi),fun i hi=>(k.cell i hi).trans (h.cell i hi),fun i=>(k.frozen i).trans (h.frozen i)⟩
theorem Wr.mono(h:Wr b o n w w')(h1:o'<=o)(h2:o+n<=o' + n'):Wr b o' n' w w' :=
 ⟨h.os,h.tape,h.output,h.size,h.block,fun i hi=>h.cell i (by omega),h.frozen⟩
theorem Wr.setCell(h:Wr b o n w w1)(e:o<=i)(d:i < o+n)(v:Value):Wr b o n w (w1.setCell ⟨b,i,none⟩ v) :=
 h.trans ⟨rfl,rfl,rfl,by simp[World.setCell],fun k a=>Below.heap_setCell _ _ _ _ a,fun j c=>by
   simp only[World.cell?,World.setCell,Array.getElem?_modify,if_true]
   cases hh:w1.heap[b]? with
   | none=>simp
   | some ob =>
    cases ob<;>simp
    rw[Array.getElem?_setIfInBounds,if_neg (by omega)],fun j=>by
   simp only[World.frozen?,World.setCell,Array.getElem?_modify,if_true]
   cases hh:w1.heap[b]? with
   | none=>simp
   | some ob=>cases ob<;>simp⟩
theorem Wr.other(h:Wr b o n w w')(hk:k≠b):w'.cell? ⟨k,i,none⟩=w.cell? ⟨k,i,none⟩:=World.cell?_of_block (w:=w) (h.block k hk)
theorem Wr.below(h:Wr b o n w w')(hB:B<=b):Below B w w' :=
 ⟨h.os,h.tape,h.output,by rw[h.size];exact Nat.le_refl _,fun k hk=>h.block k (by omega)⟩
theorem Wr.free(h:Wr b o n w w')(k:dJ w b' o' n'):dJ w' b' o' n':=by
 intro i hi;by_cases e:b'=b
 ·subst e;rw[h.frozen];exact k i hi
 ·rw[World.frozen?_of_block (w:=w) (h.block b' e)];exact k i hi
theorem At.wr(h:Wr b o n w w')(k:At w ao b' o' l)(hb:l=[]\/b'≠b):At w' ao b' o' l :=
 ⟨k.loc,fun i hi=>by
  rcases hb with e | e
  ·subst e;simp at hi
  ·rw[h.other e];exact k.cell i hi⟩
theorem At.below(h:Below B w w')(k:At w ao b o l)(hb:l=[]\/b < B):At w' ao b o l :=
 ⟨k.loc,fun i hi=>by
  rcases hb with e | e
  ·subst e;simp at hi
  ·rw[h.cell (p:=⟨b,o+i,none⟩) e];exact k.cell i hi⟩
theorem aK(h:w.cell? ⟨b,o,none⟩=some v):b < w.heap.size:=by
 simp only[World.cell?] at h;by_cases hb:b < w.heap.size
 ·exact hb
 ·rw[Array.getElem?_eq_none (by omega)] at h;simp at h
theorem At.lt(k:At w ao b o l):l=[]\/b < w.heap.size:=by
 cases l with
 | nil=>exact .inl rfl
 | cons x l=>exact .inr (aK (k.cell 0 (by simp)))
theorem At.keep(h:Below w.heap.size w w')(k:At w ao b o l):At w' ao b o l:=k.below h k.lt
theorem At.setCell(k:At w ao b o l)(hi:i < l.length)(x:Int):At (w.setCell ⟨b,o+i,none⟩ (.int .u64 x)) ao b o (l.set i x) :=
  ⟨by rcases k.loc with e | e
      · subst e;simp at hi
      · exact .inr e,fun j g=>by
    rw[List.length_set] at g;have hc:=k.cell j g;rw[dG hi];have a:=k.cell i hi;simp only[World.cell?,World.setCell,Array.getElem?_modify,if_true] at hc a ⊢
    cases hh:w.heap[b]? with
    | none=>rw[hh] at hc;simp at hc
    | some ob =>
      rw[hh] at hc a
      cases ob with
      | cells c e f =>
        simp at hc a ⊢;rw[Array.getElem?_setIfInBounds];by_cases e:j=i
        · subst e
          obtain⟨d,_⟩:= Array.getElem?_eq_some_iff.1 a;simp[d]
        · rw[if_neg (by omega),if_neg e];exact hc
      | _=>simp at hc⟩
theorem At.drew(h:At w ao b o l):At w.drew ao b o l:=⟨h.loc,h.cell⟩
theorem dJ.drew(h:dJ w b o n):dJ w.drew b o n:=h
theorem Wr.drew(h:Wr b o n w w'):Wr b o n w w'.drew:=⟨h.os,h.tape,h.output,h.size,h.block,h.cell,h.frozen⟩
theorem At.drewN(h:At w ao b o l)(n:Nat):At (w.drewN n) ao b o l:=⟨h.loc,h.cell⟩
theorem Wr.drewN(h:Wr b o n w w')(k:Nat):Wr b o n w (w'.drewN k):=⟨h.os,h.tape,h.output,h.size,h.block,h.cell,h.frozen⟩
def patch(l:List Int)(k:Nat)(m:List Int):List Int:=l.take k ++ (m ++ l.drop (k+m.length))
theorem fm(h:k+m.length<=l.length):(patch l k m).length=l.length:=by simp[patch];omega
theorem lL(hl:Words l)(hm:Words m):Words (patch l k m):=(hl.take k).append (hm.append (hl.drop _))
theorem qn(h:k+m.length<=l.length)(hi:i < m.length):nth (patch l k m) (k+i)=nth m i:=by
 have e:(l.take k).length=k:=by simp;omega
 rw[patch,bP (by omega),e,Nat.add_sub_cancel_left,dh hi]
theorem oD(h:k+m.length<=l.length)(hi:i < k\/k+m.length<=i):nth (patch l k m) i=nth l i:=by
 have e:(l.take k).length=k:=by simp;omega
 rcases hi with hi | hi
 ·rw[patch,dh (by omega),dz hi]
 ·rw[patch,bP (by omega),e,bP (by omega),dN];congr 1;omega
theorem pr(h:k+m.length<=l.length):val (patch l k m)=val l+18446744073709551616 ^ k * (val m - val ((l.drop k).take m.length)):=by
 have e:(l.take k).length=k:=by simp;omega
 have b:=bM l k (by omega);have a:=bM (l.drop k) m.length (by simp;omega);rw[List.drop_drop] at a;rw[patch,eu,eu,e,b,a];grind
theorem At.patch(h:At w ao b o l)(hw:Wr b (o+k) n w w')(hm:At w' ao' b (o+k) m)(hn:m.length=n)(c:k+n≤l.length):At w' ao b o (patch l k m) :=
  ⟨by rcases h.loc with e | e
      · left;subst e;simp at c;simp[Go.Proofs.YtjejmkcjflhoiaaGreatDoor.patch,List.eq_nil_of_length_eq_zero (show m.length=0 by omega)]
      · exact .inr e,fun i hi=>by
    rw[fm (by omega)] at hi;by_cases a:k≤i∧i < k+n
    · obtain⟨j,rfl⟩:= Nat.exists_eq_add_of_le a.1
      rw[qn (by omega) (by omega),← hm.cell j (by omega),Nat.add_assoc]
    · rw[oD (by omega) (by omega),hw.cell _ (by omega)];exact h.cell i hi⟩
theorem At.fS(h:At w ao b o l)(k n:Nat):At w (some ⟨b,o+k,none⟩) b (o+k) ((l.drop k).take n) :=
 ⟨.inr rfl,fun i hi=>by
  simp only[List.length_take,List.length_drop] at hi
  rw[dz (by omega),dN,Nat.add_assoc];exact h.cell _ (by omega)⟩
theorem dJ.fS(h:dJ w b o n){m:Nat}(hk:k + m<=n):dJ w b (o + k) m:=fun i hi=>by
 rw[Nat.add_assoc];exact h _ (by omega)
theorem At.sub(k:At w ao b o l)(n:Nat):At w ao b o (l.take n) :=
  ⟨by rcases k.loc with e | e
      · subst e;exact .inl (by simp)
      · exact .inr e,fun i hi=>by
    rw[List.length_take] at hi
    rw[dz (by omega)];exact k.cell i (by omega)⟩
end
end
section
open Go.RowKit Lim
section
variable {w:World}{g:Nat}{l:List Int}{ops:Array Oper}{rest:List Oper}{o:Oper}{a:Act}
theorem iC:(Tryz.prog.info? 22).map (fun i=>(i.zero,i.size,i.bytes))=some (some (.int .u64 0),1,8):=by kernel_rfl
theorem gA:Tryz.prog.underlying 30=some (.slice 22):=by kernel_rfl
def Row(w:World)(g:Nat)(l:List Int):Prop:=w.heap[g]?=some (.cells (l.map (Value.int .u64)).toArray 22 (0,0))
theorem Row.at(h:Row w g l):At w (some ⟨g,0,none⟩) g 0 l :=
 ⟨.inr rfl,fun i hi=>by
  unfold Row at h;simp only[World.cell?,h]
  simp[b8 hi,hi]⟩
theorem Row.free(h:Row w g l)(o n:Nat):dJ w g o n:=by
 intro i _;unfold Row at h;simp[World.frozen?,h]
theorem Row.lt(h:Row w g l):g < w.heap.size:=(Array.getElem?_eq_some_iff.1 h).1
structure dM(w w':World)(v:Value)(l:List Int):Prop where
 is:∃ ao b o c,v=.slice ao l.length c/\l.length<=c/\w.heap.size<=b/\At w' ao b o l/\dJ w' b o l.length
theorem sH(n:Nat):madeCells (Value.int .u64 0).cells n=((List.replicate n 0).map (Value.int .u64)).toArray:=by
 apply Array.ext
 ·simp[size_madeCells]
 ·intro j a b;simp[madeCells,Value.cells,Nat.mod_one]
theorem di{Q:Exit->Act->World->Prop}(j:o.guard=none)(l c:Operand)(e:o.op=Op.makeSlice 30 l c)(n:Nat)(L C:Int)(g:a.eval l=.int .i64 L)(hc:a.eval c=.int .i64 C)(hL:L=(n:Int))(hC:C=(n:Int))(hn:n<=17592186044416)(f:∀ w',Row w' w.heap.size (List.replicate n 0)->Below w.heap.size w w'->w'.heap.size=w.heap.size+1->wpList Tryz.prog ops Q rest (a.put o.dst (.slice (some ⟨w.heap.size,0,none⟩) n n)) w') :
  wpList Tryz.prog ops Q (o :: rest) a w:=by
 obtain⟨i,hi,h,hs,hb⟩:=info_parts iC;refine wpList_plain j fun K d=>?_
 have b:=run_make (P:=Tryz.prog) w 30 22 i (.int .u64 0) gA hi h .i64 .i64 (n:Int) (n:Int) (by omega) (by omega) (by rw[hb];omega) (by omega);subst hL;subst hC;unfold Oper.wp;simp only[execOp,e,g,hc];simp[b,Result.andThen];refine d _ _ (f _ ?_ ?_ ?_)
 ·show (w.heap.push _)[w.heap.size]?=_
  rw[Array.getElem?_push_size,hs,Nat.mul_one,sH]
 ·exact(Below.refl _ _).alloc (Nat.le_refl _) _
 ·simp
theorem hH{Q:Exit->Act->World->Prop}(q:o.guard=none)(d s:Operand)(A:o.op=.call { callee:=.builtin .copy,args:=#[d,s],argTypes:=#[30,30] })(g dLen dCap sLen sCap:Nat)(sp:Option Addr)(hd:a.eval d=.slice (some ⟨g,0,none⟩) dLen dCap)(hs:a.eval s=.slice sp sLen sCap)(lz ls:List Int)(b:Row w g lz)(r:lz.length=dLen)(b' o':Nat)(l:ls.length=sLen)(hle:sLen<=dLen)(m:At w sp b' o' ls)(h:∀ w',Row w' g (ls ++ lz.drop sLen)->Wr g 0 dLen w w'->wpList Tryz.prog ops Q rest (a.put o.dst (goInt sLen)) w'):wpList Tryz.prog ops Q (o :: rest) a w:=by
 obtain⟨i,hi,D,u,hb⟩:=info_parts iC
 have c:(Tryz.prog.info? 22).map (·.size)=some 1:=by rw[hi];simp[u]
 by_cases y:sLen=0
 ·have B:ls=[]:=List.eq_nil_of_length_eq_zero (by omega);subst B;refine wpList_copy_nothing q d s _ _ A _ gA c _ sp dLen dCap sLen sCap hd hs (by subst y;exact Nat.zero_min _) ?_
  have:=h w (by rw[y];simpa using b) (Wr.refl _ _ _ _);rwa [y] at this
 ·obtain rfl:sp=some ⟨b',o',none⟩:=by
   rcases m.loc with e | e
   ·subst e;simp at l;omega
   ·exact e
  have n:Nat.min sLen dLen=sLen:=Nat.min_eq_left hle
  have hlen:(ls.map (Value.int .u64)).length=sLen:=by simp[l]
  refine wpList_copy_own q d s _ _ A _ gA c g 0 dLen dCap ⟨b',o',none⟩ sLen sCap hd hs _ _ b (ls.map (Value.int .u64)) (by rw[n,hlen]) ?_ (by simp[l,r];omega) (ints_oneCell _ _) ?_
  ·intro j v hv;rw[List.getElem?_map] at hv
   have f:j < ls.length:=by
    rcases Nat.lt_or_ge j ls.length with f | f
    ·exact f
    ·rw[List.getElem?_eq_none f] at hv;simp at hv
   rw[List.getElem?_eq_getElem f] at hv;simp at hv;subst hv;have:=m.cell j f;rw[b8 f] at this;rw[<- this];by_cases p:j=0
   ·subst p;exact congrArg w.cell? (by simp[Addr.add])
   ·exact congrArg w.cell? (by simp[Addr.add,p])
  ·rw[hlen]
   have x:Row (w.setRow g (List.take 0 (List.map (Value.int .u64) lz).toArray.toList ++ (List.map (Value.int .u64) ls ++ List.drop (0+sLen) (List.map (Value.int .u64) lz).toArray.toList)).toArray) g (ls ++ lz.drop sLen):=by
    unfold Row;rw[setRow_heap w g _ _ _ _ b,Nat.zero_add];simp only[List.take_zero,List.nil_append,<- List.map_drop,<- List.map_append]
   refine h _ x ⟨rfl,rfl,rfl,by simp[World.setRow],fun k C=>setRow_other w g k _ C,fun j f=>?_,fun j=>?_⟩
   ·have t:w.heap[g]?=_:=b
    have z:(w.setRow g (List.take 0 (List.map (Value.int .u64) lz).toArray.toList ++ (List.map (Value.int .u64) ls ++ List.drop (0+sLen) (List.map (Value.int .u64) lz).toArray.toList)).toArray).heap[g]?=_:=x;simp only[World.cell?,t,z];simp;rw[List.getElem?_eq_none (by simp;omega),List.getElem?_eq_none (by omega)];rfl
   ·have t:w.heap[g]?=_:=b
    have z:(w.setRow g (List.take 0 (List.map (Value.int .u64) lz).toArray.toList ++ (List.map (Value.int .u64) ls ++ List.drop (0+sLen) (List.map (Value.int .u64) lz).toArray.toList)).toArray).heap[g]?=_:=x;simp only[World.frozen?,t,z]
end
end
section
open Go.RowKit Lim
section
variable {x y:Int}{l a b:List Int}
def sgn(x y:Int):Int:=if x < y then -1 else if y < x then 1 else 0
theorem iD(h:x < y):sgn x y=-1:=by simp[sgn,h]
theorem kL(h:y < x):sgn x y=1:=by simp only[sgn];rw[if_neg (by omega),if_pos h]
theorem u7(h:x=y):sgn x y=0:=by simp[sgn,h]
theorem gF(l:List Int):val l=nth l 0+18446744073709551616 * val l.tail:=by
 cases l with
 | nil=>simp[val,nth]
 | cons x l=>simp[val,nth]
theorem fN(l:List Int)(i:Nat):nth l.tail i=nth l (i+1):=by
 cases l with
 | nil=>simp[nth]
 | cons x l=>simp[nth]
theorem Lim.Words.tl(h:Words l):Words l.tail:=fun x hx=>h x (List.mem_of_mem_tail hx)
theorem qm:∀ {a b:List Int},(∀ i,nth a i=nth b i)->val a=val b
 | [],b,h=>by rw[fE (l:=b) fun i=>by rw[<- h i,ED]];rfl
 | x :: a,b,h=>by
  rw[gF (x :: a),gF b,h 0,List.tail_cons,qm (a:=a) (b:=b.tail) fun i=>by rw[fN,<- h (i+1),dK]]
theorem lG:∀ (h:Nat) {a b:List Int},Words a->Words b->(∀ i,h < i->nth a i=nth b i)->nth a h < nth b h->val a < val b
 | 0,a,b,_,_,he,hl=>by
  rw[gF a,gF b,qm (a:=a.tail) (b:=b.tail) fun i=>by rw[fN,fN];exact he _ (by omega)];omega
 | h + 1,a,b,ha,hb,he,hl=>by
  have:=lG h ha.tl hb.tl (fun i hi=>by rw[fN,fN];exact he _ (by omega)) (by rw[fN,fN];exact hl);have d:=ha.nth 0;have c:=hb.nth 0;rw[gF a,gF b];omega
theorem sgn_at(e:Words a)(hb:Words b)(h:Nat)(he:∀ i,h < i->nth a i=nth b i)(d:nth a h≠nth b h):sgn (nth a h) (nth b h)=sgn (val a) (val b):=by
 rcases Int.lt_or_gt_of_ne d with c | c
 ·rw[iD c,iD (lG h e hb he c)]
 ·rw[kL c,kL (lG h hb e (fun i hi=>(he i hi).symm) c)]
theorem Cb(e:Words a)(hb:Words b)(d:aI a≠aI b):sgn (aI a) (aI b)=sgn (val a) (val b):=by
 rcases Nat.lt_or_gt_of_ne d with c | c
 ·rw[iD (by omega),iD (dI e hb c)]
 ·rw[kL (by omega),kL (dI hb e c)]
theorem rP(x y:Int)(w:World):Calls Tryz.prog 79 #[.int .i64 x,.int .i64 y] w fun e w'=>e=.returned (.int .i64 (sgn x y))/\w'=w:=by
 rcases Int.lt_trichotomy x y with h | h | h
 ·rw[iD h];go_enter Tryz.func79,Tryz.ntmps79;go_wp2;go_ret;exact⟨rfl,rfl⟩
 ·rw[u7 h];subst h;go_enter Tryz.func79,Tryz.ntmps79;go_wp2;go_ret;exact⟨rfl,rfl⟩
 ·rw[kL h]
  have b:¬ x < y:=by omega
  go_enter Tryz.func79,Tryz.ntmps79;go_wp2;go_ret;exact⟨rfl,rfl⟩
theorem rS(x y:Int)(w:World):Calls Tryz.prog 80 #[.int .u64 x,.int .u64 y] w fun e w'=>e=.returned (.int .i64 (sgn x y))/\w'=w:=by
 rcases Int.lt_trichotomy x y with h | h | h
 ·rw[iD h];go_enter Tryz.func80,Tryz.ntmps80;go_wp2;go_ret;exact⟨rfl,rfl⟩
 ·rw[u7 h];subst h;go_enter Tryz.func80,Tryz.ntmps80;go_wp2;go_ret;exact⟨rfl,rfl⟩
 ·rw[kL h]
  have b:¬ x < y:=by omega
  go_enter Tryz.func80,Tryz.ntmps80;go_wp2;go_ret;exact⟨rfl,rfl⟩
theorem kZ{k:IntKind}{a b:Int}(h:a=b):Ending.returned (.int k a)=.returned (.int k b):=by rw[h]
theorem jT(ao:Option Addr)(n c b o:Nat)(ao':Option Addr)(n' c' b' o':Nat)(l d:List Int)(w:World)(V:l.length=n)(B:d.length=n')(hc:n<=c)(D:n'<=c')(M:n<=1099511627776)(z:n'<=1099511627776)(wl:Words l)(p:Words d)(v:At w ao b o l)(g:At w ao' b' o' d) :
  Calls Tryz.prog 41 #[.slice ao n c,.slice ao' n' c'] w fun e w'=>e=.returned (.int .i64 (sgn (val l) (val d)))/\Below w.heap.size w w':=by
 have hn:=bH l
 have A:=bH d;have t1:=bF ao n c l w V hc (by omega) v.cells;have t2:=bF ao' n' c' d w B D (by omega) g.cells
 have u:∀ i,aI l<=i->nth l i=0:=fun i hi=>fY hi
 have j:∀ i,aI d<=i->nth d i=0:=fun i hi=>fY hi
 have r:Hid (aI l≠aI d->sgn (aI l) (aI d)=sgn (val l) (val d)):=Cb wl p
 have Q:Hid (∀ i,aI l<=i->nth l i=0):=u
 have t:Hid (∀ i,aI d<=i->nth d i=0):=j;clear u j;generalize aI l=N at *;generalize aI d=H at *;go_enter Tryz.func41,Tryz.ntmps41;go_wp2_with fail;refine t1.mono ?_
 rintro e w1 ⟨rfl,rfl⟩;go_wp2_with fail;refine t2.mono ?_
 rintro e I ⟨rfl,rfl⟩;clear t1 t2;by_cases s:N=H
 ·subst s;go_wp2_with fail;go_loopw [25] (fun E wr=>∃ k:Nat,k<=N/\E=.int .i64 k/\Hid (∀ i,N - k<=i->nth l i=nth d i)/\Below I.heap.size I wr) (fun E _=>N - (intOf E).toNat)
  case atStart=>exact⟨0,Nat.zero_le _,rfl,fun i hi=>by rw[Q.out i (by omega),t.out i (by omega)],Below.refl _ _⟩
  case round =>
   obtain⟨k,hk,rfl,C,f⟩:=hrel;by_cases S:k < N
   ·have q:=v.keep f
    have m:=g.keep f;rcases v.loc with e | rfl
    ·subst e;simp at hn;omega
    rcases g.loc with e | rfl
    ·subst e;simp at A;omega
    obtain⟨h,J⟩:∃ h:Nat,N=h+1+k:=⟨N - 1 - k,by omega⟩
    have q1:=q.cell h (by omega);have L:=m.cell h (by omega)
    have Z:Hid (N=h+1+k):=J
    have P:(N:Int) - 1 - k=h:=by omega
    have K:Hid (∀ i,h < i->nth l i=nth d i):=fun i hi=>C.out i (by omega)
    have T:Hid (nth l h≠nth d h->sgn (nth l h) (nth d h)=sgn (val l) (val d)):=sgn_at wl p h K.out
    have U:(h:Int) < N:=by omega
    clear J C Q t r v g q m wl p;generalize hx:nth l h=x at *;generalize hy:nth d h=y at *
    have O:Hid (x=y->nth l h=nth d h):=fun e=>hx.trans (e.trans hy.symm)
    clear hx hy;by_cases hd:x=y
    ·have X:Hid (nth l h=nth d h):=O.out hd;clear O;subst hd;go_wp2_with fail;go_quiet (fail);go_wp2;go_roundw
     case rel=>exact⟨k + 1,by omega,by go_num,fun i hi=>by
      by_cases e:i=h
      ·subst e;exact X.out
      ·exact K.out i (by have:=Z.out;omega),below_drewN f _⟩
     case measure=>simp[intOf];omega
    ·have Y:(x != y)=true:=by rw[bne_iff_ne]; exact hd
     go_wp2_with fail;go_quiet (fail);go_wp2_with fail
     have q3:(wr.drewN nq).cell? ⟨b,o+h,none⟩=some (.int .u64 x):=q1
     have q4:(wr.drewN nq).cell? ⟨b',o' + h,none⟩=some (.int .u64 y):=L;have F:=below_drewN f nq;clear q1 L f;generalize wr.drewN nq=W at *;go_quiet ((go_at_call 80;exact Calls.quiet_of_same (rS _ _ _)));go_wp2;go_ret;exact⟨kZ (T.out hd),below_drewN F _⟩
   ·have G:k=N:=by omega
    subst G;go_wp2;go_ret;rw[u7 (qm fun i=>C.out i (by omega))];exact⟨rfl,f⟩
 ·have R:((N:Int) != (H:Int))=true:=by rw[bne_iff_ne]; omega
  go_wp2_with (go_at_call 79;refine(rP _ _ _).mono ?_;rintro e w' ⟨rfl,rfl⟩);go_ret;exact⟨kZ (r.out s),Below.refl _ _⟩
end
end
section
open Go.RowKit Lim
section
variable {n:Nat}
theorem w64(z:Int)(h0:0<=z)(h1:z<=1000):wrap64 z=z:=by
 unfold wrap64;omega
theorem gP(k:Int)(i:Nat)(h0:0<=k)(hk:k<=56)(h:i < 256):wrap64 (k+wrap64 (bitLen i:Int))=k+bitLen i:=by
 have:=bitLen_le8 i h;rw[w64 (bitLen i) (by omega) (by omega),w64 _ (by omega) (by omega)]
theorem jx(x:Int)(b i:Nat)(h:x.toNat / 2 ^ b=i)(hi:i≠0):((bitLen x.toNat:Nat):Int)=b+bitLen i:=by
 rw[bitLen_shift x.toNat b (by rw[h];exact hi),h];omega
theorem len64(x:Int)(w:World)(b:0<=x)(c:x < 18446744073709551616) :
  Calls Tryz.prog 142 #[.int .u64 x] w fun e w'=>e=.returned (.int .i64 (bitLen x.toNat))/\w'=w:=by
 by_cases c0:4294967296<=x
 ·by_cases c1:65536<=x / 4294967296
  ·by_cases c2:256<=x / 4294967296 / 65536
   ·go_enter Tryz.func142,Tryz.ntmps142;go_wp2;go_ret;refine⟨kZ ?_,rfl⟩;rw[len8tab_get,gP 56 (x / 4294967296 / 65536 / 256).toNat (by decide) (by decide) (by omega),jx x 56 (x / 4294967296 / 65536 / 256).toNat (by rw[show (2:Nat) ^ 56=72057594037927936 from rfl];omega) (by omega)];rfl
   ·go_enter Tryz.func142,Tryz.ntmps142;go_wp2;go_ret;refine⟨kZ ?_,rfl⟩;rw[len8tab_get,gP 48 (x / 4294967296 / 65536).toNat (by decide) (by decide) (by omega),jx x 48 (x / 4294967296 / 65536).toNat (by rw[show (2:Nat) ^ 48=281474976710656 from rfl];omega) (by omega)];rfl
  ·by_cases c2:256<=x / 4294967296
   ·go_enter Tryz.func142,Tryz.ntmps142;go_wp2;go_ret;refine⟨kZ ?_,rfl⟩;rw[len8tab_get,gP 40 (x / 4294967296 / 256).toNat (by decide) (by decide) (by omega),jx x 40 (x / 4294967296 / 256).toNat (by rw[show (2:Nat) ^ 40=1099511627776 from rfl];omega) (by omega)];rfl
   ·go_enter Tryz.func142,Tryz.ntmps142;go_wp2;go_ret;refine⟨kZ ?_,rfl⟩;rw[len8tab_get,gP 32 (x / 4294967296).toNat (by decide) (by decide) (by omega),jx x 32 (x / 4294967296).toNat (by rw[show (2:Nat) ^ 32=4294967296 from rfl];omega) (by omega)];rfl
 ·by_cases c1:65536<=x
  ·by_cases c2:256<=x / 65536
   ·go_enter Tryz.func142,Tryz.ntmps142;go_wp2;go_ret;refine⟨kZ ?_,rfl⟩;rw[len8tab_get,gP 24 (x / 65536 / 256).toNat (by decide) (by decide) (by omega),jx x 24 (x / 65536 / 256).toNat (by rw[show (2:Nat) ^ 24=16777216 from rfl];omega) (by omega)];rfl
   ·go_enter Tryz.func142,Tryz.ntmps142;go_wp2;go_ret;refine⟨kZ ?_,rfl⟩;rw[len8tab_get,gP 16 (x / 65536).toNat (by decide) (by decide) (by omega),jx x 16 (x / 65536).toNat (by rw[show (2:Nat) ^ 16=65536 from rfl];omega) (by omega)];rfl
  ·by_cases c2:256<=x
   ·go_enter Tryz.func142,Tryz.ntmps142;go_wp2;go_ret;refine⟨kZ ?_,rfl⟩;rw[len8tab_get,gP 8 (x / 256).toNat (by decide) (by decide) (by omega),jx x 8 (x / 256).toNat (by rw[show (2:Nat) ^ 8=256 from rfl];omega) (by omega)];rfl
   ·go_enter Tryz.func142,Tryz.ntmps142;go_wp2;go_ret;refine⟨kZ ?_,rfl⟩;rw[len8tab_get];have:=bitLen_le8 x.toNat (by omega);rw[w64 (bitLen x.toNat:Int) (by omega) (by omega),w64 _ (by omega) (by omega)]
theorem mE(h:n≠0):1<=bitLen n:=by unfold bitLen;rw[if_neg h];omega
theorem iE(h:n < 18446744073709551616):bitLen n<=64:=by
 unfold bitLen;split
 ·omega
 ·have:=(Nat.log2_lt (k:=64) ‹_›).2 (by omega);omega
theorem EV(x:Int)(w:World)(b:0<=x)(c:x < 18446744073709551616) :
  Calls Tryz.prog 94 #[.int .u64 x] w fun e w'=>e=.returned (.int .i64 (64 - bitLen x.toNat))/\w'=w:=by
 have f:=iE (n:=x.toNat) (by omega);have t1:=len64 x w b c;generalize bitLen x.toNat=L at *;go_enter Tryz.func94,Tryz.ntmps94;go_wp2_with fail;refine t1.mono ?_
 rintro e d ⟨rfl,rfl⟩;go_wp2;go_ret;exact⟨rfl,rfl⟩
end
end
section
open Go.RowKit Lim
section
variable {y y1 y0 u a q r:Int}
theorem E3(y:Int)(w:World)(h:0 < y)(f:y < 18446744073709551616) :
  Calls Tryz.prog 94 #[.int .u64 y] w fun e w'=>∃ s:Nat,e=.returned (.int .i64 s)/\s<=63/\Hid (9223372036854775808<=y * 2 ^ s/\y * 2 ^ s < 18446744073709551616)/\w'=w:=by
 refine(EV y w (by omega) f).mono ?_
 rintro e w' ⟨rfl,rfl⟩;have g:=iE (n:=y.toNat) (by omega);have i:=mE (n:=y.toNat) (by omega);have hs:=bitLen_spec y.toNat;generalize bitLen y.toNat=L at *;refine⟨64 - L,kZ (by omega),by omega,?_,rfl⟩;have a:=hs.1;have b:=hs.2 (by omega);obtain⟨n,rfl⟩:∃ n:Nat,y=n:=⟨y.toNat,by omega⟩
 rw[Int.toNat_natCast] at a b
 have e1:(2:Nat) ^ L * 2 ^ (64 - L)=18446744073709551616:=by rw[<- Nat.pow_add,show L+(64 - L)=64 from by omega]
 have e2:(2:Nat) ^ (L - 1) * 2 ^ (64 - L)=9223372036854775808:=by rw[<- Nat.pow_add,show L - 1+(64 - L)=63 from by omega]
 have k1:n * 2 ^ (64 - L) < 2 ^ L * 2 ^ (64 - L):=Nat.mul_lt_mul_of_pos_right a (Nat.two_pow_pos _)
 have d:2 ^ (L - 1) * 2 ^ (64 - L)<=n * 2 ^ (64 - L):=Nat.mul_le_mul_right _ b;rw[e1] at k1;rw[e2] at d
 have c:((n * 2 ^ (64 - L):Nat):Int)=(n:Int) * 2 ^ (64 - L):=by rw[Int.natCast_mul,Int.natCast_pow];rfl
 show _/\_
 rw[<- c];omega
structure eX(y y1 u a q r:Int):Prop where
 eq:q * y1+r=u
 r0:0<=r
 up:u * 4294967296+a < (q+1) * y
 q0:0<=q
 qb:q<=4294967297
theorem eX.start(e:y=y1 * 4294967296+y0)(g:0<=y0)(i:y0 < 4294967296)(j:2147483648<=y1)(u0:0<=u)(l:u < y)(a0:0<=a)(a1:a < 4294967296) :
  eX y y1 u a (u / y1) (u % y1):=by
 have d:=Int.mul_ediv_add_emod u y1;have c:=Int.emod_nonneg u (show y1≠0 by omega);have f:=Int.emod_lt_of_pos u (show 0 < y1 by omega)
 have b:0<=u / y1:=Int.ediv_nonneg u0 (by omega);generalize u / y1=q at *;generalize u % y1=r at *;refine⟨by rw[Int.mul_comm];exact d,c,?_,b,?_⟩
 ·have k1:(q + 1) * y=(y1 * q + y1) * 4294967296 + (q + 1) * y0:=by rw[e]; grind
  have h:0<=(q+1) * y0:=Int.mul_nonneg (by omega) g;rw[k1];omega
 ·by_cases hc:q<=4294967297
  ·exact hc
  ·have k:y1 * 4294967298<=y1 * q:=Int.mul_le_mul_of_nonneg_left (by omega) (by omega);omega
theorem eX.big(h:eX y y1 u a q r)(a1:a < 4294967296)(y0:0 < y)(c:u < y)(b:4294967296<=q)(d:0<=y1):eX y y1 u a (q - 1) (r+y1):=by
 have k:y * 4294967296<=y * q:=Int.mul_le_mul_of_nonneg_left b (by omega);have:=h.eq;have:=h.r0;have:=h.qb;refine⟨by rw[Int.sub_mul];omega,by omega,?_,by omega,by omega⟩;rw[Int.sub_add_cancel,Int.mul_comm q y];omega
theorem eX.more(h:eX y y1 u a q r)(e:y=y1 * 4294967296+y0)(u0:0<=u)(a0:0<=a)(f:0<=y1)(hc:4294967296 * r+a < q * y0):eX y y1 u a (q - 1) (r+y1):=by
 have he:=h.eq;have:=h.r0;have:=h.qb;have:=h.q0
 have k:q * y=q * y1 * 4294967296+q * y0:=by rw[e];grind
 have b:u * 4294967296+a < q * y:=by rw[k];omega
 have d:1<=q:=by
  by_cases c:1<=q
  ·exact c
  ·have:q=0:=by omega
   subst this;simp at b;omega
 refine⟨by rw[Int.sub_mul];omega,by omega,?_,by omega,by omega⟩;rw[Int.sub_add_cancel];exact b
structure Dig(y u a q:Int):Prop where
 lo:q * y<=u * 4294967296+a
 hi:u * 4294967296+a < (q+1) * y
 q0:0<=q
 q1:q < 4294967296
theorem eX.dig(h:eX y y1 u a q r)(e:y=y1 * 4294967296+y0)(d:0 < y)(b:u < y)(a1:a < 4294967296)(hc:q * y0<=4294967296 * r+a):Dig y u a q:=by
 have he:=h.eq
 have k:q * y=q * y1 * 4294967296+q * y0:=by rw[e];grind
 have lo:q * y<=u * 4294967296+a:=by rw[k];omega
 refine⟨lo,h.up,h.q0,?_⟩;by_cases c:q < 4294967296
 ·exact c
 ·have:4294967296 * y<=q * y:=Int.mul_le_mul_of_nonneg_right (by omega) (by omega);omega
theorem eX.lJ(h:eX y y1 u a q r)(e:y=y1 * 4294967296+y0)(d:0 < y)(c:u < y)(a0:0<=a)(a1:a < 4294967296)(b:0<=y0)(i:y0 < 4294967296)(f:q<=4294967296)(g:4294967296<=r):Dig y u a q :=
 h.dig e d c a1 (by
  have:q * y0<=4294967296 * y0:=Int.mul_le_mul_of_nonneg_right f b
  omega)
theorem Dig.rest(h:Dig y u a q):0<=u * 4294967296+a - q * y/\u * 4294967296+a - q * y < y:=by
 have:=h.lo;have h2:=h.hi;rw[Int.add_mul] at h2;omega
theorem ediv64(x S T:Int)(hS:0 < S)(h:S * T=18446744073709551616):x * S / 18446744073709551616=x / T:=by
 rw[<- h,Int.mul_comm S T,Int.mul_ediv_mul_of_pos_left _ _ hS]
theorem qx(a b:Int)(s:Nat)(k:Int)(j:a=k * 2 ^ s)(i:0<=k)(g:a < 18446744073709551616)(c:0<=b)(l:b < 2 ^ s)(h:b < 18446744073709551616):bits .or .u64 a b=a+b:=by
 have m:(0:Int) < 2 ^ s:=Int.pow_pos (by decide)
 have d:0<=a:=by rw[j];exact Int.mul_nonneg i (Int.le_of_lt m)
 rw[u64_or a b d g c h];obtain⟨k,rfl⟩:=Int.eq_ofNat_of_zero_le i;obtain⟨b,rfl⟩:=Int.eq_ofNat_of_zero_le c
 have e:a.toNat=2 ^ s * k:=by
  have:a=((2 ^ s * k:Nat):Int):=by rw[j,Int.natCast_mul,Int.natCast_pow,Int.mul_comm];rfl
  rw[this,Int.toNat_natCast]
 have f:b < 2 ^ s:=by
  have:((2 ^ s:Nat):Int)=2 ^ s:=by rw[Int.natCast_pow];rfl
  omega
 rw[e,Int.toNat_natCast,<- Nat.two_pow_add_eq_or_of_lt f,<- e];omega
theorem AO(hi lo y:Int)(s:Nat)(i:0<=hi)(n:hi < y)(f:0<=lo)(l1:lo < 18446744073709551616)(hs:s<=63)(p:9223372036854775808<=y * 2 ^ s/\y * 2 ^ s < 18446744073709551616) :
  ∃ Y Yh Yl U A A1 A0:Int,IntKind.u64.wrap (y * 2 ^ s)=Y/\Y / 4294967296=Yh/\bits .and .u64 Y 4294967295=Yl/\bits .or .u64 (IntKind.u64.wrap (hi * 2 ^ s)) (lo / 2 ^ (64 - s))=U /\
   IntKind.u64.wrap (lo * 2 ^ s)=A/\A / 4294967296=A1/\bits .and .u64 A 4294967295=A0/\0<=Yl/\Yl < 4294967296/\2147483648<=Yh/\Yh < 4294967296/\0<=U/\U < Y/\Y < 18446744073709551616/\0<=A1/\A1 < 4294967296/\0<=A0/\A0 < 4294967296 /\
   Hid (Y=Yh * 4294967296+Yl)/\Hid ((U * 4294967296+A1) * 4294967296+A0=(hi * 18446744073709551616+lo) * 2 ^ s/\Y=y * 2 ^ s):=by
 have hS:(0:Int) < 2 ^ s:=Int.pow_pos (by decide)
 have g:(0:Int) < 2 ^ (64 - s):=Int.pow_pos (by decide)
 have c:(2:Int) ^ s * 2 ^ (64 - s)=18446744073709551616:=by rw[<- Int.pow_add,show s+(64 - s)=64 from by omega];rfl
 have h:(2:Int) ^ s * 1<=2 ^ s * 2 ^ (64 - s):=Int.mul_le_mul_of_nonneg_left (by omega) (Int.le_of_lt hS)
 have e:0<=hi * 2 ^ s:=Int.mul_nonneg i (Int.le_of_lt hS)
 have d:(hi+1) * 2 ^ s<=y * 2 ^ s:=Int.mul_le_mul_of_nonneg_right (by omega) (Int.le_of_lt hS);rw[Int.add_mul,Int.one_mul] at d
 have k:0<=lo * 2 ^ s:=Int.mul_nonneg f (Int.le_of_lt hS)
 have a:0<=lo / 2 ^ (64 - s):=Int.ediv_nonneg f (Int.le_of_lt g)
 have b:lo / 2 ^ (64 - s) < 2 ^ s:=by
  rw[Int.ediv_lt_iff_lt_mul g,c];exact l1
 have l:=ediv64 lo (2 ^ s) (2 ^ (64 - s)) hS c
 have m:bits .or .u64 (IntKind.u64.wrap (hi * 2 ^ s)) (lo / 2 ^ (64 - s))=hi * 2 ^ s+lo / 2 ^ (64 - s):=by
  rw[IntKind.wrap_u64,Int.emod_eq_of_lt e (by omega)];exact qx _ _ s hi rfl i (by omega) a b (by omega)
 have j:IntKind.u64.wrap (y * 2 ^ s)=y * 2 ^ s:=by rw[IntKind.wrap_u64];omega
 have hA:IntKind.u64.wrap (lo * 2 ^ s)=lo * 2 ^ s % 18446744073709551616:=IntKind.wrap_u64 _
 have e3:(hi * 18446744073709551616+lo) * 2 ^ s=hi * 2 ^ s * 18446744073709551616+lo * 2 ^ s:=by grind
 rw[m,j,hA];rw[<- l] at a b ⊢;rw[e3];generalize hi * 2 ^ s=H at *;generalize lo * 2 ^ s=o at *;generalize y * 2 ^ s=Y at *;refine⟨Y,_,_,_,_,_,_,rfl,rfl,rI _ (by omega) (by omega),rfl,rfl,rfl,rI _ (by omega) (by omega),by omega,by omega,by omega,by omega,by omega,by omega,by omega,by omega,by omega,by omega,by omega,?_,?_,rfl⟩
 ·show _=_;omega
 ·omega
theorem wZ(U A p V:Int)(h:V=U * 4294967296+A - p)(b:0<=V)(a:V < 18446744073709551616):IntKind.u64.wrap (IntKind.u64.wrap (IntKind.u64.wrap (U * 4294967296)+A) - IntKind.u64.wrap p)=V:=by
 simp only[IntKind.wrap_u64];omega
theorem Aj(u y:Int)(hu:0<=u)(a:u < 18446744073709551616)(hy:0 < y):IntKind.u64.wrap (u - IntKind.u64.wrap (u / y * y))=u % y:=by
 have b:=Int.mul_ediv_add_emod u y;have c:=Int.emod_nonneg u (show y≠0 by omega);have d:=Int.mul_nonneg (Int.ediv_nonneg hu (Int.le_of_lt hy)) (Int.le_of_lt hy);rw[Int.mul_comm] at b;generalize u / y * y=p at *;generalize u % y=r at *;simp only[IntKind.wrap_u64];omega
theorem iX(Y b c u a:Int)(hy:Y=b * 4294967296+c)(d:0<=c)(f:c < 4294967296)(e:2147483648<=b)(i:b < 4294967296)(u0:0<=u)(g:u < Y)(h:Y < 18446744073709551616)(a0:0<=a)(a1:a < 4294967296) :
  IntKind.u64.wrap (u - IntKind.u64.wrap (u / b * b))=u % b/\eX Y b u a (u / b) (u % b)/\u % b < 4294967296 :=
 ⟨Aj u b u0 (by omega) (by omega),eX.start hy d f e u0 g a0 a1,by have:=Int.emod_lt_of_pos u (show 0 < b by omega);omega⟩
theorem dy{Y:Int}(h:Dig Y u a q)(b:Y < 18446744073709551616):∃ V:Int,IntKind.u64.wrap (IntKind.u64.wrap (IntKind.u64.wrap (u * 4294967296)+a) - IntKind.u64.wrap (q * Y))=V/\0<=V/\V < Y/\Hid (V=u * 4294967296+a - q * Y):=by
 have:=h.rest;exact⟨u * 4294967296+a - q * Y,wZ u a (q * Y) _ rfl this.1 (by omega),this.1,this.2,rfl⟩
theorem fp(hi lo y Y U g d Q V a:Int)(s:Nat)(hy:0 < y)(e:(U * 4294967296+g) * 4294967296+d=(hi * 18446744073709551616+lo) * 2 ^ s)(h:Y=y * 2 ^ s)(i:V=U * 4294967296+g - Q * Y)(hd:Dig Y V d a) :
  Q * 4294967296+a=(hi * 18446744073709551616+lo) / y/\(V * 4294967296+d - a * Y) / 2 ^ s=(hi * 18446744073709551616+lo) % y:=by
 have hS:(0:Int) < 2 ^ s:=Int.pow_pos (by decide);have f:=hd.rest;have j:=hd.q0;have k:=hd.q1;generalize hN:hi * 18446744073709551616+lo=N at *
 have key:N * 2 ^ s=(Q * 4294967296+a) * y * 2 ^ s+(V * 4294967296+d - a * Y):=by rw[<- e,i,h];grind
 generalize hR:V * 4294967296+d - a * Y=R at *
 have hdiv:R=(N - (Q * 4294967296+a) * y) * 2 ^ s:=by rw[Int.sub_mul];omega
 generalize hK:Q * 4294967296+a=K at *;generalize hD:N - K * y=D at *;rw[hdiv] at f;rw[h] at f
 have d0:0<=D:=by
  by_cases c:0<=D
  ·exact c
  ·have:D * 2 ^ s <= -1 * 2 ^ s:=Int.mul_le_mul_of_nonneg_right (by omega) (Int.le_of_lt hS);omega
 have d1:D < y:=Int.lt_of_mul_lt_mul_right f.2 (Int.le_of_lt hS)
 have b:N=y * K+D:=by rw[<- hD,Int.mul_comm y K];omega
 constructor
 ·have:N / y=K:=by rw[b,Int.add_comm,Int.add_mul_ediv_left _ _ (by omega),Int.ediv_eq_zero_of_lt d0 d1,Int.zero_add]
  omega
 ·rw[hdiv,Int.mul_ediv_cancel _ (by omega),b,Int.add_comm,Int.add_mul_emod_self_left,Int.emod_eq_of_lt d0 d1]
theorem o9(hi lo y:Int)(w:World)(h0:0 < hi)(h1:hi < y)(l0:0<=lo)(l1:lo < 18446744073709551616)(y1:y < 18446744073709551616) :
  Calls Tryz.prog 161 #[.int .u64 hi,.int .u64 lo,.int .u64 y] w fun e w'=>e=.returned (.tuple #[.int .u64 ((hi * 18446744073709551616+lo) / y),.int .u64 ((hi * 18446744073709551616+lo) % y)])/\w'=w:=by
 have hb0:(hi == 0)=false:=beq_eq_false_iff_ne.2 (by omega)
 have hb1:(y == 0)=false:=beq_eq_false_iff_ne.2 (by omega);go_enter Tryz.func161,Tryz.ntmps161;go_wp2_with fail;refine(E3 y _ (by omega) y1).mono ?_
 rintro e w' ⟨s,rfl,hs,HS,rfl⟩;obtain⟨Y,n,K,U,A,x,i,e1,e2,e3,e4,e5,e6,e7,f,m,O,P,u0,u1,D,a10,N,W,j,v,z⟩:=AO hi lo y s (by omega) h1 l0 l1 hs HS.out;obtain⟨d2,u,t⟩:=iX Y n K U x v.out f m O P u0 u1 D a10 N;go_wp2_with fail;clear e1 e2 e3 e4 e5 e6 e7 d2 HS hb0 hb1;go_loop [15,16] (fun tq tr=>∃ q r:Int,tq=.int .u64 q/\tr=.int .u64 r/\eX Y n U x q r/\r < 4294967296) (fun tq _=>(intOf tq).toNat)
 case atStart=>exact⟨_,_,rfl,rfl,u,t⟩
 case round =>
  clear u t;obtain⟨q,r,rfl,rfl,g,hr⟩:=hrel;have q0:=g.q0;have qb:=g.qb;have r0:=g.r0;by_cases c1:4294967296<=q
  ·have b:=g.big N (by omega) u1 c1 (by omega);obtain⟨Q,H⟩:∃ Q,q - 1=Q:=⟨_,rfl⟩
   obtain⟨R,G⟩:∃ R,r+n=R:=⟨_,rfl⟩
   rw[H,G] at b;have M:=b.q0
   have E:Q < q:=by omega
   have T:R < 8589934592:=by omega
   have S:=b.r0;by_cases c2:4294967296<=R
   ·have d:Hid (Dig Y U x Q):=b.lJ v.out (by omega) u1 (by omega) N f m (by omega) c2;have L:=d.out.q1;obtain⟨V,v1,v2,v3,B⟩:=dy d.out D;obtain⟨d2,u,t⟩:=iX Y n K V i v.out f m O P v2 v3 D W j;obtain⟨l,o⟩:∃ l,l=Q:=⟨_,rfl⟩
    have QQ0:0<=l:=by omega
    have X:l < 4294967296:=by omega
    have B:Hid (V=U * 4294967296+x - l * Y):=by rw[o];exact B
    go_wp2_with fail;rw[<- o];clear v1 d2 o;go_loop [18,16] (fun tq tr=>∃ q r:Int,tq=.int .u64 q/\tr=.int .u64 r/\eX Y n V i q r/\r < 4294967296) (fun tq _=>(intOf tq).toNat)
    case atStart=>exact⟨_,_,rfl,rfl,u,t⟩
    case round =>
     clear u t d;obtain⟨q,r,rfl,rfl,g,hr⟩:=hrel;have q0:=g.q0;have qb:=g.qb;have r0:=g.r0;by_cases c1:4294967296<=q
     ·have b:=g.big j (by omega) v3 c1 (by omega);obtain⟨Q,H⟩:∃ Q,q - 1=Q:=⟨_,rfl⟩
      obtain⟨R,G⟩:∃ R,r+n=R:=⟨_,rfl⟩
      rw[H,G] at b;have M:=b.q0
      have E:Q < q:=by omega
      have T:R < 8589934592:=by omega
      have S:=b.r0;by_cases c2:4294967296<=R
      ·have d:Hid (Dig Y V i Q):=b.lJ v.out (by omega) v3 (by omega) j f m (by omega) c2;have L:=d.out.q1;obtain⟨Z,z1,z2,z3,C⟩:=dy d.out D;go_wp2;go_ret2;have c:=fp hi lo y Y U x i l V Q s (by omega) z.out.1 z.out.2 B.out d.out;exact⟨oF c.1 (by rw[<- c.2,<- C.out]),rfl⟩
      ·have F:Hid (eX Y n V i Q R):=b;clear b g;go_wp2;go_round
       case rel=>exact⟨Q,R,rfl,rfl,F.out,by omega⟩
       case measure=>simp[intOf];omega
     ·obtain⟨p,J⟩:∃ p,q * K=p:=⟨_,rfl⟩
      have p0:0<=p:=by rw[<- J];exact Int.mul_nonneg q0 f
      have p1:p < 18446744073709551616:=by
       have:=Int.mul_le_mul (show q<=4294967295 by omega) (show K<=4294967295 by omega) f (by decide);omega
      by_cases c3:4294967296 * r+i < p
      ·have b:=g.more v.out (by omega) (by omega) (by omega) (by rw[J];exact c3);obtain⟨Q,H⟩:∃ Q,q - 1=Q:=⟨_,rfl⟩
       obtain⟨R,G⟩:∃ R,r+n=R:=⟨_,rfl⟩
       rw[H,G] at b;have M:=b.q0
       have E:Q < q:=by omega
       have T:R < 8589934592:=by omega
       have S:=b.r0;by_cases c2:4294967296<=R
       ·have d:Hid (Dig Y V i Q):=b.lJ v.out (by omega) v3 (by omega) j f m (by omega) c2;have L:=d.out.q1;obtain⟨Z,z1,z2,z3,C⟩:=dy d.out D;go_wp2;go_ret2;have c:=fp hi lo y Y U x i l V Q s (by omega) z.out.1 z.out.2 B.out d.out;exact⟨oF c.1 (by rw[<- c.2,<- C.out]),rfl⟩
       ·have F:Hid (eX Y n V i Q R):=b;clear b g;go_wp2;go_round
        case rel=>exact⟨Q,R,rfl,rfl,F.out,by omega⟩
        case measure=>simp[intOf];omega
      ·have d:Hid (Dig Y V i q):=g.dig v.out (by omega) v3 j (by rw[J];omega);have L:=d.out.q1;have M:=d.out.q0;clear g
       have I:∃ Q,Q=q:=⟨_,rfl⟩
       obtain⟨Q,rfl⟩:=I;obtain⟨Z,z1,z2,z3,C⟩:=dy d.out D;go_wp2;go_ret2;have c:=fp hi lo y Y U x i l V Q s (by omega) z.out.1 z.out.2 B.out d.out;exact⟨oF c.1 (by rw[<- c.2,<- C.out]),rfl⟩
   ·have F:Hid (eX Y n U x Q R):=b;clear b g;go_wp2;go_round
    case rel=>exact⟨Q,R,rfl,rfl,F.out,by omega⟩
    case measure=>simp[intOf];omega
  ·obtain⟨p,J⟩:∃ p,q * K=p:=⟨_,rfl⟩
   have p0:0<=p:=by rw[<- J];exact Int.mul_nonneg q0 f
   have p1:p < 18446744073709551616:=by
    have:=Int.mul_le_mul (show q<=4294967295 by omega) (show K<=4294967295 by omega) f (by decide);omega
   by_cases c3:4294967296 * r+x < p
   ·have b:=g.more v.out (by omega) (by omega) (by omega) (by rw[J];exact c3);obtain⟨Q,H⟩:∃ Q,q - 1=Q:=⟨_,rfl⟩
    obtain⟨R,G⟩:∃ R,r+n=R:=⟨_,rfl⟩
    rw[H,G] at b;have M:=b.q0
    have E:Q < q:=by omega
    have T:R < 8589934592:=by omega
    have S:=b.r0;by_cases c2:4294967296<=R
    ·have d:Hid (Dig Y U x Q):=b.lJ v.out (by omega) u1 (by omega) N f m (by omega) c2;have L:=d.out.q1;obtain⟨V,v1,v2,v3,B⟩:=dy d.out D;obtain⟨d2,u,t⟩:=iX Y n K V i v.out f m O P v2 v3 D W j;obtain⟨l,o⟩:∃ l,l=Q:=⟨_,rfl⟩
     have QQ0:0<=l:=by omega
     have X:l < 4294967296:=by omega
     have B:Hid (V=U * 4294967296+x - l * Y):=by rw[o];exact B
     go_wp2_with fail;rw[<- o];clear v1 d2 o;go_loop [18,16] (fun tq tr=>∃ q r:Int,tq=.int .u64 q/\tr=.int .u64 r/\eX Y n V i q r/\r < 4294967296) (fun tq _=>(intOf tq).toNat)
     case atStart=>exact⟨_,_,rfl,rfl,u,t⟩
     case round =>
      clear u t d;obtain⟨q,r,rfl,rfl,g,hr⟩:=hrel;have q0:=g.q0;have qb:=g.qb;have r0:=g.r0;by_cases c1:4294967296<=q
      ·have b:=g.big j (by omega) v3 c1 (by omega);obtain⟨Q,H⟩:∃ Q,q - 1=Q:=⟨_,rfl⟩
       obtain⟨R,G⟩:∃ R,r+n=R:=⟨_,rfl⟩
       rw[H,G] at b;have M:=b.q0
       have E:Q < q:=by omega
       have T:R < 8589934592:=by omega
       have S:=b.r0;by_cases c2:4294967296<=R
       ·have d:Hid (Dig Y V i Q):=b.lJ v.out (by omega) v3 (by omega) j f m (by omega) c2;have L:=d.out.q1;obtain⟨Z,z1,z2,z3,C⟩:=dy d.out D;go_wp2;go_ret2;have c:=fp hi lo y Y U x i l V Q s (by omega) z.out.1 z.out.2 B.out d.out;exact⟨oF c.1 (by rw[<- c.2,<- C.out]),rfl⟩
       ·have F:Hid (eX Y n V i Q R):=b;clear b g;go_wp2;go_round
        case rel=>exact⟨Q,R,rfl,rfl,F.out,by omega⟩
        case measure=>simp[intOf];omega
      ·obtain⟨p,J⟩:∃ p,q * K=p:=⟨_,rfl⟩
       have p0:0<=p:=by rw[<- J];exact Int.mul_nonneg q0 f
       have p1:p < 18446744073709551616:=by
        have:=Int.mul_le_mul (show q<=4294967295 by omega) (show K<=4294967295 by omega) f (by decide);omega
       by_cases c3:4294967296 * r+i < p
       ·have b:=g.more v.out (by omega) (by omega) (by omega) (by rw[J];exact c3);obtain⟨Q,H⟩:∃ Q,q - 1=Q:=⟨_,rfl⟩
        obtain⟨R,G⟩:∃ R,r+n=R:=⟨_,rfl⟩
        rw[H,G] at b;have M:=b.q0
        have E:Q < q:=by omega
        have T:R < 8589934592:=by omega
        have S:=b.r0;by_cases c2:4294967296<=R
        ·have d:Hid (Dig Y V i Q):=b.lJ v.out (by omega) v3 (by omega) j f m (by omega) c2;have L:=d.out.q1;obtain⟨Z,z1,z2,z3,C⟩:=dy d.out D;go_wp2;go_ret2;have c:=fp hi lo y Y U x i l V Q s (by omega) z.out.1 z.out.2 B.out d.out;exact⟨oF c.1 (by rw[<- c.2,<- C.out]),rfl⟩
        ·have F:Hid (eX Y n V i Q R):=b;clear b g;go_wp2;go_round
         case rel=>exact⟨Q,R,rfl,rfl,F.out,by omega⟩
         case measure=>simp[intOf];omega
       ·have d:Hid (Dig Y V i q):=g.dig v.out (by omega) v3 j (by rw[J];omega);have L:=d.out.q1;have M:=d.out.q0;clear g
        have I:∃ Q,Q=q:=⟨_,rfl⟩
        obtain⟨Q,rfl⟩:=I;obtain⟨Z,z1,z2,z3,C⟩:=dy d.out D;go_wp2;go_ret2;have c:=fp hi lo y Y U x i l V Q s (by omega) z.out.1 z.out.2 B.out d.out;exact⟨oF c.1 (by rw[<- c.2,<- C.out]),rfl⟩
    ·have F:Hid (eX Y n U x Q R):=b;clear b g;go_wp2;go_round
     case rel=>exact⟨Q,R,rfl,rfl,F.out,by omega⟩
     case measure=>simp[intOf];omega
   ·have d:Hid (Dig Y U x q):=g.dig v.out (by omega) u1 N (by rw[J];omega);have L:=d.out.q1;have M:=d.out.q0;clear g
    have I:∃ Q,Q=q:=⟨_,rfl⟩
    obtain⟨Q,rfl⟩:=I;obtain⟨V,v1,v2,v3,B⟩:=dy d.out D;obtain⟨d2,u,t⟩:=iX Y n K V i v.out f m O P v2 v3 D W j;obtain⟨l,o⟩:∃ l,l=Q:=⟨_,rfl⟩
    have QQ0:0<=l:=by omega
    have X:l < 4294967296:=by omega
    have B:Hid (V=U * 4294967296+x - l * Y):=by rw[o];exact B
    go_wp2_with fail;rw[<- o];clear v1 d2 o;go_loop [18,16] (fun tq tr=>∃ q r:Int,tq=.int .u64 q/\tr=.int .u64 r/\eX Y n V i q r/\r < 4294967296) (fun tq _=>(intOf tq).toNat)
    case atStart=>exact⟨_,_,rfl,rfl,u,t⟩
    case round =>
     clear u t d;obtain⟨q,r,rfl,rfl,g,hr⟩:=hrel;have q0:=g.q0;have qb:=g.qb;have r0:=g.r0;by_cases c1:4294967296<=q
     ·have b:=g.big j (by omega) v3 c1 (by omega);obtain⟨Q,H⟩:∃ Q,q - 1=Q:=⟨_,rfl⟩
      obtain⟨R,G⟩:∃ R,r+n=R:=⟨_,rfl⟩
      rw[H,G] at b;have M:=b.q0
      have E:Q < q:=by omega
      have T:R < 8589934592:=by omega
      have S:=b.r0;by_cases c2:4294967296<=R
      ·have d:Hid (Dig Y V i Q):=b.lJ v.out (by omega) v3 (by omega) j f m (by omega) c2;have L:=d.out.q1;obtain⟨Z,z1,z2,z3,C⟩:=dy d.out D;go_wp2;go_ret2;have c:=fp hi lo y Y U x i l V Q s (by omega) z.out.1 z.out.2 B.out d.out;exact⟨oF c.1 (by rw[<- c.2,<- C.out]),rfl⟩
      ·have F:Hid (eX Y n V i Q R):=b;clear b g;go_wp2;go_round
       case rel=>exact⟨Q,R,rfl,rfl,F.out,by omega⟩
       case measure=>simp[intOf];omega
     ·obtain⟨p,J⟩:∃ p,q * K=p:=⟨_,rfl⟩
      have p0:0<=p:=by rw[<- J];exact Int.mul_nonneg q0 f
      have p1:p < 18446744073709551616:=by
       have:=Int.mul_le_mul (show q<=4294967295 by omega) (show K<=4294967295 by omega) f (by decide);omega
      by_cases c3:4294967296 * r+i < p
      ·have b:=g.more v.out (by omega) (by omega) (by omega) (by rw[J];exact c3);obtain⟨Q,H⟩:∃ Q,q - 1=Q:=⟨_,rfl⟩
       obtain⟨R,G⟩:∃ R,r+n=R:=⟨_,rfl⟩
       rw[H,G] at b;have M:=b.q0
       have E:Q < q:=by omega
       have T:R < 8589934592:=by omega
       have S:=b.r0;by_cases c2:4294967296<=R
       ·have d:Hid (Dig Y V i Q):=b.lJ v.out (by omega) v3 (by omega) j f m (by omega) c2;have L:=d.out.q1;obtain⟨Z,z1,z2,z3,C⟩:=dy d.out D;go_wp2;go_ret2;have c:=fp hi lo y Y U x i l V Q s (by omega) z.out.1 z.out.2 B.out d.out;exact⟨oF c.1 (by rw[<- c.2,<- C.out]),rfl⟩
       ·have F:Hid (eX Y n V i Q R):=b;clear b g;go_wp2;go_round
        case rel=>exact⟨Q,R,rfl,rfl,F.out,by omega⟩
        case measure=>simp[intOf];omega
      ·have d:Hid (Dig Y V i q):=g.dig v.out (by omega) v3 j (by rw[J];omega);have L:=d.out.q1;have M:=d.out.q0;clear g
       have I:∃ Q,Q=q:=⟨_,rfl⟩
       obtain⟨Q,rfl⟩:=I;obtain⟨Z,z1,z2,z3,C⟩:=dy d.out D;go_wp2;go_ret2;have c:=fp hi lo y Y U x i l V Q s (by omega) z.out.1 z.out.2 B.out d.out;exact⟨oF c.1 (by rw[<- c.2,<- C.out]),rfl⟩
theorem mX(lo y:Int)(w:World)(hy:0 < y)(c:0<=lo)(l1:lo < 18446744073709551616)(y1:y < 18446744073709551616) :
  Calls Tryz.prog 161 #[.int .u64 0,.int .u64 lo,.int .u64 y] w fun e w'=>e=.returned (.tuple #[.int .u64 (lo / y),.int .u64 (lo % y)])/\∃ n,w'=w.drewN n:=by
 have b:(y == 0)=false:=beq_eq_false_iff_ne.2 (by omega);go_enter Tryz.func161,Tryz.ntmps161;go_wp2_with fail;go_quiet (fail);go_wp2;go_ret2;exact⟨rfl,_,rfl⟩
theorem div64(hi lo y:Int)(w:World)(f:0<=hi)(d:hi < y)(a:0<=lo)(l1:lo < 18446744073709551616)(y1:y < 18446744073709551616) :
  Calls Tryz.prog 161 #[.int .u64 hi,.int .u64 lo,.int .u64 y] w fun e w'=>∃ q r:Int,e=.returned (.tuple #[.int .u64 q,.int .u64 r])/\0<=q/\q < 18446744073709551616/\0<=r/\r < y/\Hid (q * y+r=hi * 18446744073709551616+lo)/\∃ n,w'=w.drewN n:=by
 have fin:∀ N:Int,0<=N->N < y * 18446744073709551616->0<=N / y/\N / y < 18446744073709551616/\0<=N % y/\N % y < y/\Hid (N / y * y+N % y=N):=by
  intro N n0 b;refine⟨Int.ediv_nonneg n0 (by omega),(Int.ediv_lt_iff_lt_mul (by omega)).2 (by rw[Int.mul_comm];exact b),Int.emod_nonneg _ (by omega),Int.emod_lt_of_pos _ (by omega),?_⟩
  show _=_
  rw[Int.mul_comm];exact Int.mul_ediv_add_emod N y
 by_cases c:hi=0
 ·subst c;refine(mX lo y w (by omega) a l1 y1).mono ?_
  rintro e w' ⟨rfl,hw⟩;obtain⟨f1,f2,f3,f4,f5⟩:=fin lo a (by omega);exact⟨_,_,rfl,f1,f2,f3,f4,by simpa using f5,hw⟩
 ·refine(o9 hi lo y w (by omega) d a l1 y1).mono ?_
  rintro e w' ⟨rfl,rfl⟩;obtain⟨f1,f2,f3,f4,f5⟩:=fin (hi * 18446744073709551616+lo) (by omega) (by omega);exact⟨_,_,rfl,f1,f2,f3,f4,f5,0,rfl⟩
end
end
section
open Go.RowKit Lim
section
variable {l:List Int}{h:Nat}
theorem ep(hl:h < l.length):val (l.drop h)=nth l h+18446744073709551616 * val (l.drop (h+1)):=by
 rw[List.drop_eq_getElem_cons hl,val,b8 hl]
structure jK(lz:List Int)(d:Int)(h:Nat)(lz1:List Int)(left:Int):Prop where
 len:lz1.length=lz.length
 words:Words lz1
 low:∀ i,i < h->nth lz1 i=nth lz i
 val:Lim.val (lz1.drop h) * d+left=Lim.val (lz.drop h)
theorem jK.step{lz lz1:List Int}{d left q r:Int}(hv:jK lz d (h+1) lz1 left)(b:h < lz.length)(q0:0<=q)(q1:q < 18446744073709551616)(e:q * d+r=left * 18446744073709551616+nth lz h):jK lz d h (lz1.set h q) r:=by
 have a:=hv.len;refine⟨by simp[a],hv.words.set h q0 q1,fun i hi=>by rw[dG (by omega),if_neg (by omega)];exact hv.low i (by omega),?_⟩;rw[ep (by simp;omega),dG (by omega),if_pos rfl,List.drop_set,if_pos (by omega),ep b,<- hv.val];grind
theorem ie(s:Option Addr)(j l b G:Nat)(d:Int)(lz:List Int)(w:World)(m:lz.length=b)(E:b<=2199023255552)(n:b<=G)(d0:0 < d)(d1:d < 18446744073709551616)(t:Words lz)(A:At w s j l lz)(v:dJ w j l b) :
  Calls Tryz.prog 102 #[.slice s b G,.int .u64 d] w fun e w'=>∃ (left:Int) (lz':List Int),e=.returned (.int .u64 left)/\0<=left/\left < d/\lz'.length=b/\Words lz'/\At w' s j l lz'/\Wr j l b w w'/\val lz' * d+left=val lz:=by
 go_enter Tryz.func102,Tryz.ntmps102;go_wp2;go_loopw [5,10] (fun tc u wr=>∃ (k:Nat) (c:Int) (f:List Int),k<=b/\u=.int .i64 k/\tc=.int .u64 c/\0<=c/\c < d/\jK lz d (b - k) f c/\At wr s j l f/\Wr j l b w wr) (fun _ u _=>b - (intOf u).toNat)
 case atStart=>exact⟨0,0,lz,Nat.zero_le _,rfl,rfl,by decide,d0,⟨rfl,t,fun _ _=>rfl,by simp[<- m,val]⟩,A,Wr.refl _ _ _ _⟩
 case round =>
  obtain⟨k,c,f,O,rfl,rfl,o,p,hinv,g,i⟩:=hrel;have x:=hinv.len;by_cases M:k < b
  ·rcases A.loc with e | rfl
   ·subst e;simp at m;omega
   obtain⟨h,H⟩:∃ h:Nat,b=h+1+k:=⟨b - 1 - k,by omega⟩
   have n:=g.cell h (by omega);have L:=i.free v h (by omega);have B:=t.nth h;rw[hinv.low h (by omega)] at n
   have I:(b:Int) - 1 - k=h:=by omega
   have K:(h:Int) < b:=by omega
   obtain⟨C,y⟩:=B
   have J:Hid (jK lz d (h+1) f c):=by rw[show h+1=b - k from by omega];exact hinv
   have N:Hid (b=h+1+k):=H;clear H hinv A t;go_wp2_with (go_at_call 161;refine(div64 _ _ _ _ o p C y d1).mono ?_;rintro e w' ⟨q,r,rfl,q0,q1,r0,r1,z,F,rfl⟩);have hn:=N.out;refine⟨⟨k+1,r,f.set h q,by omega,by go_num,rfl,r0,r1,by rw[show b - (k+1)=h from by omega];exact J.out.step (by omega) q0 q1 z.out,?_,?_⟩,by simp[intOf];omega⟩
   ·exact(g.setCell (by omega) q).drewN F
   ·exact(i.setCell (by omega) (by omega) _).drewN F
  ·have D:k=b:=by omega
   subst D;go_wp2;go_ret;refine⟨c,f,rfl,o,p,by omega,hinv.words,g,i,?_⟩;have:=hinv.val;rwa [Nat.sub_self,List.drop_zero,List.drop_zero] at this
end
end
section
open Go.RowKit Lim
theorem dM.of {w w':World} {l:List Int} {ao:Option Addr} {n c b o:Nat} (hn:n=l.length) (e:n<=c) (a:w.heap.size<=b) (d:At w' ao b o l) (f:dJ w' b o n):dM w w' (.slice ao n c) l:=by
 subst hn;exact⟨ao,b,o,c,rfl,e,a,d,f⟩
theorem jQ (ao:Option Addr) (n c b o:Nat) (l:List Int) (w:World) (s:l.length=n) (hc:n<=c) (p:n<=1099511627776) (q:At w ao b o l) :
  Calls Tryz.prog 101 #[.slice ao n c] w fun e w'=>e=.returned (.slice (some ⟨w.heap.size,0,none⟩) (aI l) (aI l))/\Row w' w.heap.size (norm l)/\Below w.heap.size w w':=by
 have hn:=bH l;have t1:=bF ao n c l w s hc (by omega) q.cells;have hs:=q.sub (aI l);have m:=aL l;rw[show l.take (aI l)=norm l from rfl] at hs;generalize aI l=N at *;generalize norm l=L at *;go_enter Tryz.func101,Tryz.ntmps101;go_wp2_with fail;refine t1.mono ?_
 rintro e t ⟨rfl,rfl⟩;clear t1
 go_wp2_with (first
  | (at_make;refine di rfl _ _ rfl N _ _ rfl rfl rfl rfl (by omega) ?_;intro v g d r;have i:=hs.keep d)
  | (refine hH rfl (.tmp 10) (.tmp 11) rfl _ _ _ _ _ _ rfl rfl _ _ g (by simp) _ _ m (Nat.le_refl _) i ?_;intro u f j))
 go_ret;refine⟨rfl,?_,?_⟩
 ·simpa using f
 ·exact d.trans (j.below (Nat.le_refl _))
end
section
open Go.RowKit Lim
section
variable {lz lb lz1:List Int}{m c:Int}{k:Nat}
theorem yR(z x m c hi lo:Int)(a:0<=z/\z < 18446744073709551616)(hc:0<=c/\c < 18446744073709551616)(e:0<=hi)(b:hi<=18446744073709551614)(d:0<=lo)(g:lo < 18446744073709551616)(f:hi * 18446744073709551616+lo=x * m)(hb:x * m<=340282366920938463426481119284349108225) :
  0<=hi+(lo+c) / 18446744073709551616/\hi+(lo+c) / 18446744073709551616<=18446744073709551615 /\
  0<=hi+(lo+c) / 18446744073709551616+(z+(lo+c) % 18446744073709551616) / 18446744073709551616 /\
  hi+(lo+c) / 18446744073709551616+(z+(lo+c) % 18446744073709551616) / 18446744073709551616<=18446744073709551615 /\
  (z+(lo+c) % 18446744073709551616) % 18446744073709551616+18446744073709551616 * (hi+(lo+c) / 18446744073709551616+(z+(lo+c) % 18446744073709551616) / 18446744073709551616)=z+x * m+c:=by
 omega
def du(lz lb:List Int)(m:Int)(k:Nat)(lz1:List Int)(c:Int):Prop :=
 lz1.length=lz.length/\Words lz1/\(∀ i,k<=i->nth lz1 i=nth lz i)/\val (lz1.take k)+18446744073709551616 ^ k * c=val (lz.take k)+val (lb.take k) * m
theorem du.step{a c':Int}(h:du lz lb m k lz1 c)(j:k < lz.length)(d:0<=a)(b:a < 18446744073709551616)(e:a+18446744073709551616 * c'=nth lz k+nth lb k * m+c):du lz lb m (k+1) (lz1.set k a) c':=by
 obtain⟨f,n,g,o⟩:=h;refine⟨by simp[f],n.set k d b,fun i hi=>?_,?_⟩
 ·rw[dG (by omega),if_neg (by omega)];exact g i (by omega)
 ·have hb:val (lb.take (k+1))=val (lb.take k)+18446744073709551616 ^ k * nth lb k:=by
   by_cases l:k < lb.length
   ·exact dB l
   ·rw[List.take_of_length_le (by omega),List.take_of_length_le (by omega),gx (by omega)];simp
  rw[dB (by simp[f];omega),dB j,hb,List.take_set_of_le (Nat.le_refl _),dG (by omega),if_pos rfl,Int.pow_succ];have:18446744073709551616 ^ k * (a+18446744073709551616 * c')=18446744073709551616 ^ k * (nth lz k+nth lb k * m+c):=by rw[e]
  grind
theorem du.done{n:Nat}(hn:lz.length=n)(h:du lz lb m k lz1 c)(hc:c=0\/lz.length=k)(q:lb.length<=k)(p:k<=n) :
  val lz1=(val lz+val lb * m) % 18446744073709551616 ^ n:=by
 obtain⟨d,g,j,b⟩:=h;rw[List.take_of_length_le (l:=lb) (by omega)] at b;have a:=dL g;have f:=aO g;rw[d,hn] at a;rcases hc with e | e
 ·subst e
  have hd:lz1.drop k=lz.drop k:=ml (by simp[d]) fun i hi=>by rw[dN,dN];exact j _ (by omega)
  have e1:=bM lz1 k (by omega);have e2:=bM lz k (by omega);rw[hd] at e1;have:val lz+val lb * m=val lz1:=by rw[e1,e2];simp only[Int.mul_zero,Int.add_zero] at b;omega
  rw[this];exact(Int.emod_eq_of_lt f a).symm
 ·have o:k=n:=by omega
  subst o;rw[List.take_of_length_le (l:=lz1) (by omega),List.take_of_length_le (l:=lz) (by omega)] at b;rw[<- b,Int.add_mul_emod_self_left];exact(Int.emod_eq_of_lt f a).symm
theorem eD(H:Option Addr)(n o i cz:Nat)(ab:Option Addr)(bb ob u Z:Nat)(m:Int)(lz lb:List Int)(w:World)(v:lz.length=i)(R:lb.length=u)(hle:u≤i)(ac:i≤2199023255552)(q:i≤cz)(N:u≤Z)(F:0≤m)(K:m < 18446744073709551616)(D:Words lz)(O:Words lb)(G:At w H n o lz)(p:dJ w n o i)(hb:At w ab bb ob lb)(z:lb=[]∨bb≠n) :
    Calls Tryz.prog 71 #[.slice H i cz, .slice ab u Z, .int .u64 m] w fun e w' => e = .returned (.tuple #[]) ∧
      ∃ lz',lz'.length=i∧Words lz'∧At w' H n o lz'∧Wr n o i w w'∧val lz'=(val lz+val lb * m) % 18446744073709551616 ^ i:=by
  go_enter Tryz.func71,Tryz.ntmps71;go_wp2;go_loopw [6,14] (fun tc A wr=>∃ (k:Nat) (c:Int) (g:List Int),k≤u∧A=.int .i64 k∧tc=.int .u64 c∧0≤c∧c < 18446744073709551616∧du lz lb m k g c∧At wr H n o g∧Wr n o i w wr) (fun _ A _=>u - (intOf A).toNat)
  case atStart=>exact⟨0,0,lz,Nat.zero_le _,rfl,rfl,by decide,by decide,⟨rfl,D,fun _ _=>rfl,by simp[val]⟩,G,Wr.refl _ _ _ _⟩
  case round =>
    obtain⟨k,c,g,hk,rfl,rfl,r,B,hinv,f,b⟩:= hrel;have x:=hinv.1;by_cases hlt:k < u
    · rcases hb.loc with e | rfl
      · subst e;simp at R;omega
      rcases G.loc with e | rfl
      · subst e;simp at v;omega
      have I:=hb.wr b z;have N:=I.cell k (by omega);have q:=f.cell k (by omega);have U:=b.free p k (by omega);have hx:=O.nth k;have y:=D.nth k;rw[hinv.2.2.1 k (Nat.le_refl _)] at q;obtain⟨Q,M⟩:= hx;obtain⟨t,E⟩:= y
      have C:Hid (du lz lb m k g c):=hinv
      have P:Hid (At wr (some ⟨n,o,none⟩) n o g):=f
      have T:Hid (Wr n o i w wr):=b;clear hinv f b I G hb p D O z
      go_wp2_with (first
        | (go_at_call 118;refine(l7 _ _ Q M F K _).mono ?_;rintro e w' ⟨hi,lo,rfl,h1,h2,Y,h4,h5,rfl⟩)
        | simp only[sd _ _ Y r]
        | simp only[Dl _ _ t])
      have V:nth lb k * m≤340282366920938463426481119284349108225:=by
        have:=Int.mul_le_mul (show nth lb k≤18446744073709551615 by omega) (show m≤18446744073709551615 by omega) F (by decide);simpa using this
      obtain⟨s1,s2,s3,s4,J⟩:= yR (nth lz k) (nth lb k) m c hi lo ⟨t,E⟩ ⟨r,B⟩ h1 h2 Y h4 h5 V;rw[Int.add_emod_emod] at J;rw[IntWalk.u64_in _ ⟨s3,s4⟩];refine⟨⟨k+1,_,_,by omega,by go_num,rfl,s3,by omega,C.out.step (by omega) (Int.emod_nonneg _ (by decide)) (Int.emod_lt_of_pos _ (by decide)) J,P.out.setCell (by omega) _,T.out.setCell (by omega) (by omega) _⟩,by simp[intOf];omega⟩
    · have X : k = u := by omega
      subst X
      have C:Hid (du lz lb m k g c):=hinv;clear hinv;go_wp2;go_loopw [6,11] (fun tc A wr=>∃ (j:Nat) (c:Int) (g:List Int),k≤j∧j≤i∧A=.int .i64 j∧tc=.int .u64 c∧0≤c∧c < 18446744073709551616∧du lz lb m j g c∧At wr H n o g∧Wr n o i w wr) (fun _ A _=>i - (intOf A).toNat)
      case atStart=>exact⟨k,c,g,Nat.le_refl _,by omega,rfl,rfl,r,B,C.out,f,b⟩
      case round =>
        clear f b C x r B;obtain⟨j,d,s,hkj,hj,rfl,rfl,L,hd1,hinv,f,b⟩:= hrel;have S:=hinv.1;by_cases aa:j < i
        · by_cases hd:d=0
          · subst hd
            go_wp2;go_end0;refine⟨rfl,s,by omega,hinv.2.1,f,b,?_⟩;exact du.done (by omega) hinv (.inl rfl) (by omega) (by omega)
          · rcases G.loc with e | rfl
            · subst e;simp at v;omega
            have q:=f.cell j (by omega);have U:=b.free p j (by omega);have y:=D.nth j;rw[hinv.2.2.1 j (Nat.le_refl _)] at q;obtain⟨t,E⟩:= y
            have hdb:(d != 0)=true:=by rw[bne_iff_ne];exact hd
            have C:Hid (du lz lb m j s d):=hinv
            have P:Hid (At wr (some ⟨n,o,none⟩) n o s):=f
            have T:Hid (Wr n o i w wr):=b;clear hinv f b G hb p D O z;go_wp2_with (simp only[sd _ _ t L])
            have J:(nth lz j+d) % 18446744073709551616+18446744073709551616 * ((nth lz j+d) / 18446744073709551616)=nth lz j+nth lb j * m+d:=by
              rw[gx (l:=lb) (by omega)];omega
            refine⟨⟨j+1,_,_,by omega,by omega,by go_num,rfl,by omega,by omega,C.out.step (by omega) (Int.emod_nonneg _ (by decide)) (Int.emod_lt_of_pos _ (by decide)) J,P.out.setCell (by omega) _,T.out.setCell (by omega) (by omega) _⟩,by simp[intOf];omega⟩
        · have W : j = i := by omega
          subst W;go_wp2;go_end0;refine⟨rfl,s,by omega,hinv.2.1,f,b,?_⟩;exact du.done (by omega) hinv (.inr v) (by omega) (by omega)
end
end
section
open Go.RowKit Lim
section
variable {l:List Int}
theorem qC{n:Int}(h:IsN l n):0<=n/\n < 18446744073709551616 ^ l.length:=by
 rw[<- h.2.2];exact⟨aO h.1,dL h.1⟩
theorem pow_pos(k:Nat):(0:Int) < 18446744073709551616 ^ k:=Int.pow_pos (by decide)
theorem wH{L L' lz:List Int}{x y:Int}(hL:IsN L x)(a:IsN L' y)(hle:L'.length<=L.length)(hw:Words lz)(hv:val lz=(val (L ++ [0])+val L' * 1) % 18446744073709551616 ^ (L.length+1)):IsN (norm lz) (x+y):=by
 have c:=qC hL;have d:=qC a;have b:=iI hle;have f:=pow_pos L.length
 have e:val (L ++ [0])+val L' * 1=x+y:=by rw[eu,hL.2.2,a.2.2];simp[val]
 rw[e,Int.emod_eq_of_lt (by omega) (by rw[Int.pow_succ];omega)] at hv;rw[<- hv];exact cE hw
theorem eM(n:Nat):Words (List.replicate n 0):=fun x hx=>by rw[List.eq_of_mem_replicate hx];decide
theorem CO(ao:Option Addr)(n c b o:Nat)(ao':Option Addr)(n' c' b' o':Nat)(l u:List Int)(w:World)(hl:l.length=n)(aa:u.length=n')(hc:n<=c)(hc':n'<=c')(hbig:n<=1099511627776)(V:n'<=1099511627776)(wl:Words l)(Z:Words u)(ha:At w ao b o l)(H:At w ao' b' o' u) :
  Calls Tryz.prog 34 #[.slice ao n c,.slice ao' n' c'] w fun e w'=>∃ v r,e=.returned v/\dM w w' v r/\IsN r (val l+val u)/\r.length<=n+n' + 1/\Below w.heap.size w w':=by
 have hn:=bH l
 have hn':=bH u;have t1:=bF ao n c l w hl hc (by omega) ha.cells;have t2:=bF ao' n' c' u w aa hc' (by omega) H.cells;have hs:=ha.sub (aI l)
 have E:=H.sub (aI u);have F:=aL l
 have t:=aL u;have T:=cE wl
 have D:=cE Z;rw[show l.take (aI l)=norm l from rfl] at hs;rw[show u.take (aI u)=norm u from rfl] at E;generalize aI l=N at *;generalize aI u=I at *;generalize norm l=L at *;generalize norm u=S at *;clear ha H;go_enter Tryz.func34,Tryz.ntmps34;go_wp2_with fail;refine t1.mono ?_
 rintro e w1 ⟨rfl,rfl⟩;go_wp2_with fail;refine t2.mono ?_
 rintro e G ⟨rfl,rfl⟩;clear t1 t2;by_cases hlt:N < I
 ·have C:L=[]\/b≠G.heap.size:=by
   rcases hs.lt with e | e
   ·exact .inl e
   ·exact .inr (by omega)
  go_wp2_with (first
   | (at_make;refine di rfl _ _ rfl (I+1) _ _ rfl rfl (by omega) (by omega) (by omega) ?_;intro w3 s d U;have A:=E.keep d;have z:=hs.keep d)
   | (refine hH rfl (.tmp 23) (.tmp 24) rfl _ _ _ _ _ _ rfl rfl _ _ s (by simp) _ _ t (by omega) A ?_;intro Q f g))
  have q:Row Q G.heap.size (S ++ [0]):=by
   have:=f;rw[List.drop_replicate,show I+1 - I=1 from by omega] at this;simpa using this
  have y:=z.wr g C;refine(eD _ G.heap.size 0 _ _ _ b o _ _ 1 (S ++ [0]) L Q (by simp[t]) F (by omega) (by omega) (Nat.le_refl _) (Nat.le_refl _) (by decide) (by decide) (D.1.append (eM 1)) T.1 q.at (q.free _ _) y C).mono ?_
  rintro e X ⟨rfl,p,O,J,m,j,B⟩
  have Y:IsN (norm p) (_+_):=wH D T (by omega) J (by rw[B,t]);have M:=j.free (q.free 0 (I+1));have W:=bH p;have P:=aL p;have x:=m.sub (aI p);have HB:=(d.trans (g.below (Nat.le_refl _))).trans (j.below (Nat.le_refl _));rw[show p.take (aI p)=norm p from rfl] at x;have t3:=bF (some ⟨G.heap.size,0,none⟩) (I+1) (I+1) p X O (Nat.le_refl _) (by omega) m.cells;clear q y z A s f g j d m B;generalize aI p=K at *;generalize norm p=R at *;go_wp2_with fail;refine t3.mono ?_
  rintro e w6 ⟨rfl,rfl⟩;go_wp2;go_ret;exact⟨_,R,rfl,dM.of P.symm (Nat.le_refl _) (Nat.le_refl _) x (fun i hi=>M i (by omega)),by rw[Int.add_comm];exact Y,by omega,HB⟩
 ·have C:S=[]\/b'≠G.heap.size:=by
   rcases E.lt with e | e
   ·exact .inl e
   ·exact .inr (by omega)
  go_wp2_with (first
   | (at_make;refine di rfl _ _ rfl (N+1) _ _ rfl rfl (by omega) (by omega) (by omega) ?_;intro w3 s d U;have A:=hs.keep d;have z:=E.keep d)
   | (refine hH rfl (.tmp 23) (.tmp 24) rfl _ _ _ _ _ _ rfl rfl _ _ s (by simp) _ _ F (by omega) A ?_;intro Q f g))
  have q:Row Q G.heap.size (L ++ [0]):=by
   have:=f;rw[List.drop_replicate,show N+1 - N=1 from by omega] at this;simpa using this
  have y:=z.wr g C;refine(eD _ G.heap.size 0 _ _ _ b' o' _ _ 1 (L ++ [0]) S Q (by simp[F]) t (by omega) (by omega) (Nat.le_refl _) (Nat.le_refl _) (by decide) (by decide) (T.1.append (eM 1)) D.1 q.at (q.free _ _) y C).mono ?_
  rintro e X ⟨rfl,p,O,J,m,j,B⟩
  have Y:IsN (norm p) (_+_):=wH T D (by omega) J (by rw[B,F]);have M:=j.free (q.free 0 (N+1));have W:=bH p;have P:=aL p;have x:=m.sub (aI p);have HB:=(d.trans (g.below (Nat.le_refl _))).trans (j.below (Nat.le_refl _));rw[show p.take (aI p)=norm p from rfl] at x;have t3:=bF (some ⟨G.heap.size,0,none⟩) (N+1) (N+1) p X O (Nat.le_refl _) (by omega) m.cells;clear q y z A s f g j d m B;generalize aI p=K at *;generalize norm p=R at *;go_wp2_with fail;refine t3.mono ?_
  rintro e w6 ⟨rfl,rfl⟩;go_wp2;go_ret;exact⟨_,R,rfl,dM.of P.symm (Nat.le_refl _) (Nat.le_refl _) x (fun i hi=>M i (by omega)),Y,by omega,HB⟩
end
end
section
open Go.RowKit Lim
theorem Ch (x y:Int):0<=bor x y/\bor x y<=1:=by unfold bor;split<;>decide
theorem wg (x y:Int) (hx:0<=x/\x < 18446744073709551616) (hy:0<=y/\y < 18446744073709551616):(x - y) % 18446744073709551616=x - y+18446744073709551616 * bor x y:=by
 unfold bor;split<;>omega
theorem DZ (x y:Int) (hx:0<=x) (a:x < 18446744073709551616) (w:World):(callFunc 163 #[.int .u64 x,.int .u64 (y % 18446744073709551616),.int .u64 0]).run Tryz.prog w =
  .ok (.value (.tuple #[.int .u64 ((x - y % 18446744073709551616) % 18446744073709551616),.int .u64 (bor x (y % 18446744073709551616))])) w :=
 EX x _ hx a (Int.emod_nonneg _ (by decide)) (Int.emod_lt_of_pos _ (by decide)) w
theorem yq (z x m c hi lo:Int) (a:0<=z/\z < 18446744073709551616) (hc:0<=c/\c < 18446744073709551616) (e:0<=hi) (b:hi<=18446744073709551614) (d:0<=lo) (g:lo < 18446744073709551616) (f:hi * 18446744073709551616+lo=x * m)
  (hb:x * m<=340282366920938463426481119284349108225) :
  0<=hi+(lo+c) / 18446744073709551616/\hi+(lo+c) / 18446744073709551616<=18446744073709551615 /\
  0<=hi+(lo+c) / 18446744073709551616+bor z ((lo+c) % 18446744073709551616) /\
  hi+(lo+c) / 18446744073709551616+bor z ((lo+c) % 18446744073709551616)<=18446744073709551615 /\
  (z - (lo+c) % 18446744073709551616) % 18446744073709551616+18446744073709551616 * (-(hi+(lo+c) / 18446744073709551616+bor z ((lo+c) % 18446744073709551616)))=z+x * -m + -c:=by
 rw[wg z _ a ⟨by omega,by omega⟩,show x * -m=-(x * m) from Int.mul_neg x m];have:=Ch z ((lo+c) % 18446744073709551616);unfold bor at *;split<;>omega
theorem du.gq {lz lb lz1:List Int} {m c:Int} {k n:Nat} (hn:lz.length=n) (h:du lz lb m k lz1 c) (hc:c=0\/lz.length=k) (j:lb.length<=k) (g:k<=n) :
  val lz1+18446744073709551616 ^ n * c=val lz+val lb * m:=by
 obtain⟨d,o,b,a⟩:=h;rw[List.take_of_length_le (l:=lb) (by omega)] at a;rcases hc with e | e
 ·subst e
  have hd:lz1.drop k=lz.drop k:=ml (by simp[d]) fun i hi=>by rw[dN,dN];exact b _ (by omega)
  have e1:=bM lz1 k (by omega);have e2:=bM lz k (by omega);rw[hd] at e1;simp only[Int.mul_zero,Int.add_zero] at a ⊢;rw[e1,e2];omega
 ·have f:k=n:=by omega
  subst f;rw[List.take_of_length_le (l:=lz1) (by omega),List.take_of_length_le (l:=lz) (by omega)] at a;exact a
theorem ji (D:Option Addr) (n p g cz:Nat) (ab:Option Addr) (bb ob v cb:Nat) (m:Int) (lz lb:List Int) (w:World)
    (s:lz.length=g) (Y:lb.length=v) (hle:v≤g) (hbig:g≤2199023255552) (y:g≤cz) (S:v≤cb) (J:0≤m) (Q:m < 18446744073709551616)
    (H:Words lz) (U:Words lb) (L:At w D n p lz) (x:dJ w n p g) (hb:At w ab bb ob lb) (C:lb=[]∨bb≠n) :
    Calls Tryz.prog 108 #[.slice D g cz, .slice ab v cb, .int .u64 m] w fun e w' => ∃ gq : Int, e = .returned (.int .u64 gq) ∧ 0 ≤ gq ∧ gq < 18446744073709551616 ∧
      ∃ lz',lz'.length=g∧Words lz'∧At w' D n p lz'∧Wr n p g w w'∧val lz'=val lz - val lb * m+18446744073709551616 ^ g * gq:=by
  have fin:∀ (j:Nat) (d:Int) (o:List Int) (wr:World),v≤j→j≤g→0≤d→d < 18446744073709551616→du lz lb (-m) j o (-d)→At wr D n p o→Wr n p g w wr→(d=0∨g=j) →
      ∃ gq:Int,Ending.returned (.int .u64 d)=.returned (.int .u64 gq)∧0≤gq∧gq < 18446744073709551616 ∧
      ∃ lz',lz'.length=g∧Words lz'∧At wr D n p lz'∧Wr n p g w wr∧val lz'=val lz - val lb * m+18446744073709551616 ^ g * gq:=by
    intro j d o wr h1 V O T K h6 h7 h8;refine⟨d,rfl,O,T,o,by rw[K.1,s],K.2.1,h6,h7,?_⟩
    have := K.gq s (by rcases h8 with e | e
                       · left;omega
                       · right;omega) (by omega) V
    rw[Int.mul_neg,Int.mul_neg] at this;omega
  have M:=(show Hid _ from fin);clear fin;go_enter Tryz.func108,Tryz.ntmps108;go_wp2;go_loopw [7,15] (fun tc E wr=>∃ (k:Nat) (c:Int) (i:List Int),k≤v∧E=.int .i64 k∧tc=.int .u64 c∧0≤c∧c < 18446744073709551616∧du lz lb (-m) k i (-c)∧At wr D n p i∧Wr n p g w wr) (fun _ E _=>v - (intOf E).toNat)
  case atStart=>exact⟨0,0,lz,Nat.zero_le _,rfl,rfl,by decide,by decide,⟨rfl,H,fun _ _=>rfl,by simp[val]⟩,L,Wr.refl _ _ _ _⟩
  case round =>
    obtain⟨k,c,i,hk,rfl,rfl,z,F,hinv,f,b⟩:= hrel;have A:=hinv.1;by_cases hlt:k < v
    · rcases hb.loc with e | rfl
      · subst e;simp at Y;omega
      rcases L.loc with e | rfl
      · subst e;simp at s;omega
      have N:=hb.wr b C;have S:=N.cell k (by omega);have y:=f.cell k (by omega);have hfr:=b.free x k (by omega);have hx:=U.nth k;have B:=H.nth k;rw[hinv.2.2.1 k (Nat.le_refl _)] at y;obtain⟨X,R⟩:= hx;obtain⟨r,q⟩:= B
      have G:Hid (du lz lb (-m) k i (-c)):=hinv
      have W:Hid (At wr (some ⟨n,p,none⟩) n p i):=f
      have HW:Hid (Wr n p g w wr):=b;clear hinv f b N L hb x H U C
      go_wp2_with (first
        | (go_at_call 118;refine(l7 _ _ X R J Q _).mono ?_;rintro e w' ⟨hi,lo,rfl,h1,V,O,T,K,rfl⟩)
        | simp only[sd _ _ O z]
        | simp only[DZ _ _ r q])
      have hxm:nth lb k * m≤340282366920938463426481119284349108225:=by
        have:=Int.mul_le_mul (show nth lb k≤18446744073709551615 by omega) (show m≤18446744073709551615 by omega) J (by decide);simpa using this
      obtain⟨s1,s2,s3,s4,P⟩:= yq (nth lz k) (nth lb k) m c hi lo ⟨r,q⟩ ⟨z,F⟩ h1 V O T K hxm;rw[Int.sub_emod_emod] at P;rw[IntWalk.u64_in _ ⟨s3,s4⟩];refine⟨⟨k+1,_,_,by omega,by go_num,rfl,s3,by omega,G.out.step (by omega) (Int.emod_nonneg _ (by decide)) (Int.emod_lt_of_pos _ (by decide)) P,W.out.setCell (by omega) _,HW.out.setCell (by omega) (by omega) _⟩,by simp[intOf];omega⟩
    · have hkn : k = v := by omega
      subst hkn
      have G:Hid (du lz lb (-m) k i (-c)):=hinv;clear hinv;go_wp2;go_loopw [7,12] (fun tc E wr=>∃ (j:Nat) (c:Int) (i:List Int),k≤j∧j≤g∧E=.int .i64 j∧tc=.int .u64 c∧0≤c∧c < 18446744073709551616∧du lz lb (-m) j i (-c)∧At wr D n p i∧Wr n p g w wr) (fun _ E _=>g - (intOf E).toNat)
      case atStart=>exact⟨k,c,i,Nat.le_refl _,by omega,rfl,rfl,z,F,G.out,f,b⟩
      case round =>
        clear f b G A z F;obtain⟨j,d,o,I,hj,rfl,rfl,t,u,hinv,f,b⟩:= hrel;have Z:=hinv.1;by_cases hlt2:j < g
        · by_cases hd:d=0
          · subst hd
            go_wp2;go_ret;exact M.out j 0 o _ I hj t u hinv f b (.inl rfl)
          · rcases L.loc with e | rfl
            · subst e;simp at s;omega
            have y:=f.cell j (by omega);have hfr:=b.free x j (by omega);have B:=H.nth j;rw[hinv.2.2.1 j (Nat.le_refl _)] at y;obtain⟨r,q⟩:= B
            have hdb:(d != 0)=true:=by rw[bne_iff_ne];exact hd
            have G:Hid (du lz lb (-m) j o (-d)):=hinv
            have W:Hid (At wr (some ⟨n,p,none⟩) n p o):=f
            have HW:Hid (Wr n p g w wr):=b;clear hinv f b L hb x H U C;go_wp2_with (simp only[EX _ _ r q t u]);have hbb:=Ch (nth lz j) d
            have P:(nth lz j - d) % 18446744073709551616+18446744073709551616 * -bor (nth lz j) d=nth lz j+nth lb j * -m + -d:=by
              rw[gx (l:=lb) (by omega),wg _ _ ⟨r,q⟩ ⟨t,u⟩];omega
            refine⟨⟨j+1,_,_,by omega,by omega,by go_num,rfl,by omega,by omega,G.out.step (by omega) (Int.emod_nonneg _ (by decide)) (Int.emod_lt_of_pos _ (by decide)) P,W.out.setCell (by omega) _,HW.out.setCell (by omega) (by omega) _⟩,by simp[intOf];omega⟩
        · have hjn : j = g := by omega
          subst hjn;go_wp2;go_ret;exact M.out j d o _ I hj t u hinv f b (.inr rfl)
end
section
open Go.RowKit Lim
theorem Ek {L L' lz:List Int} {x y gq:Int} (hL:IsN L x) (a:IsN L' y) (hle:y<=x) (hw:Words lz) (d:lz.length=L.length) (g:0<=gq)
  (hv:val lz=val L - val L' * 1+18446744073709551616 ^ L.length * gq):IsN (norm lz) (x - y):=by
 have f:=qC hL;have i:=qC a;have b:=dL hw;have j:=aO hw;have e:=pow_pos L.length;rw[hL.2.2,a.2.2] at hv;rw[d] at b
 have c:gq=0:=by
  by_cases h:0 < gq
  ·have:18446744073709551616 ^ L.length * 1<=18446744073709551616 ^ L.length * gq:=Int.mul_le_mul_of_nonneg_left (by omega) (Int.le_of_lt e);omega
  ·omega
 subst c;have:x - y=val lz:=by rw[hv];simp
 rw[this];exact cE hw
theorem sub_lt (ao:Option Addr) (n c b o:Nat) (ao':Option Addr) (n' c' b' o':Nat) (l f:List Int) (w:World) (s:l.length=n) (m:f.length=n') (hc:n<=c) (r:n'<=c') (g:n<=1099511627776) (d:n'<=1099511627776)
  (wl:Words l) (j:Words f) (t:At w ao b o l) (p:At w ao' b' o' f) (q:val l < val f) :
  Calls Tryz.prog 63 #[.slice ao n c,.slice ao' n' c'] w fun e w'=>e=.returned (.tuple #[.slice none 0 0,.int .i64 10])/\Below w.heap.size w w':=by
 have t1:=jT ao n c b o ao' n' c' b' o' l f w s m hc r g d wl j t p;rw[iD q] at t1;go_enter Tryz.func63,Tryz.ntmps63;go_wp2_with fail;refine t1.mono ?_
 rintro e u ⟨rfl,i⟩;go_wp2_with fail;go_ret2;exact⟨rfl,i⟩
theorem sub_ge (ao:Option Addr) (n c b o:Nat) (ao':Option Addr) (n' c' b' o':Nat) (l d:List Int) (w:World) (X:l.length=n) (F:d.length=n') (hc:n<=c) (J:n'<=c') (t:n<=1099511627776) (y:n'<=1099511627776)
  (wl:Words l) (B:Words d) (W:At w ao b o l) (x:At w ao' b' o' d) (T:val d<=val l) :
  Calls Tryz.prog 63 #[.slice ao n c,.slice ao' n' c'] w fun e w'=>∃ v r,e=.returned (.tuple #[v,.int .i64 0])/\dM w w' v r/\IsN r (val l - val d)/\r.length<=n/\Below w.heap.size w w':=by
 have t1:=jT ao n c b o ao' n' c' b' o' l d w X F hc J t y wl B W x
 have aa:0<=sgn (val l) (val d):=by unfold sgn;split<;>(try split)<;>omega
 have hle:aI d<=aI l:=by
  rcases Nat.lt_or_ge (aI l) (aI d) with h | h
  ·have:=dI wl B h;omega
  ·exact h
 generalize hsg:sgn (val l) (val d)=sg at *;clear hsg;go_enter Tryz.func63,Tryz.ntmps63;go_wp2_with fail;refine t1.mono ?_
 rintro e M ⟨rfl,g⟩;have G:=W.keep g
 have j:=x.keep g;clear t1;go_wp2_with fail;refine(jQ ao n c b o l M X hc t G).mono ?_
 rintro e w2 ⟨rfl,f,u⟩
 have q:=j.keep u
 have A:=q.sub (aI d)
 have V:norm d=[]\/b'≠M.heap.size:=by
  rcases(j.sub (aI d)).lt with e | e
  ·exact .inl e
  ·exact .inr (by omega)
 rw[show d.take (aI d)=norm d from rfl] at A;have t2:=bF ao' n' c' d w2 F J (by omega) q.cells;have hn:=bH l
 have hn':=bH d;have I:=aL l
 have E:=aL d;have Z:=cE wl
 have D:=cE B;clear W x G j q;generalize aI l=N at *;generalize aI d=N' at *;generalize norm l=L at *;generalize norm d=L' at *;go_wp2_with fail;refine t2.mono ?_
 rintro e w3 ⟨rfl,rfl⟩;clear t2;go_wp2_with fail;refine(ji _ M.heap.size 0 _ _ _ b' o' _ _ 1 L L' w3 I E hle (by omega) (Nat.le_refl _) (Nat.le_refl _) (by decide) (by decide) Z.1 D.1 f.at (f.free _ _) A V).mono ?_
 rintro e Y ⟨gq,rfl,S,ho1,s,Q,O,m,z,H⟩
 have HF:IsN (norm s) (_ - _):=Ek Z D T O (by omega) S (by rw[H,I]);have P:=z.free (f.free 0 N);have hz1:=bH s;have U:=aL s;have C:=m.sub (aI s);have p:=g.size
 have HB:Below w.heap.size w Y:=(g.trans (u.mono p)).trans (z.below p);rw[show s.take (aI s)=norm s from rfl] at C;have t3:=bF (some ⟨M.heap.size,0,none⟩) N N s Y Q (Nat.le_refl _) (by omega) m.cells;clear A f z m H g u;generalize aI s=K at *;generalize norm s=R at *;go_wp2_with fail;refine t3.mono ?_
 rintro e w5 ⟨rfl,rfl⟩;go_wp2;go_ret2;exact⟨_,R,rfl,dM.of U.symm (Nat.le_refl _) p C (fun i hi=>P i (by omega)),HF,by omega,HB⟩
end
section
open Go.RowKit Lim
section
variable {w w1:World}{v:Value}{l:List Int}
theorem Row.built(w:World)(l:List Int):Row (w.alloc (.cells (l.map (Value.int .u64)).toArray 22)) w.heap.size l:=by
 show (w.heap.push _)[w.heap.size]?=_
 rw[Array.getElem?_push_size]
theorem Row.built1(w:World)(x:Int):Row (w.alloc (.cells #[.int .u64 x] 22)) w.heap.size [x]:=Row.built w [x]
def ae:=@Pg.ae
theorem Cn(x:Int)(w:World)(m:0<=x)(j:x < 18446744073709551616) :
  Calls Tryz.prog 46 #[.int .u64 x] w fun e w'=>∃ v r,e=.returned v/\dM w w' v r/\IsN r x/\r.length<=1/\Below w.heap.size w w':=by
 have c:=Row.built1 w x;have hb:=ae w (.cells #[.int .u64 x] 22)
 have hw:Words [x]:=Words.cons m j Words.nil;have t1:=bF (some ⟨w.heap.size,0,none⟩) 1 1 [x] (w.alloc (.cells #[.int .u64 x] 22)) rfl (by decide) (by decide) c.at.cells;have d:=bH [x];have g:=aL [x];have b:=c.at.sub (aI [x])
 have l:IsN (norm [x]) x:=by have:=cE hw;rwa [eN] at this
 have f:=c.free 0 1;rw[show [x].take (aI [x])=norm [x] from rfl] at b;rw[List.length_singleton] at d;generalize aI [x]=K at *;generalize norm [x]=R at *;clear c;go_enter Tryz.func46,Tryz.ntmps46;go_wp2_with fail;refine t1.mono ?_
 rintro e n ⟨rfl,rfl⟩;go_wp2;go_ret;exact⟨_,R,rfl,dM.of g.symm (Nat.le_refl _) (Nat.le_refl _) b (fun i hi=>f i (by omega)),l,by omega,hb⟩
theorem div_zero(v:Value)(ao':Option Addr)(n' c' b' o':Nat)(b:List Int)(w:World)(d:b.length=n')(i:n'<=c')(g:n'<=1099511627776)(c:Words b)(f:At w ao' b' o' b)(j:val b=0) :
  Calls Tryz.prog 58 #[v,.slice ao' n' c'] w fun e w'=>e=.returned (.tuple #[.slice none 0 0,.slice none 0 0,.int .i64 11])/\w'=w:=by
 have t1:=bF ao' n' c' b w d i (by omega) f.cells;rw[(cy c).2 j] at t1;go_enter Tryz.func58,Tryz.ntmps58;go_wp2_with fail;refine t1.mono ?_
 rintro e l ⟨rfl,rfl⟩;go_wp2_with fail;go_ret3;exact⟨rfl,rfl⟩
def kh(w w':World)(e:Ending)(x y:Int)(n n':Nat):Prop :=
 ∃ v u r s,e=.returned (.tuple #[v,u,.int .i64 0])/\dM w w' v r/\dM w w' u s/\IsN r (x / y)/\IsN s (x % y)/\r.length<=n/\s.length<=n+n'/\Below w.heap.size w w'
theorem dM.nil(w w':World):dM w w' (.slice none 0 0) []:=⟨none,w.heap.size,0,0,rfl,Nat.le_refl _,Nat.le_refl _,⟨.inl rfl,fun i hi=>by simp at hi⟩,fun i hi=>by simp at hi⟩
theorem ky:IsN [] 0:=⟨Words.nil,rfl,rfl⟩
theorem dM.later{d:World}(h:dM w w1 v l)(hb:Below w1.heap.size w1 d):dM w d v l:=by
 obtain⟨g,b,o,c,e,k,j,f,m⟩:=h;refine⟨g,b,o,c,e,k,j,f.keep hb,fun i hi=>?_⟩;have a:=aK (f.cell i hi);rw[hb.frozen (p:=⟨b,o+i,none⟩) a];exact m i hi
theorem dM.mono{w0:World}(h:dM w w1 v l)(hb:w0.heap.size<=w.heap.size):dM w0 w1 v l:=by
 obtain⟨ao,b,o,c,e,h1,h2,h3,h4⟩:=h;exact⟨ao,b,o,c,e,h1,by omega,h3,h4⟩
theorem div_lt(ao:Option Addr)(n c b o:Nat)(ao':Option Addr)(n' c' b' o':Nat)(l d:List Int)(w:World)(y:l.length=n)(u:d.length=n')(hc:n<=c)(x:n'<=c')(f:n<=1099511627776)(s:n'<=1099511627776)(wl:Words l)(r:Words d)(A:At w ao b o l)(p:At w ao' b' o' d)(j:val l < val d) :
  Calls Tryz.prog 58 #[.slice ao n c,.slice ao' n' c'] w fun e w'=>kh w w' e (val l) (val d) n n':=by
 have z:=aO wl;have hn:=bH l
 have F:=bH d
 have C:aI d≠0:=fun e=>by have:=(cy r).1 e;omega
 have t1:=bF ao' n' c' d w u x (by omega) p.cells
 have q:=p.sub (aI d);rw[show d.take (aI d)=norm d from rfl] at q;have t2:=jT ao n c b o ao' (aI d) (aI d) b' o' l (norm d) w y (aL d) hc (Nat.le_refl _) f (by omega) wl r.norm A q;rw[dj,iD j] at t2;have B:=cE wl;have v:=aL l
 have D:((aI d:Int) == 0)=false:=beq_eq_false_iff_ne.2 (by omega);go_enter Tryz.func58,Tryz.ntmps58;go_wp2_with fail;refine t1.mono ?_
 rintro e G ⟨rfl,rfl⟩;go_wp2_with fail;refine t2.mono ?_
 rintro e E ⟨rfl,i⟩;go_wp2_with fail;refine(jQ ao n c b o l E y hc f (A.keep i)).mono ?_
 rintro e H ⟨rfl,g,t⟩;clear t1 t2;go_wp2;go_ret3;have m:=i.size;exact⟨_,_,[],norm l,rfl,dM.nil _ _,dM.of v.symm (Nat.le_refl _) m g.at (g.free _ _),by rw[Int.ediv_eq_zero_of_lt z j];exact ky,by rw[Int.emod_eq_of_lt z j];exact B,by simp,by omega,i.trans (t.mono m)⟩
theorem div_one(ao:Option Addr)(n c b o:Nat)(ao':Option Addr)(n' c' b' o':Nat)(l f:List Int)(w:World)(hl:l.length=n)(W:f.length=n')(hc:n<=c)(Z:n'<=c')(y:n<=1099511627776)(T:n'<=1099511627776)(wl:Words l)(I:Words f)(ha:At w ao b o l)(J:At w ao' b' o' f)(X:val f<=val l)(h1:aI f=1) :
  Calls Tryz.prog 58 #[.slice ao n c,.slice ao' n' c'] w fun e w'=>kh w w' e (val l) (val f) n n':=by
 have h0:=aO wl;have hn:=bH l
 have hn':=bH f;have t1:=bF ao' n' c' f w W Z (by omega) J.cells
 have m:=J.sub (aI f);rw[show f.take (aI f)=norm f from rfl] at m;have t2:=jT ao n c b o ao' (aI f) (aI f) b' o' l (norm f) w hl (aL f) hc (Nat.le_refl _) y (by omega) wl I.norm ha m;rw[dj] at t2
 have ab:0<=sgn (val l) (val f):=by unfold sgn;split<;>(try split)<;>omega
 have z:=aL f
 have B:=cE I;rw[h1] at t1 t2 z;generalize hN':norm f=L' at *;obtain⟨d,rfl⟩:=List.length_eq_one_iff.1 z
 have hd:val f=d:=by have:=B.2.2;rw[eN] at this;exact this.symm
 have Q:=B.1 d (by simp)
 have D:0 < d:=by
  have h2:=B.2.1;by_cases c:d=0
  ·subst c;simp[aI] at h2
  ·omega
 rw[hd] at X t2 ⊢;rw[hd] at ab;generalize sgn (val l) d=sg at *;rcases m.loc with e | rfl
 ·simp at e
 go_enter Tryz.func58,Tryz.ntmps58;go_wp2_with fail;refine t1.mono ?_
 rintro e w1 ⟨rfl,rfl⟩;go_wp2_with fail;refine t2.mono ?_
 rintro e P ⟨rfl,p⟩;go_wp2_with fail;refine(jQ ao n c b o l P hl hc y (ha.keep p)).mono ?_
 rintro e w3 ⟨rfl,g,v⟩;have A:=p.size;have hsz3:=v.size;have M:=((m.keep p).keep v).cell 0 (by simp);rw[cU] at M;rw[Nat.add_zero] at M;have U:=wl.norm;have ae:=dj l;have Y:=aL l;clear t1 t2;generalize aI l=N at *;generalize norm l=L at *;go_wp2_with fail;refine(ie (some ⟨P.heap.size,0,none⟩) P.heap.size 0 N N d L w3 Y (by omega) (Nat.le_refl _) D Q.2 U g.at (g.free _ _)).mono ?_
 rintro e w4 ⟨left,j,rfl,G,af,V,S,x,t,O⟩;have ad:=t.free (g.free 0 N);have hz1:=bH j;have ag:=aL j;have F:=x.sub (aI j);have HF:=cE S;have aa:=t.size;have hlt3:=g.lt;rw[show j.take (aI j)=norm j from rfl] at F;have t3:=bF (some ⟨P.heap.size,0,none⟩) N N j w4 V (Nat.le_refl _) (by omega) x.cells
 have HB:Below w1.heap.size w1 w4:=(p.trans (v.mono A)).trans (t.below A)
 have ev:val j=val l / d/\left=val l % d:=by
  have hh:=Int.ediv_emod_unique (a:=val l) (b:=d) (r:=left) (q:=val j) D;have:=hh.2 ⟨by rw[<- ae,<- O,Int.mul_comm];omega,G,af⟩;exact⟨this.1.symm,this.2.symm⟩
 rw[ev.1] at HF
 have C:Hid (left=val l % d):=ev.2;clear t g O p v m ev;generalize aI j=K at *;generalize norm j=R at *;go_wp2_with fail;refine t3.mono ?_
 rintro e w5 ⟨rfl,rfl⟩;go_wp2_with fail;refine(Cn left w5 G (by omega)).mono ?_
 rintro e w6 ⟨u,s,rfl,H,ac,hsl,E⟩;go_wp2;go_ret3;refine⟨_,u,R,s,rfl,(dM.of ag.symm (Nat.le_refl _) A F (fun i hi=>ad i (by omega))).later E,H.mono (by omega),HF,by rw[<- C.out];exact ac,by omega,by omega,HB.trans (E.mono (by omega))⟩
end
end
section
open Go.RowKit Lim
section
variable {l:List Int}{S T v1:Int}
theorem gk(s:Nat)(hs:s<=63):(0:Int) < 2 ^ s/\(2:Int) ^ s < 18446744073709551616/\(2:Int) ^ s * 2 ^ (64 - s)=18446744073709551616/\(0:Int) < 2 ^ (64 - s):=by
 have a:(0:Int) < 2 ^ s:=Int.pow_pos (by decide)
 have b:(2:Nat) ^ s<=2 ^ 63:=Nat.pow_le_pow_right (by decide) hs
 have e:((2 ^ s:Nat):Int)=(2:Int) ^ s:=by rw[Int.natCast_pow];rfl
 have e2:(2:Nat) ^ 63=9223372036854775808:=by decide
 refine⟨a,by omega,?_,Int.pow_pos (by decide)⟩;rw[<- Int.pow_add,show s+(64 - s)=64 from by omega];rfl
theorem o7(ao:Option Addr)(n c b o s:Nat)(l:List Int)(w:World)(C:l.length=n)(hc:n<=c)(D:n<=1099511627776)(hs:s<=63)(wl:Words l)(F:At w ao b o l) :
  Calls Tryz.prog 103 #[.slice ao n c,.int .i64 s] w fun e w'=>∃ lz,e=.returned (.slice (some ⟨w.heap.size,0,none⟩) (n+1) (n+1))/\lz.length=n+1/\Words lz/\At w' (some ⟨w.heap.size,0,none⟩) w.heap.size 0 lz/\dJ w' w.heap.size 0 (n+1)/\w.heap.size < w'.heap.size/\val lz=val l * 2 ^ s/\Below w.heap.size w w':=by
 obtain⟨p1,E,N,J⟩:=gk s hs
 have B:l=[]\/b≠w.heap.size:=by
  rcases F.lt with e | e
  ·exact .inl e
  ·exact .inr (by omega)
 have j:=aO wl;have r:=dL wl
 have u:Hid (0<=val l * 2 ^ s/\val l * 2 ^ s < 18446744073709551616 ^ (n+1)):=by
  refine⟨Int.mul_nonneg j (Int.le_of_lt p1),?_⟩
  have O:val l * 2 ^ s<=val l * 18446744073709551616:=Int.mul_le_mul_of_nonneg_left (by omega) j;rw[C] at r;rw[Int.pow_succ];omega
 obtain⟨S,hS⟩:∃ S,(2:Int) ^ s=S:=⟨_,rfl⟩
 rw[hS] at p1 E u ⊢
 have I:IntKind.u64.wrap S=S:=IntWalk.u64_in _ ⟨by omega,by omega⟩;clear N J j r;go_enter Tryz.func103,Tryz.ntmps103;go_wp2_with (at_make;refine di rfl _ _ rfl (n+1) _ _ rfl rfl (by omega) (by omega) (by omega) ?_;intro G d g v);have A:=F.keep g;refine(eD _ w.heap.size 0 (n+1) (n+1) ao b o n c S (List.replicate (n+1) 0) l G (by simp) C (by omega) (by omega) (Nat.le_refl _) hc (by omega) E (eM _) wl d.at (d.free _ _) A B).mono ?_
 rintro e H ⟨rfl,lz,z,x,q,f,m⟩;have y:=f.free (d.free 0 (n+1));have K:=d.lt;have t:=f.size;rw[fE (l:=List.replicate (n+1) 0) (fun i=>by simp[nth,List.getElem?_replicate];split<;>rfl),Int.zero_add,Int.emod_eq_of_lt u.out.1 u.out.2] at m;have L:=(show Hid _ from m)
 have M:=g.trans (f.below (Nat.le_refl _))
 have p:w.heap.size < H.heap.size:=by omega
 clear m t v d f g;go_wp2;go_ret;exact⟨lz,rfl,z,x,q,y,p,L.out,M⟩
structure nQ(lz:List Int)(S:Int)(h:Nat)(lz1:List Int):Prop where
 len:lz1.length=lz.length
 words:Words lz1
 low:∀ i,i < h->nth lz1 i=nth lz i
 val:Lim.val (lz1.drop h)=Lim.val (lz.drop h) / S
theorem El(S T:Int)(h:S * T=18446744073709551616)(k:Nat):val (l.drop k) % S=nth l k % S:=by
 by_cases a:k < l.length
 ·rw[ep a,<- h,Int.mul_assoc,Int.add_mul_emod_self_left]
 ·rw[List.drop_of_length_le (by omega),gx (by omega)];rfl
theorem nQ.step{lz lz1:List Int}{b:Int}{h:Nat}(hS:0 < S)(a:S * T=18446744073709551616)(hv:nQ lz S (h+1) lz1)(c:h < lz.length)(z0:0<=b)(z1:b < 18446744073709551616)(e:b=nth lz h / S+T * (nth lz (h+1) % S)):nQ lz S h (lz1.set h b):=by
 have d:=hv.len;refine⟨by simp[d],hv.words.set h z0 z1,fun i hi=>by rw[dG (by omega),if_neg (by omega)];exact hv.low i (by omega),?_⟩;rw[ep (by simp;omega),dG (by omega),if_pos rfl,List.drop_set,if_pos (by omega),hv.val,ep c,e,<- El S T a (h+1)];generalize Lim.val (lz.drop (h+1))=Y
 have e1:nth lz h+18446744073709551616 * Y=nth lz h+S * (T * Y):=by rw[<- a];grind
 rw[e1,Int.add_mul_ediv_left _ _ (by omega)];have e2:=Int.mul_ediv_add_emod Y S
 have e3:T * Y=T * (S * (Y / S)+Y % S):=by rw[e2]
 rw[e3,<- a];grind
theorem Ak{x y:Int}(s:Nat)(j:S=2 ^ s)(f:T=2 ^ (64 - s))(hs:s<=63)(hx:0<=x/\x < 18446744073709551616) :
  bits .or .u64 (x / S) (IntKind.u64.wrap (y * T))=x / S+T * (y % S)/\0<=x / S+T * (y % S)/\x / S+T * (y % S) < 18446744073709551616:=by
 obtain⟨p1,l,d,b⟩:=gk s hs;rw[<- j] at p1 l d;rw[<- f] at d b
 have a:0<=x / S:=Int.ediv_nonneg hx.1 (Int.le_of_lt p1)
 have e:x / S < T:=by rw[Int.ediv_lt_iff_lt_mul p1,Int.mul_comm,d];exact hx.2
 have c:=Int.emod_nonneg y (show S≠0 by omega);have h:=Int.emod_lt_of_pos y p1
 have m:IntKind.u64.wrap (y * T)=y % S * T:=by
  rw[IntKind.wrap_u64,<- d,Int.mul_comm y T,Int.mul_comm S T,Int.mul_emod_mul_of_pos _ _ b,Int.mul_comm]
 have g:0<=y % S * T:=Int.mul_nonneg c (Int.le_of_lt b)
 have k:(y % S+1) * T<=S * T:=Int.mul_le_mul_of_nonneg_right (by omega) (Int.le_of_lt b);rw[Int.add_mul,Int.one_mul,d] at k
 have i:T<=18446744073709551616:=by
  have:1 * T<=S * T:=Int.mul_le_mul_of_nonneg_right (by omega) (Int.le_of_lt b);omega
 rw[m,Int.mul_comm T];refine⟨?_,by omega,by omega⟩;rw[u64_or _ _ a (by omega) g (by omega),Nat.or_comm,<- u64_or _ _ g (by omega) a (by omega)];rw[qx _ _ (64 - s) (y % S) (by rw[f]) c (by omega) a (by rw[<- f];exact e) (by omega),Int.add_comm]
theorem xP(m:Option Addr)(g i b A s:Nat)(lz:List Int)(w:World)(n:lz.length=b)(z:b<=2199023255552)(j:b<=A)(hs:s<=63)(o:Words lz)(t:At w m g i lz)(q:dJ w g i b) :
  Calls Tryz.prog 105 #[.slice m b A,.int .i64 s] w fun e w'=>e=.returned (.tuple #[])/\∃ lz',lz'.length=b/\Words lz'/\At w' m g i lz'/\Wr g i b w w'/\val lz'=val lz / 2 ^ s:=by
 obtain⟨p1,Q,N,O⟩:=gk s hs;go_enter Tryz.func105,Tryz.ntmps105;go_wp2;go_loopw [4,10] (fun tc p wr=>∃ (k:Nat) (c:List Int),k<=b/\p=.int .i64 k/\tc=.int .u64 (nth lz (b - k))/\nQ lz (2 ^ s) (b - k) c/\At wr m g i c/\Wr g i b w wr) (fun _ p _=>b - (intOf p).toNat)
 case atStart=>exact⟨0,lz,Nat.zero_le _,rfl,by rw[gx (by omega)],⟨rfl,o,fun _ _=>rfl,by rw[Nat.sub_zero,List.drop_of_length_le (by omega)];simp[val]⟩,t,Wr.refl _ _ _ _⟩
 case round =>
  obtain⟨k,c,P,rfl,rfl,hinv,d,f⟩:=hrel;have r:=hinv.len;by_cases K:k < b
  ·rcases t.loc with e | rfl
   ·subst e;simp at n;omega
   obtain⟨h,B⟩:∃ h:Nat,b=h+1+k:=⟨b - 1 - k,by omega⟩
   have j:=d.cell h (by omega);have H:=f.free q h (by omega);rw[hinv.low h (by omega)] at j
   have C:(b:Int) - 1 - k=h:=by omega
   have F:(h:Int) < b:=by omega
   have l:b - k=h+1:=by omega
   rw[l] at hinv ⊢;obtain⟨e1,e2,e3⟩:=Ak (y:=nth lz (h+1)) s rfl rfl hs (o.nth h)
   have M:Hid (nQ lz (2 ^ s) h (c.set h (nth lz h / 2 ^ s+2 ^ (64 - s) * (nth lz (h+1) % 2 ^ s)))):=hinv.step p1 N (by omega) e2 e3 rfl
   have L:Hid (b=h+1+k):=B;have E:=(show Hid _ from d)
   have G:=(show Hid _ from f)
   have J:Hid (nth lz (b - (k+1))=nth lz h):=by show _=_;rw[show b - (k+1)=h from by omega]
   have I:Hid (b - (k+1)=h):=by show _=_;omega
   clear B hinv t o d f l;generalize nth lz h=x at *;generalize nth lz (h+1)=y at *
   have v:(64:Int) - s=((64 - s:Nat):Int):=by omega
   go_wp2_with fail;go_region;go_wp2;refine⟨⟨k+1,_,by omega,by go_num,by rw[J.out],by rw[I.out];exact M.out,?_,?_⟩,by simp[intOf];omega⟩
   ·exact(E.out.setCell (by omega) _).drew
   ·exact(G.out.setCell (by omega) (by have:=L.out;omega) _).drew
  ·have u:k=b:=by omega
   subst u;have hv:=hinv.val;rw[Nat.sub_self,List.drop_zero,List.drop_zero] at hv;have D:=(show Hid _ from hv)
   clear hv;go_wp2;go_end0;exact⟨rfl,c,by omega,hinv.words,d,f,D.out⟩
def rU(u v g:Int):Prop:=0<=g/\g < 18446744073709551616/\(g - 1) * v<=u/\u < (g+1) * v
theorem A8{u v u0 R P:Int}(f:0 < P)(hv:v < (v1+1) * P)(c:9223372036854775808<=v1)(hu:u=u0 * 18446744073709551616 * P+R)(g:0<=R)(b:v1<=u0)(a:u < v * 18446744073709551616):rU u v 18446744073709551615:=by
 refine⟨by decide,by decide,?_,by rw[show (18446744073709551615+1:Int)=18446744073709551616 from rfl,Int.mul_comm];exact a⟩
 have k1:v * 18446744073709551614<=(v1+1) * P * 18446744073709551614:=Int.mul_le_mul_of_nonneg_right (by omega) (by decide)
 have d:v1 * P<=u0 * P:=Int.mul_le_mul_of_nonneg_right b (by omega)
 have e:9223372036854775808 * P<=v1 * P:=Int.mul_le_mul_of_nonneg_right c (by omega)
 have e1:(v1+1) * P * 18446744073709551614=v1 * P * 18446744073709551614+P * 18446744073709551614:=by grind
 have e2:u0 * 18446744073709551616 * P=u0 * P * 18446744073709551616:=by grind
 rw[show (18446744073709551615 - 1:Int)=18446744073709551614 from rfl,Int.mul_comm];omega
theorem vx{u v v2 a g rest hi Q:Int}(G:0 < Q)(d:v1 * 18446744073709551616 * Q+v2 * Q<=v)(hv:v < v1 * 18446744073709551616 * Q+(v2+1) * Q)(s:9223372036854775808<=v1)(q:0<=v2)(y:v2 < 18446744073709551616)(l:a * (18446744073709551616 * Q)<=u)(hu:u < (a+1) * (18446744073709551616 * Q))(b:0<=g)(i:g < 18446744073709551616)(j:0<=rest)(w:rest < v1)(he:g * v1+rest=a)(lo:Int)(m:0<=lo)(x:lo < 18446744073709551616)(hm:hi * 18446744073709551616+lo=g * v2) :
  (rest < hi->rU u v (g - 1))/\(hi<=rest->rU u v g):=by
 have n:0<=g * v2:=Int.mul_nonneg b q
 have k:g * v2<=g * 18446744073709551615:=Int.mul_le_mul_of_nonneg_left (by omega) b
 have h:0<=hi:=by omega
 have e:hi<=18446744073709551615:=by omega
 obtain⟨X,hX⟩:∃ X,18446744073709551616 * Q=X:=⟨_,rfl⟩
 have B:0 < X:=by omega
 have m1:g * (v1 * 18446744073709551616 * Q+v2 * Q)<=g * v:=Int.mul_le_mul_of_nonneg_left d b
 have m2:g * v<=g * (v1 * 18446744073709551616 * Q+(v2+1) * Q):=Int.mul_le_mul_of_nonneg_left (by omega) b
 have e1:g * (v1 * 18446744073709551616 * Q+v2 * Q)=a * X - rest * X+hi * X+lo * Q:=by
  rw[<- hX,<- he];have:g * (v2 * Q)=(hi * 18446744073709551616+lo) * Q:=by rw[hm];grind
  grind
 have e2:g * (v1 * 18446744073709551616 * Q+(v2+1) * Q)=a * X - rest * X+hi * X+lo * Q+g * Q:=by
  have:g * (v1 * 18446744073709551616 * Q+(v2+1) * Q)=g * (v1 * 18446744073709551616 * Q+v2 * Q)+g * Q:=by grind
  rw[this,e1]
 rw[e1] at m1;rw[e2] at m2
 have e3:v1 * 18446744073709551616 * Q=v1 * X:=by rw[<- hX];grind
 rw[e3] at d;rw[hX] at l hu;rw[Int.add_mul,Int.one_mul] at hu
 have k1:9223372036854775808 * X<=v1 * X:=Int.mul_le_mul_of_nonneg_right s (by omega)
 have r:(rest+1) * X<=v1 * X:=Int.mul_le_mul_of_nonneg_right (by omega) (by omega)
 have I:lo * Q<=18446744073709551615 * Q:=Int.mul_le_mul_of_nonneg_right (by omega) (by omega)
 have z:0<=lo * Q:=Int.mul_nonneg m (by omega)
 have H:g * Q<=18446744073709551615 * Q:=Int.mul_le_mul_of_nonneg_right (by omega) (by omega)
 have E:0<=v2 * Q:=Int.mul_nonneg q (by omega)
 have C:0<=hi * X:=Int.mul_nonneg h (by omega)
 have D:0<=rest * X:=Int.mul_nonneg j (by omega)
 have F:hi * X<=18446744073709551615 * X:=Int.mul_le_mul_of_nonneg_right e (by omega);rw[Int.add_mul,Int.one_mul] at r;constructor
 ·intro A
  have o:(rest+1) * X<=hi * X:=Int.mul_le_mul_of_nonneg_right (by omega) (by omega);rw[Int.add_mul,Int.one_mul] at o
  have p:1<=g:=by
   by_cases c:1<=g
   ·exact c
   ·have:g=0:=by omega
    subst this;simp at hm;omega
  have f:hi<=18446744073709551614:=by omega
  have t:hi * X<=18446744073709551614 * X:=Int.mul_le_mul_of_nonneg_right f (by omega);refine⟨by omega,by omega,?_,?_⟩
  ·rw[show (g - 1 - 1) * v=g * v - 2 * v from by grind];omega
  ·rw[show (g - 1+1) * v=g * v from by grind];omega
 ·intro hle
  have o:hi * X<=rest * X:=Int.mul_le_mul_of_nonneg_right hle (by omega);refine⟨b,i,?_,?_⟩
  ·rw[Int.sub_mul,Int.one_mul];omega
  ·rw[Int.add_mul,Int.one_mul];omega
end
end
section
open Go.RowKit Lim
section
variable {f:FuncId}{args:Array Value}{w:World}{n:Nat}{v:Value}{l:List Int}
theorem sD(hi lo y:Int)(w:World)(d:0<=hi)(b:hi < y)(a:0<=lo)(l1:lo < 18446744073709551616)(y1:y < 18446744073709551616) :
  Calls Tryz.prog 161 #[.int .u64 hi,.int .u64 lo,.int .u64 y] w fun e w'=>e=.returned (.tuple #[.int .u64 ((hi * 18446744073709551616+lo) / y),.int .u64 ((hi * 18446744073709551616+lo) % y)])/\∃ n,w'=w.drewN n:=by
 by_cases c:hi=0
 ·subst c;refine(mX lo y w (by omega) a l1 y1).mono ?_
  rintro e w' ⟨rfl,hw⟩;exact⟨by simp,hw⟩
 ·refine(o9 hi lo y w (by omega) b a l1 y1).mono ?_
  rintro e w' ⟨rfl,rfl⟩;exact⟨rfl,0,rfl⟩
theorem oH{P:Program}(h:Calls P f args (w.drewN n) fun e w'=>e=.returned v/\∃ m,w'=(w.drewN n).drewN m):Calls P f args (w.drewN n) fun e w''=>e=.returned v/\∃ m,w''=w.drewN m :=
 h.mono fun _ _ ⟨he,m,hm⟩=>⟨he,n+m,by rw[hm,World.drewN_drewN]⟩
theorem top2(wl:Words l)(hn:l.length=n+2):(nth l (n+1) * 18446744073709551616+nth l n) * 18446744073709551616 ^ n<=val l/\val l < (nth l (n+1) * 18446744073709551616+nth l n+1) * 18446744073709551616 ^ n:=by
 have e1:=bM l n (by omega);have b:=aO (wl.take n);have a:=dL (wl.take n);rw[List.length_take,Nat.min_eq_left (by omega)] at a;rw[ep (by omega),ep (by omega),List.drop_of_length_le (show l.length<=n+1+1 by omega)] at e1
 have e2:(18446744073709551616:Int) ^ n * (nth l n+18446744073709551616 * (nth l (n+1)+18446744073709551616 * val []))=(nth l (n+1) * 18446744073709551616+nth l n) * 18446744073709551616 ^ n:=by
  rw[show val []=0 from rfl];grind
 rw[e2] at e1;rw[Int.add_mul (nth l (n+1) * 18446744073709551616+nth l n) 1];omega
theorem xK(au:Option Addr)(cu J W:Nat)(av:Option Addr)(k cv bv C:Nat)(lu j:List Int)(w:World)(t:lu.length=k+3)(q:j.length=k+2)(hbig:k<=1099511627776)(wu:Words lu)(B:Words j)(hu:At w au J W lu)(hv:At w av bv C j)(o:9223372036854775808<=nth j (k+1))(x:val lu < val j * 18446744073709551616) :
  Calls Tryz.prog 162 #[.slice au (k+3) cu,.slice av (k+2) cv] w fun e w'=>∃ g:Int,e=.returned (.int .u64 g)/\rU (val lu) (val j) g/\Below w.heap.size w w':=by
 obtain⟨f,p⟩:=top2 B q;obtain⟨d,i⟩:=top2 (n:=k+1) wu t;have c0:=hu.cell (k+2) (by omega);have c1:=hu.cell (k+1) (by omega);have d1:=hv.cell (k+1) (by omega);have d2:=hv.cell k (by omega);have b0:=wu.nth (k+2);have F:=wu.nth (k+1);have e1:=B.nth (k+1);have e2:=B.nth k;have T:=pow_pos k;have H:=pow_pos (k+1);rcases hu.loc with e | rfl
 ·subst e;simp at t
 rcases hv.loc with e | rfl
 ·subst e;simp at q
 rw[show k+1+1=k+2 from rfl] at d i;have E:=(show Hid _ from x)
 clear hu hv wu B x t q;obtain⟨N,D⟩:∃ N,k+2=N:=⟨_,rfl⟩
 obtain⟨m,hm⟩:∃ m,k+1=m:=⟨_,rfl⟩
 have hN1:(N:Int) - 1=m:=by omega
 have hN2:(N:Int) - 2=k:=by omega
 have hmN:(m:Int) < N:=by omega
 have hkN:(k:Int) < N:=by omega
 have hmN1:(m:Int) < (N:Int)+1:=by omega
 have aa:(N:Int) < (N:Int)+1:=by omega
 have hNb:N<=1099511627778:=by omega
 have hmle:m<=N:=by omega
 have hmlt:m < N+1:=by omega
 have hmi:(m:Int)<=N:=by omega
 have hwm:IntKind.i64.wrap (m:Int)=m:=by rw[IntKind.wrap_i64];omega
 have hwk:IntKind.i64.wrap (k:Int)=k:=by rw[IntKind.wrap_i64];omega
 generalize nth lu (k+2)=u0 at *;generalize nth lu (k+1)=c at *;generalize nth j (k+1)=v1 at *;generalize nth j k=v2 at *;generalize val lu=U at *;generalize val j=V at *;by_cases I:v1<=u0
 ·have HN:Hid (rU U V 18446744073709551615):=by
   refine A8 (v1:=v1) (u0:=u0) (P:=18446744073709551616 ^ (k+1)) (R:=U - u0 * 18446744073709551616 * 18446744073709551616 ^ (k+1)) H ?_ o (by omega) ?_ I E.out
   ·rw[Int.pow_succ];have:(v1 * 18446744073709551616+v2+1) * 18446744073709551616 ^ k<=(v1 * 18446744073709551616+18446744073709551616) * 18446744073709551616 ^ k:=Int.mul_le_mul_of_nonneg_right (by omega) (by omega)
    have e:(v1 * 18446744073709551616+18446744073709551616) * 18446744073709551616 ^ k=(v1+1) * (18446744073709551616 ^ k * 18446744073709551616):=by grind
    omega
   ·have:0<=c * 18446744073709551616 ^ (k+1):=Int.mul_nonneg F.1 (by omega);rw[Int.add_mul] at d;omega
  rw[show k+3=N+1 from by omega,D] at *;rw[hm] at c1 d1;clear d i f p T H D hm;go_enter Tryz.func162,Tryz.ntmps162;go_wp2_with fail;go_quiet (fail);go_wp2;go_ret;exact⟨_,rfl,HN.out,below_drewN (Below.refl _ _) _⟩
 ·have y:∀ g rest hi lo:Int,0<=g->g < 18446744073709551616->0<=rest->rest < v1->g * v1+rest=u0 * 18446744073709551616+c->0<=lo->lo < 18446744073709551616->hi * 18446744073709551616+lo=g * v2->(rest < hi->rU U V (g - 1))/\(hi<=rest->rU U V g):=by
   intro g rest hi lo h1 h2 h3 h4 h5 h6 h7 h8;refine vx (Q:=18446744073709551616 ^ k) T ?_ ?_ o e2.1 e2.2 ?_ ?_ h1 h2 h3 h4 h5 lo h6 h7 h8
   ·rw[Int.add_mul] at f;exact f
   ·have e:(v1 * 18446744073709551616 + v2 + 1) * 18446744073709551616 ^ k=v1 * 18446744073709551616 * 18446744073709551616 ^ k + (v2 + 1) * 18446744073709551616 ^ k:=by grind
    rw[<- e];exact p
   ·rw[Int.mul_comm 18446744073709551616,<- Int.pow_succ];exact d
   ·rw[Int.mul_comm 18446744073709551616,<- Int.pow_succ];exact i
  have s:=(show Hid _ from y)
  have r:=Int.mul_ediv_add_emod (u0 * 18446744073709551616+c) v1;have G:=Int.emod_nonneg (u0 * 18446744073709551616+c) (show v1≠0 by omega);have O:=Int.emod_lt_of_pos (u0 * 18446744073709551616+c) (show 0 < v1 by omega)
  have v:0<=(u0 * 18446744073709551616+c) / v1:=Int.ediv_nonneg (by omega) (by omega)
  have z:(u0 * 18446744073709551616+c) / v1 < 18446744073709551616:=by
   rw[Int.ediv_lt_iff_lt_mul (by omega)];have:(u0+1) * 18446744073709551616<=v1 * 18446744073709551616:=Int.mul_le_mul_of_nonneg_right (by omega) (by decide);omega
  have tD:=fun wx:World=>sD u0 c v1 wx b0.1 (by omega) F.1 F.2 e1.2
  generalize hg:(u0 * 18446744073709551616+c) / v1=g at *;generalize hr:(u0 * 18446744073709551616+c) % v1=rest at *;rw[Int.mul_comm] at r;have L:=(show Hid _ from r)
  rw[show k+3=N+1 from by omega,D] at *;rw[hm] at c1 d1;clear y r hg hr d i f p T H D hm
  have Z:u0 < v1:=by omega
  go_enter Tryz.func162,Tryz.ntmps162;go_wp2_with fail;go_quiet (fail)
  have M:(w.drewN nq).cell? ⟨J,W+N,none⟩=some (.int .u64 u0):=c0
  have S:(w.drewN nq).cell? ⟨J,W+m,none⟩=some (.int .u64 c):=c1
  have K:(w.drewN nq).cell? ⟨bv,C+m,none⟩=some (.int .u64 v1):=d1
  have A:(w.drewN nq).cell? ⟨bv,C+k,none⟩=some (.int .u64 v2):=d2;have u:=below_drewN (Below.refl w.heap.size w) nq;clear c0 c1 d1 d2;generalize w.drewN nq=Y at *;go_wp2_with fail;go_quiet ((go_at_call 161;exact oH (tD _)))
  have d2'':(Y.drewN nq).cell? ⟨bv,C+k,none⟩=some (.int .u64 v2):=A;have l:=below_drewN u nq;clear M S K A u tD;generalize Y.drewN nq=W2 at *;go_wp2_with fail;refine(l7 g v2 v z e2.1 e2.2 _).mono ?_
  rintro e w3 ⟨hi,lo,rfl,i1,i2,i3,i4,i5,rfl⟩;have b:=s.out g rest hi lo v z G O L.out i3 i4 i5.out;by_cases hc:rest < hi
  ·have X:=(show Hid _ from b.1 hc)
   have hg2:0<=g - 1:=(b.1 hc).1;clear b s;go_wp2;go_ret;exact⟨_,rfl,X.out,l⟩
  ·have X:=(show Hid _ from b.2 (by omega))
   clear b s;go_wp2;go_ret;exact⟨_,rfl,X.out,l⟩
end
end
section
open Go.RowKit Lim
section
variable {L L' lz:List Int}{k:Nat}
theorem yI(hL:Words L)(a:Words L')(b:Words lz)(l:k < L.length)(m:lz.length=L.length+L'.length)(hv:val lz=val (L.take k) * val L') :
  0<=val ((lz.drop k).take (L'.length+1))+val L' * nth L k/\val ((lz.drop k).take (L'.length+1))+val L' * nth L k < 18446744073709551616 ^ (L'.length+1):=by
 have e:=dL (hL.take k);have n:=dL a;have h:=aO (hL.take k);have c:=aO a;have i:=aO (b.take k);have g:=aO ((b.drop k).take (L'.length+1));have h7:=aO ((b.drop k).drop (L'.length+1));have h8:=hL.nth k;rw[List.length_take,Nat.min_eq_left (by omega)] at e;have e1:=bM lz k (by omega);have e2:=bM (lz.drop k) (L'.length+1) (by simp;omega);have f:=pow_pos k;have j:=pow_pos L'.length;have d:=pow_pos (L'.length+1)
 have m1:val (L.take k) * val L'<=18446744073709551616 ^ k * val L':=Int.mul_le_mul_of_nonneg_right (by omega) c
 have m2:(18446744073709551616:Int) ^ k * val (lz.drop k)<=18446744073709551616 ^ k * val L':=by omega
 have m3:val (lz.drop k)<=val L':=Int.le_of_mul_le_mul_left m2 f
 have m4:0<=18446744073709551616 ^ (L'.length+1) * val ((lz.drop k).drop (L'.length+1)):=Int.mul_nonneg (Int.le_of_lt d) h7
 have m5:val L' * nth L k<=val L' * 18446744073709551615:=Int.mul_le_mul_of_nonneg_left (by omega) c
 have m6:0<=val L' * nth L k:=Int.mul_nonneg c h8.1;refine⟨by omega,?_⟩;rw[Int.pow_succ];omega
structure lE(L L' lz:List Int)(k:Nat):Prop where
 len:lz.length=L.length+L'.length
 words:Words lz
 val:Lim.val lz=Lim.val (L.take k) * Lim.val L'
theorem lE.step{lw:List Int}(hL:Words L)(b:Words L')(d:k < L.length)(h:lE L L' lz k)(hw:Words lw)(c:lw.length=L'.length+1)(hv:Lim.val lw=(Lim.val ((lz.drop k).take (L'.length+1))+Lim.val L' * nth L k) % 18446744073709551616 ^ (L'.length+1)):lE L L' (patch lz k lw) (k+1):=by
 have a:=yI hL b h.words d h.len h.val;rw[Int.emod_eq_of_lt a.1 a.2] at hv;have e:=h.len;refine⟨by rw[fm (by omega)];exact h.len,lL h.words hw,?_⟩;rw[pr (by omega),c,hv,h.val,dB d];grind
theorem pZ(ao:Option Addr)(n c b o:Nat)(ao':Option Addr)(n' c' b' o':Nat)(l p:List Int)(w:World)(hl:l.length=n)(Y:p.length=n')(hc:n<=c)(hc':n'<=c')(hbig:n<=1099511627776)(V:n'<=1099511627776)(wl:Words l)(X:Words p)(ha:At w ao b o l)(G:At w ao' b' o' p) :
  Calls Tryz.prog 60 #[.slice ao n c,.slice ao' n' c'] w fun e w'=>∃ v r,e=.returned v/\dM w w' v r/\IsN r (val l * val p)/\r.length<=n+n'/\Below w.heap.size w w':=by
 have hn:=bH l
 have hn':=bH p;have t1:=bF ao n c l w hl hc (by omega) ha.cells;have t2:=bF ao' n' c' p w Y hc' (by omega) G.cells;have hs:=ha.sub (aI l)
 have A:=G.sub (aI p);have Q:=aL l
 have u:=aL p;have hI:=cE wl
 have H:=cE X;rw[show l.take (aI l)=norm l from rfl] at hs;rw[show p.take (aI p)=norm p from rfl] at A;generalize aI l=N at *;generalize aI p=d at *;generalize norm l=L at *;generalize norm p=T at *
 have s:L=[]\/b≠w.heap.size:=by
  rcases hs.lt with e | e
  ·exact .inl e
  ·exact .inr (by omega)
 have S:T=[]\/b'≠w.heap.size:=by
  rcases A.lt with e | e
  ·exact .inl e
  ·exact .inr (by omega)
 clear ha G;go_enter Tryz.func60,Tryz.ntmps60;go_wp2_with fail;refine t1.mono ?_
 rintro e w1 ⟨rfl,rfl⟩;go_wp2_with fail;refine t2.mono ?_
 rintro e z ⟨rfl,rfl⟩;clear t1 t2;go_wp2_with (at_make;refine di rfl _ _ rfl (N+d) _ _ rfl rfl (by omega) (by omega) (by omega) ?_;intro w3 t j hsz);have F:=hs.keep j;have O:=A.keep j;have D:=t.at
 have C:=t.free 0 (N+d);clear hs A t;go_loopw [22] (fun ti wr=>∃ (k:Nat) (f:List Int),k<=N/\ti=.int .i64 k/\lE L T f k/\At wr (some ⟨z.heap.size,0,none⟩) z.heap.size 0 f/\Wr z.heap.size 0 (N+d) w3 wr) (fun ti _=>N - (intOf ti).toNat)
 case atStart=>exact⟨0,_,Nat.zero_le _,rfl,⟨by simp[Q,u],eM _,by simp[val,fE (l:=List.replicate (N+d) 0) fun i=>by simp[nth,List.getElem?_replicate];split<;>rfl]⟩,D,Wr.refl _ _ _ _⟩
 case round =>
  clear D;obtain⟨k,f,hk,rfl,hinv,q,g⟩:=hrel;by_cases hlt:k < N
  ·have hlen:=hinv.len;rcases F.loc with e | rfl
   ·subst e;simp at Q;omega
   have s:=s;have hcx:=(F.wr g s).cell k (by omega)
   have E:=O.wr g S;have hx:=hI.1.nth k;have J:=(g.free C).fS (k:=k) (m:=d+1) (by omega);have y:=(q.drew).fS k (d+1);rw[Nat.zero_add] at y J
   have hkn:k+d+1 - k=d+1:=by omega
   have I:=eD (some ⟨z.heap.size,k,none⟩) z.heap.size k (d+1) (d+1) ao' b' o' d d (nth L k) ((f.drop k).take (d+1)) T wr.drew (by simp;omega) u (by omega) (by omega) (Nat.le_refl _) (Nat.le_refl _) hx.1 hx.2 ((hinv.words.drop k).take _) H.1 y J.drew E.drew S
   have HX:Hid (∀ lw,Words lw->lw.length=d+1->val lw=(val ((f.drop k).take (d+1))+val T * nth L k) % 18446744073709551616 ^ (d+1)->lE L T (patch f k lw) (k+1)):=by
    intro lw h1 h2 h3;rw[<- u] at h2 h3;exact lE.step hI.1 H.1 (by omega) hinv h1 h2 h3
   have HA:Hid (At wr.drew (some ⟨z.heap.size,0,none⟩) z.heap.size 0 f):=q.drew
   have HW:Hid (Wr z.heap.size 0 (N+d) w3 wr.drew):=g.drew;clear J y E hinv g q;generalize nth L k=x at *;go_wp2_with fail;go_region_with (go_at_call 71;refine I.mono ?_;rintro e w5 ⟨rfl,lw,hlw,W,P,B,Z⟩)
   all_goals go_wp2
   all_goals exact⟨⟨k+1,patch f k lw,by omega,by go_num,HX.out lw W hlw Z,HA.out.patch (k:=k) (n:=d+1) (by rw[Nat.zero_add];exact B) (by rw[Nat.zero_add];exact P) (by omega) (by omega),HW.out.trans (B.mono (by omega) (by omega))⟩,by simp[intOf];omega⟩
  ·have hkN:k=N:=by omega
   subst hkN;have hv:=hinv.val;have hlen:=hinv.len;have U:=hinv.words;rw[List.take_of_length_le (by omega),hI.2.2,H.2.2] at hv;have hfz:=g.free C;have hz1:=bH f;have hz2:=aL f;have M:=q.sub (aI f)
   have HF:IsN (norm f) (val l * val p):=by rw[<- hv];exact cE U
   have HB:=j.trans (g.below (Nat.le_refl _));rw[show f.take (aI f)=norm f from rfl] at M;have t3:=bF (some ⟨z.heap.size,0,none⟩) (k+d) (k+d) f wr (by omega) (Nat.le_refl _) (by omega) q.cells;clear F O q g j hinv hv;generalize aI f=K at *;generalize norm f=R at *;go_wp2_with fail;refine t3.mono ?_
   rintro e w6 ⟨rfl,rfl⟩;go_wp2;go_ret;exact⟨_,R,rfl,dM.of hz2.symm (Nat.le_refl _) (Nat.le_refl _) M (fun i hi=>hfz i (by omega)),HF,by omega,HB⟩
end
end
section
open Go.RowKit Lim
section
variable {lu lq lu1:List Int}{V:Int}{q0 k a n:Nat}{w:World}
structure lI(lu:List Int)(V:Int)(q0 k m:Nat)(lq lu1:List Int):Prop where
 Ep:lq.length=q0
 CT:lu1.length=q0+(k+2)
 wq:Words lq
 wu:Words lu1
 eq:val lu=18446744073709551616 ^ m * val (lq.drop m) * V+val lu1
 lt:val lu1 < V * 18446744073709551616 ^ m
theorem lI.fS(h:lI lu V q0 k (a+1) lq lu1)(r:a < q0)(o:V < 18446744073709551616 ^ (k+2)) :
  val lu1=val (lu1.take a)+18446744073709551616 ^ a * val ((lu1.drop a).take (k+3))/\val ((lu1.drop a).take (k+3)) < V * 18446744073709551616:=by
 have l:=h.CT;have e1:=bM lu1 a (by omega);have e2:=bM (lu1.drop a) (k+3) (by simp;omega);have m:=aO (h.wu.take a);have j:=aO ((h.wu.drop a).take (k+3));have p:=aO ((h.wu.drop a).drop (k+3));have g:=h.lt;have b:=pow_pos a
 have f:val ((lu1.drop a).drop (k+3))=0:=by
  by_cases c:val ((lu1.drop a).drop (k+3))=0
  ·exact c
  ·have k1:18446744073709551616 ^ (k+3) * 1<=18446744073709551616 ^ (k+3) * val ((lu1.drop a).drop (k+3)):=Int.mul_le_mul_of_nonneg_left (by omega) (Int.le_of_lt (pow_pos _))
   have i:18446744073709551616 ^ a * 18446744073709551616 ^ (k+3)<=18446744073709551616 ^ a * val (lu1.drop a):=Int.mul_le_mul_of_nonneg_left (by omega) (Int.le_of_lt b)
   have e:(V+1) * 18446744073709551616 ^ (a+1)<=18446744073709551616 ^ (k+2) * 18446744073709551616 ^ (a+1):=Int.mul_le_mul_of_nonneg_right (by omega) (Int.le_of_lt (pow_pos _));rw[Int.add_mul] at e
   have q:(18446744073709551616:Int) ^ (k+2) * 18446744073709551616 ^ (a+1)=18446744073709551616 ^ a * 18446744073709551616 ^ (k+3):=by rw[<- Int.pow_add,<- Int.pow_add];congr 1;omega
   have n:=pow_pos (a+1);omega
 rw[f,Int.mul_zero,Int.add_zero] at e2;rw[e2] at e1;refine⟨e1,?_⟩
 have d:18446744073709551616 ^ a * val ((lu1.drop a).take (k+3)) < 18446744073709551616 ^ a * (V * 18446744073709551616):=by
  have:18446744073709551616 ^ a * (V * 18446744073709551616)=V * 18446744073709551616 ^ (a+1):=by rw[Int.pow_succ];grind
  omega
 exact Int.lt_of_mul_lt_mul_left d (Int.le_of_lt b)
theorem lI.step{d:Int}{nw:List Int}(h:lI lu V q0 k (a+1) lq lu1)(n:a < q0)(g:V < 18446744073709551616 ^ (k+2))(d0:0<=d)(d1:d < 18446744073709551616)(wn:Words nw)(hn:nw.length=k+3)(e:val nw=val ((lu1.drop a).take (k+3)) - d * V)(e1:val nw < V):lI lu V q0 k a (lq.set a d) (patch lu1 a nw):=by
 have hw:=h.fS n g;have f:=h.CT;have c:=h.Ep;have b:=pr (l:=lu1) (m:=nw) (k:=a) (by omega);have j:=dL (h.wu.take a);rw[List.length_take,Nat.min_eq_left (by omega)] at j;have i:=pow_pos a;refine⟨by simp[c],by rw[fm (by omega)];exact f,h.wq.set a d0 d1,lL h.wu wn,?_,?_⟩
 ·rw[h.eq,ep (l:=lq.set a d) (by simp;omega),dG (by omega),if_pos rfl,List.drop_set,if_pos (by omega),b,hn,e,Int.pow_succ];grind
 ·have k1:18446744073709551616 ^ a * (val nw+1)<=18446744073709551616 ^ a * V:=Int.mul_le_mul_of_nonneg_left (by omega) (Int.le_of_lt i);rw[b,hn,Int.mul_sub,Int.mul_comm V];rw[Int.mul_add] at k1;omega
theorem Ee{U g o Z:Int}{x:Int}(hn:rU U V g)(i:V < 18446744073709551616 ^ n)(hx:x=U - V * g+18446744073709551616 ^ n * o)(x1:x < 18446744073709551616 ^ n)(p:0<=U)(q:0<=o) :
  (o=0->x=U - g * V/\x < V)/\(o≠0->Z=(x+V * 1) % 18446744073709551616 ^ n->1<=g/\Z=U - (g - 1) * V/\Z < V):=by
 obtain⟨g0,g1,f,l⟩:=hn;rw[Int.sub_mul] at f;rw[Int.add_mul] at l;rw[Int.mul_comm V g] at hx;have d:=pow_pos n;constructor
 ·intro h;subst h;omega
 ·intro h j
  have k1:18446744073709551616 ^ n * 1<=18446744073709551616 ^ n * o:=Int.mul_le_mul_of_nonneg_left (by omega) (Int.le_of_lt d)
  have a:o=1:=by
   by_cases c:2<=o
   ·have m:18446744073709551616 ^ n * 2<=18446744073709551616 ^ n * o:=Int.mul_le_mul_of_nonneg_left c (Int.le_of_lt d);omega
   ·omega
  subst a
  have b:U - g * V < 0:=by omega
  have k:1<=g:=by
   by_cases c:1<=g
   ·exact c
   ·have:g=0:=by omega
    subst this;omega
  have e:x+V * 1=(U - (g - 1) * V)+18446744073709551616 ^ n * 1:=by rw[hx,Int.sub_mul];omega
  rw[e,Int.add_mul_emod_self_left,Int.sub_mul,Int.emod_eq_of_lt (by omega) (by omega)] at j;rw[Int.sub_mul];exact⟨k,by omega,by omega⟩
theorem kA{P:Program}{a:Act}{Q:Exit->Act->World->Prop}{c rest:Code}(l:Nat)(J:Act->World->Prop)(μ:Act->World->Nat)(hf:findLabel c l=some (Code.skip.seq rest))(first:(∀ a w,J a w->rest.wp P (Exit.jump l J Q) a w)->c.wp P (Exit.jump l J Q) a w)(pass:∀ a w,J a w->rest.wp P (Exit.jump l (fun a' w'=>J a' w'/\μ a' w' < μ a w) Q) a w):(Code.scope c).wp P Q a w :=
 wp_scope_jumps l J μ hf (first fun a w b=>wp_mono (pass a w b) fun e a' w' h=>by
  cases e with
  | goto l'=>exact⟨h.1,h.2.1⟩
  | _=>exact h) fun a w b=>wp_seq (wp_skip (pass a w b))
theorem rG{l m a:List Int}(h:k+m.length<=l.length)(hm:a.length=m.length):patch (patch l k m) k a=patch l k a:=by
 have e:(l.take k).length=k:=by simp;omega
 unfold patch;rw[List.take_left' e,hm,<- List.append_assoc (l.take k) m,List.drop_left' (by simp;omega)]
theorem dJ.below{B:Nat}{w':World}(h:Below B w w'){b o:Nat}(k:dJ w b o n)(hb:b < B):dJ w' b o n:=fun i hi=>by
 rw[World.frozen?_of_block (w:=w) (h.block b hb)];exact k i hi
theorem nP(s A cu:Nat)(av:Option Addr)(k q0 cv bv ov:Nat)(lu M:List Int)(w:World)(ad:lu.length=q0+(k+2))(V:M.length=k+2)(hbig:k<=1099511627776)(hbigq:q0<=1099511627776)(hcu:q0+(k+2)<=cu)(hcv:k+2<=cv)(wu:Words lu)(wv:Words M)(hu:At w (some ⟨s,A,none⟩) s A lu)(hfu:dJ w s A (q0+(k+2)))(hv:At w av bv ov M)(ab:bv≠s)(htop:9223372036854775808<=nth M (k+1))(hval:val lu < val M * 18446744073709551616 ^ q0) :
  Calls Tryz.prog 104 #[.slice (some ⟨s,A,none⟩) (q0+(k+2)) cu,.slice av (k+2) cv] w fun e w'=>∃ lq lr:List Int,e=.returned (.slice (some ⟨w.heap.size,0,none⟩) q0 q0)/\lI lu (val M) q0 k 0 lq lr/\At w' (some ⟨w.heap.size,0,none⟩) w.heap.size 0 lq/\dJ w' w.heap.size 0 q0/\At w' (some ⟨s,A,none⟩) s A lr/\dJ w' s A (q0+(k+2))/\Below s w w':=by
 go_enter Tryz.func104,Tryz.ntmps104;go_wp2;refine kA 0 (fun a' w'=>∃ (m:Nat) (lq u:List Int) (u8 u9 u10 u11 u12 u13 u14 u15 u16 u17 u18 u19 u20 u21 u22 u23 u24 u25 u26 u27 u28 u29 u30 u31 u32 u33 u34 u35 u36 u37 u38 u39 u40 u41 u42 u43 u44 u45 u46 u47 u48 u49 u50 u51 u52 u53 u54:Value),a'={ tmps:=#[.slice (some ⟨s,A,none⟩) (q0+(k+2)) cu,.slice av (k+2) cv,undef,undef,.slice none 0 0,.int .i64 ((k:Int)+2),.int .i64 (m:Int),.slice (some ⟨w.heap.size,0,none⟩) q0 q0,u8,u9,u10,u11,u12,u13,u14,u15,u16,u17,u18,u19,u20,u21,u22,u23,u24,u25,u26,u27,u28,u29,u30,u31,u32,u33,u34,u35,u36,u37,u38,u39,u40,u41,u42,u43,u44,u45,u46,u47,u48,u49,u50,u51,u52,u53,u54],defers:=[] }/\m<=q0/\lI lu (val M) q0 k m lq u/\At w' (some ⟨w.heap.size,0,none⟩) w.heap.size 0 lq/\dJ w' w.heap.size 0 q0/\At w' (some ⟨s,A,none⟩) s A u/\dJ w' s A (q0+(k+2))/\At w' av bv ov M/\w.heap.size < w'.heap.size/\Below s w w') (fun a' _=>(intOf (a'.tmps.getD 6 undef)).toNat) rfl ?_ ?_
 ·intro aw;go_wp2_with (at_make;refine di rfl _ _ rfl q0 _ _ rfl rfl (by omega) (by omega) (by omega) ?_;intro w1 am f hsz);go_step3
  have W:s < w.heap.size:=by
   rcases hu.lt with e | e
   ·subst e;simp at ad
   ·exact e
  have hI:lI lu (val M) q0 k q0 (List.replicate q0 0) lu:=⟨by simp,ad,eM _,wu,by simp[val],hval⟩
  rename_i K hK;refine hK _ _ (aw _ _ ⟨q0,List.replicate q0 0,lu,_,_,_,_,_,_,_,_,_,_,_,_,_,_,_,_,_,_,_,_,_,_,_,_,_,_,_,_,_,_,_,_,_,_,_,_,_,_,_,_,_,_,_,_,_,_,_,rfl,Nat.le_refl _,hI,am.at,am.free 0 q0,hu.keep f,dJ.below f hfu W,hv.keep f,by omega,f.mono (Nat.le_of_lt W)⟩)
 ·rintro a' wr ⟨m,lq,u,u8,u9,u10,u11,u12,u13,u14,u15,u16,u17,u18,u19,u20,u21,u22,u23,u24,u25,u26,u27,u28,u29,u30,u31,u32,u33,u34,u35,u36,u37,u38,u39,u40,u41,u42,u43,u44,u45,u46,u47,u48,u49,u50,u51,u52,u53,u54,rfl,hm,hinv,hq,aE,R,H,au,ap,az⟩;by_cases hm0:m=0
  ·subst hm0;go_wp2;rw[show ∀ J Q b w,Exit.jump 0 J Q .ret b w=Q .ret b w from fun _ _ _ _=>rfl];go_ret;exact⟨lq,u,rfl,hinv,hq,aE,R,H,az⟩
  ·obtain⟨a,rfl⟩:∃ a,m=a+1:=⟨m - 1,by omega⟩
   have y:=hinv.Ep;have v:=hinv.CT
   have hk1:a+(k+2)+1 - a=k+3:=by omega
   have aG:=dL wv;rw[V] at aG;obtain⟨x,hW2⟩:=hinv.fS (by omega) aG;have an:=R.fS a (k+3);have hfwin:=H.fS (k:=a) (m:=k+3) (by omega)
   have r:((u.drop a).take (k+3)).length=k+3:=by simp;omega
   have j:Words ((u.drop a).take (k+3)):=(hinv.wu.drop a).take (k+3);have Y:=fun wx hx hy=>xK (some ⟨s,A+a,none⟩) (k+3) s (A+a) av k cv bv ov ((u.drop a).take (k+3)) M wx r V (by omega) j wv hx hy htop hW2
   have c:=fun d nw=>hinv.step (d:=d) (nw:=nw) (by omega) aG
   have HH:=(show Hid _ from And.intro x (And.intro r (And.intro j (And.intro y (And.intro v c)))))
   clear hinv x r j y v c
   have e1:((a:Nat):Int)+1 - 1=a:=by omega
   generalize hL:(u.drop a).take (k+3)=L at *;go_wp2_with fail;rw[hk1];refine(Y _ an au).mono ?_
   rintro e w2 ⟨g,rfl,D,f⟩;obtain⟨x,r,j,y,v,c⟩:=HH.out
   have hsz2:w.heap.size < w2.heap.size:=Nat.lt_of_lt_of_le ap f.size
   have W:s < wr.heap.size:=by
    rcases R.lt with e | e
    ·subst e;simp at v
    ·exact e
   have HB2:=(show Hid _ from az.trans (f.mono (Nat.le_of_lt W)))
   clear az;have aq:=hq.keep f;have P:=dJ.below f aE ap;have hu2:=R.keep f;have ag:=dJ.below f H W;have hv2:=au.keep f;have hc:=aq.cell a (by omega);have hf:=P a (by omega);rw[Nat.zero_add] at hc hf;clear Y an;have hg0:=D.1;have hg1:=D.2.1;clear x r j y v c hq aE R H au;go_wp2_with fail
   have N:s≠w.heap.size:=by
    rcases hu.lt with e | e
    ·subst e;simp at ad
    ·omega
   have ae:s<=w.heap.size:=by
    rcases hu.lt with e | e
    ·subst e;simp at ad
    ·omega
   have hbv:bv≠w.heap.size:=by
    rcases hv.lt with e | e
    ·subst e;simp at V
    ·omega
   obtain⟨x,r,j,y,v,c⟩:=HH.out
   have t:Wr w.heap.size 0 q0 w2 (w2.setCell ⟨w.heap.size,a,none⟩ (.int .u64 g)):=(Wr.refl _ _ _ _).setCell (by omega) (by omega) _;have aC:=aq.setCell (i:=a) (by omega) g;rw[Nat.zero_add] at aC;generalize w2.setCell ⟨w.heap.size,a,none⟩ (.int .u64 g)=w3 at *;have ah:=t.free P;have X:=t.free ag;have ar:=hu2.wr t (.inr N);have ax:=hv2.wr t (.inr hbv)
   have hsz3:w.heap.size < w3.heap.size:=by rw[t.size];exact hsz2
   have C:=ar.fS a (k+3);rw[hL] at C;have I:=X.fS (k:=a) (m:=k+3) (by omega);refine(ji (some ⟨s,A+a,none⟩) s (A+a) (k+3) (k+3) av bv ov (k+2) cv g L M w3 r V (by omega) (by omega) (Nat.le_refl _) hcv hg0 hg1 j wv C I ax (.inr ab)).mono ?_
   rintro e w4 ⟨gq,rfl,ho0,ho1,nw,S,aA,af,o,B⟩;have HB4:=(show Hid _ from(HB2.out.trans (t.below ae)).trans (o.below (Nat.le_refl _)))
   have E:=o.free ah;have U:=o.free X;have ac:=aC.wr o (.inr (Ne.symm N));have aD:=ax.wr o (.inr ab);have aF:=ar.patch o af S (by omega)
   have ai:w.heap.size < w4.heap.size:=by rw[o.size];exact hsz3
   have hP:=fm (l:=u) (m:=nw) (k:=a) (by omega)
   have hVB3:val M < 18446744073709551616 ^ (k+3):=by
    have:=pow_pos (k+2);rw[Int.pow_succ _ (k+2)];omega
   have G:=dL aA;rw[S] at G;have z:=fun Z=>Ee (Z:=Z) (n:=k+3) D hVB3 B G (aO j) ho0
   clear t P ag hu2 hv2 aq ah X ar ax C I o aC;by_cases ho:gq=0
   ·subst ho;have hx:=(z 0).1 rfl;have hJ:=c g nw hg0 hg1 aA S hx.1 hx.2;have HJ:=(show Hid _ from hJ)
    clear hJ hx z c HH x r j y v B G hP;go_wp2_with fail;go_step3;refine And.intro (Eq.refl 0) (And.intro ?_ ?_)
    ·exact⟨a,lq.set a g,patch u a nw,_,_,_,_,_,_,_,_,_,_,_,_,_,_,_,_,_,_,_,_,_,_,_,_,_,_,_,_,_,_,_,_,_,_,_,_,_,_,_,_,_,_,_,_,_,_,_,rfl,by omega,HJ.out,ac,E,aF,U,aD,ai,HB4.out⟩
    ·simp[intOf]
   ·have hg1':1<=g:=((z ((val nw+val M * 1) % 18446744073709551616 ^ (k+3))).2 ho rfl).1;have aa:=ac.cell a (by simp;omega);have ao:=E a (by omega);rw[Nat.zero_add] at aa ao;rw[dG (by omega),if_pos rfl] at aa;have HN:=(show Hid _ from And.intro z (And.intro c (And.intro y (And.intro v (And.intro x (And.intro r (And.intro j (And.intro hP S))))))))
    clear z c HH x r j y v B G hP
    have hgw:IntKind.u64.wrap (g - 1)=g - 1:=by rw[IntKind.wrap_u64];omega
    have hob:(gq == 0)=false:=by simpa using ho
    go_wp2_with fail;obtain⟨z,c,y,v,x,r,j,hP,hnl'⟩:=HN.out
    have q:Wr w.heap.size 0 q0 w4 (w4.setCell ⟨w.heap.size,a,none⟩ (.int .u64 (g - 1))):=(Wr.refl _ _ _ _).setCell (by omega) (by omega) _;have aB:=ac.setCell (i:=a) (by simp;omega) (g - 1);rw[Nat.zero_add,List.set_set] at aB;generalize w4.setCell ⟨w.heap.size,a,none⟩ (.int .u64 (g - 1))=w5 at *;have ak:=q.free E;have T:=q.free U;have hu5:=aF.wr q (.inr N);have ay:=aD.wr q (.inr hbv);have al:=af.wr q (.inr N)
    have hsz5:w.heap.size < w5.heap.size:=by rw[q.size];exact ai
    have F:=T.fS (k:=a) (m:=k+3) (by omega);refine(eD (some ⟨s,A+a,none⟩) s (A+a) (k+3) (k+3) av bv ov (k+2) cv 1 nw M w5 S V (by omega) (by omega) (Nat.le_refl _) hcv (by omega) (by omega) aA wv al F ay (.inr ab)).mono ?_
    rintro e w6 ⟨rfl,n2,aj,hnw6,hat6,p,O⟩;have HB6:=(show Hid _ from(HB4.out.trans (q.below ae)).trans (p.below (Nat.le_refl _)))
    have hfq6:=p.free ak;have hfu6:=p.free T;have hq6:=aB.wr p (.inr (Ne.symm N));have hv6:=ay.wr p (.inr ab);have hu6:=hu5.patch p hat6 aj (by omega);rw[rG (by omega) (by omega)] at hu6
    have hsz6:w.heap.size < w6.heap.size:=by rw[p.size];exact hsz5
    have hx:=(z (val n2)).2 ho O;have HJ:=(show Hid _ from c (g - 1) n2 (by omega) (by omega) hnw6 aj hx.2.1 hx.2.2)
    clear hx z c HN x r j y v hP q aB ak T hu5 ay al F p ac E aF aD U O aa ao;go_wp2_with fail;go_step3;refine And.intro (Eq.refl 0) (And.intro ?_ ?_)
    ·exact⟨a,lq.set a (g - 1),patch u a n2,_,_,_,_,_,_,_,_,_,_,_,_,_,_,_,_,_,_,_,_,_,_,_,_,_,_,_,_,_,_,_,_,_,_,_,_,_,_,_,_,_,_,_,_,_,_,_,rfl,by omega,HJ.out,hq6,hfq6,hu6,hfu6,hv6,hsz6,HB6.out⟩
    ·simp[intOf]
end
end
section
open Go.RowKit Lim
section
variable {l L:List Int}{k s:Nat}
theorem Di(wl:Words l){n:Nat}(hn:l.length=n+1):nth l n * 18446744073709551616 ^ n<=val l/\val l < (nth l n+1) * 18446744073709551616 ^ n:=by
 have e1:=bM l n (by omega);have b:=aO (wl.take n);have a:=dL (wl.take n);rw[List.length_take,Nat.min_eq_left (by omega)] at a;rw[ep (by omega),List.drop_of_length_le (show l.length<=n+1 by omega)] at e1
 have e2:(18446744073709551616:Int) ^ n * (nth l n+18446744073709551616 * val [])=nth l n * 18446744073709551616 ^ n:=by
  rw[show val []=0 from rfl];grind
 rw[e2] at e1;rw[Int.add_mul (nth l n) 1];omega
theorem fA{a b p:Int}(hp:0 < p)(h:a * p < b * p):a < b:=Int.lt_of_mul_lt_mul_right h (Int.le_of_lt hp)
theorem uP{a:List Int}(m:Words L)(hL:L.length=k+2)(d:Words a)(hv:a.length=k+3)(hs:s<=63)(e:val a=val L * 2 ^ s)(j:9223372036854775808<=nth L (k+1) * 2 ^ s)(h:nth L (k+1) * 2 ^ s < 18446744073709551616):aI a=k+2/\9223372036854775808<=nth a (k+1):=by
 obtain⟨t1,t2⟩:=Di (n:=k+1) m hL;obtain⟨r,q⟩:=Di (n:=k+2) d hv
 have b:(0:Int) < 2 ^ s:=Int.pow_pos (by decide);have c:=pow_pos (k+1);have hC:=pow_pos (k+2)
 have c1:(nth L (k+1)+1) * 2 ^ s<=18446744073709551616:=by
  have hd:(18446744073709551616:Int)=2 ^ (64 - s) * 2 ^ s:=by rw[<- Int.pow_add,show 64 - s+s=64 by omega];rfl
  rw[hd] at h ⊢;have:=fA b h;exact Int.mul_le_mul_of_nonneg_right (by omega) (Int.le_of_lt b)
 have c2:val a < 1 * 18446744073709551616 ^ (k+2):=by
  have k1:val L * 2 ^ s < (nth L (k+1)+1) * 18446744073709551616 ^ (k+1) * 2 ^ s:=Int.mul_lt_mul_of_pos_right t2 b
  have l:(nth L (k+1)+1) * 2 ^ s * 18446744073709551616 ^ (k+1)<=18446744073709551616 * 18446744073709551616 ^ (k+1):=Int.mul_le_mul_of_nonneg_right c1 (Int.le_of_lt c);rw[Int.mul_right_comm] at k1;rw[Int.pow_succ _ (k+1),Int.mul_comm _ 18446744073709551616];omega
 have c3:nth a (k+2) < 1:=fA hC (by omega)
 have g:nth a (k+2)=0:=by have:=d.nth (k+2);omega
 have e1:=bM a (k+2) (by omega);rw[ep (by omega),List.drop_of_length_le (show a.length<=k+2+1 by omega),g,show val []=0 from rfl] at e1;obtain⟨v1,v2⟩:=Di (n:=k+1) (d.take (k+2)) (by simp;omega);rw[dz (by omega)] at v1 v2
 have o:9223372036854775808 * 18446744073709551616 ^ (k+1)<=val a:=by
  have k1:nth L (k+1) * 18446744073709551616 ^ (k+1) * 2 ^ s<=val L * 2 ^ s:=Int.mul_le_mul_of_nonneg_right t1 (Int.le_of_lt b)
  have l:9223372036854775808 * 18446744073709551616 ^ (k+1)<=nth L (k+1) * 2 ^ s * 18446744073709551616 ^ (k+1):=Int.mul_le_mul_of_nonneg_right j (Int.le_of_lt c);rw[Int.mul_right_comm] at k1;omega
 have p:9223372036854775808 < nth a (k+1)+1:=fA c (by omega);refine⟨jZ (by omega) ?_ ?_,by omega⟩
 ·intro i hi;by_cases f:i=k+2
  ·subst f;exact g
  ·simp[nth,List.getElem?_eq_none (show a.length<=i by omega)]
 ·intro _;rw[show k+2 - 1=k+1 from rfl];omega
theorem De{N:Nat}(wl:Words l)(f:l.length=N)(e:Words L)(hL:L.length=k+2)(d:1<=nth L (k+1))(i:k+2<=N) :
  val l * 2 ^ s < val L * 2 ^ s * 18446744073709551616 ^ (N+1 - (k+2)):=by
 obtain⟨t1,t2⟩:=Di (n:=k+1) e hL
 have h:(0:Int) < 2 ^ s:=Int.pow_pos (by decide);have a:=pow_pos (k+1);have c:=pow_pos (N+1 - (k+2));have g:=dL wl;rw[f] at g
 have k1:1 * 18446744073709551616 ^ (k+1)<=nth L (k+1) * 18446744073709551616 ^ (k+1):=Int.mul_le_mul_of_nonneg_right d (Int.le_of_lt a)
 have b:18446744073709551616 ^ (k+1) * 18446744073709551616 ^ (N+1 - (k+2))<=val L * 18446744073709551616 ^ (N+1 - (k+2)):=Int.mul_le_mul_of_nonneg_right (by omega) (Int.le_of_lt c);rw[<- Int.pow_add,show k+1+(N+1 - (k+2))=N by omega] at b;rw[Int.mul_right_comm];exact Int.mul_lt_mul_of_pos_right (by omega) h
theorem AN{x V Q R P:Int}(f:0 < P)(h:0 < V)(e:x * P=Q * (V * P)+R)(r0:0<=R)(r1:R < V * P):Q=x / V/\R / P=x % V:=by
 have d:R=(x - Q * V) * P:=by rw[Int.sub_mul,e,Int.mul_assoc];omega
 have hd:R / P=x - Q * V:=by rw[d,Int.mul_ediv_cancel _ (by omega)]
 have g:0<=x - Q * V:=by rw[<- hd];exact Int.ediv_nonneg r0 (Int.le_of_lt f)
 have i:x - Q * V < V:=fA f (by rw[<- d];exact r1);have c:=(Int.ediv_emod_unique (a:=x) (b:=V) (r:=x - Q * V) (q:=Q) h).2 ⟨by rw[Int.mul_comm V];omega,g,i⟩;exact⟨c.1.symm,by rw[hd];exact c.2.symm⟩
theorem Br(ao:Option Addr)(n c b o:Nat)(ao':Option Addr)(n' c' b' o':Nat)(l d:List Int)(w:World)(hl:l.length=n)(hl':d.length=n')(hc:n<=c)(hc':n'<=c')(hbig:n<=1099511627776)(hbig':n'<=1099511627776)(wl:Words l)(x:Words d)(ha:At w ao b o l)(ha':At w ao' b' o' d)(hge:val d<=val l)(h2:2<=aI d) :
  Calls Tryz.prog 58 #[.slice ao n c,.slice ao' n' c'] w fun e w'=>kh w w' e (val l) (val d) n n':=by
 have h0:=aO wl;have hn:=bH l
 have hn':=bH d
 have hNN:aI d<=aI l:=by
  by_cases c:aI l < aI d
  ·have:=dI wl x c;omega
  ·omega
 have t1:=bF ao' n' c' d w hl' hc' (by omega) ha'.cells
 have u:=ha'.sub (aI d);rw[show d.take (aI d)=norm d from rfl] at u;have t2:=jT ao n c b o ao' (aI d) (aI d) b' o' l (norm d) w hl (aL d) hc (Nat.le_refl _) (by omega) (by omega) wl x.norm ha u;rw[dj] at t2
 have hs0:0<=sgn (val l) (val d):=by unfold sgn;split<;>(try split)<;>omega
 have f:=aL d
 have E:=x.norm
 have g:=dj d
 have htop:nth (norm d) (aI d - 1)≠0:=by rw[gy];exact iP (by omega)
 generalize norm d=L' at *;generalize t:aI d=q at *;obtain⟨m,hm⟩:∃ m,q=m+1:=⟨q - 1,by omega⟩
 rw[show q - 1=m by omega] at htop
 have hmi:(q:Int) - 1=m:=by omega
 have hmN:m < q:=by omega
 have hmN':(m:Int) < q:=by omega
 have hty:=E.nth m;rcases u.loc with e | rfl
 ·subst e;simp at f;omega
 generalize sgn (val l) (val d)=sg at *;have H1:=(show Hid _ from And.intro g (And.intro hm (And.intro f (And.intro hge (And.intro hl t)))))
 clear g hm f t;go_enter Tryz.func58,Tryz.ntmps58;go_wp2_with fail;refine t1.mono ?_
 rintro e w1 ⟨rfl,rfl⟩;go_wp2_with fail;refine t2.mono ?_
 rintro e w2 ⟨rfl,r⟩;have hcy:=(u.keep r).cell m (by rw[H1.out.2.2.1];exact hmN);clear t1 t2;go_wp2_with fail;refine(E3 (nth L' m) w2 (by omega) hty.2).mono ?_
 rintro e w3 ⟨s,rfl,hs,HS,rfl⟩;have ta:=bF ao n c l w3 hl hc (by omega) (ha.keep r).cells;have hsa:=(ha.keep r).sub (aI l);rw[show l.take (aI l)=norm l from rfl] at hsa;have M:=aL l;have Y:=wl.norm;have HV:=(show Hid _ from dj l)
 rw[hl] at hn;generalize norm l=L at *;generalize aI l=N at *;clear hcy;go_wp2_with fail;refine ta.mono ?_
 rintro e w4 ⟨rfl,rfl⟩;clear ta;go_wp2_with fail;refine(o7 ao N N b o s L w4 M (Nat.le_refl _) (by omega) hs Y hsa).mono ?_
 rintro e w5 ⟨lu,rfl,hlu,hwu,T,hfu,U,X,K⟩;have hs5:=(u.keep r).keep K;have HU:=(show Hid _ from And.intro hlu (And.intro X M))
 clear hlu X M;go_wp2_with fail;refine(o7 (some ⟨b',o',none⟩) q q b' o' s L' w5 H1.out.2.2.1 (Nat.le_refl _) (by omega) hs E hs5).mono ?_
 rintro e w6 ⟨Q,rfl,hlv,Z,H,hfv,hszv,B,A⟩;obtain⟨k,hk⟩:∃ k,k+2=q:=⟨q - 2,by omega⟩
 obtain⟨q0,v⟩:∃ q0,q0+(k+2)=N+1:=⟨N+1 - (k+2),by omega⟩
 obtain⟨g,hm,f,S,W,t⟩:=H1.out
 have hmk:m=k+1:=by omega
 have D:=uP (k:=k) E (by omega) Z (by omega) hs B (by rw[<- hmk];exact HS.out.1) (by rw[<- hmk];exact HS.out.2);have P:=De (s:=s) (N:=N) (k:=k) (l:=L) (L:=L') Y HU.out.2.2 E (by omega) (by rw[<- hmk];omega) (by omega);rw[<- HU.out.2.1,<- B,show N+1 - (k+2)=q0 by omega] at P;have tv:=bF (some ⟨w5.heap.size,0,none⟩) (q+1) (q+1) Q w6 hlv (Nat.le_refl _) (by omega) H.cells;rw[D.1,hk] at tv;have hsv:=H.sub (aI Q);rw[show Q.take (aI Q)=norm Q from rfl] at hsv;have z:=aL Q;rw[D.1] at z;have O:=nP w4.heap.size 0 (N+1) (some ⟨w5.heap.size,0,none⟩) k q0 q w5.heap.size 0 lu (norm Q) w6 (by rw[v];exact HU.out.1) z (by omega) (by omega) (by omega) (by omega) hwu Z.norm (T.keep A) (by rw[v];exact dJ.below A hfu U) hsv (by omega) (by rw[gy];exact D.2) (by rw[dj];exact P);rw[v,hk,dj] at O;have HK:=(show Hid _ from And.intro hk (And.intro v (And.intro B hmk)))
 have hq0n:q0<=N:=by omega
 clear g hm f t hk v hmk D P z B W;go_wp2_with fail;refine tv.mono ?_
 rintro e w7 ⟨rfl,rfl⟩;clear tv;go_wp2_with fail;refine O.mono ?_
 rintro e w8 ⟨V,lr,rfl,C,hatq,hfq,hatr,hfr,hbd⟩;clear O
 have F:lr.length=N+1:=by rw[C.CT];exact HK.out.2.1
 have HD:=(show Hid _ from C)
 have J:=C.wu;clear C;go_wp2_with fail;refine(xP (some ⟨w4.heap.size,0,none⟩) w4.heap.size 0 (N+1) (N+1) s lr w8 F (by omega) (Nat.le_refl _) hs J hatr hfr).mono ?_
 rintro e w9 ⟨rfl,R,y,hwz,I,j,G⟩;have hq9:=hatq.wr j (.inr (by omega));have hfq9:=j.free hfq;have ab:=j.free hfr;have tq:=bF (some ⟨w7.heap.size,0,none⟩) q0 q0 V w9 HD.out.Ep (Nat.le_refl _) (by omega) hq9.cells;have tr:=bF (some ⟨w4.heap.size,0,none⟩) (N+1) (N+1) R w9 y (Nat.le_refl _) (by omega) I.cells;have hz1:=bH R;have hz2:=bH V;rw[HD.out.Ep] at hz2;rw[y] at hz1;have HX:=(show Hid _ from And.intro F (And.intro y G))
 clear F y G;go_wp2_with fail;refine tq.mono ?_
 rintro e w10 ⟨rfl,rfl⟩;go_wp2_with fail;refine tr.mono ?_
 rintro e w11 ⟨rfl,rfl⟩;clear tq tr;go_wp2;go_ret3;have hsq:=hq9.sub (aI V);have hsz:=I.sub (aI R);have p:=r.size;have hsz5:=K.size;have hsz7:=A.size
 have HB:Below w1.heap.size w1 w11:=(((r.trans (K.mono p)).trans (A.mono (by omega))).trans (hbd.mono p)).trans (j.below p);obtain⟨g,hm,f,S,W,t⟩:=H1.out;obtain⟨F,y,G⟩:=HX.out;have he:=HD.out.eq;have aa:=HD.out.lt;rw[HU.out.2.1,HV.out,HK.out.2.2.1,g,Int.pow_zero,Int.one_mul,List.drop_zero] at he;rw[HK.out.2.2.1,g,Int.pow_zero,Int.mul_one] at aa
 have hV:0 < val d:=by
  have:val d≠0:=fun e=>by have:=(cy x).2 e;omega
  have:=aO x;omega
 have hdb:=AN (gk s hs).1 hV he (aO J) aa;have i1:=cE HD.out.wq;have i2:=cE hwz;rw[hdb.1] at i1;rw[G,hdb.2] at i2;exact⟨_,_,norm V,norm R,rfl,dM.of (aL V).symm (Nat.le_refl _) (by omega) hsq (fun i hi=>hfq9 i (by omega)),dM.of (aL R).symm (Nat.le_refl _) p hsz (fun i hi=>ab i (by omega)),i1,i2,by rw[aL];omega,by rw[aL];omega,HB⟩
theorem qR(ao:Option Addr)(n c b o:Nat)(ao':Option Addr)(n' c' b' o':Nat)(l d:List Int)(w:World)(k:l.length=n)(h:d.length=n')(hc:n<=c)(j:n'<=c')(f:n<=1099511627776)(a:n'<=1099511627776)(wl:Words l)(g:Words d)(p:At w ao b o l)(i:At w ao' b' o' d)(m:val d≠0) :
  Calls Tryz.prog 58 #[.slice ao n c,.slice ao' n' c'] w fun e w'=>kh w w' e (val l) (val d) n n':=by
 by_cases q:val l < val d
 ·exact div_lt ao n c b o ao' n' c' b' o' l d w k h hc j f a wl g p i q
 ·have s:aI d≠0:=fun e=>m ((cy g).1 e)
  by_cases r:aI d=1
  ·exact div_one ao n c b o ao' n' c' b' o' l d w k h hc j f a wl g p i (by omega) r
  ·exact Br ao n c b o ao' n' c' b' o' l d w k h hc j f a wl g p i (by omega) (by omega)
theorem ux(ao:Option Addr)(n c b o:Nat)(ao':Option Addr)(n' c' b' o':Nat)(ad:Option Addr)(g H N L:Nat)(l s i:List Int)(w:World)(R:l.length=n)(G:s.length=n')(B:i.length=g)(hc:n<=c)(I:n'<=c')(F:g<=H)(M:n<=274877906944)(D:n'<=274877906944)(z:g<=274877906944)(wl:Words l)(E:Words s)(wd:Words i)(ha:At w ao b o l)(x:At w ao' b' o' s)(A:At w ad N L i)(J:val i≠0) :
  Calls Tryz.prog 106 #[.slice ao n c,.slice ao' n' c',.slice ad g H] w fun e w'=>kh w w' e (val l * val s) (val i) (n+n') g:=by
 go_enter Tryz.func106,Tryz.ntmps106;go_wp2_with fail;refine(pZ ao n c b o ao' n' c' b' o' l s w R G hc I (by omega) (by omega) wl E ha x).mono ?_
 rintro e P ⟨v,r,rfl,p,O,hlen,d⟩;obtain⟨Y,U,or',X,rfl,C,W,m,_⟩:=p.is;have j:=A.keep d;have f:=d.size;have t2:=qR Y r.length X U or' ad g H N L r i P rfl B C F (by omega) (by omega) O.1 wd m j J;rw[O.2.2] at t2;go_wp2_with fail;refine t2.mono ?_
 rintro e w2 ⟨q,u,V,T,rfl,Z,hu,y,K,S,Q,t⟩;go_wp2;go_ret3;exact⟨q,u,V,T,rfl,Z.mono f,hu.mono f,y,K,by omega,by omega,d.trans (t.mono f)⟩
end
end
section
open Go.RowKit Lim
section
variable {w:World}{B:Nat}{v:Value}{l l1:List Int}{c m c0:Int}
def eE(w:World)(B:Nat)(v:Value)(l:List Int):Prop:=w.ownsRow B 22 1 v l.length (l.map (Value.int .u64))
theorem eE.open(h:eE w B v l):∃ ao c,v=.slice ao l.length c/\l.length<=c/\c<=maxLen/\∃ g,(l=[]\/ao=some ⟨g,0,none⟩)/\B<=g/\At w ao g 0 l/\dJ w g 0 l.length:=by
 obtain⟨_,b⟩:=h;rcases b with⟨rfl,h0⟩ | ⟨g,cap,cur,rfl,hB,hh,hle,hmx,hsz,htk⟩
 ·have e:l=[]:=List.eq_nil_of_length_eq_zero h0;subst e;exact⟨none,0,rfl,Nat.le_refl _,by decide,B,.inl rfl,Nat.le_refl _,⟨.inl rfl,fun i hi=>by simp at hi⟩,fun i hi=>by simp at hi⟩
 ·refine⟨some ⟨g,0,none⟩,cap,rfl,hle,hmx,g,.inr rfl,hB,⟨.inr rfl,fun i hi=>?_⟩,fun i hi=>?_⟩
  ·have e:cur.toList[i]?=some (.int .u64 (nth l i)):=by
    have a:(cur.toList.take (l.length * 1))[i]?=some (.int .u64 (nth l i)):=by
     rw[htk,List.getElem?_map,List.getElem?_eq_getElem hi,b8 hi];rfl
    rwa [Nat.mul_one,List.getElem?_take_of_lt hi] at a
   simp only[World.cell?,hh];simpa using e
  ·simp[World.frozen?,hh]
theorem eE.setCell(h:eE w B v l){c g:Nat}(hv:v=.slice (some ⟨g,0,none⟩) l.length c){i:Nat}(hi:i < l.length)(x:Int):eE (w.setCell ⟨g,0+i,none⟩ (.int .u64 x)) B v (l.set i x):=by
 obtain⟨_,a⟩:=h;refine⟨by simp,?_⟩;rcases a with⟨rfl,h0⟩ | ⟨g',cap,cur,rfl,hB,hh,hle,hmx,hsz,htk⟩
 ·omega
 ·simp only[Value.slice.injEq,Option.some.injEq,Addr.mk.injEq,and_true,true_and] at hv;obtain⟨rfl,rfl⟩:=hv;right;refine⟨g',cap,cur.setIfInBounds i (.int .u64 x),by simp,hB,?_,by simpa using hle,hmx,by simpa using hsz,?_⟩
  ·simp only[World.setCell,Array.getElem?_modify,if_true,hh,Nat.zero_add];simp
  ·rw[List.length_set,Nat.mul_one] at *;rw[Array.toList_setIfInBounds,List.map_set,<- htk,List.take_set]
theorem eE.new{w':World}(h:eE w' w.heap.size v l):dM w w' v l:=by
 obtain⟨ao,c,rfl,hc,_,g,_,hg,hat,hf⟩:=h.open;exact⟨ao,g,0,c,rfl,hc,hg,hat,hf⟩
structure ni(l:List Int)(m c0:Int)(k:Nat)(l1:List Int)(c:Int):Prop where
 len:l1.length=l.length
 words:Words l1
 high:∀ i,k<=i->nth l1 i=nth l i
 val:Lim.val (l1.take k)+18446744073709551616 ^ k * c=Lim.val (l.take k) * m+c0
theorem ni.step{a c':Int}{k:Nat}(h:ni l m c0 k l1 c)(g:k < l.length)(d:0<=a)(b:a < 18446744073709551616)(e:a+18446744073709551616 * c'=nth l k * m+c):ni l m c0 (k+1) (l1.set k a) c':=by
 have f:=h.len;refine⟨by simp[f],h.words.set k d b,fun i hi=>by rw[dG (by omega),if_neg (by omega)];exact h.high i (by omega),?_⟩;have j:=h.val;rw[dB (by simp[f];omega),dB g,List.take_set_of_le (Nat.le_refl _),dG (by omega),if_pos rfl,Int.pow_succ];have:18446744073709551616 ^ k * (a+18446744073709551616 * c')=18446744073709551616 ^ k * (nth l k * m+c):=by rw[e]
 grind
theorem pB(n:Nat)(w:World)(hn:n<=19):Calls Tryz.prog 137 #[.int .i64 n] w fun e w'=>e=.returned (.int .u64 (10 ^ n))/\w'=w:=by
 go_enter Tryz.func137,Tryz.ntmps137;go_wp2;go_loop [3,5] (fun f c=>∃ (k:Nat) (p:Int),k<=n/\c=.int .i64 k/\f=.int .u64 p/\Hid (p=10 ^ k)) (fun _ c=>n - (intOf c).toNat)
 case atStart=>exact⟨0,1,Nat.zero_le _,rfl,rfl,rfl⟩
 case round =>
  obtain⟨k,p,j,rfl,rfl,b⟩:=hrel;by_cases g:k < n
  ·have i:(1:Int)<=p:=by rw[b.out]; exact Int.pow_pos (by decide)
   have l:p<=1000000000000000000:=by
    rw[b.out];have:(10:Nat) ^ k<=10 ^ 18:=Nat.pow_le_pow_right (by decide) (by omega)
    have e:((10 ^ k:Nat):Int)=(10:Int) ^ k:=by rw[Int.natCast_pow];rfl
    rw[<- e];omega
   go_wp2;go_round
   case rel=>exact⟨k+1,p * 10,by omega,by go_num,rfl,by show _=_;rw[Int.pow_succ,<- b.out]⟩
   case measure=>simp[intOf];omega
  ·have d:k=n:=by omega
   subst d;go_wp2;go_ret;exact⟨kZ b.out,rfl⟩
theorem yk(hc:c≠0):aI (l ++ [c])=(l ++ [c]).length:=by
 apply jZ (Nat.le_refl _)
 ·intro i hi;exact gx hi
 ·intro _;rw[List.length_append,List.length_singleton,Nat.add_sub_cancel,bP (Nat.le_refl _),Nat.sub_self,cU];exact hc
theorem tO{r:List Int}(wl:Words l)(wr:Words r)(hlen:r.length=l.length)(hv:val r=val l * m+c)(hm:0 < m)(hc:0<=c)(hn:aI l=l.length):aI r=r.length:=by
 have g:=bH r;by_cases d:l.length=0
 ·omega
 have e:=eH wl (by omega);have f:=il wr;have b:=aO wl
 have h:val l * 1<=val l * m:=Int.mul_le_mul_of_nonneg_left (by omega) b;by_cases a:aI r < r.length
 ·have:=iI (show aI r<=aI l - 1 by omega);omega
 ·omega
theorem ni.fin(h:ni l m c0 l.length l1 c):Lim.val (l1 ++ [c])=Lim.val l * m+c0:=by
 have a:=h.val;rw[List.take_of_length_le (by rw[h.len];exact Nat.le_refl _),List.take_of_length_le (Nat.le_refl _)] at a;rw[eu,eN,h.len];exact a
theorem oT(B:Nat)(v:Value)(l:List Int)(m c0:Int)(w:World)(hB:B<=w.heap.size)(b:eE w B v l)(H:l.length<=1099511627776)(wl:Words l)(D:0<=m)(L:m < 18446744073709551616)(K:0<=c0)(W:c0 < 18446744073709551616) :
  Calls Tryz.prog 192 #[v,.int .u64 m,.int .u64 c0] w fun e w'=>∃ v' r,e=.returned v'/\eE w' B v' r/\Words r/\val r=val l * m+c0/\r.length<=l.length+1/\(aI l=l.length->0 < m->aI r=r.length)/\Below B w w':=by
 obtain⟨i0,hi,X,P,Z⟩:=info_parts iC;obtain⟨ao,cap,rfl,G,hmax,g,p,hBg,_,_⟩:=b.open
 have N:∃ n,n=l.length:=⟨_,rfl⟩
 obtain⟨n,hn⟩:=N
 have V:n<=l.length:=by omega
 have hn2:l.length<=n:=by omega
 have x:Hid (n=l.length):=hn;rw[<- hn] at b H G ⊢;clear hn;go_enter Tryz.func192,Tryz.ntmps192;go_wp2;go_loopw [2,13] (fun tc T wr=>∃ (k:Nat) (c:Int) (l1:List Int),k<=n/\T=.int .i64 k/\tc=.int .u64 c/\0<=c/\c < 18446744073709551616/\ni l m c0 k l1 c/\eE wr B (.slice ao n cap) l1/\Below B w wr) (fun _ T _=>n - (intOf T).toNat)
 case atStart=>exact⟨0,c0,l,Nat.zero_le _,rfl,rfl,K,W,⟨rfl,wl,fun _ _=>rfl,by simp[val]⟩,b,Below.refl _ _⟩
 case round =>
  clear b;obtain⟨k,c,l1,hk,rfl,rfl,q,A,hinv,b,d⟩:=hrel;have j:=hinv.len;by_cases hlt:k < n
  ·rcases p with e | rfl
   ·subst e;simp at V;omega
   obtain⟨ao',c',e',_,_,R,f,C,z,J⟩:=b.open;simp only[Value.slice.injEq] at e';obtain⟨rfl,e1,rfl⟩:=e'
   have Q:R=g:=by
    rcases f with e | e
    ·subst e;simp at e1;omega
    ·simpa using e.symm
   subst Q;have I:=z.cell k (by omega);have U:=J k (by omega);rw[Nat.zero_add] at I U;rw[hinv.high k (Nat.le_refl _)] at I;obtain⟨S,M⟩:=wl.nth k
   have HI:Hid (ni l m c0 k l1 c):=hinv
   have HM:Hid (eE wr B (.slice (some ⟨R,0,none⟩) n cap) l1):=b
   have HB:Hid (Below B w wr):=d
   have HE:Hid (n=l1.length):=e1;clear hinv b d z J f e1 wl
   go_wp2_with (first
    | (go_at_call 118;refine(l7 _ _ S M D L _).mono ?_;rintro e w' ⟨O,lo,rfl,h1,h2,h3,h4,h5,rfl⟩)
    | simp only[sd _ _ h3 q])
   have hxm:nth l k * m<=340282366920938463426481119284349108225:=by
    have:=Int.mul_le_mul (show nth l k<=18446744073709551615 by omega) (show m<=18446744073709551615 by omega) D (by decide);simpa using this
   have h5':=h5.out
   have e5:(lo+c) % 18446744073709551616+18446744073709551616 * (O+(lo+c) / 18446744073709551616)=nth l k * m+c:=by omega
   have HN:=HM.out.setCell (c:=cap) (g:=R) (by rw[<- HE.out]) (i:=k) (by omega) ((lo+c) % 18446744073709551616);rw[Nat.zero_add] at HN;go_roundw
   case rel=>exact⟨k+1,_,_,by omega,by go_num,rfl,by omega,by omega,HI.out.step (by omega) (Int.emod_nonneg _ (by decide)) (Int.emod_lt_of_pos _ (by decide)) e5,HN,HB.out.setCell C _⟩
   case measure=>simp[intOf];omega
  ·have Y:k=n:=by omega
   subst Y
   have HF:Hid (val (l1 ++ [c])=val l * m+c0):=by rw[x.out] at hinv;exact hinv.fin
   have y:=hinv.words;by_cases hc:c=0
   ·subst hc;go_wp2;go_ret
    have F:val l1=val l * m+c0:=by rw[<- HF.out,eu];simp[val]
    refine⟨_,l1,rfl,b,y,F,by omega,fun h1 h2=>tO wl y (by omega) F h2 K (by omega),d⟩
   ·have hcb:(c != 0)=true:=by rw[bne_iff_ne]; exact hc
    have E:wr.ownsRow B 22 1 (.slice ao k cap) k (l1.map (Value.int .u64)):=by have:=b;unfold eE at this;rwa [j,<- x.out] at this
    have hsz:=d.size;go_wp2_with (at_builtin;refine wpList_append_own _ rfl _ _ 30 rfl B 22 i0 (.int .u64 0) 1 8 gA hi X P Z rfl (by decide) _ _ _ rfl (E.alloc _) ⟨wr.heap.size,0,none⟩ 1 1 [.int .u64 c] rfl rfl ?c1 ?c2 ?c3 ?c4 ?c5 ?_)
    case c1=>exact cell_one_new _ _ _
    case c2=>intro u hu;simp at hu;subst hu;rfl
    case c3=>unfold maxLen;omega
    case c4=>omega
    case c5=>simp;omega
    intro v' w1 t s _;go_wp2;go_ret
    have hM:eE w1 B v' (l1 ++ [c]):=by
     unfold eE;rw[List.length_append,j,<- x.out,List.map_append];exact t
    refine⟨_,l1 ++ [c],rfl,hM,y.append (Words.cons q A Words.nil),HF.out,by simp;omega,fun _ _=>yk hc,?_⟩
    exact(d.alloc (by omega) _).grown s (by simp; omega) (by
     intro g1 o;rcases p with e | rfl
     ·subst e;rcases b.2 with⟨e2,_⟩ | ⟨g2,cap2,cur2,e2,hB2,_⟩
      ·rw[e2] at o;simp[Value.ownBlock] at o
      ·rw[e2] at o;simp[Value.ownBlock] at o;omega
     ·simp[Value.ownBlock] at o;omega)
end
end
section
open Go.RowKit Lim
section
variable {w:World}{l:List Int}{ops:Array Oper}{rest:List Oper}
theorem eE.cell{B g n c:Nat}(h:eE w B (.slice (some ⟨g,0,none⟩) n c) l){i:Nat}(hi:i < l.length):w.cell? ⟨g,i,none⟩=some (.int .u64 (nth l i))/\w.frozen? ⟨g,i,none⟩=false:=by
 obtain⟨p,o,e,_,_,k,a,_,d,b⟩:=h.open;simp only[Value.slice.injEq] at e;obtain⟨rfl,_,_⟩:=e
 have m:k=g:=by
  rcases a with e | e
  ·subst e;simp at hi
  ·simpa using e.symm
 subst m;have f:=d.cell i hi;have j:=b i hi;rw[Nat.zero_add] at f j;exact⟨f,j⟩
theorem xG{o:Oper}{a:Act}{Q:Exit->Act->World->Prop}(k:o.guard=none)(l c:Operand)(f:o.op=Op.makeSlice 30 l c)(n m:Nat)(L C:Int)(h:a.eval l=.int .i64 L)(hc:a.eval c=.int .i64 C)(hL:L=(n:Int))(hC:C=(m:Int))(e:n<=m)(hn:m<=17592186044416)(g:∀ w',eE w' w.heap.size (.slice (some ⟨w.heap.size,0,none⟩) n m) (List.replicate n 0)->Below w.heap.size w w'->w'.heap.size=w.heap.size+1->wpList Tryz.prog ops Q rest (a.put o.dst (.slice (some ⟨w.heap.size,0,none⟩) n m)) w') :
  wpList Tryz.prog ops Q (o :: rest) a w:=by
 obtain⟨i,hi,j,hs,hb⟩:=info_parts iC;refine wpList_plain k fun K d=>?_
 have b:=run_make (P:=Tryz.prog) w 30 22 i (.int .u64 0) gA hi j .i64 .i64 (n:Int) (m:Int) (by omega) (by omega) (by rw[hb];omega) (by omega);subst hL;subst hC;unfold Oper.wp;simp only[execOp,f,h,hc];simp[b,Result.andThen];refine d _ _ (g _ ⟨by simp,.inr ⟨w.heap.size,m,((List.replicate m 0).map (Value.int .u64)).toArray,by simp,Nat.le_refl _,?_,by simpa using e,by unfold maxLen;omega,by simp,?_⟩⟩ ?_ ?_)
 ·show (w.heap.push _)[w.heap.size]?=_
  rw[Array.getElem?_push_size,hs,Nat.mul_one,sH]
 ·simp;omega
 ·exact(Below.refl _ _).alloc (Nat.le_refl _) _
 ·simp
theorem xq(n:Nat)(w:World)(hn:n<=4096) :
  Calls Tryz.prog 141 #[.int .i64 n] w fun e w'=>∃ v r,e=.returned (.tuple #[v,.int .i64 0])/\dM w w' v r/\IsN r (10 ^ n)/\r.length<=n+2/\Below w.heap.size w w':=by
 obtain⟨q,T⟩:∃ q:Nat,q=n / 19:=⟨_,rfl⟩
 obtain⟨t,Q⟩:∃ t:Nat,t=n % 19:=⟨_,rfl⟩
 have Y:(n:Int) / 19=q:=by omega
 have U:(n:Int) % 19=t:=by omega
 have X:t < 19:=by omega
 have W:Hid (n=19 * q+t):=by show _=_;omega
 have S:q<=n:=by omega
 clear T Q
 have L:decide ((n:Int) < 0)=false:=by simp
 have K:decide (4096 < (n:Int))=false:=by simp;omega
 go_enter Tryz.func141,Tryz.ntmps141;go_wp2_with (at_make;refine xG rfl _ _ rfl 1 (q+1) _ _ rfl rfl rfl (by omega) (by omega) (by omega) ?_;intro Z b m f;have F:=b.cell (i:=0) (by simp);obtain⟨I,G⟩:=F);have o:=b.setCell (c:=q+1) (g:=w.heap.size) rfl (i:=0) (by simp) 1;rw[show (List.replicate 1 (0:Int)).set 0 1=[1] from rfl,Nat.add_zero] at o;have B:=m.setCell (p:=⟨w.heap.size,0,none⟩) (Nat.le_refl _) (.int .u64 1);clear b m I G;go_loopw [4,19] (fun P H wr=>∃ (k:Nat) (l:List Int),k<=q/\H=.int .i64 k/\eE wr w.heap.size P l/\Words l/\Hid (aI l=l.length)/\Hid (val l=10 ^ (19 * k))/\l.length<=k+1/\Below w.heap.size w wr) (fun _ H _=>q - (intOf H).toNat)
 case atStart=>exact⟨0,[1],Nat.zero_le _,rfl,o,Words.cons (by decide) (by decide) Words.nil,rfl,rfl,by simp,B⟩
 case round =>
  clear o B f;obtain⟨k,l,hk,rfl,hm,wl,E,hv,hlen,x⟩:=hrel;have f:=x.size;by_cases V:k < q
  ·go_wp2_with (go_at_call 192;refine(oT w.heap.size _ l 10000000000000000000 0 _ f hm (by omega) wl (by decide) (by decide) (by decide) (by decide)).mono ?_;rintro e R ⟨J,r,rfl,s,y,j,z,u,d⟩);have e1:=hv.out;have e2:=u E.out (by decide);go_roundw
   case rel=>exact⟨k+1,r,by omega,by go_num,s,y,e2,by show _=_;rw[j,e1,Int.add_zero,show 19 * (k+1)=19 * k+19 from by omega,Int.pow_add];rfl,by omega,x.trans d⟩
   case measure=>simp[intOf];omega
  ·have C:k=q:=by omega
   have N:Hid (k=q):=C;clear C
   have D:(0:Int) < 10 ^ t:=Int.pow_pos (by decide)
   have A:(10:Int) ^ t < 18446744073709551616:=by
    have:(10:Nat) ^ t<=10 ^ 18:=Nat.pow_le_pow_right (by decide) (by omega)
    have e:((10 ^ t:Nat):Int)=(10:Int) ^ t:=by rw[Int.natCast_pow];rfl
    have e2:(10:Nat) ^ 18=1000000000000000000:=by decide
    omega
   have O:=pB t wr (by omega);generalize hp:(10:Int) ^ t=p at *
   have M:Hid ((10:Int) ^ t=p):=hp;clear hp;go_wp2_with fail;refine O.mono ?_
   rintro e w4 ⟨rfl,rfl⟩;go_wp2_with fail;refine(oT w.heap.size _ l p 0 _ f hm (by omega) wl (by omega) A (by decide) (by decide)).mono ?_
   rintro e R ⟨J,r,rfl,s,y,j,z,u,d⟩;have e1:=hv.out;have e2:=u E.out D
   have e3:val r=10 ^ n:=by rw[j,e1,Int.add_zero,W.out,Int.pow_add,M.out,N.out]
   clear j;go_wp2;go_ret2;exact⟨J,r,rfl,s.new,⟨y,e2,e3⟩,by omega,x.trans d⟩
end
end
section
open Go.RowKit Lim
end
section
open Go.RowKit Lim
section
variable {w w':World}{ao:Option Addr}{b o:Nat}{l:List Int}
structure AtB(w:World)(ao:Option Addr)(b o:Nat)(l:List Int):Prop where
 loc:l=[]\/ao=some ⟨b,o,none⟩
 cell:∀ i,i < l.length->w.cell? ⟨b,o+i,none⟩=some (.int .u8 (nth l i))
theorem AtB.lt(k:AtB w ao b o l):l=[]\/b < w.heap.size:=by
 cases l with
 | nil=>exact .inl rfl
 | cons x l=>exact .inr (aK (k.cell 0 (by simp)))
theorem AtB.keep(h:Below w.heap.size w w')(k:AtB w ao b o l):AtB w' ao b o l :=
 ⟨k.loc,fun i hi=>by
  rcases k.lt with e | e
  ·subst e;simp at hi
  ·rw[h.cell (p:=⟨b,o+i,none⟩) e];exact k.cell i hi⟩
theorem AtB.wr{n:Nat}(h:Wr b o n w w'){b' o':Nat}(k:AtB w ao b' o' l)(hb:l=[]\/b'≠b):AtB w' ao b' o' l :=
 ⟨k.loc,fun i hi=>by
  rcases hb with e | e
  ·subst e;simp at hi
  ·rw[h.other e];exact k.cell i hi⟩
theorem AtB.setCell(k:AtB w ao b o l){i:Nat}(hi:i < l.length)(x:Int):AtB (w.setCell ⟨b,o+i,none⟩ (.int .u8 x)) ao b o (l.set i x) :=
  ⟨by rcases k.loc with e | e
      · subst e;simp at hi
      · exact .inr e,fun j g=>by
    rw[List.length_set] at g;have hc:=k.cell j g;rw[dG hi];have a:=k.cell i hi;simp only[World.cell?,World.setCell,Array.getElem?_modify,if_true] at hc a ⊢
    cases hh:w.heap[b]? with
    | none=>rw[hh] at hc;simp at hc
    | some ob =>
      rw[hh] at hc a
      cases ob with
      | cells c e f =>
        simp at hc a ⊢;rw[Array.getElem?_setIfInBounds];by_cases e:j=i
        · subst e
          obtain⟨d,_⟩:= Array.getElem?_eq_some_iff.1 a;simp[d]
        · rw[if_neg (by omega),if_neg e];exact hc
      | _=>simp at hc⟩
structure Ea(w w':World)(v:Value)(l:List Int):Prop where
 is:∃ ao b o c,v=.slice ao l.length c/\l.length<=c/\w.heap.size<=b/\AtB w' ao b o l/\dJ w' b o l.length
def bE(l:List Int):Prop:=∀ x∈l,0<=x/\x < 256
theorem bE.nth(h:bE l)(i:Nat):0<=nth l i/\nth l i < 256:=by
 by_cases hi:i < l.length
 ·exact h _ (my hi)
 ·rw[gx (by omega)];decide
def bT:List Int->Int
 | []=>0
 | x :: l=>x * 256 ^ l.length+bT l
theorem bR(h:bE l):0<=bT l/\bT l < 256 ^ l.length:=by
 induction l with
 | nil=>simp[bT]
 | cons x l ih =>
  have d:=ih (fun y hy=>h y (List.mem_cons_of_mem _ hy));have b:=h x List.mem_cons_self
  have a:(0:Int) < 256 ^ l.length:=Int.pow_pos (by decide)
  have c:0<=x * 256 ^ l.length:=Int.mul_nonneg b.1 (Int.le_of_lt a)
  have e:x * 256 ^ l.length<=255 * 256 ^ l.length:=Int.mul_le_mul_of_nonneg_right (by omega) (Int.le_of_lt a);rw[bT,List.length_cons,Int.pow_succ];omega
def IsB(l:List Int)(n:Int):Prop:=bE l/\(l≠[]->nth l 0≠0)/\bT l=n
theorem np:∀ {a b:List Int},bE a->bE b->a.length=b.length->bT a=bT b->a=b
 | [],[],_,_,_,_=>rfl
 | x :: a,y :: b,ha,hb,hl,hv=>by
  have ha':bE a:=fun z g=>ha z (List.mem_cons_of_mem _ g)
  have f:bE b:=fun z g=>hb z (List.mem_cons_of_mem _ g)
  have d:a.length=b.length:=by simpa using hl
  have i:=bR ha';have j:=bR f;rw[bT,bT,d] at hv;rw[d] at i
  have h:(0:Int) < 256 ^ b.length:=Int.pow_pos (by decide)
  have e:x=y:=by
   rcases Int.lt_trichotomy x y with c | c | c
   ·have:(x+1) * 256 ^ b.length<=y * 256 ^ b.length:=Int.mul_le_mul_of_nonneg_right (by omega) (Int.le_of_lt h);rw[Int.add_mul] at this;omega
   ·exact c
   ·have:(y+1) * 256 ^ b.length<=x * 256 ^ b.length:=Int.mul_le_mul_of_nonneg_right (by omega) (Int.le_of_lt h);rw[Int.add_mul] at this;omega
  subst e;rw[np ha' f d (by omega)]
theorem vS(h:bE l)(a:l≠[])(c:nth l 0≠0):256 ^ (l.length - 1)<=bT l:=by
 cases l with
 | nil=>exact absurd rfl a
 | cons x l =>
  rw[cU] at c;have e:=h x List.mem_cons_self;have f:=bR (l:=l) (fun z b=>h z (List.mem_cons_of_mem _ b))
  have d:(0:Int) < 256 ^ l.length:=Int.pow_pos (by decide);have:1 * 256 ^ l.length<=x * 256 ^ l.length:=Int.mul_le_mul_of_nonneg_right (by omega) (Int.le_of_lt d);rw[bT,List.length_cons,Nat.add_sub_cancel];omega
theorem ik{a:Nat}(h:a<=b):(256:Int) ^ a<=256 ^ b:=by
 have:(256:Nat) ^ a<=256 ^ b:=Nat.pow_le_pow_right (by decide) h
 have e1:((256 ^ a:Nat):Int)=(256:Int) ^ a:=by rw[Int.natCast_pow];rfl
 have e2:((256 ^ b:Nat):Int)=(256:Int) ^ b:=by rw[Int.natCast_pow];rfl
 omega
theorem om{a b:List Int}{n:Int}(c:IsB a n)(hb:IsB b n):a=b:=by
 apply np c.1 hb.1
 ·have key:∀ {a b:List Int},IsB a n->IsB b n->¬ a.length < b.length:=by
   intro a b c hb d;have g:=(bR c.1).2;have f:=vS hb.1 (fun e=>by subst e;simp at d) (hb.2.1 (fun e=>by subst e;simp at d));rw[c.2.2] at g;rw[hb.2.2] at f;have:=ik (show a.length<=b.length - 1 by omega);omega
  have g:=key c hb;have f:=key hb c;omega
 ·rw[c.2.2,hb.2.2]
end
end
section
open Go.RowKit Lim
section
variable {l:List Int}{i:Nat}
theorem bpow(k:Nat):(18446744073709551616:Int) ^ k=((2 ^ (64 * k):Nat):Int):=by
 rw[Nat.pow_mul,Int.natCast_pow];rfl
theorem Ad(wl:Words l)(hn:aI l≠0):bitLen (val l).toNat=64 * (aI l - 1)+bitLen (nth l (aI l - 1)).toNat:=by
 have e:=aO wl;have hs:=bM (norm l) (aI l - 1) (by rw[aL];omega)
 have hd:(norm l).drop (aI l - 1)=[nth l (aI l - 1)]:=by
  apply ml
  ·simp[aL];omega
  ·intro i hi;simp[aL] at hi;have:i=0:=by omega
   subst this;rw[dN,gy,cU];rfl
 rw[hd,eN,dj] at hs;have b:=dL (wl.norm.take (aI l - 1));have f:=aO (wl.norm.take (aI l - 1));rw[List.length_take,aL,Nat.min_eq_left (by omega)] at b;have d:=wl.nth (aI l - 1);have g:=iP hn;generalize nth l (aI l - 1)=x at *;generalize val ((norm l).take (aI l - 1))=y at *;generalize aI l - 1=k at *;rw[bpow] at hs b;obtain⟨x,rfl⟩:=Int.eq_ofNat_of_zero_le d.1;obtain⟨y,rfl⟩:=Int.eq_ofNat_of_zero_le f;obtain⟨v,hv⟩:=Int.eq_ofNat_of_zero_le e;rw[hv] at hs ⊢
 have c:v / 2 ^ (64 * k)=x:=by
  have a:v=y+2 ^ (64 * k) * x:=by
   have:(v:Int)=((y+2 ^ (64 * k) * x:Nat):Int):=by rw[hs,Int.natCast_add,Int.natCast_mul]
   exact Int.ofNat.inj this
  rw[a,Nat.add_mul_div_left _ _ (Nat.two_pow_pos _),Nat.div_eq_of_lt (by omega),Nat.zero_add]
 rw[Int.toNat_natCast,Int.toNat_natCast,bitLen_shift v (64 * k) (by rw[c];omega),c]
theorem sF(ao:Option Addr)(n c b o:Nat)(l:List Int)(w:World)(t:l.length=n)(hc:n<=c)(j:n<=1099511627776)(wl:Words l)(g:At w ao b o l) :
  Calls Tryz.prog 54 #[.slice ao n c] w fun e w'=>e=.returned (.int .i64 (bitLen (val l).toNat))/\Below w.heap.size w w':=by
 have hn:=bH l;have t1:=bF ao n c l w t hc (by omega) g.cells;by_cases f:aI l=0
 ·rw[f] at t1
  have hv:(val l).toNat=0:=by rw[(cy wl).1 f];rfl
  rw[hv,show bitLen 0=0 from rfl];go_enter Tryz.func54,Tryz.ntmps54;go_wp2_with fail;refine t1.mono ?_
  rintro e q ⟨rfl,rfl⟩;go_wp2_with fail;go_ret;exact⟨rfl,Below.refl _ _⟩
 ·have m:=Ad wl f;have hx:=wl.nth (aI l - 1);have d:=g.cell (aI l - 1) (by omega);have i:=iE (n:=(nth l (aI l - 1)).toNat) (by omega);have t2:=fun r=>EV (nth l (aI l - 1)) r hx.1 hx.2
  rcases g.loc with e | rfl
  ·subst e;simp[aI] at f
  rw[m];generalize nth l (aI l - 1)=x at *;generalize bitLen x.toNat=L at *;clear m g;obtain⟨k,p⟩:∃ k,aI l=k+1:=⟨aI l - 1,by omega⟩
  rw[p] at t1 d hn ⊢;rw[Nat.add_sub_cancel] at d ⊢;clear p f
  have s:(k:Int) < (k:Int)+1:=by omega
  go_enter Tryz.func54,Tryz.ntmps54;go_wp2_with fail;refine t1.mono ?_
  rintro e q ⟨rfl,rfl⟩;clear t1;go_wp2_with fail;refine(t2 _).mono ?_
  rintro e u ⟨rfl,rfl⟩;go_wp2;go_ret;exact⟨kZ (by omega),Below.refl _ _⟩
theorem Ce:IsN [] 0:=⟨Words.nil,rfl,rfl⟩
structure yW(lb:List Int)(m k:Nat)(lz:List Int):Prop where
 len:lz.length=m
 words:Words lz
 val:Lim.val lz=bT (lb.drop (lb.length - k))
theorem oW(h:i < l.length):bT (l.drop i)=nth l i * 256 ^ (l.length - 1 - i)+bT (l.drop (i+1)):=by
 rw[List.drop_eq_getElem_cons h,bT,b8 h,List.length_drop,show l.length - (i+1)=l.length - 1 - i from by omega]
theorem bE.drop(h:bE l)(k:Nat):bE (l.drop k):=fun x hx=>h x (List.mem_of_mem_drop hx)
theorem Ec(h:i < l.length)(x:Int):val (l.set i x)=val l+18446744073709551616 ^ i * (x - nth l i):=by
 have e1:=bM (l.set i x) i (by simp;omega);have e2:=bM l i (by omega);rw[List.take_set_of_le (Nat.le_refl _),List.drop_set,if_neg (by omega),Nat.sub_self] at e1;rw[List.drop_eq_getElem_cons h,List.set_cons_zero,val] at e1;rw[List.drop_eq_getElem_cons h,val] at e2;rw[e1,e2,b8 h];grind
theorem Dz(wl:Words l)(h:i < l.length){P:Int}(f:val l < 18446744073709551616 ^ i * P):nth l i < P:=by
 have e2:=bM l i (by omega);rw[List.drop_eq_getElem_cons h,val] at e2;have e:=aO (wl.take i);have c:=aO (wl.drop (i+1));have a:=pow_pos i
 have d:0<=18446744073709551616 ^ i * (18446744073709551616 * val (l.drop (i+1))):=Int.mul_nonneg (Int.le_of_lt a) (by omega);rw[Int.mul_add] at e2
 have b:18446744073709551616 ^ i * nth l i < 18446744073709551616 ^ i * P:=by rw[b8 h];omega
 exact Int.lt_of_mul_lt_mul_left b (Int.le_of_lt a)
theorem kV(k:Nat):(256:Int) ^ k=18446744073709551616 ^ (k / 8) * 2 ^ (8 * (k % 8)):=by
 have e:(18446744073709551616:Int)=256 ^ 8:=by decide
 have e2:(2:Int) ^ (8 * (k % 8))=256 ^ (k % 8):=by rw[Int.pow_mul];rfl
 rw[e,e2,<- Int.pow_mul,<- Int.pow_add];congr 1;omega
theorem CH{lb lz:List Int}{m k:Nat}(hb:bE lb)(hm:(lb.length+7) / 8=m)(h:yW lb m k lz)(n:k < lb.length) :
  bits .or .u64 (nth lz (k / 8)) (IntKind.u64.wrap (nth lb (lb.length - 1 - k) * 2 ^ (8 * (k % 8))))=nth lz (k / 8)+nth lb (lb.length - 1 - k) * 2 ^ (8 * (k % 8)) /\
  yW lb m (k+1) (lz.set (k / 8) (nth lz (k / 8)+nth lb (lb.length - 1 - k) * 2 ^ (8 * (k % 8)))):=by
 have f:=h.len;have hx:=hb.nth (lb.length - 1 - k);have c:=bR (hb.drop (lb.length - k));rw[List.length_drop,show lb.length - (lb.length - k)=k from by omega] at c;have hv:=h.val;have b:=h.words.nth (k / 8);have d:=Dz h.words (i:=k / 8) (by omega) (P:=2 ^ (8 * (k % 8))) (by rw[<- kV,hv];exact c.2)
 have hS:(0:Int) < 2 ^ (8 * (k % 8)):=Int.pow_pos (by decide)
 have j:(2:Int) ^ (8 * (k % 8)) * 256<=18446744073709551616:=by
  have:(2:Nat) ^ (8 * (k % 8))<=2 ^ 56:=Nat.pow_le_pow_right (by decide) (by omega)
  have e:((2 ^ (8 * (k % 8)):Nat):Int)=(2:Int) ^ (8 * (k % 8)):=by rw[Int.natCast_pow];rfl
  have e2:(2:Nat) ^ 56=72057594037927936:=by decide
  omega
 have a:0<=nth lb (lb.length - 1 - k) * 2 ^ (8 * (k % 8)):=Int.mul_nonneg hx.1 (Int.le_of_lt hS)
 have g:nth lb (lb.length - 1 - k) * 2 ^ (8 * (k % 8))<=255 * 2 ^ (8 * (k % 8)):=Int.mul_le_mul_of_nonneg_right (by omega) (Int.le_of_lt hS);constructor
 ·rw[IntKind.wrap_u64,Int.emod_eq_of_lt a (by omega)];rw[u64_or _ _ b.1 b.2 a (by omega),Nat.or_comm,<- u64_or _ _ a (by omega) b.1 b.2];rw[qx _ _ (8 * (k % 8)) _ rfl hx.1 (by omega) b.1 d b.2,Int.add_comm]
 ·refine⟨by simp[f],h.words.set _ (by omega) (by omega),?_⟩;rw[Ec (by omega),hv,show lb.length - (k+1)=lb.length - 1 - k from by omega,oW (l:=lb) (i:=lb.length - 1 - k) (by omega),show lb.length - 1 - k+1=lb.length - k from by omega,show lb.length - 1 - (lb.length - 1 - k)=k from by omega,kV k];grind
theorem Eu(ao:Option Addr)(n c b o:Nat)(lb:List Int)(w:World)(f:lb.length=n)(hn:0 < n)(d:AtB w ao b o lb)(g:nth lb 0=0) :
  Calls Tryz.prog 251 #[.slice ao n c] w fun e w'=>e=.returned (.tuple #[.slice none 0 0,.int .i64 13])/\w'=w:=by
 rcases d.loc with e | rfl
 ·subst e;simp at f;omega
 have hc:=d.cell 0 (by omega);rw[g,Nat.add_zero] at hc;go_enter Tryz.func251,Tryz.ntmps251;go_wp2;go_ret2;exact⟨rfl,rfl⟩
theorem Ai(ao:Option Addr)(n c b o:Nat)(lb:List Int)(w:World)(F:lb.length=n)(R:n<=1099511627776)(y:bE lb)(B:AtB w ao b o lb)(H:0 < n->nth lb 0≠0) :
  Calls Tryz.prog 251 #[.slice ao n c] w fun e w'=>∃ v r,e=.returned (.tuple #[v,.int .i64 0])/\dM w w' v r/\IsN r (bT lb)/\r.length<=n/\Below w.heap.size w w':=by
 obtain⟨m,hm⟩:∃ m:Nat,((n:Int)+7) / 8=m:=⟨(n+7) / 8,by omega⟩
 have hm2:m<=n:=by omega
 have A:lb=[]\/b≠w.heap.size:=by
  rcases B.lt with e | e
  ·exact .inl e
  ·exact .inr (by omega)
 by_cases hn:0 < n
 ·rcases B.loc with e | rfl
  ·subst e;simp at F;omega
  have hc:=B.cell 0 (by omega);rw[Nat.add_zero] at hc
  have u:(nth lb 0 == 0)=false:=beq_eq_false_iff_ne.2 (H hn)
  have t:nth lb 0≠0:=H hn;have HF:=(show Hid _ from t)
  clear t H;go_enter Tryz.func251,Tryz.ntmps251;go_wp2_with (at_make;refine di rfl _ _ rfl m _ _ rfl rfl (by omega) (by omega) (by omega) ?_;intro Q d f L);have p:=B.keep f;clear hc u;go_loopw [22] (fun M wr=>∃ (k:Nat) (l:List Int),k<=n/\M=.int .i64 k/\yW lb m k l/\At wr (some ⟨w.heap.size,0,none⟩) w.heap.size 0 l/\Wr w.heap.size 0 m Q wr) (fun M _=>n - (intOf M).toNat)
  case atStart=>exact⟨0,_,Nat.zero_le _,rfl,⟨by simp,eM _,by rw[Nat.sub_zero,List.drop_length,fE fun i=>by simp[nth,List.getElem?_replicate];split<;>rfl];rfl⟩,d.at,Wr.refl _ _ _ _⟩
  case round =>
   obtain⟨k,l,hk,rfl,hinv,q,g⟩:=hrel;have hlen:=hinv.len;by_cases W:k < n
   ·obtain⟨i,hi⟩:∃ i:Nat,(k:Int) / 8=i:=⟨k / 8,by omega⟩
    obtain⟨j,hj⟩:∃ j:Nat,(k:Int) % 8=j:=⟨k % 8,by omega⟩
    obtain⟨h,hh⟩:∃ h:Nat,(n:Int) - 1 - k=h:=⟨n - 1 - k,by omega⟩
    have T:(i:Int) < m:=by omega
    have hh1:(h:Int) < n:=by omega
    have V:j < 8:=by omega
    have u:=q.cell i (by omega);have U:=(p.wr g A).cell h (by omega);have O:=g.free (d.free 0 m) i (by omega);rw[Nat.zero_add] at u O;have E:=CH y (m:=m) (by omega) hinv (by omega);rw[show k / 8=i from by omega,show k % 8=j from by omega,show lb.length - 1 - k=h from by omega] at E;obtain⟨D,s⟩:=E;have HS:=(show Hid _ from s)
    have HA:=(show Hid _ from q)
    have HW:=(show Hid _ from g)
    have Z:=y.nth h;clear s q g hinv d p y;generalize nth l i=z at *;generalize nth lb h=x at *;go_wp2_with fail;go_region;go_wp2;rw[Nat.mul_comm j 8,D];refine⟨⟨k+1,_,by omega,by go_num,HS.out,?_,?_⟩,by simp[intOf];omega⟩
    ·have:=(HA.out.setCell (i:=i) (by omega) (z+x * 2 ^ (8 * j))).drew;rwa [Nat.zero_add] at this
    ·exact(HW.out.setCell (by omega) (by omega) _).drew
   ·have P:k=n:=by omega
    subst P;have hv:=hinv.val;rw[<- F,Nat.sub_self,List.drop_zero] at hv;have N:=g.free (d.free 0 m);have Y:=f.trans (g.below (Nat.le_refl _));have I:=bR y;have K:=vS y (fun e=>by subst e;simp at F;omega) HF.out
    have C:aI l=l.length:=by
     have h1:=bH l;by_cases c:aI l < l.length
     ·have X:=il hinv.words;have h3:=iI (show aI l<=m - 1 by omega)
      have h4:(18446744073709551616:Int) ^ (m - 1)<=256 ^ (lb.length - 1):=by
       rw[show (18446744073709551616:Int)=256 ^ 8 from by decide,<- Int.pow_mul];exact ik (by omega)
      rw[hv] at X;omega
     ·omega
    have S:IsN l (bT lb):=⟨hinv.words,C,hv⟩
    clear hinv d g f p hv I K C;go_wp2;go_ret2;exact⟨_,l,rfl,dM.of hlen.symm (Nat.le_refl _) (Nat.le_refl _) q N,S,by omega,Y⟩
 ·have G:n=0:=by omega
  subst G
  have e0:lb=[]:=List.eq_nil_of_length_eq_zero F;subst e0
  have J:m=0:=by omega
  subst J;clear hm B A;go_enter Tryz.func251,Tryz.ntmps251;go_wp2_with (at_make;refine di rfl _ _ rfl 0 _ _ rfl rfl (by omega) (by omega) (by omega) ?_;intro Q d f L);refine wp_loop_rounds 1 ?_
  rw[rounds_succ];go_wp2;go_ret2;exact⟨_,[],rfl,dM.of rfl (Nat.le_refl _) (Nat.le_refl _) d.at (d.free _ _),Ce,by simp,f⟩
end
end
section
open Go.RowKit Lim
theorem yY {a b:Nat} (h:a<=b):(10:Int) ^ a<=10 ^ b:=by
 have:(10:Nat) ^ a<=10 ^ b:=Nat.pow_le_pow_right (by decide) h
 have e1:((10 ^ a:Nat):Int)=(10:Int) ^ a:=by rw[Int.natCast_pow];rfl
 have e2:((10 ^ b:Nat):Int)=(10:Int) ^ b:=by rw[Int.natCast_pow];rfl
 omega
end
section
open Go.RowKit Lim
end
section
open Go.RowKit Lim
section
variable {w w':World}{ao ao':Option Addr}{n c n' c' g:Nat}{x y:Int}{v:Value}{r l:List Int}{fn:Func}{p:Tmp}{tmps:Array Value}
structure aY(w:World)(ao:Option Addr)(n c:Nat)(x:Int):Prop where
 ex:∃ b o l,l.length=n/\n<=c/\Words l/\At w ao b o l/\val l=x
structure dX(w:World)(ao:Option Addr)(n c:Nat)(x:Int):Prop where
 ex:∃ b o l,l.length=n/\n<=c/\IsN l x/\At w ao b o l
theorem dX.a(h:dX w ao n c x):aY w ao n c x:=by
 obtain⟨b,o,l,h1,h2,h3,h4⟩:=h.ex;exact⟨b,o,l,h1,h2,h3.1,h4,h3.2.2⟩
theorem aY.keep(h:aY w ao n c x)(hb:Below w.heap.size w w'):aY w' ao n c x:=by
 obtain⟨b,o,l,h1,h2,h3,h4,h5⟩:=h.ex;exact⟨b,o,l,h1,h2,h3,h4.keep hb,h5⟩
theorem dX.keep(h:dX w ao n c x)(hb:Below w.heap.size w w'):dX w' ao n c x:=by
 obtain⟨b,o,l,h1,h2,h3,h4⟩:=h.ex;exact⟨b,o,l,h1,h2,h3,h4.keep hb⟩
theorem aY.uL(h:aY w ao n c x):0<=x:=by
 obtain⟨b,o,l,h1,h2,h3,h4,h5⟩:=h.ex;rw[<- h5];exact aO h3
theorem dX.eqv(h:dX w ao n c x)(e:x=y):dX w ao n c y:=e▸h
theorem zi(w:World):dX w none 0 0 0:=⟨0,0,[],rfl,Nat.le_refl _,ky,.inl rfl,fun i hi=>by simp at hi⟩
theorem dM.o(h:dM w w' v r)(hI:IsN r x):∃ a c,v=.slice a r.length c/\dX w' a r.length c x:=by
 obtain⟨ao,b,o,c,e,h1,h2,h3,h4⟩:=h.is;exact⟨ao,c,e,b,o,r,rfl,h1,hI,h3⟩
def aA:=@Pg.aA
theorem nMul(h:aY w ao n c x)(q:aY w ao' n' c' y)(hn:n<=1099511627776)(f:n'<=1099511627776) :
  Calls Tryz.prog 60 #[.slice ao n c,.slice ao' n' c'] w fun e w'=>∃ a k d,e=.returned (.slice a k d)/\dX w' a k d (x * y)/\k<=n+n'/\Below w.heap.size w w':=by
 obtain⟨b,o,l,z,C,u,F,rfl⟩:=h.ex;obtain⟨D,A,t,p,i,j,m,rfl⟩:=q.ex;refine(pZ ao n c b o ao' n' c' D A l t w z p C i hn f u j F m).mono ?_
 rintro e w' ⟨v,r,rfl,g,E,hlen,s⟩;obtain⟨a,d,rfl,B⟩:=g.o E;exact⟨a,_,d,rfl,B,hlen,s⟩
theorem nDiv(h:aY w ao n c x)(C:aY w ao' n' c' y)(hn:n<=1099511627776)(f:n'<=1099511627776)(B:y≠0) :
  Calls Tryz.prog 58 #[.slice ao n c,.slice ao' n' c'] w fun e w'=>∃ a k d a' k' d',e=.returned (.tuple #[.slice a k d,.slice a' k' d',.int .i64 0])/\dX w' a k d (x / y)/\dX w' a' k' d' (x % y)/\k<=n/\k'<=n+n'/\Below w.heap.size w w':=by
 obtain⟨b,o,l,G,J,F,N,rfl⟩:=h.ex;obtain⟨L,H,E,A,m,q,t,rfl⟩:=C.ex;refine(qR ao n c b o ao' n' c' L H l E w G A J m hn f F q N t B).mono ?_
 rintro e w' ⟨v,u,r,s,rfl,i,p,M,K,j,g,D⟩;obtain⟨a,d,rfl,I⟩:=i.o M;obtain⟨a',d',rfl,z⟩:=p.o K;exact⟨a,_,d,a',_,d',rfl,I,z,j,g,D⟩
theorem sk(g:aY w ao' n' c' y)(c:n'<=1099511627776)(i:y=0) :
  Calls Tryz.prog 58 #[v,.slice ao' n' c'] w fun e w'=>e=.returned (.tuple #[.slice none 0 0,.slice none 0 0,.int .i64 11])/\w'=w:=by
 obtain⟨k,h,j,d,f,a,b,rfl⟩:=g.ex;exact div_zero v ao' n' c' k h j w d f c a b i
theorem sE{ad:Option Addr}{b g:Nat}{z:Int}(h:aY w ao n c x)(i:aY w ao' n' c' y)(hd:aY w ad b g z)(hn:n<=274877906944)(l:n'<=274877906944)(j:b<=274877906944)(m:z=0) :
  Calls Tryz.prog 106 #[.slice ao n c,.slice ao' n' c',.slice ad b g] w fun e w'=>e=.returned (.tuple #[.slice none 0 0,.slice none 0 0,.int .i64 11])/\Below w.heap.size w w':=by
 go_enter Tryz.func106,Tryz.ntmps106;go_wp2_with fail;refine(nMul h i (by omega) (by omega)).mono ?_
 rintro e o ⟨a,k,d,rfl,r,p,f⟩;go_wp2_with fail;refine(sk (hd.keep f) (by omega) m).mono ?_
 rintro e q ⟨rfl,rfl⟩;go_wp2;go_ret3;exact⟨rfl,f⟩
theorem nBits(h:aY w ao n c x)(hn:n<=1099511627776) :
  Calls Tryz.prog 54 #[.slice ao n c] w fun e w'=>e=.returned (.int .i64 (bitLen x.toNat))/\Below w.heap.size w w':=by
 obtain⟨b,o,l,f,a,d,g,rfl⟩:=h.ex;exact sF ao n c b o l w f a hn d g
theorem nPow(n:Nat)(hn:n<=4096) :
  Calls Tryz.prog 141 #[.int .i64 n] w fun e w'=>∃ a k d,e=.returned (.tuple #[.slice a k d,.int .i64 0])/\dX w' a k d (10 ^ n)/\k<=n+2/\Below w.heap.size w w':=by
 refine(xq n w hn).mono ?_
 rintro e w' ⟨v,r,rfl,b,g,hlen,c⟩;obtain⟨a,d,rfl,f⟩:=b.o g;exact⟨a,_,d,rfl,f,hlen,c⟩
theorem tf(x:Int)(hx:0<=x):(bitLen x.toNat=0)<->x=0:=by
 constructor
 ·intro h;by_cases e:x.toNat=0
  ·omega
  ·have:=mE e;omega
 ·intro h;subst h;rfl
structure Slot(w:World)(g:Nat)(v:Value)(t:TypeId):Prop where
 blk:w.heap[g]?=some (.cells #[v] t (0,0))
theorem Slot.cell{t:TypeId}(h:Slot w g v t):w.cell? ⟨g,0,none⟩=some v:=cell_of_one h.blk
theorem Slot.free{t:TypeId}(h:Slot w g v t):w.frozen? ⟨g,0,none⟩=false:=free_of_one h.blk
theorem Slot.lt{t:TypeId}(h:Slot w g v t):g < w.heap.size:=lt_of_block h.blk
theorem Slot.keep{t:TypeId}(h:Slot w g v t)(hb:Below w.heap.size w w'):Slot w' g v t:=⟨by rw[hb.block g h.lt];exact h.blk⟩
theorem Slot.put{t:TypeId}(h:Slot w g v t)(u:Value):Slot (w.setCell ⟨g,0,none⟩ u) g u t:=⟨one_setCell h.blk⟩
theorem fg(w:World)(v:Value)(t:TypeId):Slot (w.alloc (.cells #[v] t)) w.heap.size v t:=⟨by
 show (w.heap.push _)[w.heap.size]?=_
 rw[Array.getElem?_push_size]⟩
theorem Slot.alloc{t:TypeId}(h:Slot w g v t)(o:Obj):Slot (w.alloc o) g v t:=h.keep (ae w o)
theorem mI(w:World)(o:Obj)(v:Value)(t:TypeId):Slot ((w.alloc o).alloc (.cells #[v] t)) (w.heap.size+1) v t:=by
 have:=fg (w.alloc o) v t;rwa [show (w.alloc o).heap.size=w.heap.size+1 by simp] at this
theorem qg(w:World)(o o':Obj):Below w.heap.size w ((w.alloc o).alloc o'):=aA (ae w o) (ae _ o')
theorem At.put{b o:Nat}(k:At w ao b o l){t:TypeId}(s:Slot w g v t)(hv:∀ x,v≠.int .u64 x)(u:Value):At (w.setCell ⟨g,0,none⟩ u) ao b o l :=
 ⟨k.loc,fun i hi=>by
  have hc:=k.cell i hi;by_cases e:b=g
  ·subst e
   have a:o + i=0->False:=fun c=>by
    rw[c,s.cell] at hc;exact hv _ (Option.some.inj hc)
   have hs:=s.blk;simp only[World.cell?,hs] at hc;have:o+i < 1:=by
    have:=(Array.getElem?_eq_some_iff.1 hc).1;simpa using this
   exact(a (by omega)).elim
  ·rw[World.cell?_of_block (w:=w) (Below.heap_setCell w _ u b e)];exact hc⟩
theorem dX.put(h:dX w ao n c x){t:TypeId}(s:Slot w g v t)(hv:∀ x,v≠.int .u64 x)(u:Value):dX (w.setCell ⟨g,0,none⟩ u) ao n c x:=by
 obtain⟨b,o,l,h1,h2,h3,h4⟩:=h.ex;exact⟨b,o,l,h1,h2,h3,h4.put s hv u⟩
theorem qZ:∀ x,Value.slice ao n c≠.int .u64 x:=fun _ h=>by cases h
theorem sY{W w1:World}(b:Below w.heap.size w W)(h:Below W.heap.size W w1)(hg:w.heap.size<=g)(u:Value):Below w.heap.size w (w1.setCell ⟨g,0,none⟩ u):=(aA b h).setCell hg u
theorem Slot.drew{t:TypeId}(h:Slot w g v t):Slot w.drew g v t:=⟨h.blk⟩
theorem aY.drew(h:aY w ao n c x):aY w.drew ao n c x:=by
 obtain⟨b,o,l,h1,h2,h3,h4,h5⟩:=h.ex;exact⟨b,o,l,h1,h2,h3,h4.drew,h5⟩
theorem Bg:(Tryz.prog.info? 32).map (·.size)=some 1:=by kernel_rfl
theorem xo:∃ f,Tryz.prog.underlying 32=some (.struct f):=by
  cases h:Tryz.prog.underlying 32 with
  | none => exact absurd h (by have : (Tryz.prog.underlying 32).isSome = true := by kernel_rfl
                               intro e;rw[e] at this;simp at this)
  | some d =>
    have:(match Tryz.prog.underlying 32 with | some (.struct _)=>true | _=>false)=true:=by kernel_rfl
    rw[h] at this
    cases d <;> first | exact⟨_,rfl⟩ | simp at this
theorem r7{t:TypeId}(s:Slot w g v t):(loadVar 32 ⟨g,0,none⟩).run Tryz.prog w=.ok (.agg #[v]) w:=by
 obtain⟨f,hu⟩:=xo;exact run_loadVar_row w g t 32 #[v] (0,0) _ s.blk hu rfl Bg
theorem mr(h:fn.results=#[.cell p 32]){t:TypeId}(b:tmps.getD p undef=.pointer (some ⟨g,0,none⟩))(s:Slot w g v t) :
  (results fn tmps).run Tryz.prog w=.ok (.agg #[v]) w:=by
 have a:tmps[p]?.getD undef=.pointer (some ⟨g,0,none⟩):=by simpa using b
 simp[results,h,a,asAddr,r7 s]
theorem rr{u:Tmp}(h:fn.results=#[.tmp u,.cell p 32]){x:Value}{t:TypeId}(c:tmps.getD p undef=.pointer (some ⟨g,0,none⟩))(hu:tmps.getD u undef=x)(s:Slot w g v t) :
  (results fn tmps).run Tryz.prog w=.ok (.tuple #[x,.agg #[v]]) w:=by
 have a:tmps[p]?.getD undef=.pointer (some ⟨g,0,none⟩):=by simpa using c
 have b:tmps[u]?.getD undef=x:=by simpa using hu
 simp[results,h,a,b,asAddr,r7 s]
end
end
end Go.Proofs.YtjejmkcjflhoiaaGreatDoor
