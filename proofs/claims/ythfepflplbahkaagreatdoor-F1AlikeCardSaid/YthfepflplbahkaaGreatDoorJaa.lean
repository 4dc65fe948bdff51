import Derived.Test.YthfepflplbahkaaGreatDoorChecked
import Derived.WalkKit
import Derived.WalkSpells
import Derived.WalkLawsBesides
import Derived.Laws.Externs
import Derived.Laws.MathBits
import Derived.Laws.CopyOwn
import Derived.Deep.QuietTactic
import Derived.BigQuiet
import Derived.Deep.RegionWith
import Derived.ScopeJumps
import Derived.WalkSmall
import Derived.OneCell
set_option maxRecDepth 100000
set_option maxHeartbeats 8000000
namespace Go.Proofs.YthfepflplbahkaaGreatDoor
section
namespace Lim
section
variable {l a b:List Int}{i k:Nat}{x:Int}
def nth(l:List Int)(i:Nat):Int:=l.getD i 0
def val:List Int->Int
 | []=>0
 | x :: l=>x+18446744073709551616 * val l
def Words(l:List Int):Prop:=∀ x∈l,0<=x/\x < 18446744073709551616
def aE:List Int->Nat
 | []=>0
 | x :: l=>if aE l=0 then (if x=0 then 0 else 1) else aE l+1
def norm(l:List Int):List Int:=l.take (aE l)
def IsN(l:List Int)(n:Int):Prop:=Words l/\aE l=l.length/\val l=n
theorem BM(i:Nat):nth [] i=0:=by simp[nth]
theorem cJ(x:Int)(l:List Int):nth (x :: l) 0=x:=by simp[nth]
theorem dG(x:Int)(l:List Int)(i:Nat):nth (x :: l) (i+1)=nth l i:=by simp[nth]
theorem fS(h:l.length<=i):nth l i=0:=by
 simp[nth,List.getElem?_eq_none h]
theorem bV(h:i < l.length):nth l i=l[i]:=by
 simp[nth,List.getElem?_eq_getElem h]
theorem lK(h:i < l.length):nth l i∈l:=by
 rw[bV h];exact List.getElem_mem h
theorem Words.nth(h:Words l)(i:Nat):0<=nth l i/\nth l i < 18446744073709551616:=by
 by_cases hi:i < l.length
 ·exact h _ (lK hi)
 ·rw[fS (by omega)];decide
theorem Words.nil:Words []:=fun _ h=>by simp at h
theorem Words.cons(h0:0<=x)(h1:x < 18446744073709551616)(h:Words l):Words (x :: l):=by
 intro y hy;rcases List.mem_cons.1 hy with e | e
 ·subst e;exact⟨h0,h1⟩
 ·exact h y e
theorem Words.tail(h:Words (x :: l)):Words l:=fun y hy=>h y (List.mem_cons_of_mem _ hy)
theorem Words.head(h:Words (x :: l)):0<=x/\x < 18446744073709551616:=h x (List.mem_cons_self)
theorem Words.take(h:Words l)(k:Nat):Words (l.take k):=fun x hx=>h x (List.mem_of_mem_take hx)
theorem Words.drop(h:Words l)(k:Nat):Words (l.drop k):=fun x hx=>h x (List.mem_of_mem_drop hx)
theorem Words.append(ha:Words a)(hb:Words b):Words (a ++ b):=by
 intro x hx;rcases List.mem_append.1 hx with e | e
 ·exact ha x e
 ·exact hb x e
theorem dt(h:i < k):nth (l.take k) i=nth l i:=by
 simp[nth,h]
theorem dH(l:List Int)(k i:Nat):nth (l.drop k) i=nth l (k+i):=by
 simp[nth,List.getElem?_drop]
theorem cV(h:i < a.length):nth (a ++ b) i=nth a i:=by
 simp[nth,List.getElem?_append_left h]
theorem bJ(h:a.length<=i):nth (a ++ b) i=nth b (i - a.length):=by
 simp[nth,List.getElem?_append_right h]
theorem lG(hl:a.length=b.length)(h:∀ i,i < a.length->nth a i=nth b i):a=b:=by
 apply List.ext_getElem hl;intro i h1 h2;have:=h i h1;rwa [bV h1,bV h2] at this
theorem dD(a:k < l.length):nth (l.set k x) i=if i=k then x else nth l i:=by
 simp only[nth,List.getD_eq_getElem?_getD,List.getElem?_set];by_cases h:k=i
 ·subst h;simp[a]
 ·simp[h,show ¬ i=k from fun e=>h e.symm]
theorem Words.set(h:Words l)(k:Nat)(h0:0<=x)(h1:x < 18446744073709551616):Words (l.set k x):=by
 intro y hy;rcases List.mem_or_eq_of_mem_set hy with e | e
 ·exact h y e
 ·subst e;exact⟨h0,h1⟩
theorem dV(h:k < l.length):l.take (k+1)=l.take k ++ [nth l k]:=by
 rw[bV h,List.take_succ_eq_append_getElem h]
theorem aL(h:Words l):0<=val l:=by
 induction l with
 | nil=>simp[val]
 | cons x l ih=>have:=h.head;have:=ih h.tail;simp only[val];omega
theorem ea(a b:List Int):val (a ++ b)=val a+18446744073709551616 ^ a.length * val b:=by
 induction a with
 | nil=>simp[val]
 | cons x a ih=>simp only[List.cons_append,val,ih,List.length_cons,Int.pow_succ];grind
theorem dy(h:Words l):val l < 18446744073709551616 ^ l.length:=by
 induction l with
 | nil=>simp[val]
 | cons x l ih =>
  have:=h.head;have:=ih h.tail;simp only[val,List.length_cons,Int.pow_succ];omega
theorem ez(x:Int):val [x]=x:=by simp[val]
theorem dw(h:k < l.length):val (l.take (k+1))=val (l.take k)+18446744073709551616 ^ k * nth l k:=by
 rw[dV h,ea,ez,List.length_take,Nat.min_eq_left (by omega)]
theorem bF(l:List Int)(k:Nat)(h:k<=l.length):val l=val (l.take k)+18446744073709551616 ^ k * val (l.drop k):=by
 conv=>lhs;rw[<- List.take_append_drop k l]
 rw[ea,List.length_take,Nat.min_eq_left h]
theorem bC(l:List Int):aE l<=l.length:=by
 induction l with
 | nil=>simp[aE]
 | cons x l ih=>simp only[aE,List.length_cons];split<;>(try split)<;>omega
theorem fQ:aE l=0<->∀ i,nth l i=0:=by
 induction l with
 | nil=>simp[aE,nth]
 | cons x l ih =>
  simp only[aE];constructor
  ·intro h i;by_cases e:aE l=0
   ·by_cases a:x=0
    ·cases i with
     | zero=>rw[cJ,a]
     | succ i=>rw[dG];exact ih.1 e i
    ·simp[e,a] at h
   ·simp[e] at h
  ·intro h
   have c:x=0:=by have:=h 0;rwa [cJ] at this
   have b:aE l=0:=ih.2 fun i=>by have:=h (i+1);rwa [dG] at this
   simp[b,c]
theorem jR(d:k<=l.length)(c:∀ i,k<=i->nth l i=0)(b:k≠0->nth l (k - 1)≠0):aE l=k:=by
 induction l generalizing k with
 | nil=>simp[aE] at *;omega
 | cons x l ih =>
  cases k with
  | zero =>
   have:aE (x :: l)=0:=fQ.2 fun i=>c i (Nat.zero_le _)
   exact this
  | succ k =>
   have e:aE l=k:=ih (by simpa using d) (fun i hi=>by have:=c (i + 1) (by omega); rwa [dG] at this) (fun a=>by
    have:=b (by omega);rw[show k+1 - 1=(k - 1)+1 from by omega,dG] at this;exact this)
   simp only[aE,e];by_cases a:k=0
   ·subst a;have:=b (by omega);rw[show (0+1 - 1)=0 from rfl,cJ] at this;simp[this]
   ·simp[a]
theorem fH(h:aE l≤i):nth l i=0:=by
  induction l generalizing i with
  | nil=>simp[nth]
  | cons x l ih =>
    simp only[aE] at h;by_cases e:aE l=0
    · simp only[e,if_true] at h
      cases i with
      | zero => by_cases a : x = 0
                · rw[cJ,a]
                · simp[a] at h
      | succ i=>rw[dG];exact fQ.1 e i
    · simp only[e,if_false] at h
      cases i with
      | zero=>omega
      | succ i=>rw[dG];exact ih (by omega)
theorem iE(h:aE l≠0):nth l (aE l - 1)≠0:=by
 induction l with
 | nil=>simp[aE] at h
 | cons x l ih =>
  simp only[aE] at h ⊢;by_cases e:aE l=0
  ·simp only[e,if_true] at h ⊢;by_cases a:x=0
   ·simp[a] at h
   ·simp[a,cJ]
  ·simp only[e,if_false] at h ⊢;have:=ih e;rw[show aE l+1 - 1=(aE l - 1)+1 from by omega,dG];exact this
theorem aJ(l:List Int):(norm l).length=aE l:=by
 rw[norm,List.length_take,Nat.min_eq_left (bC l)]
theorem fU(l:List Int)(i:Nat):nth (norm l) i=nth l i:=by
 by_cases h:i < aE l
 ·exact dt h
 ·rw[fS (by rw[aJ];omega),fH (by omega)]
theorem Words.norm(h:Words l):Words (norm l):=h.take _
theorem oC(l:List Int):aE (norm l)=(norm l).length:=by
 rw[aJ];apply jR (by rw[aJ];omega)
 ·intro i hi;rw[fU];exact fH hi
 ·intro h;rw[fU];exact iE h
theorem fq(h:∀ i,nth l i=0):val l=0:=by
 induction l with
 | nil=>rfl
 | cons x l ih =>
  have h0:=h 0;rw[cJ] at h0;rw[val,h0,ih fun i=>by have:=h (i+1);rwa [dG] at this];rfl
theorem cZ(l:List Int):val (norm l)=val l:=by
 rw[bF l (aE l) (bC l),fq (l:=l.drop (aE l)) fun i=>by rw[dH];exact fH (by omega)];simp[norm]
theorem cA(h:Words l):IsN (norm l) (val l):=⟨h.norm,oC l,cZ l⟩
theorem p9(h:Words l)(hn:aE l≠0):0 < val l:=by
 induction l with
 | nil=>simp[aE] at hn
 | cons x l ih =>
  have hx:=h.head;have hv:=aL h.tail;simp only[val];by_cases e:aE l=0
  ·simp only[aE,e,if_true] at hn;have:x≠0:=by intro a; simp[a] at hn
   omega
  ·have:=ih h.tail e;omega
theorem cj(h:Words l):aE l=0<->val l=0:=by
 constructor
 ·intro e;exact fq (fQ.1 e)
 ·intro e;by_cases n:aE l=0
  ·exact n
  ·have:=p9 h n;omega
theorem fC(h:Words l)(hn:aE l≠0):18446744073709551616 ^ (aE l - 1)<=val l:=by
 have e:=cZ l;have a:=aJ l;have hw:=h.norm;have hs:=bF (norm l) (aE l - 1) (by omega)
 have c:(norm l).drop (aE l - 1)=[nth l (aE l - 1)]:=by
  apply lG
  ·simp[a];omega
  ·intro i hi;simp[a] at hi;have:i=0:=by omega
   subst this;rw[dH,fU,cJ];rfl
 have f:=aL (hw.take (aE l - 1));have hx:=h.nth (aE l - 1);have d:=iE hn
 have b:(0:Int) < 18446744073709551616 ^ (aE l - 1):=Int.pow_pos (by decide);rw[c,ez] at hs;have:18446744073709551616 ^ (aE l - 1) * 1<=18446744073709551616 ^ (aE l - 1) * nth l (aE l - 1):=Int.mul_le_mul_of_nonneg_left (by omega) (Int.le_of_lt b);omega
theorem gX(h:Words l):val l < 18446744073709551616 ^ aE l:=by
 have:=dy h.norm;rwa [cZ,aJ] at this
theorem gT{a b:Nat}(h:a<=b):(18446744073709551616:Int) ^ a<=18446744073709551616 ^ b:=by
 obtain⟨d,rfl⟩:=Nat.exists_eq_add_of_le h;rw[Int.pow_add]
 have c:(0:Int) < 18446744073709551616 ^ a:=Int.pow_pos (by decide)
 have e:(0:Int) < 18446744073709551616 ^ d:=Int.pow_pos (by decide);have:(18446744073709551616:Int) ^ a * 1<=18446744073709551616 ^ a * 18446744073709551616 ^ d:=Int.mul_le_mul_of_nonneg_left (by omega) (Int.le_of_lt c);omega
theorem dC(ha:Words a)(hb:Words b)(h:aE a < aE b):val a < val b:=by
 have h1:=gX ha;have h2:=fC hb (by omega);have:=gT (show aE a<=aE b - 1 by omega);omega
end
end Lim
end
section
open Go.RowKit Lim
def Cells (w:World) (ao:Option Addr) (l:List Int):Prop :=
 l=[]\/∃ b o,ao=some ⟨b,o,none⟩/\∀ i,i < l.length->w.cell? ⟨b,o+i,none⟩=some (.int .u64 (nth l i))
theorem bp (ao:Option Addr) (n c:Nat) (l:List Int) (w:World) (j:l.length=n) (hc:n<=c) (hb:n<=4398046511104) (d:Cells w ao l) :
  Calls Tryz.prog 58 #[.slice ao n c] w fun e w'=>e=.returned (.slice ao (aE l) (aE l))/\w'=w:=by
 go_enter Tryz.func58,Tryz.ntmps58;go_wp2;go_loop [3] (fun t=>∃ k:Nat,k<=n/\t=.int .i64 k/\Hid (∀ i,k<=i->nth l i=0)) (fun t=>(intOf t).toNat)
 case atStart=>exact⟨n,Nat.le_refl _,rfl,fun i hi=>fS (by omega)⟩
 case round =>
  obtain⟨k,q,rfl,f⟩:=hrel;by_cases m:0 < k
  ·rcases d with e | ⟨b,o,rfl,d⟩
   ·subst e;simp at j;omega
   ·have g:=d (k - 1) (by omega)
    have p:w.cell? ⟨b,o+k - 1,none⟩=some (.int .u64 (nth l (k - 1))):=by rw[<- g];congr 2;omega
    clear d;go_wp2
    ·go_round
     case rel=>exact⟨k - 1,by omega,by go_num,fun i hi=>by
      by_cases e:i=k - 1
      ·subst e;exact beq_iff_eq.1 (by assumption)
      ·exact f.out i (by omega)⟩
     case measure=>simp[intOf];omega
    ·go_ret;rw[jR (k:=k) (by omega) f.out (fun _=>beq_eq_false_iff_ne.1 (by assumption))];exact⟨rfl,rfl⟩
  ·go_wp2;go_ret;rw[jR (k:=k) (by omega) f.out (fun _=>by omega)];exact⟨rfl,rfl⟩
end
section
open Go.RowKit Lim
def bor (x y:Int):Int:=if x < y then 1 else 0
theorem qE (x y:Int) (hx:0<=x) (hy:0<=y) (w:World):(callFunc 90 #[.int .u64 x,.int .u64 y,.int .u64 0]).run Tryz.prog w =
  .ok (.value (.tuple #[.int .u64 ((x+y) % 18446744073709551616),.int .u64 ((x+y) / 18446744073709551616)])) w:=by
 obtain⟨x,rfl⟩:=Int.eq_ofNat_of_zero_le hx;obtain⟨y,rfl⟩:=Int.eq_ofNat_of_zero_le hy;rw[run_callFunc_extern Tryz.func90 (by kernel_rfl) (by kernel_rfl) (by kernel_rfl) (e:=add64Entry) (by kernel_rfl),run_add64 (P:=Tryz.prog) x y 0 (by omega) (by omega) (by omega) (by omega),Int.add_zero];rfl
theorem BO (x y:Int) (hx:0<=x) (w:World):(callFunc 90 #[.int .u64 x,.int .u64 (y % 18446744073709551616),.int .u64 0]).run Tryz.prog w =
  .ok (.value (.tuple #[.int .u64 ((x+y % 18446744073709551616) % 18446744073709551616),.int .u64 ((x+y % 18446744073709551616) / 18446744073709551616)])) w :=
 qE x _ hx (Int.emod_nonneg _ (by decide)) w
theorem Ef (x y:Int) (hx:0<=x) (b:x < 18446744073709551616) (hy:0<=y) (a:y < 18446744073709551616) (w:World):(callFunc 168 #[.int .u64 x,.int .u64 y,.int .u64 0]).run Tryz.prog w =
  .ok (.value (.tuple #[.int .u64 ((x - y) % 18446744073709551616),.int .u64 (bor x y)])) w:=by
 obtain⟨x,rfl⟩:=Int.eq_ofNat_of_zero_le hx;obtain⟨y,rfl⟩:=Int.eq_ofNat_of_zero_le hy
 have this:(callFunc 168 #[.int .u64 (x:Int),.int .u64 (y:Int),.int .u64 0]).run Tryz.prog w =
   .ok (.value (.tuple #[.int .u64 (((x+18446744073709551616 - y - 0) % 18446744073709551616:Nat):Int),.int .u64 ((if x < y+0 then 1 else 0:Nat):Int)])) w:=by kernel_rfl
 rw[this]
 have e1:(((x+18446744073709551616 - y - 0) % 18446744073709551616:Nat):Int)=((x:Int) - y) % 18446744073709551616:=by omega
 have e2:((if x < y+0 then 1 else 0:Nat):Int)=bor x y:=by unfold bor;split<;>split<;>omega
 rw[e1,e2]
theorem nI {k k':IntKind} {a b c d:Int} (h:a=b) (h':c=d):Ending.returned (.tuple #[.int k a,.int k' c])=.returned (.tuple #[.int k b,.int k' d]):=by rw[h,h']
theorem rO (z:Int) (h0:0<=z) (h1:z < 18446744073709551616):bits .and .u64 z 4294967295=z % 4294967296:=and_low32 z h0 h1
theorem mul64 (x y:Int) (hx:0<=x) (c:x < 18446744073709551616) (hy:0<=y) (b:y < 18446744073709551616) (w:World) :
  Calls Tryz.prog 89 #[.int .u64 x,.int .u64 y] w fun e w'=>e=.returned (.tuple #[.int .u64 (x * y / 18446744073709551616),.int .u64 (x * y % 18446744073709551616)])/\w'=w:=by
 go_enter Tryz.func89,Tryz.ntmps89;go_wp2;go_ret2;refine⟨nI ?_ ?_,rfl⟩
 ·show IntKind.u64.wrap (IntKind.u64.wrap (IntKind.u64.wrap (x / 4294967296 * (y / 4294967296))+IntKind.u64.wrap (IntKind.u64.wrap (x / 4294967296 * bits BinOp.and IntKind.u64 y 4294967295)+IntKind.u64.wrap (bits BinOp.and IntKind.u64 x 4294967295 * bits BinOp.and IntKind.u64 y 4294967295) / 4294967296) / 4294967296)+IntKind.u64.wrap (bits BinOp.and IntKind.u64 (IntKind.u64.wrap (IntKind.u64.wrap (x / 4294967296 * bits BinOp.and IntKind.u64 y 4294967295)+IntKind.u64.wrap (bits BinOp.and IntKind.u64 x 4294967295 * bits BinOp.and IntKind.u64 y 4294967295) / 4294967296)) 4294967295+IntKind.u64.wrap (bits BinOp.and IntKind.u64 x 4294967295 * (y / 4294967296))) / 4294967296)=_
  simp only[IntKind.wrap_u64];rw[rO x hx c,rO y hy b,rO _ (Int.emod_nonneg _ (by decide)) (Int.emod_lt_of_pos _ (by decide))];exact mul64_arith x y hx c hy b
 ·show IntKind.u64.wrap (x * y)=_
  rw[IntKind.wrap_u64]
theorem lp (x y:Int) (hx:0<=x) (b:x < 18446744073709551616) (hy:0<=y) (a:y < 18446744073709551616) (w:World) :
  Calls Tryz.prog 89 #[.int .u64 x,.int .u64 y] w fun e w'=>∃ hi lo:Int,e=.returned (.tuple #[.int .u64 hi,.int .u64 lo])/\0<=hi/\hi<=18446744073709551614/\0<=lo/\lo < 18446744073709551616/\Hid (hi * 18446744073709551616+lo=x * y)/\w'=w:=by
 refine(mul64 x y hx b hy a w).mono ?_
 rintro e w' ⟨rfl,rfl⟩
 have c:0<=x * y:=Int.mul_nonneg hx hy
 have d:x * y<=18446744073709551615 * 18446744073709551615:=Int.mul_le_mul (by omega) (by omega) hy (by decide);exact⟨_,_,rfl,by omega,by omega,by omega,by omega,by show _=_;omega,rfl⟩
end
section
open Go.RowKit Lim
section
variable {w w1 w':World}{ao ao':Option Addr}{b o n o' n' i k B b':Nat}{l m:List Int}{v:Value}
structure At(w:World)(ao:Option Addr)(b o:Nat)(l:List Int):Prop where
 loc:l=[]\/ao=some ⟨b,o,none⟩
 cell:∀ i,i < l.length->w.cell? ⟨b,o+i,none⟩=some (.int .u64 (nth l i))
theorem At.cells(h:At w ao b o l):Cells w ao l:=by
 rcases h.loc with e | e
 ·exact .inl e
 ·exact .inr ⟨b,o,e,h.cell⟩
def dE(w:World)(b o n:Nat):Prop:=∀ i,i < n->w.frozen? ⟨b,o+i,none⟩=false
structure Wr(b o n:Nat)(w w':World):Prop where
 os:w'.os=w.os
 tape:w'.tape=w.tape
 output:w'.output=w.output
 size:w'.heap.size=w.heap.size
 block:∀ k,k≠b->w'.heap[k]?=w.heap[k]?
 cell:∀ i,(i < o\/o+n<=i)->w'.cell? ⟨b,i,none⟩=w.cell? ⟨b,i,none⟩
 frozen:∀ i,w'.frozen? ⟨b,i,none⟩=w.frozen? ⟨b,i,none⟩
theorem Wr.refl(b o n:Nat)(w:World):Wr b o n w w:=⟨rfl,rfl,rfl,rfl,fun _ _=>rfl,fun _ _=>rfl,fun _=>rfl⟩
theorem Wr.trans{a:World}(h:Wr b o n w w1)(k:Wr b o n w1 a):Wr b o n w a :=
 ⟨k.os.trans h.os,k.tape.trans h.tape,k.output.trans h.output,k.size.trans h.size,fun i hi=>(k.block i hi).trans (h.block i hi),fun i hi=>(k.cell i hi).trans (h.cell i hi),fun i=>(k.frozen i).trans (h.frozen i)⟩
theorem Wr.mono(h:Wr b o n w w')(h1:o'<=o)(h2:o+n<=o' + n'):Wr b o' n' w w' :=
 ⟨h.os,h.tape,h.output,h.size,h.block,fun i hi=>h.cell i (by omega),h.frozen⟩
theorem Wr.setCell(h:Wr b o n w w1)(e:o<=i)(c:i < o+n)(v:Value):Wr b o n w (w1.setCell ⟨b,i,none⟩ v) :=
 h.trans ⟨rfl,rfl,rfl,by simp[World.setCell],fun k a=>Below.heap_setCell _ _ _ _ a,fun j d=>by
   simp only[World.cell?,World.setCell,Array.getElem?_modify,if_true]
   cases hh:w1.heap[b]? with
   | none=>simp
   | some ob =>
    cases ob<;>simp
    rw[Array.getElem?_setIfInBounds,if_neg (by omega)],fun j=>by
   simp only[World.frozen?,World.setCell,Array.getElem?_modify,if_true]
   cases hh:w1.heap[b]? with
   | none=>simp
   | some ob=>cases ob<;>simp⟩
theorem Wr.other(h:Wr b o n w w')(hk:k≠b):w'.cell? ⟨k,i,none⟩=w.cell? ⟨k,i,none⟩:=World.cell?_of_block (w:=w) (h.block k hk)
theorem Wr.below(h:Wr b o n w w')(hB:B<=b):Below B w w' :=
 ⟨h.os,h.tape,h.output,by rw[h.size];exact Nat.le_refl _,fun k hk=>h.block k (by omega)⟩
theorem Wr.free(h:Wr b o n w w')(k:dE w b' o' n'):dE w' b' o' n':=by
 intro i hi;by_cases e:b'=b
 ·subst e;rw[h.frozen];exact k i hi
 ·rw[World.frozen?_of_block (w:=w) (h.block b' e)];exact k i hi
theorem At.wr(h:Wr b o n w w')(k:At w ao b' o' l)(hb:l=[]\/b'≠b):At w' ao b' o' l :=
 ⟨k.loc,fun i hi=>by
  rcases hb with e | e
  ·subst e;simp at hi
  ·rw[h.other e];exact k.cell i hi⟩
theorem At.below(h:Below B w w')(k:At w ao b o l)(hb:l=[]\/b < B):At w' ao b o l :=
 ⟨k.loc,fun i hi=>by
  rcases hb with e | e
  ·subst e;simp at hi
  ·rw[h.cell (p:=⟨b,o+i,none⟩) e];exact k.cell i hi⟩
theorem aI(h:w.cell? ⟨b,o,none⟩=some v):b < w.heap.size:=by
 simp only[World.cell?] at h;by_cases hb:b < w.heap.size
 ·exact hb
 ·rw[Array.getElem?_eq_none (by omega)] at h;simp at h
theorem At.lt(k:At w ao b o l):l=[]\/b < w.heap.size:=by
 cases l with
 | nil=>exact .inl rfl
 | cons x l=>exact .inr (aI (k.cell 0 (by simp)))
theorem At.keep(h:Below w.heap.size w w')(k:At w ao b o l):At w' ao b o l:=k.below h k.lt
theorem At.setCell(k:At w ao b o l)(hi:i < l.length)(x:Int):At (w.setCell ⟨b,o+i,none⟩ (.int .u64 x)) ao b o (l.set i x) :=
  ⟨by rcases k.loc with e | e
      · subst e;simp at hi
      · exact .inr e,fun j g=>by
    rw[List.length_set] at g;have hc:=k.cell j g;rw[dD hi];have a:=k.cell i hi;simp only[World.cell?,World.setCell,Array.getElem?_modify,if_true] at hc a ⊢
    cases hh:w.heap[b]? with
    | none=>rw[hh] at hc;simp at hc
    | some ob =>
      rw[hh] at hc a
      cases ob with
      | cells c e f =>
        simp at hc a ⊢;rw[Array.getElem?_setIfInBounds];by_cases e:j=i
        · subst e
          obtain⟨d,_⟩:= Array.getElem?_eq_some_iff.1 a;simp[d]
        · rw[if_neg (by omega),if_neg e];exact hc
      | _=>simp at hc⟩
theorem At.drew(h:At w ao b o l):At w.drew ao b o l:=⟨h.loc,h.cell⟩
theorem dE.drew(h:dE w b o n):dE w.drew b o n:=h
theorem Wr.drew(h:Wr b o n w w'):Wr b o n w w'.drew:=⟨h.os,h.tape,h.output,h.size,h.block,h.cell,h.frozen⟩
theorem At.drewN(h:At w ao b o l)(n:Nat):At (w.drewN n) ao b o l:=⟨h.loc,h.cell⟩
theorem Wr.drewN(h:Wr b o n w w')(k:Nat):Wr b o n w (w'.drewN k):=⟨h.os,h.tape,h.output,h.size,h.block,h.cell,h.frozen⟩
def patch(l:List Int)(k:Nat)(m:List Int):List Int:=l.take k ++ (m ++ l.drop (k+m.length))
theorem fk(h:k+m.length<=l.length):(patch l k m).length=l.length:=by simp[patch];omega
theorem kQ(hl:Words l)(hm:Words m):Words (patch l k m):=(hl.take k).append (hm.append (hl.drop _))
theorem p5(h:k+m.length<=l.length)(hi:i < m.length):nth (patch l k m) (k+i)=nth m i:=by
 have e:(l.take k).length=k:=by simp;omega
 rw[patch,bJ (by omega),e,Nat.add_sub_cancel_left,cV hi]
theorem nN(h:k+m.length<=l.length)(hi:i < k\/k+m.length<=i):nth (patch l k m) i=nth l i:=by
 have e:(l.take k).length=k:=by simp;omega
 rcases hi with hi | hi
 ·rw[patch,cV (by omega),dt hi]
 ·rw[patch,bJ (by omega),e,bJ (by omega),dH];congr 1;omega
theorem ox(h:k+m.length<=l.length):val (patch l k m)=val l+18446744073709551616 ^ k * (val m - val ((l.drop k).take m.length)):=by
 have e:(l.take k).length=k:=by simp;omega
 have b:=bF l k (by omega);have a:=bF (l.drop k) m.length (by simp;omega);rw[List.drop_drop] at a;rw[patch,ea,ea,e,b,a];grind
theorem At.patch(h:At w ao b o l)(hw:Wr b (o+k) n w w')(hm:At w' ao' b (o+k) m)(hn:m.length=n)(c:k+n≤l.length):At w' ao b o (patch l k m) :=
  ⟨by rcases h.loc with e | e
      · left;subst e;simp at c;simp[Go.Proofs.YthfepflplbahkaaGreatDoor.patch,List.eq_nil_of_length_eq_zero (show m.length=0 by omega)]
      · exact .inr e,fun i hi=>by
    rw[fk (by omega)] at hi;by_cases a:k≤i∧i < k+n
    · obtain⟨j,rfl⟩:= Nat.exists_eq_add_of_le a.1
      rw[p5 (by omega) (by omega),← hm.cell j (by omega),Nat.add_assoc]
    · rw[nN (by omega) (by omega),hw.cell _ (by omega)];exact h.cell i hi⟩
theorem At.fy(h:At w ao b o l)(k n:Nat):At w (some ⟨b,o+k,none⟩) b (o+k) ((l.drop k).take n) :=
 ⟨.inr rfl,fun i hi=>by
  simp only[List.length_take,List.length_drop] at hi
  rw[dt (by omega),dH,Nat.add_assoc];exact h.cell _ (by omega)⟩
theorem dE.fy(h:dE w b o n){m:Nat}(hk:k + m<=n):dE w b (o + k) m:=fun i hi=>by
 rw[Nat.add_assoc];exact h _ (by omega)
theorem At.sub(k:At w ao b o l)(n:Nat):At w ao b o (l.take n) :=
  ⟨by rcases k.loc with e | e
      · subst e;exact .inl (by simp)
      · exact .inr e,fun i hi=>by
    rw[List.length_take] at hi
    rw[dt (by omega)];exact k.cell i (by omega)⟩
end
end
section
open Go.RowKit Lim
section
variable {w:World}{g:Nat}{l:List Int}{ops:Array Oper}{rest:List Oper}{o:Oper}{a:Act}
theorem gR:(Tryz.prog.info? 22).map (fun i=>(i.zero,i.size,i.bytes))=some (some (.int .u64 0),1,8):=by kernel_rfl
theorem fX:Tryz.prog.underlying 30=some (.slice 22):=by kernel_rfl
def Row(w:World)(g:Nat)(l:List Int):Prop:=w.heap[g]?=some (.cells (l.map (Value.int .u64)).toArray 22 (0,0))
theorem Row.at(h:Row w g l):At w (some ⟨g,0,none⟩) g 0 l :=
 ⟨.inr rfl,fun i hi=>by
  unfold Row at h;simp only[World.cell?,h]
  simp[bV hi,hi]⟩
theorem Row.free(h:Row w g l)(o n:Nat):dE w g o n:=by
 intro i _;unfold Row at h;simp[World.frozen?,h]
theorem Row.lt(h:Row w g l):g < w.heap.size:=(Array.getElem?_eq_some_iff.1 h).1
structure dI(w w':World)(v:Value)(l:List Int):Prop where
 is:∃ ao b o c,v=.slice ao l.length c/\l.length<=c/\w.heap.size<=b/\At w' ao b o l/\dE w' b o l.length
theorem qB(n:Nat):madeCells (Value.int .u64 0).cells n=((List.replicate n 0).map (Value.int .u64)).toArray:=by
 apply Array.ext
 ·simp[size_madeCells]
 ·intro j a b;simp[madeCells,Value.cells,Nat.mod_one]
theorem cY{Q:Exit->Act->World->Prop}(h:o.guard=none)(l c:Operand)(d:o.op=Op.makeSlice 30 l c)(n:Nat)(L C:Int)(g:a.eval l=.int .i64 L)(hc:a.eval c=.int .i64 C)(hL:L=(n:Int))(hC:C=(n:Int))(hn:n<=17592186044416)(j:∀ w',Row w' w.heap.size (List.replicate n 0)->Below w.heap.size w w'->w'.heap.size=w.heap.size+1->wpList Tryz.prog ops Q rest (a.put o.dst (.slice (some ⟨w.heap.size,0,none⟩) n n)) w') :
  wpList Tryz.prog ops Q (o :: rest) a w:=by
 obtain⟨i,hi,f,hs,hb⟩:=info_parts gR;refine wpList_plain h fun K e=>?_
 have b:=run_make (P:=Tryz.prog) w 30 22 i (.int .u64 0) fX hi f .i64 .i64 (n:Int) (n:Int) (by omega) (by omega) (by rw[hb];omega) (by omega);subst hL;subst hC;unfold Oper.wp;simp only[execOp,d,g,hc];simp[b,Result.andThen];refine e _ _ (j _ ?_ ?_ ?_)
 ·show (w.heap.push _)[w.heap.size]?=_
  rw[Array.getElem?_push_size,hs,Nat.mul_one,qB]
 ·exact(Below.refl _ _).alloc (Nat.le_refl _) _
 ·simp
theorem gq{Q:Exit->Act->World->Prop}(p:o.guard=none)(d s:Operand)(A:o.op=.call { callee:=.builtin .copy,args:=#[d,s],argTypes:=#[30,30] })(g dLen dCap sLen sCap:Nat)(sp:Option Addr)(B:a.eval d=.slice (some ⟨g,0,none⟩) dLen dCap)(hs:a.eval s=.slice sp sLen sCap)(lz ls:List Int)(b:Row w g lz)(x:lz.length=dLen)(b' o':Nat)(l:ls.length=sLen)(hle:sLen<=dLen)(m:At w sp b' o' ls)(h:∀ w',Row w' g (ls ++ lz.drop sLen)->Wr g 0 dLen w w'->wpList Tryz.prog ops Q rest (a.put o.dst (goInt sLen)) w'):wpList Tryz.prog ops Q (o :: rest) a w:=by
 obtain⟨i,hi,E,y,hb⟩:=info_parts gR
 have f:(Tryz.prog.info? 22).map (·.size)=some 1:=by rw[hi];simp[y]
 by_cases z:sLen=0
 ·have D:ls=[]:=List.eq_nil_of_length_eq_zero (by omega);subst D;refine wpList_copy_nothing p d s _ _ A _ fX f _ sp dLen dCap sLen sCap B hs (by subst z;exact Nat.zero_min _) ?_
  have:=h w (by rw[z];simpa using b) (Wr.refl _ _ _ _);rwa [z] at this
 ·obtain rfl:sp=some ⟨b',o',none⟩:=by
   rcases m.loc with e | e
   ·subst e;simp at l;omega
   ·exact e
  have q:Nat.min sLen dLen=sLen:=Nat.min_eq_left hle
  have hlen:(ls.map (Value.int .u64)).length=sLen:=by simp[l]
  refine wpList_copy_own p d s _ _ A _ fX f g 0 dLen dCap ⟨b',o',none⟩ sLen sCap B hs _ _ b (ls.map (Value.int .u64)) (by rw[q,hlen]) ?_ (by simp[l,x];omega) (ints_oneCell _ _) ?_
  ·intro j v hv;rw[List.getElem?_map] at hv
   have c:j < ls.length:=by
    rcases Nat.lt_or_ge j ls.length with c | c
    ·exact c
    ·rw[List.getElem?_eq_none c] at hv;simp at hv
   rw[List.getElem?_eq_getElem c] at hv;simp at hv;subst hv;have:=m.cell j c;rw[bV c] at this;rw[<- this];by_cases n:j=0
   ·subst n;exact congrArg w.cell? (by simp[Addr.add])
   ·exact congrArg w.cell? (by simp[Addr.add,n])
  ·rw[hlen]
   have r:Row (w.setRow g (List.take 0 (List.map (Value.int .u64) lz).toArray.toList ++ (List.map (Value.int .u64) ls ++ List.drop (0+sLen) (List.map (Value.int .u64) lz).toArray.toList)).toArray) g (ls ++ lz.drop sLen):=by
    unfold Row;rw[setRow_heap w g _ _ _ _ b,Nat.zero_add];simp only[List.take_zero,List.nil_append,<- List.map_drop,<- List.map_append]
   refine h _ r ⟨rfl,rfl,rfl,by simp[World.setRow],fun k C=>setRow_other w g k _ C,fun j c=>?_,fun j=>?_⟩
   ·have u:w.heap[g]?=_:=b
    have t:(w.setRow g (List.take 0 (List.map (Value.int .u64) lz).toArray.toList ++ (List.map (Value.int .u64) ls ++ List.drop (0+sLen) (List.map (Value.int .u64) lz).toArray.toList)).toArray).heap[g]?=_:=r;simp only[World.cell?,u,t];simp;rw[List.getElem?_eq_none (by simp;omega),List.getElem?_eq_none (by omega)];rfl
   ·have u:w.heap[g]?=_:=b
    have t:(w.setRow g (List.take 0 (List.map (Value.int .u64) lz).toArray.toList ++ (List.map (Value.int .u64) ls ++ List.drop (0+sLen) (List.map (Value.int .u64) lz).toArray.toList)).toArray).heap[g]?=_:=r;simp only[World.frozen?,u,t]
end
end
section
open Go.RowKit Lim
section
variable {x y:Int}{l a b:List Int}
def sgn(x y:Int):Int:=if x < y then -1 else if y < x then 1 else 0
theorem gO(h:x < y):sgn x y=-1:=by simp[sgn,h]
theorem j3(h:y < x):sgn x y=1:=by simp only[sgn];rw[if_neg (by omega),if_pos h]
theorem pE(h:x=y):sgn x y=0:=by simp[sgn,h]
theorem gg(l:List Int):val l=nth l 0+18446744073709551616 * val l.tail:=by
 cases l with
 | nil=>simp[val,nth]
 | cons x l=>simp[val,nth]
theorem fA(l:List Int)(i:Nat):nth l.tail i=nth l (i+1):=by
 cases l with
 | nil=>simp[nth]
 | cons x l=>simp[nth]
theorem Lim.Words.tl(h:Words l):Words l.tail:=fun x hx=>h x (List.mem_of_mem_tail hx)
theorem pL:∀ {a b:List Int},(∀ i,nth a i=nth b i)->val a=val b
 | [],b,h=>by rw[fq (l:=b) fun i=>by rw[<- h i,BM]];rfl
 | x :: a,b,h=>by
  rw[gg (x :: a),gg b,h 0,List.tail_cons,pL (a:=a) (b:=b.tail) fun i=>by rw[fA,<- h (i+1),dG]]
theorem kG:∀ (h:Nat) {a b:List Int},Words a->Words b->(∀ i,h < i->nth a i=nth b i)->nth a h < nth b h->val a < val b
 | 0,a,b,_,_,he,hl=>by
  rw[gg a,gg b,pL (a:=a.tail) (b:=b.tail) fun i=>by rw[fA,fA];exact he _ (by omega)];omega
 | h + 1,a,b,ha,hb,he,hl=>by
  have:=kG h ha.tl hb.tl (fun i hi=>by rw[fA,fA];exact he _ (by omega)) (by rw[fA,fA];exact hl);have d:=ha.nth 0;have c:=hb.nth 0;rw[gg a,gg b];omega
theorem sgn_at(e:Words a)(hb:Words b)(h:Nat)(he:∀ i,h < i->nth a i=nth b i)(d:nth a h≠nth b h):sgn (nth a h) (nth b h)=sgn (val a) (val b):=by
 rcases Int.lt_or_gt_of_ne d with c | c
 ·rw[gO c,gO (kG h e hb he c)]
 ·rw[j3 c,j3 (kG h hb e (fun i hi=>(he i hi).symm) c)]
theorem yY(e:Words a)(hb:Words b)(d:aE a≠aE b):sgn (aE a) (aE b)=sgn (val a) (val b):=by
 rcases Nat.lt_or_gt_of_ne d with c | c
 ·rw[gO (by omega),gO (dC e hb c)]
 ·rw[j3 (by omega),j3 (dC hb e c)]
theorem qG(x y:Int)(w:World):Calls Tryz.prog 60 #[.int .i64 x,.int .i64 y] w fun e w'=>e=.returned (.int .i64 (sgn x y))/\w'=w:=by
 rcases Int.lt_trichotomy x y with h | h | h
 ·rw[gO h];go_enter Tryz.func60,Tryz.ntmps60;go_wp2;go_ret;exact⟨rfl,rfl⟩
 ·rw[pE h];subst h;go_enter Tryz.func60,Tryz.ntmps60;go_wp2;go_ret;exact⟨rfl,rfl⟩
 ·rw[j3 h]
  have b:¬ x < y:=by omega
  go_enter Tryz.func60,Tryz.ntmps60;go_wp2;go_ret;exact⟨rfl,rfl⟩
theorem qH(x y:Int)(w:World):Calls Tryz.prog 61 #[.int .u64 x,.int .u64 y] w fun e w'=>e=.returned (.int .i64 (sgn x y))/\w'=w:=by
 rcases Int.lt_trichotomy x y with h | h | h
 ·rw[gO h];go_enter Tryz.func61,Tryz.ntmps61;go_wp2;go_ret;exact⟨rfl,rfl⟩
 ·rw[pE h];subst h;go_enter Tryz.func61,Tryz.ntmps61;go_wp2;go_ret;exact⟨rfl,rfl⟩
 ·rw[j3 h]
  have b:¬ x < y:=by omega
  go_enter Tryz.func61,Tryz.ntmps61;go_wp2;go_ret;exact⟨rfl,rfl⟩
theorem kH{k:IntKind}{a b:Int}(h:a=b):Ending.returned (.int k a)=.returned (.int k b):=by rw[h]
theorem iy(ao:Option Addr)(n c b o:Nat)(ao':Option Addr)(n' c' b' o':Nat)(l d:List Int)(w:World)(Y:l.length=n)(B:d.length=n')(hc:n<=c)(D:n'<=c')(J:n<=1099511627776)(A:n'<=1099511627776)(wl:Words l)(p:Words d)(v:At w ao b o l)(g:At w ao' b' o' d) :
  Calls Tryz.prog 26 #[.slice ao n c,.slice ao' n' c'] w fun e w'=>e=.returned (.int .i64 (sgn (val l) (val d)))/\Below w.heap.size w w':=by
 have hn:=bC l
 have G:=bC d;have t1:=bp ao n c l w Y hc (by omega) v.cells;have t2:=bp ao' n' c' d w B D (by omega) g.cells
 have r:∀ i,aE l<=i->nth l i=0:=fun i hi=>fH hi
 have j:∀ i,aE d<=i->nth d i=0:=fun i hi=>fH hi
 have t:Hid (aE l≠aE d->sgn (aE l) (aE d)=sgn (val l) (val d)):=yY wl p
 have P:Hid (∀ i,aE l<=i->nth l i=0):=r
 have s:Hid (∀ i,aE d<=i->nth d i=0):=j;clear r j;generalize aE l=N at *;generalize aE d=Q at *;go_enter Tryz.func26,Tryz.ntmps26;go_wp2_with fail;refine t1.mono ?_
 rintro e w1 ⟨rfl,rfl⟩;go_wp2_with fail;refine t2.mono ?_
 rintro e L ⟨rfl,rfl⟩;clear t1 t2;by_cases u:N=Q
 ·subst u;go_wp2_with fail;go_loopw [25] (fun C wr=>∃ k:Nat,k<=N/\C=.int .i64 k/\Hid (∀ i,N - k<=i->nth l i=nth d i)/\Below L.heap.size L wr) (fun C _=>N - (intOf C).toNat)
  case atStart=>exact⟨0,Nat.zero_le _,rfl,fun i hi=>by rw[P.out i (by omega),s.out i (by omega)],Below.refl _ _⟩
  case round =>
   obtain⟨k,hk,rfl,F,f⟩:=hrel;by_cases Z:k < N
   ·have q:=v.keep f
    have m:=g.keep f;rcases v.loc with e | rfl
    ·subst e;simp at hn;omega
    rcases g.loc with e | rfl
    ·subst e;simp at G;omega
    obtain⟨h,K⟩:∃ h:Nat,N=h+1+k:=⟨N - 1 - k,by omega⟩
    have q1:=q.cell h (by omega);have I:=m.cell h (by omega)
    have U:Hid (N=h+1+k):=K
    have R:(N:Int) - 1 - k=h:=by omega
    have M:Hid (∀ i,h < i->nth l i=nth d i):=fun i hi=>F.out i (by omega)
    have T:Hid (nth l h≠nth d h->sgn (nth l h) (nth d h)=sgn (val l) (val d)):=sgn_at wl p h M.out
    have S:(h:Int) < N:=by omega
    clear K F P s t v g q m wl p;generalize hx:nth l h=x at *;generalize hy:nth d h=y at *
    have O:Hid (x=y->nth l h=nth d h):=fun e=>hx.trans (e.trans hy.symm)
    clear hx hy;by_cases z:x=y
    ·have HY:Hid (nth l h=nth d h):=O.out z;clear O;subst z;go_wp2_with fail;go_quiet (fail);go_wp2;go_roundw
     case rel=>exact⟨k + 1,by omega,by go_num,fun i hi=>by
      by_cases e:i=h
      ·subst e;exact HY.out
      ·exact M.out i (by have:=U.out;omega),below_drewN f _⟩
     case measure=>simp[intOf];omega
    ·have V:(x != y)=true:=by rw[bne_iff_ne]; exact z
     go_wp2_with fail;go_quiet (fail);go_wp2_with fail
     have q3:(wr.drewN nq).cell? ⟨b,o+h,none⟩=some (.int .u64 x):=q1
     have q4:(wr.drewN nq).cell? ⟨b',o' + h,none⟩=some (.int .u64 y):=I;have H:=below_drewN f nq;clear q1 I f;generalize wr.drewN nq=W at *;go_quiet ((go_at_call 61;exact Calls.quiet_of_same (qH _ _ _)));go_wp2;go_ret;exact⟨kH (T.out z),below_drewN H _⟩
   ·have E:k=N:=by omega
    subst E;go_wp2;go_ret;rw[pE (pL fun i=>F.out i (by omega))];exact⟨rfl,f⟩
 ·have X:((N:Int) != (Q:Int))=true:=by rw[bne_iff_ne]; omega
  go_wp2_with (go_at_call 60;refine(qG _ _ _).mono ?_;rintro e w' ⟨rfl,rfl⟩);go_ret;exact⟨kH (t.out u),Below.refl _ _⟩
end
end
section
open Go.RowKit Lim
section
variable {n:Nat}
theorem w64(z:Int)(h0:0<=z)(h1:z<=1000):wrap64 z=z:=by
 unfold wrap64;omega
theorem gH(k:Int)(i:Nat)(h0:0<=k)(hk:k<=56)(h:i < 256):wrap64 (k+wrap64 (bitLen i:Int))=k+bitLen i:=by
 have:=bitLen_le8 i h;rw[w64 (bitLen i) (by omega) (by omega),w64 _ (by omega) (by omega)]
theorem ja(x:Int)(b i:Nat)(h:x.toNat / 2 ^ b=i)(hi:i≠0):((bitLen x.toNat:Nat):Int)=b+bitLen i:=by
 rw[bitLen_shift x.toNat b (by rw[h];exact hi),h];omega
theorem len64(x:Int)(w:World)(b:0<=x)(c:x < 18446744073709551616) :
  Calls Tryz.prog 139 #[.int .u64 x] w fun e w'=>e=.returned (.int .i64 (bitLen x.toNat))/\w'=w:=by
 by_cases c0:4294967296<=x
 ·by_cases c1:65536<=x / 4294967296
  ·by_cases c2:256<=x / 4294967296 / 65536
   ·go_enter Tryz.func139,Tryz.ntmps139;go_wp2;go_ret;refine⟨kH ?_,rfl⟩;rw[len8tab_get,gH 56 (x / 4294967296 / 65536 / 256).toNat (by decide) (by decide) (by omega),ja x 56 (x / 4294967296 / 65536 / 256).toNat (by rw[show (2:Nat) ^ 56=72057594037927936 from rfl];omega) (by omega)];rfl
   ·go_enter Tryz.func139,Tryz.ntmps139;go_wp2;go_ret;refine⟨kH ?_,rfl⟩;rw[len8tab_get,gH 48 (x / 4294967296 / 65536).toNat (by decide) (by decide) (by omega),ja x 48 (x / 4294967296 / 65536).toNat (by rw[show (2:Nat) ^ 48=281474976710656 from rfl];omega) (by omega)];rfl
  ·by_cases c2:256<=x / 4294967296
   ·go_enter Tryz.func139,Tryz.ntmps139;go_wp2;go_ret;refine⟨kH ?_,rfl⟩;rw[len8tab_get,gH 40 (x / 4294967296 / 256).toNat (by decide) (by decide) (by omega),ja x 40 (x / 4294967296 / 256).toNat (by rw[show (2:Nat) ^ 40=1099511627776 from rfl];omega) (by omega)];rfl
   ·go_enter Tryz.func139,Tryz.ntmps139;go_wp2;go_ret;refine⟨kH ?_,rfl⟩;rw[len8tab_get,gH 32 (x / 4294967296).toNat (by decide) (by decide) (by omega),ja x 32 (x / 4294967296).toNat (by rw[show (2:Nat) ^ 32=4294967296 from rfl];omega) (by omega)];rfl
 ·by_cases c1:65536<=x
  ·by_cases c2:256<=x / 65536
   ·go_enter Tryz.func139,Tryz.ntmps139;go_wp2;go_ret;refine⟨kH ?_,rfl⟩;rw[len8tab_get,gH 24 (x / 65536 / 256).toNat (by decide) (by decide) (by omega),ja x 24 (x / 65536 / 256).toNat (by rw[show (2:Nat) ^ 24=16777216 from rfl];omega) (by omega)];rfl
   ·go_enter Tryz.func139,Tryz.ntmps139;go_wp2;go_ret;refine⟨kH ?_,rfl⟩;rw[len8tab_get,gH 16 (x / 65536).toNat (by decide) (by decide) (by omega),ja x 16 (x / 65536).toNat (by rw[show (2:Nat) ^ 16=65536 from rfl];omega) (by omega)];rfl
  ·by_cases c2:256<=x
   ·go_enter Tryz.func139,Tryz.ntmps139;go_wp2;go_ret;refine⟨kH ?_,rfl⟩;rw[len8tab_get,gH 8 (x / 256).toNat (by decide) (by decide) (by omega),ja x 8 (x / 256).toNat (by rw[show (2:Nat) ^ 8=256 from rfl];omega) (by omega)];rfl
   ·go_enter Tryz.func139,Tryz.ntmps139;go_wp2;go_ret;refine⟨kH ?_,rfl⟩;rw[len8tab_get];have:=bitLen_le8 x.toNat (by omega);rw[w64 (bitLen x.toNat:Int) (by omega) (by omega),w64 _ (by omega) (by omega)]
theorem mu(h:n≠0):1<=bitLen n:=by unfold bitLen;rw[if_neg h];omega
theorem ic(h:n < 18446744073709551616):bitLen n<=64:=by
 unfold bitLen;split
 ·omega
 ·have:=(Nat.log2_lt (k:=64) ‹_›).2 (by omega);omega
theorem Ei(x:Int)(w:World)(c:0<=x)(b:x < 18446744073709551616) :
  Calls Tryz.prog 87 #[.int .u64 x] w fun e w'=>e=.returned (.int .i64 (64 - bitLen x.toNat))/\w'=w:=by
 have d:=ic (n:=x.toNat) (by omega);have t1:=len64 x w c b;generalize bitLen x.toNat=L at *;go_enter Tryz.func87,Tryz.ntmps87;go_wp2_with fail;refine t1.mono ?_
 rintro e f ⟨rfl,rfl⟩;go_wp2;go_ret;exact⟨rfl,rfl⟩
end
end
section
open Go.RowKit Lim
section
variable {y y1 y0 u a q r:Int}
theorem DV(y:Int)(w:World)(h:0 < y)(d:y < 18446744073709551616) :
  Calls Tryz.prog 87 #[.int .u64 y] w fun e w'=>∃ s:Nat,e=.returned (.int .i64 s)/\s<=63/\Hid (9223372036854775808<=y * 2 ^ s/\y * 2 ^ s < 18446744073709551616)/\w'=w:=by
 refine(Ei y w (by omega) d).mono ?_
 rintro e w' ⟨rfl,rfl⟩;have f:=ic (n:=y.toNat) (by omega);have g:=mu (n:=y.toNat) (by omega);have hs:=bitLen_spec y.toNat;generalize bitLen y.toNat=L at *;refine⟨64 - L,kH (by omega),by omega,?_,rfl⟩;have a:=hs.1;have b:=hs.2 (by omega);obtain⟨n,rfl⟩:∃ n:Nat,y=n:=⟨y.toNat,by omega⟩
 rw[Int.toNat_natCast] at a b
 have e1:(2:Nat) ^ L * 2 ^ (64 - L)=18446744073709551616:=by rw[<- Nat.pow_add,show L+(64 - L)=64 from by omega]
 have e2:(2:Nat) ^ (L - 1) * 2 ^ (64 - L)=9223372036854775808:=by rw[<- Nat.pow_add,show L - 1+(64 - L)=63 from by omega]
 have k1:n * 2 ^ (64 - L) < 2 ^ L * 2 ^ (64 - L):=Nat.mul_lt_mul_of_pos_right a (Nat.two_pow_pos _)
 have k2:2 ^ (L - 1) * 2 ^ (64 - L)<=n * 2 ^ (64 - L):=Nat.mul_le_mul_right _ b;rw[e1] at k1;rw[e2] at k2
 have c:((n * 2 ^ (64 - L):Nat):Int)=(n:Int) * 2 ^ (64 - L):=by rw[Int.natCast_mul,Int.natCast_pow];rfl
 show _/\_
 rw[<- c];omega
structure eK(y y1 u a q r:Int):Prop where
 eq:q * y1+r=u
 r0:0<=r
 up:u * 4294967296+a < (q+1) * y
 q0:0<=q
 qb:q<=4294967297
theorem eK.start(e:y=y1 * 4294967296+y0)(g:0<=y0)(h:y0 < 4294967296)(j:2147483648<=y1)(u0:0<=u)(i:u < y)(a0:0<=a)(a1:a < 4294967296) :
  eK y y1 u a (u / y1) (u % y1):=by
 have c:=Int.mul_ediv_add_emod u y1;have d:=Int.emod_nonneg u (show y1≠0 by omega);have f:=Int.emod_lt_of_pos u (show 0 < y1 by omega)
 have b:0<=u / y1:=Int.ediv_nonneg u0 (by omega);generalize u / y1=q at *;generalize u % y1=r at *;refine⟨by rw[Int.mul_comm];exact c,d,?_,b,?_⟩
 ·have k1:(q + 1) * y=(y1 * q + y1) * 4294967296 + (q + 1) * y0:=by rw[e]; grind
  have k2:0<=(q+1) * y0:=Int.mul_nonneg (by omega) g;rw[k1];omega
 ·by_cases hc:q<=4294967297
  ·exact hc
  ·have k:y1 * 4294967298<=y1 * q:=Int.mul_le_mul_of_nonneg_left (by omega) (by omega);omega
theorem eK.big(h:eK y y1 u a q r)(a1:a < 4294967296)(y0:0 < y)(c:u < y)(b:4294967296<=q)(d:0<=y1):eK y y1 u a (q - 1) (r+y1):=by
 have k:y * 4294967296<=y * q:=Int.mul_le_mul_of_nonneg_left b (by omega);have:=h.eq;have:=h.r0;have:=h.qb;refine⟨by rw[Int.sub_mul];omega,by omega,?_,by omega,by omega⟩;rw[Int.sub_add_cancel,Int.mul_comm q y];omega
theorem eK.more(h:eK y y1 u a q r)(e:y=y1 * 4294967296+y0)(u0:0<=u)(a0:0<=a)(f:0<=y1)(hc:4294967296 * r+a < q * y0):eK y y1 u a (q - 1) (r+y1):=by
 have he:=h.eq;have:=h.r0;have:=h.qb;have:=h.q0
 have k:q * y=q * y1 * 4294967296+q * y0:=by rw[e];grind
 have b:u * 4294967296+a < q * y:=by rw[k];omega
 have d:1<=q:=by
  by_cases c:1<=q
  ·exact c
  ·have:q=0:=by omega
   subst this;simp at b;omega
 refine⟨by rw[Int.sub_mul];omega,by omega,?_,by omega,by omega⟩;rw[Int.sub_add_cancel];exact b
structure Dig(y u a q:Int):Prop where
 lo:q * y<=u * 4294967296+a
 hi:u * 4294967296+a < (q+1) * y
 q0:0<=q
 q1:q < 4294967296
theorem eK.dig(h:eK y y1 u a q r)(e:y=y1 * 4294967296+y0)(d:0 < y)(b:u < y)(a1:a < 4294967296)(hc:q * y0<=4294967296 * r+a):Dig y u a q:=by
 have he:=h.eq
 have k:q * y=q * y1 * 4294967296+q * y0:=by rw[e];grind
 have lo:q * y<=u * 4294967296+a:=by rw[k];omega
 refine⟨lo,h.up,h.q0,?_⟩;by_cases c:q < 4294967296
 ·exact c
 ·have:4294967296 * y<=q * y:=Int.mul_le_mul_of_nonneg_right (by omega) (by omega);omega
theorem eK.kM(h:eK y y1 u a q r)(e:y=y1 * 4294967296+y0)(d:0 < y)(b:u < y)(a0:0<=a)(a1:a < 4294967296)(f:0<=y0)(g:y0 < 4294967296)(c:q<=4294967296)(i:4294967296<=r):Dig y u a q :=
 h.dig e d b a1 (by
  have:q * y0<=4294967296 * y0:=Int.mul_le_mul_of_nonneg_right c f
  omega)
theorem Dig.rest(h:Dig y u a q):0<=u * 4294967296+a - q * y/\u * 4294967296+a - q * y < y:=by
 have:=h.lo;have h2:=h.hi;rw[Int.add_mul] at h2;omega
theorem ediv64(x S T:Int)(hS:0 < S)(h:S * T=18446744073709551616):x * S / 18446744073709551616=x / T:=by
 rw[<- h,Int.mul_comm S T,Int.mul_ediv_mul_of_pos_left _ _ hS]
theorem qp(a b:Int)(s:Nat)(k:Int)(j:a=k * 2 ^ s)(i:0<=k)(g:a < 18446744073709551616)(c:0<=b)(m:b < 2 ^ s)(f:b < 18446744073709551616):bits .or .u64 a b=a+b:=by
 have l:(0:Int) < 2 ^ s:=Int.pow_pos (by decide)
 have h:0<=a:=by rw[j];exact Int.mul_nonneg i (Int.le_of_lt l)
 rw[u64_or a b h g c f];obtain⟨k,rfl⟩:=Int.eq_ofNat_of_zero_le i;obtain⟨b,rfl⟩:=Int.eq_ofNat_of_zero_le c
 have e:a.toNat=2 ^ s * k:=by
  have:a=((2 ^ s * k:Nat):Int):=by rw[j,Int.natCast_mul,Int.natCast_pow,Int.mul_comm];rfl
  rw[this,Int.toNat_natCast]
 have d:b < 2 ^ s:=by
  have:((2 ^ s:Nat):Int)=2 ^ s:=by rw[Int.natCast_pow];rfl
  omega
 rw[e,Int.toNat_natCast,<- Nat.two_pow_add_eq_or_of_lt d,<- e];omega
theorem xA(hi lo y:Int)(s:Nat)(i:0<=hi)(n:hi < y)(h:0<=lo)(l1:lo < 18446744073709551616)(hs:s<=63)(o:9223372036854775808<=y * 2 ^ s/\y * 2 ^ s < 18446744073709551616) :
  ∃ Y Yh Yl U A A1 A0:Int,IntKind.u64.wrap (y * 2 ^ s)=Y/\Y / 4294967296=Yh/\bits .and .u64 Y 4294967295=Yl/\bits .or .u64 (IntKind.u64.wrap (hi * 2 ^ s)) (lo / 2 ^ (64 - s))=U /\
   IntKind.u64.wrap (lo * 2 ^ s)=A/\A / 4294967296=A1/\bits .and .u64 A 4294967295=A0/\0<=Yl/\Yl < 4294967296/\2147483648<=Yh/\Yh < 4294967296/\0<=U/\U < Y/\Y < 18446744073709551616/\0<=A1/\A1 < 4294967296/\0<=A0/\A0 < 4294967296 /\
   Hid (Y=Yh * 4294967296+Yl)/\Hid ((U * 4294967296+A1) * 4294967296+A0=(hi * 18446744073709551616+lo) * 2 ^ s/\Y=y * 2 ^ s):=by
 have hS:(0:Int) < 2 ^ s:=Int.pow_pos (by decide)
 have g:(0:Int) < 2 ^ (64 - s):=Int.pow_pos (by decide)
 have d:(2:Int) ^ s * 2 ^ (64 - s)=18446744073709551616:=by rw[<- Int.pow_add,show s+(64 - s)=64 from by omega];rfl
 have f:(2:Int) ^ s * 1<=2 ^ s * 2 ^ (64 - s):=Int.mul_le_mul_of_nonneg_left (by omega) (Int.le_of_lt hS)
 have e:0<=hi * 2 ^ s:=Int.mul_nonneg i (Int.le_of_lt hS)
 have c:(hi+1) * 2 ^ s<=y * 2 ^ s:=Int.mul_le_mul_of_nonneg_right (by omega) (Int.le_of_lt hS);rw[Int.add_mul,Int.one_mul] at c
 have k:0<=lo * 2 ^ s:=Int.mul_nonneg h (Int.le_of_lt hS)
 have b:0<=lo / 2 ^ (64 - s):=Int.ediv_nonneg h (Int.le_of_lt g)
 have a:lo / 2 ^ (64 - s) < 2 ^ s:=by
  rw[Int.ediv_lt_iff_lt_mul g,d];exact l1
 have j:=ediv64 lo (2 ^ s) (2 ^ (64 - s)) hS d
 have l:bits .or .u64 (IntKind.u64.wrap (hi * 2 ^ s)) (lo / 2 ^ (64 - s))=hi * 2 ^ s+lo / 2 ^ (64 - s):=by
  rw[IntKind.wrap_u64,Int.emod_eq_of_lt e (by omega)];exact qp _ _ s hi rfl i (by omega) b a (by omega)
 have m:IntKind.u64.wrap (y * 2 ^ s)=y * 2 ^ s:=by rw[IntKind.wrap_u64];omega
 have hA:IntKind.u64.wrap (lo * 2 ^ s)=lo * 2 ^ s % 18446744073709551616:=IntKind.wrap_u64 _
 have e3:(hi * 18446744073709551616+lo) * 2 ^ s=hi * 2 ^ s * 18446744073709551616+lo * 2 ^ s:=by grind
 rw[l,m,hA];rw[<- j] at b a ⊢;rw[e3];generalize hi * 2 ^ s=H at *;generalize lo * 2 ^ s=p at *;generalize y * 2 ^ s=Y at *;refine⟨Y,_,_,_,_,_,_,rfl,rfl,rO _ (by omega) (by omega),rfl,rfl,rfl,rO _ (by omega) (by omega),by omega,by omega,by omega,by omega,by omega,by omega,by omega,by omega,by omega,by omega,by omega,?_,?_,rfl⟩
 ·show _=_;omega
 ·omega
theorem wy(U A p V:Int)(h:V=U * 4294967296+A - p)(b:0<=V)(a:V < 18446744073709551616):IntKind.u64.wrap (IntKind.u64.wrap (IntKind.u64.wrap (U * 4294967296)+A) - IntKind.u64.wrap p)=V:=by
 simp only[IntKind.wrap_u64];omega
theorem Aj(u y:Int)(hu:0<=u)(a:u < 18446744073709551616)(hy:0 < y):IntKind.u64.wrap (u - IntKind.u64.wrap (u / y * y))=u % y:=by
 have b:=Int.mul_ediv_add_emod u y;have c:=Int.emod_nonneg u (show y≠0 by omega);have d:=Int.mul_nonneg (Int.ediv_nonneg hu (Int.le_of_lt hy)) (Int.le_of_lt hy);rw[Int.mul_comm] at b;generalize u / y * y=p at *;generalize u % y=r at *;simp only[IntKind.wrap_u64];omega
theorem iu(Y b c u a:Int)(hy:Y=b * 4294967296+c)(g:0<=c)(f:c < 4294967296)(e:2147483648<=b)(i:b < 4294967296)(u0:0<=u)(d:u < Y)(h:Y < 18446744073709551616)(a0:0<=a)(a1:a < 4294967296) :
  IntKind.u64.wrap (u - IntKind.u64.wrap (u / b * b))=u % b/\eK Y b u a (u / b) (u % b)/\u % b < 4294967296 :=
 ⟨Aj u b u0 (by omega) (by omega),eK.start hy g f e u0 d a0 a1,by have:=Int.emod_lt_of_pos u (show 0 < b by omega);omega⟩
theorem dr{Y:Int}(h:Dig Y u a q)(b:Y < 18446744073709551616):∃ V:Int,IntKind.u64.wrap (IntKind.u64.wrap (IntKind.u64.wrap (u * 4294967296)+a) - IntKind.u64.wrap (q * Y))=V/\0<=V/\V < Y/\Hid (V=u * 4294967296+a - q * Y):=by
 have:=h.rest;exact⟨u * 4294967296+a - q * Y,wy u a (q * Y) _ rfl this.1 (by omega),this.1,this.2,rfl⟩
theorem fe(hi lo y Y U h d Q V a:Int)(s:Nat)(hy:0 < y)(e:(U * 4294967296+h) * 4294967296+d=(hi * 18446744073709551616+lo) * 2 ^ s)(i:Y=y * 2 ^ s)(j:V=U * 4294967296+h - Q * Y)(g:Dig Y V d a) :
  Q * 4294967296+a=(hi * 18446744073709551616+lo) / y/\(V * 4294967296+d - a * Y) / 2 ^ s=(hi * 18446744073709551616+lo) % y:=by
 have hS:(0:Int) < 2 ^ s:=Int.pow_pos (by decide);have f:=g.rest;have k:=g.q0;have l:=g.q1;generalize hN:hi * 18446744073709551616+lo=N at *
 have key:N * 2 ^ s=(Q * 4294967296+a) * y * 2 ^ s+(V * 4294967296+d - a * Y):=by rw[<- e,j,i];grind
 generalize hR:V * 4294967296+d - a * Y=R at *
 have hdiv:R=(N - (Q * 4294967296+a) * y) * 2 ^ s:=by rw[Int.sub_mul];omega
 generalize hK:Q * 4294967296+a=K at *;generalize hD:N - K * y=D at *;rw[hdiv] at f;rw[i] at f
 have d0:0<=D:=by
  by_cases c:0<=D
  ·exact c
  ·have:D * 2 ^ s <= -1 * 2 ^ s:=Int.mul_le_mul_of_nonneg_right (by omega) (Int.le_of_lt hS);omega
 have d1:D < y:=Int.lt_of_mul_lt_mul_right f.2 (Int.le_of_lt hS)
 have b:N=y * K+D:=by rw[<- hD,Int.mul_comm y K];omega
 constructor
 ·have:N / y=K:=by rw[b,Int.add_comm,Int.add_mul_ediv_left _ _ (by omega),Int.ediv_eq_zero_of_lt d0 d1,Int.zero_add]
  omega
 ·rw[hdiv,Int.mul_ediv_cancel _ (by omega),b,Int.add_comm,Int.add_mul_emod_self_left,Int.emod_eq_of_lt d0 d1]
theorem oE(hi lo y:Int)(w:World)(h0:0 < hi)(h1:hi < y)(l0:0<=lo)(l1:lo < 18446744073709551616)(y1:y < 18446744073709551616) :
  Calls Tryz.prog 166 #[.int .u64 hi,.int .u64 lo,.int .u64 y] w fun e w'=>e=.returned (.tuple #[.int .u64 ((hi * 18446744073709551616+lo) / y),.int .u64 ((hi * 18446744073709551616+lo) % y)])/\w'=w:=by
 have hb0:(hi == 0)=false:=beq_eq_false_iff_ne.2 (by omega)
 have hb1:(y == 0)=false:=beq_eq_false_iff_ne.2 (by omega);go_enter Tryz.func166,Tryz.ntmps166;go_wp2_with fail;refine(DV y _ (by omega) y1).mono ?_
 rintro e w' ⟨s,rfl,hs,HS,rfl⟩;obtain⟨Y,n,K,U,A,v,i,e1,e2,e3,e4,e5,e6,e7,f,m,O,P,u0,u1,D,a10,M,S,j,x,z⟩:=xA hi lo y s (by omega) h1 l0 l1 hs HS.out;obtain⟨d2,o,t⟩:=iu Y n K U v x.out f m O P u0 u1 D a10 M;go_wp2_with fail;clear e1 e2 e3 e4 e5 e6 e7 d2 HS hb0 hb1;go_loop [15,16] (fun tq tr=>∃ q r:Int,tq=.int .u64 q/\tr=.int .u64 r/\eK Y n U v q r/\r < 4294967296) (fun tq _=>(intOf tq).toNat)
 case atStart=>exact⟨_,_,rfl,rfl,o,t⟩
 case round =>
  clear o t;obtain⟨q,r,rfl,rfl,g,hr⟩:=hrel;have q0:=g.q0;have qb:=g.qb;have r0:=g.r0;by_cases c1:4294967296<=q
  ·have b:=g.big M (by omega) u1 c1 (by omega);obtain⟨Q,J⟩:∃ Q,q - 1=Q:=⟨_,rfl⟩
   obtain⟨R,H⟩:∃ R,r+n=R:=⟨_,rfl⟩
   rw[J,H] at b;have N:=b.q0
   have G:Q < q:=by omega
   have W:R < 8589934592:=by omega
   have X:=b.r0;by_cases c2:4294967296<=R
   ·have d:Hid (Dig Y U v Q):=b.kM x.out (by omega) u1 (by omega) M f m (by omega) c2;have L:=d.out.q1;obtain⟨V,v1,v2,v3,C⟩:=dr d.out D;obtain⟨d2,o,t⟩:=iu Y n K V i x.out f m O P v2 v3 D S j;obtain⟨l,u⟩:∃ l,l=Q:=⟨_,rfl⟩
    have aa:0<=l:=by omega
    have ab:l < 4294967296:=by omega
    have C:Hid (V=U * 4294967296+v - l * Y):=by rw[u];exact C
    go_wp2_with fail;rw[<- u];clear v1 d2 u;go_loop [18,16] (fun tq tr=>∃ q r:Int,tq=.int .u64 q/\tr=.int .u64 r/\eK Y n V i q r/\r < 4294967296) (fun tq _=>(intOf tq).toNat)
    case atStart=>exact⟨_,_,rfl,rfl,o,t⟩
    case round =>
     clear o t d;obtain⟨q,r,rfl,rfl,g,hr⟩:=hrel;have q0:=g.q0;have qb:=g.qb;have r0:=g.r0;by_cases c1:4294967296<=q
     ·have b:=g.big j (by omega) v3 c1 (by omega);obtain⟨Q,J⟩:∃ Q,q - 1=Q:=⟨_,rfl⟩
      obtain⟨R,H⟩:∃ R,r+n=R:=⟨_,rfl⟩
      rw[J,H] at b;have N:=b.q0
      have G:Q < q:=by omega
      have W:R < 8589934592:=by omega
      have X:=b.r0;by_cases c2:4294967296<=R
      ·have d:Hid (Dig Y V i Q):=b.kM x.out (by omega) v3 (by omega) j f m (by omega) c2;have L:=d.out.q1;obtain⟨Z,z1,z2,z3,B⟩:=dr d.out D;go_wp2;go_ret2;have c:=fe hi lo y Y U v i l V Q s (by omega) z.out.1 z.out.2 C.out d.out;exact⟨nI c.1 (by rw[<- c.2,<- B.out]),rfl⟩
      ·have F:Hid (eK Y n V i Q R):=b;clear b g;go_wp2;go_round
       case rel=>exact⟨Q,R,rfl,rfl,F.out,by omega⟩
       case measure=>simp[intOf];omega
     ·obtain⟨p,E⟩:∃ p,q * K=p:=⟨_,rfl⟩
      have p0:0<=p:=by rw[<- E];exact Int.mul_nonneg q0 f
      have p1:p < 18446744073709551616:=by
       have:=Int.mul_le_mul (show q<=4294967295 by omega) (show K<=4294967295 by omega) f (by decide);omega
      by_cases T:4294967296 * r+i < p
      ·have b:=g.more x.out (by omega) (by omega) (by omega) (by rw[E];exact T);obtain⟨Q,J⟩:∃ Q,q - 1=Q:=⟨_,rfl⟩
       obtain⟨R,H⟩:∃ R,r+n=R:=⟨_,rfl⟩
       rw[J,H] at b;have N:=b.q0
       have G:Q < q:=by omega
       have W:R < 8589934592:=by omega
       have X:=b.r0;by_cases c2:4294967296<=R
       ·have d:Hid (Dig Y V i Q):=b.kM x.out (by omega) v3 (by omega) j f m (by omega) c2;have L:=d.out.q1;obtain⟨Z,z1,z2,z3,B⟩:=dr d.out D;go_wp2;go_ret2;have c:=fe hi lo y Y U v i l V Q s (by omega) z.out.1 z.out.2 C.out d.out;exact⟨nI c.1 (by rw[<- c.2,<- B.out]),rfl⟩
       ·have F:Hid (eK Y n V i Q R):=b;clear b g;go_wp2;go_round
        case rel=>exact⟨Q,R,rfl,rfl,F.out,by omega⟩
        case measure=>simp[intOf];omega
      ·have d:Hid (Dig Y V i q):=g.dig x.out (by omega) v3 j (by rw[E];omega);have L:=d.out.q1;have N:=d.out.q0;clear g
       have I:∃ Q,Q=q:=⟨_,rfl⟩
       obtain⟨Q,rfl⟩:=I;obtain⟨Z,z1,z2,z3,B⟩:=dr d.out D;go_wp2;go_ret2;have c:=fe hi lo y Y U v i l V Q s (by omega) z.out.1 z.out.2 C.out d.out;exact⟨nI c.1 (by rw[<- c.2,<- B.out]),rfl⟩
   ·have F:Hid (eK Y n U v Q R):=b;clear b g;go_wp2;go_round
    case rel=>exact⟨Q,R,rfl,rfl,F.out,by omega⟩
    case measure=>simp[intOf];omega
  ·obtain⟨p,E⟩:∃ p,q * K=p:=⟨_,rfl⟩
   have p0:0<=p:=by rw[<- E];exact Int.mul_nonneg q0 f
   have p1:p < 18446744073709551616:=by
    have:=Int.mul_le_mul (show q<=4294967295 by omega) (show K<=4294967295 by omega) f (by decide);omega
   by_cases T:4294967296 * r+v < p
   ·have b:=g.more x.out (by omega) (by omega) (by omega) (by rw[E];exact T);obtain⟨Q,J⟩:∃ Q,q - 1=Q:=⟨_,rfl⟩
    obtain⟨R,H⟩:∃ R,r+n=R:=⟨_,rfl⟩
    rw[J,H] at b;have N:=b.q0
    have G:Q < q:=by omega
    have W:R < 8589934592:=by omega
    have X:=b.r0;by_cases c2:4294967296<=R
    ·have d:Hid (Dig Y U v Q):=b.kM x.out (by omega) u1 (by omega) M f m (by omega) c2;have L:=d.out.q1;obtain⟨V,v1,v2,v3,C⟩:=dr d.out D;obtain⟨d2,o,t⟩:=iu Y n K V i x.out f m O P v2 v3 D S j;obtain⟨l,u⟩:∃ l,l=Q:=⟨_,rfl⟩
     have aa:0<=l:=by omega
     have ab:l < 4294967296:=by omega
     have C:Hid (V=U * 4294967296+v - l * Y):=by rw[u];exact C
     go_wp2_with fail;rw[<- u];clear v1 d2 u;go_loop [18,16] (fun tq tr=>∃ q r:Int,tq=.int .u64 q/\tr=.int .u64 r/\eK Y n V i q r/\r < 4294967296) (fun tq _=>(intOf tq).toNat)
     case atStart=>exact⟨_,_,rfl,rfl,o,t⟩
     case round =>
      clear o t d;obtain⟨q,r,rfl,rfl,g,hr⟩:=hrel;have q0:=g.q0;have qb:=g.qb;have r0:=g.r0;by_cases c1:4294967296<=q
      ·have b:=g.big j (by omega) v3 c1 (by omega);obtain⟨Q,J⟩:∃ Q,q - 1=Q:=⟨_,rfl⟩
       obtain⟨R,H⟩:∃ R,r+n=R:=⟨_,rfl⟩
       rw[J,H] at b;have N:=b.q0
       have G:Q < q:=by omega
       have W:R < 8589934592:=by omega
       have X:=b.r0;by_cases c2:4294967296<=R
       ·have d:Hid (Dig Y V i Q):=b.kM x.out (by omega) v3 (by omega) j f m (by omega) c2;have L:=d.out.q1;obtain⟨Z,z1,z2,z3,B⟩:=dr d.out D;go_wp2;go_ret2;have c:=fe hi lo y Y U v i l V Q s (by omega) z.out.1 z.out.2 C.out d.out;exact⟨nI c.1 (by rw[<- c.2,<- B.out]),rfl⟩
       ·have F:Hid (eK Y n V i Q R):=b;clear b g;go_wp2;go_round
        case rel=>exact⟨Q,R,rfl,rfl,F.out,by omega⟩
        case measure=>simp[intOf];omega
      ·obtain⟨p,E⟩:∃ p,q * K=p:=⟨_,rfl⟩
       have p0:0<=p:=by rw[<- E];exact Int.mul_nonneg q0 f
       have p1:p < 18446744073709551616:=by
        have:=Int.mul_le_mul (show q<=4294967295 by omega) (show K<=4294967295 by omega) f (by decide);omega
       by_cases T:4294967296 * r+i < p
       ·have b:=g.more x.out (by omega) (by omega) (by omega) (by rw[E];exact T);obtain⟨Q,J⟩:∃ Q,q - 1=Q:=⟨_,rfl⟩
        obtain⟨R,H⟩:∃ R,r+n=R:=⟨_,rfl⟩
        rw[J,H] at b;have N:=b.q0
        have G:Q < q:=by omega
        have W:R < 8589934592:=by omega
        have X:=b.r0;by_cases c2:4294967296<=R
        ·have d:Hid (Dig Y V i Q):=b.kM x.out (by omega) v3 (by omega) j f m (by omega) c2;have L:=d.out.q1;obtain⟨Z,z1,z2,z3,B⟩:=dr d.out D;go_wp2;go_ret2;have c:=fe hi lo y Y U v i l V Q s (by omega) z.out.1 z.out.2 C.out d.out;exact⟨nI c.1 (by rw[<- c.2,<- B.out]),rfl⟩
        ·have F:Hid (eK Y n V i Q R):=b;clear b g;go_wp2;go_round
         case rel=>exact⟨Q,R,rfl,rfl,F.out,by omega⟩
         case measure=>simp[intOf];omega
       ·have d:Hid (Dig Y V i q):=g.dig x.out (by omega) v3 j (by rw[E];omega);have L:=d.out.q1;have N:=d.out.q0;clear g
        have I:∃ Q,Q=q:=⟨_,rfl⟩
        obtain⟨Q,rfl⟩:=I;obtain⟨Z,z1,z2,z3,B⟩:=dr d.out D;go_wp2;go_ret2;have c:=fe hi lo y Y U v i l V Q s (by omega) z.out.1 z.out.2 C.out d.out;exact⟨nI c.1 (by rw[<- c.2,<- B.out]),rfl⟩
    ·have F:Hid (eK Y n U v Q R):=b;clear b g;go_wp2;go_round
     case rel=>exact⟨Q,R,rfl,rfl,F.out,by omega⟩
     case measure=>simp[intOf];omega
   ·have d:Hid (Dig Y U v q):=g.dig x.out (by omega) u1 M (by rw[E];omega);have L:=d.out.q1;have N:=d.out.q0;clear g
    have I:∃ Q,Q=q:=⟨_,rfl⟩
    obtain⟨Q,rfl⟩:=I;obtain⟨V,v1,v2,v3,C⟩:=dr d.out D;obtain⟨d2,o,t⟩:=iu Y n K V i x.out f m O P v2 v3 D S j;obtain⟨l,u⟩:∃ l,l=Q:=⟨_,rfl⟩
    have aa:0<=l:=by omega
    have ab:l < 4294967296:=by omega
    have C:Hid (V=U * 4294967296+v - l * Y):=by rw[u];exact C
    go_wp2_with fail;rw[<- u];clear v1 d2 u;go_loop [18,16] (fun tq tr=>∃ q r:Int,tq=.int .u64 q/\tr=.int .u64 r/\eK Y n V i q r/\r < 4294967296) (fun tq _=>(intOf tq).toNat)
    case atStart=>exact⟨_,_,rfl,rfl,o,t⟩
    case round =>
     clear o t d;obtain⟨q,r,rfl,rfl,g,hr⟩:=hrel;have q0:=g.q0;have qb:=g.qb;have r0:=g.r0;by_cases c1:4294967296<=q
     ·have b:=g.big j (by omega) v3 c1 (by omega);obtain⟨Q,J⟩:∃ Q,q - 1=Q:=⟨_,rfl⟩
      obtain⟨R,H⟩:∃ R,r+n=R:=⟨_,rfl⟩
      rw[J,H] at b;have N:=b.q0
      have G:Q < q:=by omega
      have W:R < 8589934592:=by omega
      have X:=b.r0;by_cases c2:4294967296<=R
      ·have d:Hid (Dig Y V i Q):=b.kM x.out (by omega) v3 (by omega) j f m (by omega) c2;have L:=d.out.q1;obtain⟨Z,z1,z2,z3,B⟩:=dr d.out D;go_wp2;go_ret2;have c:=fe hi lo y Y U v i l V Q s (by omega) z.out.1 z.out.2 C.out d.out;exact⟨nI c.1 (by rw[<- c.2,<- B.out]),rfl⟩
      ·have F:Hid (eK Y n V i Q R):=b;clear b g;go_wp2;go_round
       case rel=>exact⟨Q,R,rfl,rfl,F.out,by omega⟩
       case measure=>simp[intOf];omega
     ·obtain⟨p,E⟩:∃ p,q * K=p:=⟨_,rfl⟩
      have p0:0<=p:=by rw[<- E];exact Int.mul_nonneg q0 f
      have p1:p < 18446744073709551616:=by
       have:=Int.mul_le_mul (show q<=4294967295 by omega) (show K<=4294967295 by omega) f (by decide);omega
      by_cases T:4294967296 * r+i < p
      ·have b:=g.more x.out (by omega) (by omega) (by omega) (by rw[E];exact T);obtain⟨Q,J⟩:∃ Q,q - 1=Q:=⟨_,rfl⟩
       obtain⟨R,H⟩:∃ R,r+n=R:=⟨_,rfl⟩
       rw[J,H] at b;have N:=b.q0
       have G:Q < q:=by omega
       have W:R < 8589934592:=by omega
       have X:=b.r0;by_cases c2:4294967296<=R
       ·have d:Hid (Dig Y V i Q):=b.kM x.out (by omega) v3 (by omega) j f m (by omega) c2;have L:=d.out.q1;obtain⟨Z,z1,z2,z3,B⟩:=dr d.out D;go_wp2;go_ret2;have c:=fe hi lo y Y U v i l V Q s (by omega) z.out.1 z.out.2 C.out d.out;exact⟨nI c.1 (by rw[<- c.2,<- B.out]),rfl⟩
       ·have F:Hid (eK Y n V i Q R):=b;clear b g;go_wp2;go_round
        case rel=>exact⟨Q,R,rfl,rfl,F.out,by omega⟩
        case measure=>simp[intOf];omega
      ·have d:Hid (Dig Y V i q):=g.dig x.out (by omega) v3 j (by rw[E];omega);have L:=d.out.q1;have N:=d.out.q0;clear g
       have I:∃ Q,Q=q:=⟨_,rfl⟩
       obtain⟨Q,rfl⟩:=I;obtain⟨Z,z1,z2,z3,B⟩:=dr d.out D;go_wp2;go_ret2;have c:=fe hi lo y Y U v i l V Q s (by omega) z.out.1 z.out.2 C.out d.out;exact⟨nI c.1 (by rw[<- c.2,<- B.out]),rfl⟩
theorem np(lo y:Int)(w:World)(hy:0 < y)(c:0<=lo)(l1:lo < 18446744073709551616)(y1:y < 18446744073709551616) :
  Calls Tryz.prog 166 #[.int .u64 0,.int .u64 lo,.int .u64 y] w fun e w'=>e=.returned (.tuple #[.int .u64 (lo / y),.int .u64 (lo % y)])/\∃ n,w'=w.drewN n:=by
 have b:(y == 0)=false:=beq_eq_false_iff_ne.2 (by omega);go_enter Tryz.func166,Tryz.ntmps166;go_wp2_with fail;go_quiet (fail);go_wp2;go_ret2;exact⟨rfl,_,rfl⟩
theorem div64(hi lo y:Int)(w:World)(f:0<=hi)(b:hi < y)(a:0<=lo)(l1:lo < 18446744073709551616)(y1:y < 18446744073709551616) :
  Calls Tryz.prog 166 #[.int .u64 hi,.int .u64 lo,.int .u64 y] w fun e w'=>∃ q r:Int,e=.returned (.tuple #[.int .u64 q,.int .u64 r])/\0<=q/\q < 18446744073709551616/\0<=r/\r < y/\Hid (q * y+r=hi * 18446744073709551616+lo)/\∃ n,w'=w.drewN n:=by
 have fin:∀ N:Int,0<=N->N < y * 18446744073709551616->0<=N / y/\N / y < 18446744073709551616/\0<=N % y/\N % y < y/\Hid (N / y * y+N % y=N):=by
  intro N n0 d;refine⟨Int.ediv_nonneg n0 (by omega),(Int.ediv_lt_iff_lt_mul (by omega)).2 (by rw[Int.mul_comm];exact d),Int.emod_nonneg _ (by omega),Int.emod_lt_of_pos _ (by omega),?_⟩
  show _=_
  rw[Int.mul_comm];exact Int.mul_ediv_add_emod N y
 by_cases c:hi=0
 ·subst c;refine(np lo y w (by omega) a l1 y1).mono ?_
  rintro e w' ⟨rfl,hw⟩;obtain⟨f1,f2,f3,f4,f5⟩:=fin lo a (by omega);exact⟨_,_,rfl,f1,f2,f3,f4,by simpa using f5,hw⟩
 ·refine(oE hi lo y w (by omega) b a l1 y1).mono ?_
  rintro e w' ⟨rfl,rfl⟩;obtain⟨f1,f2,f3,f4,f5⟩:=fin (hi * 18446744073709551616+lo) (by omega) (by omega);exact⟨_,_,rfl,f1,f2,f3,f4,f5,0,rfl⟩
end
end
section
open Go.RowKit Lim
section
variable {l:List Int}{h:Nat}
theorem dS(hl:h < l.length):val (l.drop h)=nth l h+18446744073709551616 * val (l.drop (h+1)):=by
 rw[List.drop_eq_getElem_cons hl,val,bV hl]
structure jm(lz:List Int)(d:Int)(h:Nat)(lz1:List Int)(left:Int):Prop where
 len:lz1.length=lz.length
 words:Words lz1
 low:∀ i,i < h->nth lz1 i=nth lz i
 val:Lim.val (lz1.drop h) * d+left=Lim.val (lz.drop h)
theorem jm.step{lz lz1:List Int}{d left q r:Int}(hv:jm lz d (h+1) lz1 left)(a:h < lz.length)(q0:0<=q)(q1:q < 18446744073709551616)(e:q * d+r=left * 18446744073709551616+nth lz h):jm lz d h (lz1.set h q) r:=by
 have b:=hv.len;refine⟨by simp[b],hv.words.set h q0 q1,fun i hi=>by rw[dD (by omega),if_neg (by omega)];exact hv.low i (by omega),?_⟩;rw[dS (by simp;omega),dD (by omega),if_pos rfl,List.drop_set,if_pos (by omega),dS a,<- hv.val];grind
theorem gJ(s:Option Addr)(l j b E:Nat)(d:Int)(lz:List Int)(w:World)(n:lz.length=b)(F:b<=2199023255552)(m:b<=E)(d0:0 < d)(d1:d < 18446744073709551616)(v:Words lz)(y:At w s l j lz)(D:dE w l j b) :
  Calls Tryz.prog 113 #[.slice s b E,.int .u64 d] w fun e w'=>∃ (left:Int) (lz':List Int),e=.returned (.int .u64 left)/\0<=left/\left < d/\lz'.length=b/\Words lz'/\At w' s l j lz'/\Wr l j b w w'/\val lz' * d+left=val lz:=by
 go_enter Tryz.func113,Tryz.ntmps113;go_wp2;go_loopw [5,10] (fun tc A wr=>∃ (k:Nat) (c:Int) (f:List Int),k<=b/\A=.int .i64 k/\tc=.int .u64 c/\0<=c/\c < d/\jm lz d (b - k) f c/\At wr s l j f/\Wr l j b w wr) (fun _ A _=>b - (intOf A).toNat)
 case atStart=>exact⟨0,0,lz,Nat.zero_le _,rfl,rfl,by decide,d0,⟨rfl,v,fun _ _=>rfl,by simp[<- n,val]⟩,y,Wr.refl _ _ _ _⟩
 case round =>
  obtain⟨k,c,f,O,rfl,rfl,p,o,hinv,i,g⟩:=hrel;have x:=hinv.len;by_cases N:k < b
  ·rcases y.loc with e | rfl
   ·subst e;simp at n;omega
   obtain⟨h,G⟩:∃ h:Nat,b=h+1+k:=⟨b - 1 - k,by omega⟩
   have m:=i.cell h (by omega);have M:=g.free D h (by omega);have u:=v.nth h;rw[hinv.low h (by omega)] at m
   have I:(b:Int) - 1 - k=h:=by omega
   have J:(h:Int) < b:=by omega
   obtain⟨C,B⟩:=u
   have K:Hid (jm lz d (h+1) f c):=by rw[show h+1=b - k from by omega];exact hinv
   have L:Hid (b=h+1+k):=G;clear G hinv y v;go_wp2_with (go_at_call 166;refine(div64 _ _ _ _ p o C B d1).mono ?_;rintro e w' ⟨q,r,rfl,q0,q1,r0,r1,t,H,rfl⟩);have hn:=L.out;refine⟨⟨k+1,r,f.set h q,by omega,by go_num,rfl,r0,r1,by rw[show b - (k+1)=h from by omega];exact K.out.step (by omega) q0 q1 t.out,?_,?_⟩,by simp[intOf];omega⟩
   ·exact(i.setCell (by omega) q).drewN H
   ·exact(g.setCell (by omega) (by omega) _).drewN H
  ·have z:k=b:=by omega
   subst z;go_wp2;go_ret;refine⟨c,f,rfl,p,o,by omega,hinv.words,i,g,?_⟩;have:=hinv.val;rwa [Nat.sub_self,List.drop_zero,List.drop_zero] at this
end
end
section
open Go.RowKit Lim
theorem dI.of {w w':World} {l:List Int} {ao:Option Addr} {n c b o:Nat} (hn:n=l.length) (d:n<=c) (a:w.heap.size<=b) (f:At w' ao b o l) (e:dE w' b o n):dI w w' (.slice ao n c) l:=by
 subst hn;exact⟨ao,b,o,c,rfl,d,a,f,e⟩
theorem jr (ao:Option Addr) (n c b o:Nat) (l:List Int) (w:World) (r:l.length=n) (hc:n<=c) (q:n<=1099511627776) (p:At w ao b o l) :
  Calls Tryz.prog 112 #[.slice ao n c] w fun e w'=>e=.returned (.slice (some ⟨w.heap.size,0,none⟩) (aE l) (aE l))/\Row w' w.heap.size (norm l)/\Below w.heap.size w w':=by
 have hn:=bC l;have t1:=bp ao n c l w r hc (by omega) p.cells;have hs:=p.sub (aE l);have i:=aJ l;rw[show l.take (aE l)=norm l from rfl] at hs;generalize aE l=N at *;generalize norm l=L at *;go_enter Tryz.func112,Tryz.ntmps112;go_wp2_with fail;refine t1.mono ?_
 rintro e t ⟨rfl,rfl⟩;clear t1
 go_wp2_with (first
  | (at_make;refine cY rfl _ _ rfl N _ _ rfl rfl rfl rfl (by omega) ?_;intro u g d s;have j:=hs.keep d)
  | (refine gq rfl (.tmp 10) (.tmp 11) rfl _ _ _ _ _ _ rfl rfl _ _ g (by simp) _ _ i (Nat.le_refl _) j ?_;intro v f m))
 go_ret;refine⟨rfl,?_,?_⟩
 ·simpa using f
 ·exact d.trans (m.below (Nat.le_refl _))
end
section
open Go.RowKit Lim
section
variable {lz lb lz1:List Int}{m c:Int}{k:Nat}
theorem zC(z x m c hi lo:Int)(a:0<=z/\z < 18446744073709551616)(hc:0<=c/\c < 18446744073709551616)(e:0<=hi)(b:hi<=18446744073709551614)(d:0<=lo)(f:lo < 18446744073709551616)(g:hi * 18446744073709551616+lo=x * m)(hb:x * m<=340282366920938463426481119284349108225) :
  0<=hi+(lo+c) / 18446744073709551616/\hi+(lo+c) / 18446744073709551616<=18446744073709551615 /\
  0<=hi+(lo+c) / 18446744073709551616+(z+(lo+c) % 18446744073709551616) / 18446744073709551616 /\
  hi+(lo+c) / 18446744073709551616+(z+(lo+c) % 18446744073709551616) / 18446744073709551616<=18446744073709551615 /\
  (z+(lo+c) % 18446744073709551616) % 18446744073709551616+18446744073709551616 * (hi+(lo+c) / 18446744073709551616+(z+(lo+c) % 18446744073709551616) / 18446744073709551616)=z+x * m+c:=by
 omega
def dj(lz lb:List Int)(m:Int)(k:Nat)(lz1:List Int)(c:Int):Prop :=
 lz1.length=lz.length/\Words lz1/\(∀ i,k<=i->nth lz1 i=nth lz i)/\val (lz1.take k)+18446744073709551616 ^ k * c=val (lz.take k)+val (lb.take k) * m
theorem dj.step{a c':Int}(h:dj lz lb m k lz1 c)(j:k < lz.length)(d:0<=a)(b:a < 18446744073709551616)(e:a+18446744073709551616 * c'=nth lz k+nth lb k * m+c):dj lz lb m (k+1) (lz1.set k a) c':=by
 obtain⟨f,l,n,o⟩:=h;refine⟨by simp[f],l.set k d b,fun i hi=>?_,?_⟩
 ·rw[dD (by omega),if_neg (by omega)];exact n i (by omega)
 ·have hb:val (lb.take (k+1))=val (lb.take k)+18446744073709551616 ^ k * nth lb k:=by
   by_cases g:k < lb.length
   ·exact dw g
   ·rw[List.take_of_length_le (by omega),List.take_of_length_le (by omega),fS (by omega)];simp
  rw[dw (by simp[f];omega),dw j,hb,List.take_set_of_le (Nat.le_refl _),dD (by omega),if_pos rfl,Int.pow_succ];have:18446744073709551616 ^ k * (a+18446744073709551616 * c')=18446744073709551616 ^ k * (nth lz k+nth lb k * m+c):=by rw[e]
  grind
theorem dj.done{n:Nat}(hn:lz.length=n)(h:dj lz lb m k lz1 c)(hc:c=0\/lz.length=k)(r:lb.length<=k)(j:k<=n) :
  val lz1=(val lz+val lb * m) % 18446744073709551616 ^ n:=by
 obtain⟨d,f,q,b⟩:=h;rw[List.take_of_length_le (l:=lb) (by omega)] at b;have a:=dy f;have g:=aL f;rw[d,hn] at a;rcases hc with e | e
 ·subst e
  have o:lz1.drop k=lz.drop k:=lG (by simp[d]) fun i hi=>by rw[dH,dH];exact q _ (by omega)
  have e1:=bF lz1 k (by omega);have e2:=bF lz k (by omega);rw[o] at e1;have:val lz+val lb * m=val lz1:=by rw[e1,e2];simp only[Int.mul_zero,Int.add_zero] at b;omega
  rw[this];exact(Int.emod_eq_of_lt g a).symm
 ·have p:k=n:=by omega
  subst p;rw[List.take_of_length_le (l:=lz1) (by omega),List.take_of_length_le (l:=lz) (by omega)] at b;rw[<- b,Int.add_mul_emod_self_left];exact(Int.emod_eq_of_lt g a).symm
theorem ee(E:Option Addr)(n o i Z:Nat)(ab:Option Addr)(bb ob u cb:Nat)(m:Int)(lz lb:List Int)(w:World)(z:lz.length=i)(S:lb.length=u)(hle:u≤i)(aa:i≤2199023255552)(r:i≤Z)(K:u≤cb)(F:0≤m)(P:m < 18446744073709551616)(I:Words lz)(Q:Words lb)(G:At w E n o lz)(t:dE w n o i)(hb:At w ab bb ob lb)(B:lb=[]∨bb≠n) :
    Calls Tryz.prog 59 #[.slice E i Z, .slice ab u cb, .int .u64 m] w fun e w' => e = .returned (.tuple #[]) ∧
      ∃ lz',lz'.length=i∧Words lz'∧At w' E n o lz'∧Wr n o i w w'∧val lz'=(val lz+val lb * m) % 18446744073709551616 ^ i:=by
  go_enter Tryz.func59,Tryz.ntmps59;go_wp2;go_loopw [6,14] (fun tc y wr=>∃ (k:Nat) (c:Int) (g:List Int),k≤u∧y=.int .i64 k∧tc=.int .u64 c∧0≤c∧c < 18446744073709551616∧dj lz lb m k g c∧At wr E n o g∧Wr n o i w wr) (fun _ y _=>u - (intOf y).toNat)
  case atStart=>exact⟨0,0,lz,Nat.zero_le _,rfl,rfl,by decide,by decide,⟨rfl,I,fun _ _=>rfl,by simp[val]⟩,G,Wr.refl _ _ _ _⟩
  case round =>
    obtain⟨k,c,g,hk,rfl,rfl,s,x,hinv,f,b⟩:= hrel;have A:=hinv.1;by_cases hlt:k < u
    · rcases hb.loc with e | rfl
      · subst e;simp at S;omega
      rcases G.loc with e | rfl
      · subst e;simp at z;omega
      have D:=hb.wr b B;have K:=D.cell k (by omega);have r:=f.cell k (by omega);have U:=b.free t k (by omega);have hx:=Q.nth k;have v:=I.nth k;rw[hinv.2.2.1 k (Nat.le_refl _)] at r;obtain⟨R,N⟩:= hx;obtain⟨q,H⟩:= v
      have C:Hid (dj lz lb m k g c):=hinv
      have O:Hid (At wr (some ⟨n,o,none⟩) n o g):=f
      have W:Hid (Wr n o i w wr):=b;clear hinv f b D G hb t I Q B
      go_wp2_with (first
        | (go_at_call 89;refine(lp _ _ R N F P _).mono ?_;rintro e w' ⟨hi,lo,rfl,h1,h2,h3,h4,h5,rfl⟩)
        | simp only[qE _ _ h3 s]
        | simp only[BO _ _ q])
      have M:nth lb k * m≤340282366920938463426481119284349108225:=by
        have:=Int.mul_le_mul (show nth lb k≤18446744073709551615 by omega) (show m≤18446744073709551615 by omega) F (by decide);simpa using this
      obtain⟨s1,s2,s3,s4,J⟩:= zC (nth lz k) (nth lb k) m c hi lo ⟨q,H⟩ ⟨s,x⟩ h1 h2 h3 h4 h5 M;rw[Int.add_emod_emod] at J;rw[IntWalk.u64_in _ ⟨s3,s4⟩];refine⟨⟨k+1,_,_,by omega,by go_num,rfl,s3,by omega,C.out.step (by omega) (Int.emod_nonneg _ (by decide)) (Int.emod_lt_of_pos _ (by decide)) J,O.out.setCell (by omega) _,W.out.setCell (by omega) (by omega) _⟩,by simp[intOf];omega⟩
    · have T : k = u := by omega
      subst T
      have C:Hid (dj lz lb m k g c):=hinv;clear hinv;go_wp2;go_loopw [6,11] (fun tc y wr=>∃ (j:Nat) (c:Int) (g:List Int),k≤j∧j≤i∧y=.int .i64 j∧tc=.int .u64 c∧0≤c∧c < 18446744073709551616∧dj lz lb m j g c∧At wr E n o g∧Wr n o i w wr) (fun _ y _=>i - (intOf y).toNat)
      case atStart=>exact⟨k,c,g,Nat.le_refl _,by omega,rfl,rfl,s,x,C.out,f,b⟩
      case round =>
        clear f b C A s x;obtain⟨j,d,p,hkj,hj,rfl,rfl,V,hd1,hinv,f,b⟩:= hrel;have X:=hinv.1;by_cases Y:j < i
        · by_cases hd:d=0
          · subst hd
            go_wp2;go_end0;refine⟨rfl,p,by omega,hinv.2.1,f,b,?_⟩;exact dj.done (by omega) hinv (.inl rfl) (by omega) (by omega)
          · rcases G.loc with e | rfl
            · subst e;simp at z;omega
            have r:=f.cell j (by omega);have U:=b.free t j (by omega);have v:=I.nth j;rw[hinv.2.2.1 j (Nat.le_refl _)] at r;obtain⟨q,H⟩:= v
            have hdb:(d != 0)=true:=by rw[bne_iff_ne];exact hd
            have C:Hid (dj lz lb m j p d):=hinv
            have O:Hid (At wr (some ⟨n,o,none⟩) n o p):=f
            have W:Hid (Wr n o i w wr):=b;clear hinv f b G hb t I Q B;go_wp2_with (simp only[qE _ _ q V])
            have J:(nth lz j+d) % 18446744073709551616+18446744073709551616 * ((nth lz j+d) / 18446744073709551616)=nth lz j+nth lb j * m+d:=by
              rw[fS (l:=lb) (by omega)];omega
            refine⟨⟨j+1,_,_,by omega,by omega,by go_num,rfl,by omega,by omega,C.out.step (by omega) (Int.emod_nonneg _ (by decide)) (Int.emod_lt_of_pos _ (by decide)) J,O.out.setCell (by omega) _,W.out.setCell (by omega) (by omega) _⟩,by simp[intOf];omega⟩
        · have L : j = i := by omega
          subst L;go_wp2;go_end0;refine⟨rfl,p,by omega,hinv.2.1,f,b,?_⟩;exact dj.done (by omega) hinv (.inr z) (by omega) (by omega)
end
end
section
open Go.RowKit Lim
section
variable {l:List Int}
theorem pG{n:Int}(h:IsN l n):0<=n/\n < 18446744073709551616 ^ l.length:=by
 rw[<- h.2.2];exact⟨aL h.1,dy h.1⟩
theorem pow_pos(k:Nat):(0:Int) < 18446744073709551616 ^ k:=Int.pow_pos (by decide)
theorem uI{L L' lz:List Int}{x y:Int}(hL:IsN L x)(a:IsN L' y)(hle:L'.length<=L.length)(hw:Words lz)(hv:val lz=(val (L ++ [0])+val L' * 1) % 18446744073709551616 ^ (L.length+1)):IsN (norm lz) (x+y):=by
 have b:=pG hL;have d:=pG a;have f:=gT hle;have c:=pow_pos L.length
 have e:val (L ++ [0])+val L' * 1=x+y:=by rw[ea,hL.2.2,a.2.2];simp[val]
 rw[e,Int.emod_eq_of_lt (by omega) (by rw[Int.pow_succ];omega)] at hv;rw[<- hv];exact cA hw
theorem eD(n:Nat):Words (List.replicate n 0):=fun x hx=>by rw[List.eq_of_mem_replicate hx];decide
theorem CM(ao:Option Addr)(n c b o:Nat)(ao':Option Addr)(n' c' b' o':Nat)(l u:List Int)(w:World)(hl:l.length=n)(Z:u.length=n')(hc:n<=c)(V:n'<=c')(hbig:n<=1099511627776)(W:n'<=1099511627776)(wl:Words l)(Y:Words u)(ha:At w ao b o l)(J:At w ao' b' o' u) :
  Calls Tryz.prog 23 #[.slice ao n c,.slice ao' n' c'] w fun e w'=>∃ v r,e=.returned v/\dI w w' v r/\IsN r (val l+val u)/\r.length<=n+n' + 1/\Below w.heap.size w w':=by
 have hn:=bC l
 have hn':=bC u;have t1:=bp ao n c l w hl hc (by omega) ha.cells;have t2:=bp ao' n' c' u w Z V (by omega) J.cells;have hs:=ha.sub (aE l)
 have E:=J.sub (aE u);have D:=aJ l
 have t:=aJ u;have S:=cA wl
 have F:=cA Y;rw[show l.take (aE l)=norm l from rfl] at hs;rw[show u.take (aE u)=norm u from rfl] at E;generalize aE l=N at *;generalize aE u=I at *;generalize norm l=L at *;generalize norm u=T at *;clear ha J;go_enter Tryz.func23,Tryz.ntmps23;go_wp2_with fail;refine t1.mono ?_
 rintro e w1 ⟨rfl,rfl⟩;go_wp2_with fail;refine t2.mono ?_
 rintro e G ⟨rfl,rfl⟩;clear t1 t2;by_cases hlt:N < I
 ·have C:L=[]\/b≠G.heap.size:=by
   rcases hs.lt with e | e
   ·exact .inl e
   ·exact .inr (by omega)
  go_wp2_with (first
   | (at_make;refine cY rfl _ _ rfl (I+1) _ _ rfl rfl (by omega) (by omega) (by omega) ?_;intro w3 s d hsz;have x:=E.keep d;have z:=hs.keep d)
   | (refine gq rfl (.tmp 23) (.tmp 24) rfl _ _ _ _ _ _ rfl rfl _ _ s (by simp) _ _ t (by omega) x ?_;intro Q f g))
  have q:Row Q G.heap.size (T ++ [0]):=by
   have:=f;rw[List.drop_replicate,show I+1 - I=1 from by omega] at this;simpa using this
  have B:=z.wr g C;refine(ee _ G.heap.size 0 _ _ _ b o _ _ 1 (T ++ [0]) L Q (by simp[t]) D (by omega) (by omega) (Nat.le_refl _) (Nat.le_refl _) (by decide) (by decide) (F.1.append (eD 1)) S.1 q.at (q.free _ _) B C).mono ?_
  rintro e X ⟨rfl,p,H,M,m,j,y⟩
  have HF:IsN (norm p) (_+_):=uI F S (by omega) M (by rw[y,t]);have P:=j.free (q.free 0 (I+1));have hz1:=bC p;have O:=aJ p;have A:=m.sub (aE p);have U:=(d.trans (g.below (Nat.le_refl _))).trans (j.below (Nat.le_refl _));rw[show p.take (aE p)=norm p from rfl] at A;have t3:=bp (some ⟨G.heap.size,0,none⟩) (I+1) (I+1) p X H (Nat.le_refl _) (by omega) m.cells;clear q B z x s f g j d m y;generalize aE p=K at *;generalize norm p=R at *;go_wp2_with fail;refine t3.mono ?_
  rintro e w6 ⟨rfl,rfl⟩;go_wp2;go_ret;exact⟨_,R,rfl,dI.of O.symm (Nat.le_refl _) (Nat.le_refl _) A (fun i hi=>P i (by omega)),by rw[Int.add_comm];exact HF,by omega,U⟩
 ·have C:T=[]\/b'≠G.heap.size:=by
   rcases E.lt with e | e
   ·exact .inl e
   ·exact .inr (by omega)
  go_wp2_with (first
   | (at_make;refine cY rfl _ _ rfl (N+1) _ _ rfl rfl (by omega) (by omega) (by omega) ?_;intro w3 s d hsz;have x:=hs.keep d;have z:=E.keep d)
   | (refine gq rfl (.tmp 23) (.tmp 24) rfl _ _ _ _ _ _ rfl rfl _ _ s (by simp) _ _ D (by omega) x ?_;intro Q f g))
  have q:Row Q G.heap.size (L ++ [0]):=by
   have:=f;rw[List.drop_replicate,show N+1 - N=1 from by omega] at this;simpa using this
  have B:=z.wr g C;refine(ee _ G.heap.size 0 _ _ _ b' o' _ _ 1 (L ++ [0]) T Q (by simp[D]) t (by omega) (by omega) (Nat.le_refl _) (Nat.le_refl _) (by decide) (by decide) (S.1.append (eD 1)) F.1 q.at (q.free _ _) B C).mono ?_
  rintro e X ⟨rfl,p,H,M,m,j,y⟩
  have HF:IsN (norm p) (_+_):=uI S F (by omega) M (by rw[y,D]);have P:=j.free (q.free 0 (N+1));have hz1:=bC p;have O:=aJ p;have A:=m.sub (aE p);have U:=(d.trans (g.below (Nat.le_refl _))).trans (j.below (Nat.le_refl _));rw[show p.take (aE p)=norm p from rfl] at A;have t3:=bp (some ⟨G.heap.size,0,none⟩) (N+1) (N+1) p X H (Nat.le_refl _) (by omega) m.cells;clear q B z x s f g j d m y;generalize aE p=K at *;generalize norm p=R at *;go_wp2_with fail;refine t3.mono ?_
  rintro e w6 ⟨rfl,rfl⟩;go_wp2;go_ret;exact⟨_,R,rfl,dI.of O.symm (Nat.le_refl _) (Nat.le_refl _) A (fun i hi=>P i (by omega)),HF,by omega,U⟩
end
end
section
open Go.RowKit Lim
theorem xY (x y:Int):0<=bor x y/\bor x y<=1:=by unfold bor;split<;>decide
theorem vN (x y:Int) (hx:0<=x/\x < 18446744073709551616) (hy:0<=y/\y < 18446744073709551616):(x - y) % 18446744073709551616=x - y+18446744073709551616 * bor x y:=by
 unfold bor;split<;>omega
theorem DO (x y:Int) (hx:0<=x) (a:x < 18446744073709551616) (w:World):(callFunc 168 #[.int .u64 x,.int .u64 (y % 18446744073709551616),.int .u64 0]).run Tryz.prog w =
  .ok (.value (.tuple #[.int .u64 ((x - y % 18446744073709551616) % 18446744073709551616),.int .u64 (bor x (y % 18446744073709551616))])) w :=
 Ef x _ hx a (Int.emod_nonneg _ (by decide)) (Int.emod_lt_of_pos _ (by decide)) w
theorem wg (z x m c hi lo:Int) (a:0<=z/\z < 18446744073709551616) (hc:0<=c/\c < 18446744073709551616) (e:0<=hi) (b:hi<=18446744073709551614) (d:0<=lo) (f:lo < 18446744073709551616) (g:hi * 18446744073709551616+lo=x * m)
  (hb:x * m<=340282366920938463426481119284349108225) :
  0<=hi+(lo+c) / 18446744073709551616/\hi+(lo+c) / 18446744073709551616<=18446744073709551615 /\
  0<=hi+(lo+c) / 18446744073709551616+bor z ((lo+c) % 18446744073709551616) /\
  hi+(lo+c) / 18446744073709551616+bor z ((lo+c) % 18446744073709551616)<=18446744073709551615 /\
  (z - (lo+c) % 18446744073709551616) % 18446744073709551616+18446744073709551616 * (-(hi+(lo+c) / 18446744073709551616+bor z ((lo+c) % 18446744073709551616)))=z+x * -m + -c:=by
 rw[vN z _ a ⟨by omega,by omega⟩,show x * -m=-(x * m) from Int.mul_neg x m];have:=xY z ((lo+c) % 18446744073709551616);unfold bor at *;split<;>omega
theorem dj.fR {lz lb lz1:List Int} {m c:Int} {k n:Nat} (hn:lz.length=n) (h:dj lz lb m k lz1 c) (hc:c=0\/lz.length=k) (o:lb.length<=k) (b:k<=n) :
  val lz1+18446744073709551616 ^ n * c=val lz+val lb * m:=by
 obtain⟨d,p,j,a⟩:=h;rw[List.take_of_length_le (l:=lb) (by omega)] at a;rcases hc with e | e
 ·subst e
  have f:lz1.drop k=lz.drop k:=lG (by simp[d]) fun i hi=>by rw[dH,dH];exact j _ (by omega)
  have e1:=bF lz1 k (by omega);have e2:=bF lz k (by omega);rw[f] at e1;simp only[Int.mul_zero,Int.add_zero] at a ⊢;rw[e1,e2];omega
 ·have g:k=n:=by omega
  subst g;rw[List.take_of_length_le (l:=lz1) (by omega),List.take_of_length_le (l:=lz) (by omega)] at a;exact a
theorem iO (A:Option Addr) (o p g cz:Nat) (ab:Option Addr) (bb ob v cb:Nat) (m:Int) (lz lb:List Int) (w:World)
    (u:lz.length=g) (aa:lb.length=v) (hle:v≤g) (hbig:g≤2199023255552) (t:g≤cz) (Q:v≤cb) (I:0≤m) (W:m < 18446744073709551616)
    (N:Words lz) (X:Words lb) (M:At w A o p lz) (z:dE w o p g) (hb:At w ab bb ob lb) (F:lb=[]∨bb≠o) :
    Calls Tryz.prog 117 #[.slice A g cz, .slice ab v cb, .int .u64 m] w fun e w' => ∃ fR : Int, e = .returned (.int .u64 fR) ∧ 0 ≤ fR ∧ fR < 18446744073709551616 ∧
      ∃ lz',lz'.length=g∧Words lz'∧At w' A o p lz'∧Wr o p g w w'∧val lz'=val lz - val lb * m+18446744073709551616 ^ g * fR:=by
  have fin:∀ (j:Nat) (d:Int) (n:List Int) (wr:World),v≤j→j≤g→0≤d→d < 18446744073709551616→dj lz lb (-m) j n (-d)→At wr A o p n→Wr o p g w wr→(d=0∨g=j) →
      ∃ fR:Int,Ending.returned (.int .u64 d)=.returned (.int .u64 fR)∧0≤fR∧fR < 18446744073709551616 ∧
      ∃ lz',lz'.length=g∧Words lz'∧At wr A o p lz'∧Wr o p g w wr∧val lz'=val lz - val lb * m+18446744073709551616 ^ g * fR:=by
    intro j d n wr h1 Y O R L h6 h7 h8;refine⟨d,rfl,O,R,n,by rw[L.1,u],L.2.1,h6,h7,?_⟩
    have := L.fR u (by rcases h8 with e | e
                       · left;omega
                       · right;omega) (by omega) Y
    rw[Int.mul_neg,Int.mul_neg] at this;omega
  have K:=(show Hid _ from fin);clear fin;go_enter Tryz.func117,Tryz.ntmps117;go_wp2;go_loopw [7,15] (fun tc D wr=>∃ (k:Nat) (c:Int) (i:List Int),k≤v∧D=.int .i64 k∧tc=.int .u64 c∧0≤c∧c < 18446744073709551616∧dj lz lb (-m) k i (-c)∧At wr A o p i∧Wr o p g w wr) (fun _ D _=>v - (intOf D).toNat)
  case atStart=>exact⟨0,0,lz,Nat.zero_le _,rfl,rfl,by decide,by decide,⟨rfl,N,fun _ _=>rfl,by simp[val]⟩,M,Wr.refl _ _ _ _⟩
  case round =>
    obtain⟨k,c,i,hk,rfl,rfl,y,C,hinv,f,b⟩:= hrel;have E:=hinv.1;by_cases hlt:k < v
    · rcases hb.loc with e | rfl
      · subst e;simp at aa;omega
      rcases M.loc with e | rfl
      · subst e;simp at u;omega
      have H:=hb.wr b F;have Q:=H.cell k (by omega);have t:=f.cell k (by omega);have ad:=b.free z k (by omega);have hx:=X.nth k;have B:=N.nth k;rw[hinv.2.2.1 k (Nat.le_refl _)] at t;obtain⟨Z,U⟩:= hx;obtain⟨q,r⟩:= B
      have G:Hid (dj lz lb (-m) k i (-c)):=hinv
      have V:Hid (At wr (some ⟨o,p,none⟩) o p i):=f
      have HW:Hid (Wr o p g w wr):=b;clear hinv f b H M hb z N X F
      go_wp2_with (first
        | (go_at_call 89;refine(lp _ _ Z U I W _).mono ?_;rintro e w' ⟨hi,lo,rfl,h1,Y,O,R,L,rfl⟩)
        | simp only[qE _ _ O y]
        | simp only[DO _ _ q r])
      have T:nth lb k * m≤340282366920938463426481119284349108225:=by
        have:=Int.mul_le_mul (show nth lb k≤18446744073709551615 by omega) (show m≤18446744073709551615 by omega) I (by decide);simpa using this
      obtain⟨s1,s2,s3,s4,P⟩:= wg (nth lz k) (nth lb k) m c hi lo ⟨q,r⟩ ⟨y,C⟩ h1 Y O R L T;rw[Int.sub_emod_emod] at P;rw[IntWalk.u64_in _ ⟨s3,s4⟩];refine⟨⟨k+1,_,_,by omega,by go_num,rfl,s3,by omega,G.out.step (by omega) (Int.emod_nonneg _ (by decide)) (Int.emod_lt_of_pos _ (by decide)) P,V.out.setCell (by omega) _,HW.out.setCell (by omega) (by omega) _⟩,by simp[intOf];omega⟩
    · have ac : k = v := by omega
      subst ac
      have G:Hid (dj lz lb (-m) k i (-c)):=hinv;clear hinv;go_wp2;go_loopw [7,12] (fun tc D wr=>∃ (j:Nat) (c:Int) (i:List Int),k≤j∧j≤g∧D=.int .i64 j∧tc=.int .u64 c∧0≤c∧c < 18446744073709551616∧dj lz lb (-m) j i (-c)∧At wr A o p i∧Wr o p g w wr) (fun _ D _=>g - (intOf D).toNat)
      case atStart=>exact⟨k,c,i,Nat.le_refl _,by omega,rfl,rfl,y,C,G.out,f,b⟩
      case round =>
        clear f b G E y C;obtain⟨j,d,n,J,hj,rfl,rfl,x,s,hinv,f,b⟩:= hrel;have hlen2:=hinv.1;by_cases hlt2:j < g
        · by_cases hd:d=0
          · subst hd
            go_wp2;go_ret;exact K.out j 0 n _ J hj x s hinv f b (.inl rfl)
          · rcases M.loc with e | rfl
            · subst e;simp at u;omega
            have t:=f.cell j (by omega);have ad:=b.free z j (by omega);have B:=N.nth j;rw[hinv.2.2.1 j (Nat.le_refl _)] at t;obtain⟨q,r⟩:= B
            have hdb:(d != 0)=true:=by rw[bne_iff_ne];exact hd
            have G:Hid (dj lz lb (-m) j n (-d)):=hinv
            have V:Hid (At wr (some ⟨o,p,none⟩) o p n):=f
            have HW:Hid (Wr o p g w wr):=b;clear hinv f b M hb z N X F;go_wp2_with (simp only[Ef _ _ q r x s]);have hbb:=xY (nth lz j) d
            have P:(nth lz j - d) % 18446744073709551616+18446744073709551616 * -bor (nth lz j) d=nth lz j+nth lb j * -m + -d:=by
              rw[fS (l:=lb) (by omega),vN _ _ ⟨q,r⟩ ⟨x,s⟩];omega
            refine⟨⟨j+1,_,_,by omega,by omega,by go_num,rfl,by omega,by omega,G.out.step (by omega) (Int.emod_nonneg _ (by decide)) (Int.emod_lt_of_pos _ (by decide)) P,V.out.setCell (by omega) _,HW.out.setCell (by omega) (by omega) _⟩,by simp[intOf];omega⟩
        · have S : j = g := by omega
          subst S;go_wp2;go_ret;exact K.out j d n _ J hj x s hinv f b (.inr rfl)
end
section
open Go.RowKit Lim
theorem DJ {L L' lz:List Int} {x y fR:Int} (hL:IsN L x) (a:IsN L' y) (hle:y<=x) (hw:Words lz) (c:lz.length=L.length) (j:0<=fR)
  (hv:val lz=val L - val L' * 1+18446744073709551616 ^ L.length * fR):IsN (norm lz) (x - y):=by
 have f:=pG hL;have i:=pG a;have e:=dy hw;have g:=aL hw;have d:=pow_pos L.length;rw[hL.2.2,a.2.2] at hv;rw[c] at e
 have b:fR=0:=by
  by_cases h:0 < fR
  ·have:18446744073709551616 ^ L.length * 1<=18446744073709551616 ^ L.length * fR:=Int.mul_le_mul_of_nonneg_left (by omega) (Int.le_of_lt d);omega
  ·omega
 subst b;have:x - y=val lz:=by rw[hv];simp
 rw[this];exact cA hw
theorem sub_lt (ao:Option Addr) (n c b o:Nat) (ao':Option Addr) (n' c' b' o':Nat) (l g:List Int) (w:World) (s:l.length=n) (j:g.length=n') (hc:n<=c) (m:n'<=c') (f:n<=1099511627776) (d:n'<=1099511627776)
  (wl:Words l) (i:Words g) (t:At w ao b o l) (q:At w ao' b' o' g) (p:val l < val g) :
  Calls Tryz.prog 72 #[.slice ao n c,.slice ao' n' c'] w fun e w'=>e=.returned (.tuple #[.slice none 0 0,.int .i64 10])/\Below w.heap.size w w':=by
 have t1:=iy ao n c b o ao' n' c' b' o' l g w s j hc m f d wl i t q;rw[gO p] at t1;go_enter Tryz.func72,Tryz.ntmps72;go_wp2_with fail;refine t1.mono ?_
 rintro e u ⟨rfl,r⟩;go_wp2_with fail;go_ret2;exact⟨rfl,r⟩
theorem sub_ge (ao:Option Addr) (n c b o:Nat) (ao':Option Addr) (n' c' b' o':Nat) (l d:List Int) (w:World) (Y:l.length=n) (F:d.length=n') (hc:n<=c) (C:n'<=c') (t:n<=1099511627776) (x:n'<=1099511627776)
  (wl:Words l) (z:Words d) (Q:At w ao b o l) (B:At w ao' b' o' d) (V:val d<=val l) :
  Calls Tryz.prog 72 #[.slice ao n c,.slice ao' n' c'] w fun e w'=>∃ v r,e=.returned (.tuple #[v,.int .i64 0])/\dI w w' v r/\IsN r (val l - val d)/\r.length<=n/\Below w.heap.size w w':=by
 have t1:=iy ao n c b o ao' n' c' b' o' l d w Y F hc C t x wl z Q B
 have hs0:0<=sgn (val l) (val d):=by unfold sgn;split<;>(try split)<;>omega
 have hle:aE d<=aE l:=by
  rcases Nat.lt_or_ge (aE l) (aE d) with h | h
  ·have:=dC wl z h;omega
  ·exact h
 generalize hsg:sgn (val l) (val d)=sg at *;clear hsg;go_enter Tryz.func72,Tryz.ntmps72;go_wp2_with fail;refine t1.mono ?_
 rintro e M ⟨rfl,j⟩;have D:=Q.keep j
 have g:=B.keep j;clear t1;go_wp2_with fail;refine(jr ao n c b o l M Y hc t D).mono ?_
 rintro e w2 ⟨rfl,f,u⟩
 have m:=g.keep u
 have A:=m.sub (aE d)
 have T:norm d=[]\/b'≠M.heap.size:=by
  rcases(g.sub (aE d)).lt with e | e
  ·exact .inl e
  ·exact .inr (by omega)
 rw[show d.take (aE d)=norm d from rfl] at A;have t2:=bp ao' n' c' d w2 F C (by omega) m.cells;have hn:=bC l
 have hn':=bC d;have H:=aJ l
 have J:=aJ d;have X:=cA wl
 have I:=cA z;clear Q B D g m;generalize aE l=N at *;generalize aE d=N' at *;generalize norm l=L at *;generalize norm d=L' at *;go_wp2_with fail;refine t2.mono ?_
 rintro e w3 ⟨rfl,rfl⟩;clear t2;go_wp2_with fail;refine(iO _ M.heap.size 0 _ _ _ b' o' _ _ 1 L L' w3 H J hle (by omega) (Nat.le_refl _) (Nat.le_refl _) (by decide) (by decide) X.1 I.1 f.at (f.free _ _) A T).mono ?_
 rintro e Z ⟨fR,rfl,O,ho1,s,P,S,q,y,E⟩
 have HF:IsN (norm s) (_ - _):=DJ X I V S (by omega) O (by rw[E,H]);have W:=y.free (f.free 0 N);have hz1:=bC s;have U:=aJ s;have G:=q.sub (aE s);have p:=j.size
 have HB:Below w.heap.size w Z:=(j.trans (u.mono p)).trans (y.below p);rw[show s.take (aE s)=norm s from rfl] at G;have t3:=bp (some ⟨M.heap.size,0,none⟩) N N s Z P (Nat.le_refl _) (by omega) q.cells;clear A f y q E j u;generalize aE s=K at *;generalize norm s=R at *;go_wp2_with fail;refine t3.mono ?_
 rintro e w5 ⟨rfl,rfl⟩;go_wp2;go_ret2;exact⟨_,R,rfl,dI.of U.symm (Nat.le_refl _) p G (fun i hi=>W i (by omega)),HF,by omega,HB⟩
end
section
open Go.RowKit Lim
section
variable {w w1:World}{v:Value}{l:List Int}
theorem Row.built(w:World)(l:List Int):Row (w.alloc (.cells (l.map (Value.int .u64)).toArray 22)) w.heap.size l:=by
 show (w.heap.push _)[w.heap.size]?=_
 rw[Array.getElem?_push_size]
theorem Row.built1(w:World)(x:Int):Row (w.alloc (.cells #[.int .u64 x] 22)) w.heap.size [x]:=Row.built w [x]
theorem ae(w:World)(o:Obj):Below w.heap.size w (w.alloc o):=(Below.refl _ _).alloc (Nat.le_refl _) _
theorem xu(x:Int)(w:World)(m:0<=x)(l:x < 18446744073709551616) :
  Calls Tryz.prog 25 #[.int .u64 x] w fun e w'=>∃ v r,e=.returned v/\dI w w' v r/\IsN r x/\r.length<=1/\Below w.heap.size w w':=by
 have c:=Row.built1 w x;have hb:=ae w (.cells #[.int .u64 x] 22)
 have hw:Words [x]:=Words.cons m l Words.nil;have t1:=bp (some ⟨w.heap.size,0,none⟩) 1 1 [x] (w.alloc (.cells #[.int .u64 x] 22)) rfl (by decide) (by decide) c.at.cells;have d:=bC [x];have f:=aJ [x];have b:=c.at.sub (aE [x])
 have j:IsN (norm [x]) x:=by have:=cA hw;rwa [ez] at this
 have g:=c.free 0 1;rw[show [x].take (aE [x])=norm [x] from rfl] at b;rw[List.length_singleton] at d;generalize aE [x]=K at *;generalize norm [x]=R at *;clear c;go_enter Tryz.func25,Tryz.ntmps25;go_wp2_with fail;refine t1.mono ?_
 rintro e n ⟨rfl,rfl⟩;go_wp2;go_ret;exact⟨_,R,rfl,dI.of f.symm (Nat.le_refl _) (Nat.le_refl _) b (fun i hi=>g i (by omega)),j,by omega,hb⟩
theorem div_zero(v:Value)(ao':Option Addr)(n' c' b' o':Nat)(b:List Int)(w:World)(d:b.length=n')(f:n'<=c')(g:n'<=1099511627776)(c:Words b)(i:At w ao' b' o' b)(j:val b=0) :
  Calls Tryz.prog 70 #[v,.slice ao' n' c'] w fun e w'=>e=.returned (.tuple #[.slice none 0 0,.slice none 0 0,.int .i64 11])/\w'=w:=by
 have t1:=bp ao' n' c' b w d f (by omega) i.cells;rw[(cj c).2 j] at t1;go_enter Tryz.func70,Tryz.ntmps70;go_wp2_with fail;refine t1.mono ?_
 rintro e l ⟨rfl,rfl⟩;go_wp2_with fail;go_ret3;exact⟨rfl,rfl⟩
def jQ(w w':World)(e:Ending)(x y:Int)(n n':Nat):Prop :=
 ∃ v u r s,e=.returned (.tuple #[v,u,.int .i64 0])/\dI w w' v r/\dI w w' u s/\IsN r (x / y)/\IsN s (x % y)/\r.length<=n/\s.length<=n+n'/\Below w.heap.size w w'
theorem dI.nil(w w':World):dI w w' (.slice none 0 0) []:=⟨none,w.heap.size,0,0,rfl,Nat.le_refl _,Nat.le_refl _,⟨.inl rfl,fun i hi=>by simp at hi⟩,fun i hi=>by simp at hi⟩
theorem jo:IsN [] 0:=⟨Words.nil,rfl,rfl⟩
theorem dI.later{d:World}(h:dI w w1 v l)(hb:Below w1.heap.size w1 d):dI w d v l:=by
 obtain⟨g,b,o,c,e,k,j,f,m⟩:=h;refine⟨g,b,o,c,e,k,j,f.keep hb,fun i hi=>?_⟩;have a:=aI (f.cell i hi);rw[hb.frozen (p:=⟨b,o+i,none⟩) a];exact m i hi
theorem dI.mono{w0:World}(h:dI w w1 v l)(hb:w0.heap.size<=w.heap.size):dI w0 w1 v l:=by
 obtain⟨ao,b,o,c,e,h1,h2,h3,h4⟩:=h;exact⟨ao,b,o,c,e,h1,by omega,h3,h4⟩
theorem div_lt(ao:Option Addr)(n c b o:Nat)(ao':Option Addr)(n' c' b' o':Nat)(l d:List Int)(w:World)(y:l.length=n)(v:d.length=n')(hc:n<=c)(s:n'<=c')(f:n<=1099511627776)(t:n'<=1099511627776)(wl:Words l)(m:Words d)(z:At w ao b o l)(r:At w ao' b' o' d)(j:val l < val d) :
  Calls Tryz.prog 70 #[.slice ao n c,.slice ao' n' c'] w fun e w'=>jQ w w' e (val l) (val d) n n':=by
 have A:=aL wl;have hn:=bC l
 have E:=bC d
 have D:aE d≠0:=fun e=>by have:=(cj m).1 e;omega
 have t1:=bp ao' n' c' d w v s (by omega) r.cells
 have p:=r.sub (aE d);rw[show d.take (aE d)=norm d from rfl] at p;have t2:=iy ao n c b o ao' (aE d) (aE d) b' o' l (norm d) w y (aJ d) hc (Nat.le_refl _) f (by omega) wl m.norm z p;rw[cZ,gO j] at t2;have B:=cA wl;have x:=aJ l
 have C:((aE d:Int) == 0)=false:=beq_eq_false_iff_ne.2 (by omega);go_enter Tryz.func70,Tryz.ntmps70;go_wp2_with fail;refine t1.mono ?_
 rintro e G ⟨rfl,rfl⟩;go_wp2_with fail;refine t2.mono ?_
 rintro e F ⟨rfl,i⟩;go_wp2_with fail;refine(jr ao n c b o l F y hc f (z.keep i)).mono ?_
 rintro e H ⟨rfl,g,u⟩;clear t1 t2;go_wp2;go_ret3;have q:=i.size;exact⟨_,_,[],norm l,rfl,dI.nil _ _,dI.of x.symm (Nat.le_refl _) q g.at (g.free _ _),by rw[Int.ediv_eq_zero_of_lt A j];exact jo,by rw[Int.emod_eq_of_lt A j];exact B,by simp,by omega,i.trans (u.mono q)⟩
theorem div_one(ao:Option Addr)(n c b o:Nat)(ao':Option Addr)(n' c' b' o':Nat)(l f:List Int)(w:World)(hl:l.length=n)(T:f.length=n')(hc:n<=c)(W:n'<=c')(x:n<=1099511627776)(Q:n'<=1099511627776)(wl:Words l)(E:Words f)(ha:At w ao b o l)(M:At w ao' b' o' f)(af:val f<=val l)(h1:aE f=1) :
  Calls Tryz.prog 70 #[.slice ao n c,.slice ao' n' c'] w fun e w'=>jQ w w' e (val l) (val f) n n':=by
 have h0:=aL wl;have hn:=bC l
 have hn':=bC f;have t1:=bp ao' n' c' f w T W (by omega) M.cells
 have p:=M.sub (aE f);rw[show f.take (aE f)=norm f from rfl] at p;have t2:=iy ao n c b o ao' (aE f) (aE f) b' o' l (norm f) w hl (aJ f) hc (Nat.le_refl _) x (by omega) wl E.norm ha p;rw[cZ] at t2
 have U:0<=sgn (val l) (val f):=by unfold sgn;split<;>(try split)<;>omega
 have z:=aJ f
 have B:=cA E;rw[h1] at t1 t2 z;generalize hN':norm f=L' at *;obtain⟨d,rfl⟩:=List.length_eq_one_iff.1 z
 have hd:val f=d:=by have:=B.2.2;rw[ez] at this;exact this.symm
 have ad:=B.1 d (by simp)
 have J:0 < d:=by
  have h2:=B.2.1;by_cases c:d=0
  ·subst c;simp[aE] at h2
  ·omega
 rw[hd] at af t2 ⊢;rw[hd] at U;generalize sgn (val l) d=sg at *;rcases p.loc with e | rfl
 ·simp at e
 go_enter Tryz.func70,Tryz.ntmps70;go_wp2_with fail;refine t1.mono ?_
 rintro e w1 ⟨rfl,rfl⟩;go_wp2_with fail;refine t2.mono ?_
 rintro e P ⟨rfl,j⟩;go_wp2_with fail;refine(jr ao n c b o l P hl hc x (ha.keep j)).mono ?_
 rintro e w3 ⟨rfl,g,t⟩;have C:=j.size;have ah:=t.size;have I:=((p.keep j).keep t).cell 0 (by simp);rw[cJ] at I;rw[Nat.add_zero] at I;have S:=wl.norm;have Z:=cZ l;have ab:=aJ l;clear t1 t2;generalize aE l=N at *;generalize norm l=L at *;go_wp2_with fail;refine(gJ (some ⟨P.heap.size,0,none⟩) P.heap.size 0 N N d L w3 ab (by omega) (Nat.le_refl _) J ad.2 S g.at (g.free _ _)).mono ?_
 rintro e w4 ⟨left,m,rfl,D,aa,X,V,y,v,G⟩;have ag:=v.free (g.free 0 N);have hz1:=bC m;have ae:=aJ m;have F:=y.sub (aE m);have HF:=cA V;have Y:=v.size;have ai:=g.lt;rw[show m.take (aE m)=norm m from rfl] at F;have t3:=bp (some ⟨P.heap.size,0,none⟩) N N m w4 X (Nat.le_refl _) (by omega) y.cells
 have HB:Below w1.heap.size w1 w4:=(j.trans (t.mono C)).trans (v.below C)
 have ev:val m=val l / d/\left=val l % d:=by
  have hh:=Int.ediv_emod_unique (a:=val l) (b:=d) (r:=left) (q:=val m) J;have:=hh.2 ⟨by rw[<- Z,<- G,Int.mul_comm];omega,D,aa⟩;exact⟨this.1.symm,this.2.symm⟩
 rw[ev.1] at HF
 have A:Hid (left=val l % d):=ev.2;clear v g G j t p ev;generalize aE m=K at *;generalize norm m=R at *;go_wp2_with fail;refine t3.mono ?_
 rintro e w5 ⟨rfl,rfl⟩;go_wp2_with fail;refine(xu left w5 D (by omega)).mono ?_
 rintro e w6 ⟨u,s,rfl,O,ac,hsl,H⟩;go_wp2;go_ret3;refine⟨_,u,R,s,rfl,(dI.of ae.symm (Nat.le_refl _) C F (fun i hi=>ag i (by omega))).later H,O.mono (by omega),HF,by rw[<- A.out];exact ac,by omega,by omega,HB.trans (H.mono (by omega))⟩
end
end
section
open Go.RowKit Lim
section
variable {l:List Int}{S T v1:Int}
theorem fO(s:Nat)(hs:s<=63):(0:Int) < 2 ^ s/\(2:Int) ^ s < 18446744073709551616/\(2:Int) ^ s * 2 ^ (64 - s)=18446744073709551616/\(0:Int) < 2 ^ (64 - s):=by
 have a:(0:Int) < 2 ^ s:=Int.pow_pos (by decide)
 have b:(2:Nat) ^ s<=2 ^ 63:=Nat.pow_le_pow_right (by decide) hs
 have e:((2 ^ s:Nat):Int)=(2:Int) ^ s:=by rw[Int.natCast_pow];rfl
 have e2:(2:Nat) ^ 63=9223372036854775808:=by decide
 refine⟨a,by omega,?_,Int.pow_pos (by decide)⟩;rw[<- Int.pow_add,show s+(64 - s)=64 from by omega];rfl
theorem nX(ao:Option Addr)(n c b o s:Nat)(l:List Int)(w:World)(E:l.length=n)(hc:n<=c)(C:n<=1099511627776)(hs:s<=63)(wl:Words l)(F:At w ao b o l) :
  Calls Tryz.prog 114 #[.slice ao n c,.int .i64 s] w fun e w'=>∃ lz,e=.returned (.slice (some ⟨w.heap.size,0,none⟩) (n+1) (n+1))/\lz.length=n+1/\Words lz/\At w' (some ⟨w.heap.size,0,none⟩) w.heap.size 0 lz/\dE w' w.heap.size 0 (n+1)/\w.heap.size < w'.heap.size/\val lz=val l * 2 ^ s/\Below w.heap.size w w':=by
 obtain⟨p1,D,K,I⟩:=fO s hs
 have A:l=[]\/b≠w.heap.size:=by
  rcases F.lt with e | e
  ·exact .inl e
  ·exact .inr (by omega)
 have m:=aL wl;have q:=dy wl
 have x:Hid (0<=val l * 2 ^ s/\val l * 2 ^ s < 18446744073709551616 ^ (n+1)):=by
  refine⟨Int.mul_nonneg m (Int.le_of_lt p1),?_⟩
  have O:val l * 2 ^ s<=val l * 18446744073709551616:=Int.mul_le_mul_of_nonneg_left (by omega) m;rw[E] at q;rw[Int.pow_succ];omega
 obtain⟨S,hS⟩:∃ S,(2:Int) ^ s=S:=⟨_,rfl⟩
 rw[hS] at p1 D x ⊢
 have L:IntKind.u64.wrap S=S:=IntWalk.u64_in _ ⟨by omega,by omega⟩;clear K I m q;go_enter Tryz.func114,Tryz.ntmps114;go_wp2_with (at_make;refine cY rfl _ _ rfl (n+1) _ _ rfl rfl (by omega) (by omega) (by omega) ?_;intro J d g y);have u:=F.keep g;refine(ee _ w.heap.size 0 (n+1) (n+1) ao b o n c S (List.replicate (n+1) 0) l J (by simp) E (by omega) (by omega) (Nat.le_refl _) hc (by omega) D (eD _) wl d.at (d.free _ _) u A).mono ?_
 rintro e N ⟨rfl,lz,v,z,t,f,j⟩;have B:=f.free (d.free 0 (n+1));have M:=d.lt;have r:=f.size;rw[fq (l:=List.replicate (n+1) 0) (fun i=>by simp[nth,List.getElem?_replicate];split<;>rfl),Int.zero_add,Int.emod_eq_of_lt x.out.1 x.out.2] at j;have H:=(show Hid _ from j)
 have G:=g.trans (f.below (Nat.le_refl _))
 have p:w.heap.size < N.heap.size:=by omega
 clear j r y d f g;go_wp2;go_ret;exact⟨lz,rfl,v,z,t,B,p,H.out,G⟩
structure lS(lz:List Int)(S:Int)(h:Nat)(lz1:List Int):Prop where
 len:lz1.length=lz.length
 words:Words lz1
 low:∀ i,i < h->nth lz1 i=nth lz i
 val:Lim.val (lz1.drop h)=Lim.val (lz.drop h) / S
theorem Br(S T:Int)(h:S * T=18446744073709551616)(k:Nat):val (l.drop k) % S=nth l k % S:=by
 by_cases a:k < l.length
 ·rw[dS a,<- h,Int.mul_assoc,Int.add_mul_emod_self_left]
 ·rw[List.drop_of_length_le (by omega),fS (by omega)];rfl
theorem lS.step{lz lz1:List Int}{b:Int}{h:Nat}(hS:0 < S)(a:S * T=18446744073709551616)(hv:lS lz S (h+1) lz1)(c:h < lz.length)(z0:0<=b)(z1:b < 18446744073709551616)(e:b=nth lz h / S+T * (nth lz (h+1) % S)):lS lz S h (lz1.set h b):=by
 have d:=hv.len;refine⟨by simp[d],hv.words.set h z0 z1,fun i hi=>by rw[dD (by omega),if_neg (by omega)];exact hv.low i (by omega),?_⟩;rw[dS (by simp;omega),dD (by omega),if_pos rfl,List.drop_set,if_pos (by omega),hv.val,dS c,e,<- Br S T a (h+1)];generalize Lim.val (lz.drop (h+1))=Y
 have e1:nth lz h+18446744073709551616 * Y=nth lz h+S * (T * Y):=by rw[<- a];grind
 rw[e1,Int.add_mul_ediv_left _ _ (by omega)];have e2:=Int.mul_ediv_add_emod Y S
 have e3:T * Y=T * (S * (Y / S)+Y % S):=by rw[e2]
 rw[e3,<- a];grind
theorem zB{x y:Int}(s:Nat)(l:S=2 ^ s)(e:T=2 ^ (64 - s))(hs:s<=63)(hx:0<=x/\x < 18446744073709551616) :
  bits .or .u64 (x / S) (IntKind.u64.wrap (y * T))=x / S+T * (y % S)/\0<=x / S+T * (y % S)/\x / S+T * (y % S) < 18446744073709551616:=by
 obtain⟨p1,m,d,c⟩:=fO s hs;rw[<- l] at p1 m d;rw[<- e] at d c
 have a:0<=x / S:=Int.ediv_nonneg hx.1 (Int.le_of_lt p1)
 have f:x / S < T:=by rw[Int.ediv_lt_iff_lt_mul p1,Int.mul_comm,d];exact hx.2
 have b:=Int.emod_nonneg y (show S≠0 by omega);have h:=Int.emod_lt_of_pos y p1
 have k:IntKind.u64.wrap (y * T)=y % S * T:=by
  rw[IntKind.wrap_u64,<- d,Int.mul_comm y T,Int.mul_comm S T,Int.mul_emod_mul_of_pos _ _ c,Int.mul_comm]
 have g:0<=y % S * T:=Int.mul_nonneg b (Int.le_of_lt c)
 have i:(y % S+1) * T<=S * T:=Int.mul_le_mul_of_nonneg_right (by omega) (Int.le_of_lt c);rw[Int.add_mul,Int.one_mul,d] at i
 have j:T<=18446744073709551616:=by
  have:1 * T<=S * T:=Int.mul_le_mul_of_nonneg_right (by omega) (Int.le_of_lt c);omega
 rw[k,Int.mul_comm T];refine⟨?_,by omega,by omega⟩;rw[u64_or _ _ a (by omega) g (by omega),Nat.or_comm,<- u64_or _ _ g (by omega) a (by omega)];rw[qp _ _ (64 - s) (y % S) (by rw[e]) b (by omega) a (by rw[<- e];exact f) (by omega),Int.add_comm]
theorem vW(m:Option Addr)(i g b v s:Nat)(lz:List Int)(w:World)(n:lz.length=b)(z:b<=2199023255552)(j:b<=v)(hs:s<=63)(o:Words lz)(q:At w m i g lz)(u:dE w i g b) :
  Calls Tryz.prog 116 #[.slice m b v,.int .i64 s] w fun e w'=>e=.returned (.tuple #[])/\∃ lz',lz'.length=b/\Words lz'/\At w' m i g lz'/\Wr i g b w w'/\val lz'=val lz / 2 ^ s:=by
 obtain⟨p1,Q,G,O⟩:=fO s hs;go_enter Tryz.func116,Tryz.ntmps116;go_wp2;go_loopw [4,10] (fun tc t wr=>∃ (k:Nat) (c:List Int),k<=b/\t=.int .i64 k/\tc=.int .u64 (nth lz (b - k))/\lS lz (2 ^ s) (b - k) c/\At wr m i g c/\Wr i g b w wr) (fun _ t _=>b - (intOf t).toNat)
 case atStart=>exact⟨0,lz,Nat.zero_le _,rfl,by rw[fS (by omega)],⟨rfl,o,fun _ _=>rfl,by rw[Nat.sub_zero,List.drop_of_length_le (by omega)];simp[val]⟩,q,Wr.refl _ _ _ _⟩
 case round =>
  obtain⟨k,c,P,rfl,rfl,hinv,f,d⟩:=hrel;have p:=hinv.len;by_cases L:k < b
  ·rcases q.loc with e | rfl
   ·subst e;simp at n;omega
   obtain⟨h,A⟩:∃ h:Nat,b=h+1+k:=⟨b - 1 - k,by omega⟩
   have j:=f.cell h (by omega);have J:=d.free u h (by omega);rw[hinv.low h (by omega)] at j
   have C:(b:Int) - 1 - k=h:=by omega
   have D:(h:Int) < b:=by omega
   have l:b - k=h+1:=by omega
   rw[l] at hinv ⊢;obtain⟨e1,e2,e3⟩:=zB (y:=nth lz (h+1)) s rfl rfl hs (o.nth h)
   have E:Hid (lS lz (2 ^ s) h (c.set h (nth lz h / 2 ^ s+2 ^ (64 - s) * (nth lz (h+1) % 2 ^ s)))):=hinv.step p1 G (by omega) e2 e3 rfl
   have H:Hid (b=h+1+k):=A;have K:=(show Hid _ from f)
   have M:=(show Hid _ from d)
   have F:Hid (nth lz (b - (k+1))=nth lz h):=by show _=_;rw[show b - (k+1)=h from by omega]
   have N:Hid (b - (k+1)=h):=by show _=_;omega
   clear A hinv q o f d l;generalize nth lz h=x at *;generalize nth lz (h+1)=y at *
   have B:(64:Int) - s=((64 - s:Nat):Int):=by omega
   go_wp2_with fail;go_region;go_wp2;refine⟨⟨k+1,_,by omega,by go_num,by rw[F.out],by rw[N.out];exact E.out,?_,?_⟩,by simp[intOf];omega⟩
   ·exact(K.out.setCell (by omega) _).drew
   ·exact(M.out.setCell (by omega) (by have:=H.out;omega) _).drew
  ·have r:k=b:=by omega
   subst r;have hv:=hinv.val;rw[Nat.sub_self,List.drop_zero,List.drop_zero] at hv;have I:=(show Hid _ from hv)
   clear hv;go_wp2;go_end0;exact⟨rfl,c,by omega,hinv.words,f,d,I.out⟩
def qO(u v g:Int):Prop:=0<=g/\g < 18446744073709551616/\(g - 1) * v<=u/\u < (g+1) * v
theorem AO{u v u0 R P:Int}(e:0 < P)(hv:v < (v1+1) * P)(b:9223372036854775808<=v1)(hu:u=u0 * 18446744073709551616 * P+R)(d:0<=R)(c:v1<=u0)(a:u < v * 18446744073709551616):qO u v 18446744073709551615:=by
 refine⟨by decide,by decide,?_,by rw[show (18446744073709551615+1:Int)=18446744073709551616 from rfl,Int.mul_comm];exact a⟩
 have k1:v * 18446744073709551614<=(v1+1) * P * 18446744073709551614:=Int.mul_le_mul_of_nonneg_right (by omega) (by decide)
 have k2:v1 * P<=u0 * P:=Int.mul_le_mul_of_nonneg_right c (by omega)
 have k3:9223372036854775808 * P<=v1 * P:=Int.mul_le_mul_of_nonneg_right b (by omega)
 have e1:(v1+1) * P * 18446744073709551614=v1 * P * 18446744073709551614+P * 18446744073709551614:=by grind
 have e2:u0 * 18446744073709551616 * P=u0 * P * 18446744073709551616:=by grind
 rw[show (18446744073709551615 - 1:Int)=18446744073709551614 from rfl,Int.mul_comm];omega
theorem sc{u v v2 a g rest hi Q:Int}(G:0 < Q)(f:v1 * 18446744073709551616 * Q+v2 * Q<=v)(hv:v < v1 * 18446744073709551616 * Q+(v2+1) * Q)(x:9223372036854775808<=v1)(n:0<=v2)(y:v2 < 18446744073709551616)(k:a * (18446744073709551616 * Q)<=u)(hu:u < (a+1) * (18446744073709551616 * Q))(b:0<=g)(j:g < 18446744073709551616)(m:0<=rest)(t:rest < v1)(he:g * v1+rest=a)(lo:Int)(l:0<=lo)(r:lo < 18446744073709551616)(hm:hi * 18446744073709551616+lo=g * v2) :
  (rest < hi->qO u v (g - 1))/\(hi<=rest->qO u v g):=by
 have o:0<=g * v2:=Int.mul_nonneg b n
 have i:g * v2<=g * 18446744073709551615:=Int.mul_le_mul_of_nonneg_left (by omega) b
 have h:0<=hi:=by omega
 have e:hi<=18446744073709551615:=by omega
 obtain⟨X,hX⟩:∃ X,18446744073709551616 * Q=X:=⟨_,rfl⟩
 have A:0 < X:=by omega
 have m1:g * (v1 * 18446744073709551616 * Q+v2 * Q)<=g * v:=Int.mul_le_mul_of_nonneg_left f b
 have m2:g * v<=g * (v1 * 18446744073709551616 * Q+(v2+1) * Q):=Int.mul_le_mul_of_nonneg_left (by omega) b
 have e1:g * (v1 * 18446744073709551616 * Q+v2 * Q)=a * X - rest * X+hi * X+lo * Q:=by
  rw[<- hX,<- he];have:g * (v2 * Q)=(hi * 18446744073709551616+lo) * Q:=by rw[hm];grind
  grind
 have e2:g * (v1 * 18446744073709551616 * Q+(v2+1) * Q)=a * X - rest * X+hi * X+lo * Q+g * Q:=by
  have:g * (v1 * 18446744073709551616 * Q+(v2+1) * Q)=g * (v1 * 18446744073709551616 * Q+v2 * Q)+g * Q:=by grind
  rw[this,e1]
 rw[e1] at m1;rw[e2] at m2
 have e3:v1 * 18446744073709551616 * Q=v1 * X:=by rw[<- hX];grind
 rw[e3] at f;rw[hX] at k hu;rw[Int.add_mul,Int.one_mul] at hu
 have k1:9223372036854775808 * X<=v1 * X:=Int.mul_le_mul_of_nonneg_right x (by omega)
 have k2:(rest+1) * X<=v1 * X:=Int.mul_le_mul_of_nonneg_right (by omega) (by omega)
 have k3:lo * Q<=18446744073709551615 * Q:=Int.mul_le_mul_of_nonneg_right (by omega) (by omega)
 have w:0<=lo * Q:=Int.mul_nonneg l (by omega)
 have D:g * Q<=18446744073709551615 * Q:=Int.mul_le_mul_of_nonneg_right (by omega) (by omega)
 have B:0<=v2 * Q:=Int.mul_nonneg n (by omega)
 have C:0<=hi * X:=Int.mul_nonneg h (by omega)
 have E:0<=rest * X:=Int.mul_nonneg m (by omega)
 have F:hi * X<=18446744073709551615 * X:=Int.mul_le_mul_of_nonneg_right e (by omega);rw[Int.add_mul,Int.one_mul] at k2;constructor
 ·intro z
  have p:(rest+1) * X<=hi * X:=Int.mul_le_mul_of_nonneg_right (by omega) (by omega);rw[Int.add_mul,Int.one_mul] at p
  have q:1<=g:=by
   by_cases c:1<=g
   ·exact c
   ·have:g=0:=by omega
    subst this;simp at hm;omega
  have d:hi<=18446744073709551614:=by omega
  have s:hi * X<=18446744073709551614 * X:=Int.mul_le_mul_of_nonneg_right d (by omega);refine⟨by omega,by omega,?_,?_⟩
  ·rw[show (g - 1 - 1) * v=g * v - 2 * v from by grind];omega
  ·rw[show (g - 1+1) * v=g * v from by grind];omega
 ·intro hle
  have p:hi * X<=rest * X:=Int.mul_le_mul_of_nonneg_right hle (by omega);refine⟨b,j,?_,?_⟩
  ·rw[Int.sub_mul,Int.one_mul];omega
  ·rw[Int.add_mul,Int.one_mul];omega
end
end
section
open Go.RowKit Lim
section
variable {f:FuncId}{args:Array Value}{w:World}{n:Nat}{v:Value}{l:List Int}
theorem rA(hi lo y:Int)(w:World)(d:0<=hi)(b:hi < y)(a:0<=lo)(l1:lo < 18446744073709551616)(y1:y < 18446744073709551616) :
  Calls Tryz.prog 166 #[.int .u64 hi,.int .u64 lo,.int .u64 y] w fun e w'=>e=.returned (.tuple #[.int .u64 ((hi * 18446744073709551616+lo) / y),.int .u64 ((hi * 18446744073709551616+lo) % y)])/\∃ n,w'=w.drewN n:=by
 by_cases c:hi=0
 ·subst c;refine(np lo y w (by omega) a l1 y1).mono ?_
  rintro e w' ⟨rfl,hw⟩;exact⟨by simp,hw⟩
 ·refine(oE hi lo y w (by omega) b a l1 y1).mono ?_
  rintro e w' ⟨rfl,rfl⟩;exact⟨rfl,0,rfl⟩
theorem nL{P:Program}(h:Calls P f args (w.drewN n) fun e w'=>e=.returned v/\∃ m,w'=(w.drewN n).drewN m):Calls P f args (w.drewN n) fun e w''=>e=.returned v/\∃ m,w''=w.drewN m :=
 h.mono fun _ _ ⟨he,m,hm⟩=>⟨he,n+m,by rw[hm,World.drewN_drewN]⟩
theorem top2(wl:Words l)(hn:l.length=n+2):(nth l (n+1) * 18446744073709551616+nth l n) * 18446744073709551616 ^ n<=val l/\val l < (nth l (n+1) * 18446744073709551616+nth l n+1) * 18446744073709551616 ^ n:=by
 have e1:=bF l n (by omega);have b:=aL (wl.take n);have a:=dy (wl.take n);rw[List.length_take,Nat.min_eq_left (by omega)] at a;rw[dS (by omega),dS (by omega),List.drop_of_length_le (show l.length<=n+1+1 by omega)] at e1
 have e2:(18446744073709551616:Int) ^ n * (nth l n+18446744073709551616 * (nth l (n+1)+18446744073709551616 * val []))=(nth l (n+1) * 18446744073709551616+nth l n) * 18446744073709551616 ^ n:=by
  rw[show val []=0 from rfl];grind
 rw[e2] at e1;rw[Int.add_mul (nth l (n+1) * 18446744073709551616+nth l n) 1];omega
theorem vS(Z:Option Addr)(cu E K:Nat)(av:Option Addr)(k cv bv C:Nat)(lu i:List Int)(w:World)(t:lu.length=k+3)(r:i.length=k+2)(X:k<=1099511627776)(wu:Words lu)(B:Words i)(hu:At w Z E K lu)(hv:At w av bv C i)(o:9223372036854775808<=nth i (k+1))(z:val lu < val i * 18446744073709551616) :
  Calls Tryz.prog 167 #[.slice Z (k+3) cu,.slice av (k+2) cv] w fun e w'=>∃ g:Int,e=.returned (.int .u64 g)/\qO (val lu) (val i) g/\Below w.heap.size w w':=by
 obtain⟨j,s⟩:=top2 B r;obtain⟨d,f⟩:=top2 (n:=k+1) wu t;have c0:=hu.cell (k+2) (by omega);have c1:=hu.cell (k+1) (by omega);have d1:=hv.cell (k+1) (by omega);have d2:=hv.cell k (by omega);have b0:=wu.nth (k+2);have b1:=wu.nth (k+1);have e1:=B.nth (k+1);have e2:=B.nth k;have O:=pow_pos k;have T:=pow_pos (k+1);rcases hu.loc with e | rfl
 ·subst e;simp at t
 rcases hv.loc with e | rfl
 ·subst e;simp at r
 rw[show k+1+1=k+2 from rfl] at d f;have L:=(show Hid _ from z)
 clear hu hv wu B z t r;obtain⟨N,D⟩:∃ N,k+2=N:=⟨_,rfl⟩
 obtain⟨m,hm⟩:∃ m,k+1=m:=⟨_,rfl⟩
 have hN1:(N:Int) - 1=m:=by omega
 have hN2:(N:Int) - 2=k:=by omega
 have hmN:(m:Int) < N:=by omega
 have hkN:(k:Int) < N:=by omega
 have hmN1:(m:Int) < (N:Int)+1:=by omega
 have Y:(N:Int) < (N:Int)+1:=by omega
 have hNb:N<=1099511627778:=by omega
 have hmle:m<=N:=by omega
 have hmlt:m < N+1:=by omega
 have hmi:(m:Int)<=N:=by omega
 have hwm:IntKind.i64.wrap (m:Int)=m:=by rw[IntKind.wrap_i64];omega
 have hwk:IntKind.i64.wrap (k:Int)=k:=by rw[IntKind.wrap_i64];omega
 generalize nth lu (k+2)=u0 at *;generalize nth lu (k+1)=c at *;generalize nth i (k+1)=v1 at *;generalize nth i k=v2 at *;generalize val lu=U at *;generalize val i=V at *;by_cases W:v1<=u0
 ·have HN:Hid (qO U V 18446744073709551615):=by
   refine AO (v1:=v1) (u0:=u0) (P:=18446744073709551616 ^ (k+1)) (R:=U - u0 * 18446744073709551616 * 18446744073709551616 ^ (k+1)) T ?_ o (by omega) ?_ W L.out
   ·rw[Int.pow_succ];have:(v1 * 18446744073709551616+v2+1) * 18446744073709551616 ^ k<=(v1 * 18446744073709551616+18446744073709551616) * 18446744073709551616 ^ k:=Int.mul_le_mul_of_nonneg_right (by omega) (by omega)
    have e:(v1 * 18446744073709551616+18446744073709551616) * 18446744073709551616 ^ k=(v1+1) * (18446744073709551616 ^ k * 18446744073709551616):=by grind
    omega
   ·have:0<=c * 18446744073709551616 ^ (k+1):=Int.mul_nonneg b1.1 (by omega);rw[Int.add_mul] at d;omega
  rw[show k+3=N+1 from by omega,D] at *;rw[hm] at c1 d1;clear d f j s O T D hm;go_enter Tryz.func167,Tryz.ntmps167;go_wp2_with fail;go_quiet (fail);go_wp2;go_ret;exact⟨_,rfl,HN.out,below_drewN (Below.refl _ _) _⟩
 ·have x:∀ g rest hi lo:Int,0<=g->g < 18446744073709551616->0<=rest->rest < v1->g * v1+rest=u0 * 18446744073709551616+c->0<=lo->lo < 18446744073709551616->hi * 18446744073709551616+lo=g * v2->(rest < hi->qO U V (g - 1))/\(hi<=rest->qO U V g):=by
   intro g rest hi lo h1 h2 h3 h4 h5 h6 h7 h8;refine sc (Q:=18446744073709551616 ^ k) O ?_ ?_ o e2.1 e2.2 ?_ ?_ h1 h2 h3 h4 h5 lo h6 h7 h8
   ·rw[Int.add_mul] at j;exact j
   ·have e:(v1 * 18446744073709551616 + v2 + 1) * 18446744073709551616 ^ k=v1 * 18446744073709551616 * 18446744073709551616 ^ k + (v2 + 1) * 18446744073709551616 ^ k:=by grind
    rw[<- e];exact s
   ·rw[Int.mul_comm 18446744073709551616,<- Int.pow_succ];exact d
   ·rw[Int.mul_comm 18446744073709551616,<- Int.pow_succ];exact f
  have q:=(show Hid _ from x)
  have p:=Int.mul_ediv_add_emod (u0 * 18446744073709551616+c) v1;have J:=Int.emod_nonneg (u0 * 18446744073709551616+c) (show v1≠0 by omega);have M:=Int.emod_lt_of_pos (u0 * 18446744073709551616+c) (show 0 < v1 by omega)
  have u:0<=(u0 * 18446744073709551616+c) / v1:=Int.ediv_nonneg (by omega) (by omega)
  have v:(u0 * 18446744073709551616+c) / v1 < 18446744073709551616:=by
   rw[Int.ediv_lt_iff_lt_mul (by omega)];have:(u0+1) * 18446744073709551616<=v1 * 18446744073709551616:=Int.mul_le_mul_of_nonneg_right (by omega) (by decide);omega
  have tD:=fun wx:World=>rA u0 c v1 wx b0.1 (by omega) b1.1 b1.2 e1.2
  generalize hg:(u0 * 18446744073709551616+c) / v1=g at *;generalize hr:(u0 * 18446744073709551616+c) % v1=rest at *;rw[Int.mul_comm] at p;have F:=(show Hid _ from p)
  rw[show k+3=N+1 from by omega,D] at *;rw[hm] at c1 d1;clear x p hg hr d f j s O T D hm
  have hge':u0 < v1:=by omega
  go_enter Tryz.func167,Tryz.ntmps167;go_wp2_with fail;go_quiet (fail)
  have S:(w.drewN nq).cell? ⟨E,K+N,none⟩=some (.int .u64 u0):=c0
  have G:(w.drewN nq).cell? ⟨E,K+m,none⟩=some (.int .u64 c):=c1
  have I:(w.drewN nq).cell? ⟨bv,C+m,none⟩=some (.int .u64 v1):=d1
  have y:(w.drewN nq).cell? ⟨bv,C+k,none⟩=some (.int .u64 v2):=d2;have A:=below_drewN (Below.refl w.heap.size w) nq;clear c0 c1 d1 d2;generalize w.drewN nq=W1 at *;go_wp2_with fail;go_quiet ((go_at_call 166;exact nL (tD _)))
  have d2'':(W1.drewN nq).cell? ⟨bv,C+k,none⟩=some (.int .u64 v2):=y;have l:=below_drewN A nq;clear S G I y A tD;generalize W1.drewN nq=W2 at *;go_wp2_with fail;refine(lp g v2 u v e2.1 e2.2 _).mono ?_
  rintro e w3 ⟨hi,lo,rfl,i1,i2,i3,i4,i5,rfl⟩;have b:=q.out g rest hi lo u v J M F.out i3 i4 i5.out;by_cases hc:rest < hi
  ·have H:=(show Hid _ from b.1 hc)
   have hg2:0<=g - 1:=(b.1 hc).1;clear b q;go_wp2;go_ret;exact⟨_,rfl,H.out,l⟩
  ·have H:=(show Hid _ from b.2 (by omega))
   clear b q;go_wp2;go_ret;exact⟨_,rfl,H.out,l⟩
end
end
section
open Go.RowKit Lim
section
variable {L L' lz:List Int}{k:Nat}
theorem xK(hL:Words L)(a:Words L')(b:Words lz)(j:k < L.length)(g:lz.length=L.length+L'.length)(hv:val lz=val (L.take k) * val L') :
  0<=val ((lz.drop k).take (L'.length+1))+val L' * nth L k/\val ((lz.drop k).take (L'.length+1))+val L' * nth L k < 18446744073709551616 ^ (L'.length+1):=by
 have e:=dy (hL.take k);have l:=dy a;have m:=aL (hL.take k);have c:=aL a;have n:=aL (b.take k);have i:=aL ((b.drop k).take (L'.length+1));have h7:=aL ((b.drop k).drop (L'.length+1));have h8:=hL.nth k;rw[List.length_take,Nat.min_eq_left (by omega)] at e;have e1:=bF lz k (by omega);have e2:=bF (lz.drop k) (L'.length+1) (by simp;omega);have f:=pow_pos k;have h:=pow_pos L'.length;have d:=pow_pos (L'.length+1)
 have m1:val (L.take k) * val L'<=18446744073709551616 ^ k * val L':=Int.mul_le_mul_of_nonneg_right (by omega) c
 have m2:(18446744073709551616:Int) ^ k * val (lz.drop k)<=18446744073709551616 ^ k * val L':=by omega
 have m3:val (lz.drop k)<=val L':=Int.le_of_mul_le_mul_left m2 f
 have m4:0<=18446744073709551616 ^ (L'.length+1) * val ((lz.drop k).drop (L'.length+1)):=Int.mul_nonneg (Int.le_of_lt d) h7
 have m5:val L' * nth L k<=val L' * 18446744073709551615:=Int.mul_le_mul_of_nonneg_left (by omega) c
 have m6:0<=val L' * nth L k:=Int.mul_nonneg c h8.1;refine⟨by omega,?_⟩;rw[Int.pow_succ];omega
structure j4(L L' lz:List Int)(k:Nat):Prop where
 len:lz.length=L.length+L'.length
 words:Words lz
 val:Lim.val lz=Lim.val (L.take k) * Lim.val L'
theorem j4.step{lw:List Int}(hL:Words L)(c:Words L')(d:k < L.length)(h:j4 L L' lz k)(hw:Words lw)(b:lw.length=L'.length+1)(hv:Lim.val lw=(Lim.val ((lz.drop k).take (L'.length+1))+Lim.val L' * nth L k) % 18446744073709551616 ^ (L'.length+1)):j4 L L' (patch lz k lw) (k+1):=by
 have a:=xK hL c h.words d h.len h.val;rw[Int.emod_eq_of_lt a.1 a.2] at hv;have e:=h.len;refine⟨by rw[fk (by omega)];exact h.len,kQ h.words hw,?_⟩;rw[ox (by omega),b,hv,h.val,dw d];grind
theorem qc(ao:Option Addr)(n c b o:Nat)(ao':Option Addr)(n' c' b' o':Nat)(l j:List Int)(w:World)(hl:l.length=n)(X:j.length=n')(hc:n<=c)(hc':n'<=c')(hbig:n<=1099511627776)(U:n'<=1099511627776)(wl:Words l)(W:Words j)(ha:At w ao b o l)(J:At w ao' b' o' j) :
  Calls Tryz.prog 24 #[.slice ao n c,.slice ao' n' c'] w fun e w'=>∃ v r,e=.returned v/\dI w w' v r/\IsN r (val l * val j)/\r.length<=n+n'/\Below w.heap.size w w':=by
 have hn:=bC l
 have hn':=bC j;have t1:=bp ao n c l w hl hc (by omega) ha.cells;have t2:=bp ao' n' c' j w X hc' (by omega) J.cells;have hs:=ha.sub (aE l)
 have A:=J.sub (aE j);have Q:=aJ l
 have t:=aJ j;have Y:=cA wl
 have G:=cA W;rw[show l.take (aE l)=norm l from rfl] at hs;rw[show j.take (aE j)=norm j from rfl] at A;generalize aE l=N at *;generalize aE j=d at *;generalize norm l=L at *;generalize norm j=T at *
 have y:L=[]\/b≠w.heap.size:=by
  rcases hs.lt with e | e
  ·exact .inl e
  ·exact .inr (by omega)
 have S:T=[]\/b'≠w.heap.size:=by
  rcases A.lt with e | e
  ·exact .inl e
  ·exact .inr (by omega)
 clear ha J;go_enter Tryz.func24,Tryz.ntmps24;go_wp2_with fail;refine t1.mono ?_
 rintro e w1 ⟨rfl,rfl⟩;go_wp2_with fail;refine t2.mono ?_
 rintro e z ⟨rfl,rfl⟩;clear t1 t2;go_wp2_with (at_make;refine cY rfl _ _ rfl (N+d) _ _ rfl rfl (by omega) (by omega) (by omega) ?_;intro w3 s p hsz);have F:=hs.keep p;have M:=A.keep p;have B:=s.at
 have E:=s.free 0 (N+d);clear hs A s;go_loopw [22] (fun Z wr=>∃ (k:Nat) (f:List Int),k<=N/\Z=.int .i64 k/\j4 L T f k/\At wr (some ⟨z.heap.size,0,none⟩) z.heap.size 0 f/\Wr z.heap.size 0 (N+d) w3 wr) (fun Z _=>N - (intOf Z).toNat)
 case atStart=>exact⟨0,_,Nat.zero_le _,rfl,⟨by simp[Q,t],eD _,by simp[val,fq (l:=List.replicate (N+d) 0) fun i=>by simp[nth,List.getElem?_replicate];split<;>rfl]⟩,B,Wr.refl _ _ _ _⟩
 case round =>
  clear B;obtain⟨k,f,hk,rfl,hinv,q,g⟩:=hrel;by_cases hlt:k < N
  ·have hlen:=hinv.len;rcases F.loc with e | rfl
   ·subst e;simp at Q;omega
   have y:=y;have hcx:=(F.wr g y).cell k (by omega)
   have C:=M.wr g S;have hx:=Y.1.nth k;have I:=(g.free E).fy (k:=k) (m:=d+1) (by omega);have u:=(q.drew).fy k (d+1);rw[Nat.zero_add] at u I
   have hkn:k+d+1 - k=d+1:=by omega
   have H:=ee (some ⟨z.heap.size,k,none⟩) z.heap.size k (d+1) (d+1) ao' b' o' d d (nth L k) ((f.drop k).take (d+1)) T wr.drew (by simp;omega) t (by omega) (by omega) (Nat.le_refl _) (Nat.le_refl _) hx.1 hx.2 ((hinv.words.drop k).take _) G.1 u I.drew C.drew S
   have HX:Hid (∀ lw,Words lw->lw.length=d+1->val lw=(val ((f.drop k).take (d+1))+val T * nth L k) % 18446744073709551616 ^ (d+1)->j4 L T (patch f k lw) (k+1)):=by
    intro lw h1 h2 h3;rw[<- t] at h2 h3;exact j4.step Y.1 G.1 (by omega) hinv h1 h2 h3
   have HA:Hid (At wr.drew (some ⟨z.heap.size,0,none⟩) z.heap.size 0 f):=q.drew
   have HW:Hid (Wr z.heap.size 0 (N+d) w3 wr.drew):=g.drew;clear I u C hinv g q;generalize nth L k=x at *;go_wp2_with fail;go_region_with (go_at_call 59;refine H.mono ?_;rintro e w5 ⟨rfl,lw,hlw,hww,P,D,V⟩)
   all_goals go_wp2
   all_goals exact⟨⟨k+1,patch f k lw,by omega,by go_num,HX.out lw hww hlw V,HA.out.patch (k:=k) (n:=d+1) (by rw[Nat.zero_add];exact D) (by rw[Nat.zero_add];exact P) (by omega) (by omega),HW.out.trans (D.mono (by omega) (by omega))⟩,by simp[intOf];omega⟩
  ·have hkN:k=N:=by omega
   subst hkN;have hv:=hinv.val;have hlen:=hinv.len;have hwz:=hinv.words;rw[List.take_of_length_le (by omega),Y.2.2,G.2.2] at hv;have hfz:=g.free E;have hz1:=bC f;have hz2:=aJ f;have O:=q.sub (aE f)
   have HF:IsN (norm f) (val l * val j):=by rw[<- hv];exact cA hwz
   have HB:=p.trans (g.below (Nat.le_refl _));rw[show f.take (aE f)=norm f from rfl] at O;have t3:=bp (some ⟨z.heap.size,0,none⟩) (k+d) (k+d) f wr (by omega) (Nat.le_refl _) (by omega) q.cells;clear F M q g p hinv hv;generalize aE f=K at *;generalize norm f=R at *;go_wp2_with fail;refine t3.mono ?_
   rintro e w6 ⟨rfl,rfl⟩;go_wp2;go_ret;exact⟨_,R,rfl,dI.of hz2.symm (Nat.le_refl _) (Nat.le_refl _) O (fun i hi=>hfz i (by omega)),HF,by omega,HB⟩
end
end
section
open Go.RowKit Lim
section
variable {lu lq lu1:List Int}{V:Int}{q0 k a n:Nat}{w:World}
structure kS(lu:List Int)(V:Int)(q0 k m:Nat)(lq lu1:List Int):Prop where
 Dp:lq.length=q0
 Bh:lu1.length=q0+(k+2)
 wq:Words lq
 wu:Words lu1
 eq:val lu=18446744073709551616 ^ m * val (lq.drop m) * V+val lu1
 lt:val lu1 < V * 18446744073709551616 ^ m
theorem kS.fy(h:kS lu V q0 k (a+1) lq lu1)(m:a < q0)(j:V < 18446744073709551616 ^ (k+2)) :
  val lu1=val (lu1.take a)+18446744073709551616 ^ a * val ((lu1.drop a).take (k+3))/\val ((lu1.drop a).take (k+3)) < V * 18446744073709551616:=by
 have g:=h.Bh;have e1:=bF lu1 a (by omega);have e2:=bF (lu1.drop a) (k+3) (by simp;omega);have p:=aL (h.wu.take a);have l:=aL ((h.wu.drop a).take (k+3));have n:=aL ((h.wu.drop a).drop (k+3));have e:=h.lt;have b:=pow_pos a
 have d:val ((lu1.drop a).drop (k+3))=0:=by
  by_cases c:val ((lu1.drop a).drop (k+3))=0
  ·exact c
  ·have k1:18446744073709551616 ^ (k+3) * 1<=18446744073709551616 ^ (k+3) * val ((lu1.drop a).drop (k+3)):=Int.mul_le_mul_of_nonneg_left (by omega) (Int.le_of_lt (pow_pos _))
   have k2:18446744073709551616 ^ a * 18446744073709551616 ^ (k+3)<=18446744073709551616 ^ a * val (lu1.drop a):=Int.mul_le_mul_of_nonneg_left (by omega) (Int.le_of_lt b)
   have k3:(V+1) * 18446744073709551616 ^ (a+1)<=18446744073709551616 ^ (k+2) * 18446744073709551616 ^ (a+1):=Int.mul_le_mul_of_nonneg_right (by omega) (Int.le_of_lt (pow_pos _));rw[Int.add_mul] at k3
   have o:(18446744073709551616:Int) ^ (k+2) * 18446744073709551616 ^ (a+1)=18446744073709551616 ^ a * 18446744073709551616 ^ (k+3):=by rw[<- Int.pow_add,<- Int.pow_add];congr 1;omega
   have i:=pow_pos (a+1);omega
 rw[d,Int.mul_zero,Int.add_zero] at e2;rw[e2] at e1;refine⟨e1,?_⟩
 have f:18446744073709551616 ^ a * val ((lu1.drop a).take (k+3)) < 18446744073709551616 ^ a * (V * 18446744073709551616):=by
  have:18446744073709551616 ^ a * (V * 18446744073709551616)=V * 18446744073709551616 ^ (a+1):=by rw[Int.pow_succ];grind
  omega
 exact Int.lt_of_mul_lt_mul_left f (Int.le_of_lt b)
theorem kS.step{d:Int}{nw:List Int}(h:kS lu V q0 k (a+1) lq lu1)(n:a < q0)(i:V < 18446744073709551616 ^ (k+2))(d0:0<=d)(d1:d < 18446744073709551616)(wn:Words nw)(hn:nw.length=k+3)(e:val nw=val ((lu1.drop a).take (k+3)) - d * V)(e1:val nw < V):kS lu V q0 k a (lq.set a d) (patch lu1 a nw):=by
 have hw:=h.fy n i;have g:=h.Bh;have c:=h.Dp;have b:=ox (l:=lu1) (m:=nw) (k:=a) (by omega);have f:=dy (h.wu.take a);rw[List.length_take,Nat.min_eq_left (by omega)] at f;have j:=pow_pos a;refine⟨by simp[c],by rw[fk (by omega)];exact g,h.wq.set a d0 d1,kQ h.wu wn,?_,?_⟩
 ·rw[h.eq,dS (l:=lq.set a d) (by simp;omega),dD (by omega),if_pos rfl,List.drop_set,if_pos (by omega),b,hn,e,Int.pow_succ];grind
 ·have k1:18446744073709551616 ^ a * (val nw+1)<=18446744073709551616 ^ a * V:=Int.mul_le_mul_of_nonneg_left (by omega) (Int.le_of_lt j);rw[b,hn,Int.mul_sub,Int.mul_comm V];rw[Int.mul_add] at k1;omega
theorem C8{U g o Z:Int}{x:Int}(hn:qO U V g)(l:V < 18446744073709551616 ^ n)(hx:x=U - V * g+18446744073709551616 ^ n * o)(x1:x < 18446744073709551616 ^ n)(p:0<=U)(m:0<=o) :
  (o=0->x=U - g * V/\x < V)/\(o≠0->Z=(x+V * 1) % 18446744073709551616 ^ n->1<=g/\Z=U - (g - 1) * V/\Z < V):=by
 obtain⟨g0,g1,j,f⟩:=hn;rw[Int.sub_mul] at j;rw[Int.add_mul] at f;rw[Int.mul_comm V g] at hx;have d:=pow_pos n;constructor
 ·intro h;subst h;omega
 ·intro h i
  have k1:18446744073709551616 ^ n * 1<=18446744073709551616 ^ n * o:=Int.mul_le_mul_of_nonneg_left (by omega) (Int.le_of_lt d)
  have a:o=1:=by
   by_cases c:2<=o
   ·have k2:18446744073709551616 ^ n * 2<=18446744073709551616 ^ n * o:=Int.mul_le_mul_of_nonneg_left c (Int.le_of_lt d);omega
   ·omega
  subst a
  have b:U - g * V < 0:=by omega
  have k:1<=g:=by
   by_cases c:1<=g
   ·exact c
   ·have:g=0:=by omega
    subst this;omega
  have e:x+V * 1=(U - (g - 1) * V)+18446744073709551616 ^ n * 1:=by rw[hx,Int.sub_mul];omega
  rw[e,Int.add_mul_emod_self_left,Int.sub_mul,Int.emod_eq_of_lt (by omega) (by omega)] at i;rw[Int.sub_mul];exact⟨k,by omega,by omega⟩
theorem jj{P:Program}{a:Act}{Q:Exit->Act->World->Prop}{c rest:Code}(l:Nat)(J:Act->World->Prop)(μ:Act->World->Nat)(hf:findLabel c l=some (Code.skip.seq rest))(first:(∀ a w,J a w->rest.wp P (Exit.jump l J Q) a w)->c.wp P (Exit.jump l J Q) a w)(pass:∀ a w,J a w->rest.wp P (Exit.jump l (fun a' w'=>J a' w'/\μ a' w' < μ a w) Q) a w):(Code.scope c).wp P Q a w :=
 wp_scope_jumps l J μ hf (first fun a w b=>wp_mono (pass a w b) fun e a' w' h=>by
  cases e with
  | goto l'=>exact⟨h.1,h.2.1⟩
  | _=>exact h) fun a w b=>wp_seq (wp_skip (pass a w b))
theorem q8{l m a:List Int}(h:k+m.length<=l.length)(hm:a.length=m.length):patch (patch l k m) k a=patch l k a:=by
 have e:(l.take k).length=k:=by simp;omega
 unfold patch;rw[List.take_left' e,hm,<- List.append_assoc (l.take k) m,List.drop_left' (by simp;omega)]
theorem dE.below{B:Nat}{w':World}(h:Below B w w'){b o:Nat}(k:dE w b o n)(hb:b < B):dE w' b o n:=fun i hi=>by
 rw[World.frozen?_of_block (w:=w) (h.block b hb)];exact k i hi
theorem mh(s z cu:Nat)(av:Option Addr)(k q0 cv bv ov:Nat)(lu F:List Int)(w:World)(ac:lu.length=q0+(k+2))(N:F.length=k+2)(hbig:k<=1099511627776)(hbigq:q0<=1099511627776)(hcu:q0+(k+2)<=cu)(hcv:k+2<=cv)(wu:Words lu)(wv:Words F)(hu:At w (some ⟨s,z,none⟩) s z lu)(hfu:dE w s z (q0+(k+2)))(hv:At w av bv ov F)(ad:bv≠s)(htop:9223372036854775808<=nth F (k+1))(hval:val lu < val F * 18446744073709551616 ^ q0) :
  Calls Tryz.prog 115 #[.slice (some ⟨s,z,none⟩) (q0+(k+2)) cu,.slice av (k+2) cv] w fun e w'=>∃ lq lr:List Int,e=.returned (.slice (some ⟨w.heap.size,0,none⟩) q0 q0)/\kS lu (val F) q0 k 0 lq lr/\At w' (some ⟨w.heap.size,0,none⟩) w.heap.size 0 lq/\dE w' w.heap.size 0 q0/\At w' (some ⟨s,z,none⟩) s z lr/\dE w' s z (q0+(k+2))/\Below s w w':=by
 go_enter Tryz.func115,Tryz.ntmps115;go_wp2;refine jj 0 (fun a' w'=>∃ (m:Nat) (lq u:List Int) (u8 u9 u10 u11 u12 u13 u14 u15 u16 u17 u18 u19 u20 u21 u22 u23 u24 u25 u26 u27 u28 u29 u30 u31 u32 u33 u34 u35 u36 u37 u38 u39 u40 u41 u42 u43 u44 u45 u46 u47 u48 u49 u50 u51 u52 u53 u54:Value),a'={ tmps:=#[.slice (some ⟨s,z,none⟩) (q0+(k+2)) cu,.slice av (k+2) cv,undef,undef,.slice none 0 0,.int .i64 ((k:Int)+2),.int .i64 (m:Int),.slice (some ⟨w.heap.size,0,none⟩) q0 q0,u8,u9,u10,u11,u12,u13,u14,u15,u16,u17,u18,u19,u20,u21,u22,u23,u24,u25,u26,u27,u28,u29,u30,u31,u32,u33,u34,u35,u36,u37,u38,u39,u40,u41,u42,u43,u44,u45,u46,u47,u48,u49,u50,u51,u52,u53,u54],defers:=[] }/\m<=q0/\kS lu (val F) q0 k m lq u/\At w' (some ⟨w.heap.size,0,none⟩) w.heap.size 0 lq/\dE w' w.heap.size 0 q0/\At w' (some ⟨s,z,none⟩) s z u/\dE w' s z (q0+(k+2))/\At w' av bv ov F/\w.heap.size < w'.heap.size/\Below s w w') (fun a' _=>(intOf (a'.tmps.getD 6 undef)).toNat) rfl ?_ ?_
 ·intro aB;go_wp2_with (at_make;refine cY rfl _ _ rfl q0 _ _ rfl rfl (by omega) (by omega) (by omega) ?_;intro w1 ai f hsz);go_step3
  have O:s < w.heap.size:=by
   rcases hu.lt with e | e
   ·subst e;simp at ac
   ·exact e
  have hI:kS lu (val F) q0 k q0 (List.replicate q0 0) lu:=⟨by simp,ac,eD _,wu,by simp[val],hval⟩
  rename_i K hK;refine hK _ _ (aB _ _ ⟨q0,List.replicate q0 0,lu,_,_,_,_,_,_,_,_,_,_,_,_,_,_,_,_,_,_,_,_,_,_,_,_,_,_,_,_,_,_,_,_,_,_,_,_,_,_,_,_,_,_,_,_,_,_,_,rfl,Nat.le_refl _,hI,ai.at,ai.free 0 q0,hu.keep f,dE.below f hfu O,hv.keep f,by omega,f.mono (Nat.le_of_lt O)⟩)
 ·rintro a' wr ⟨m,lq,u,u8,u9,u10,u11,u12,u13,u14,u15,u16,u17,u18,u19,u20,u21,u22,u23,u24,u25,u26,u27,u28,u29,u30,u31,u32,u33,u34,u35,u36,u37,u38,u39,u40,u41,u42,u43,u44,u45,u46,u47,u48,u49,u50,u51,u52,u53,u54,rfl,hm,hinv,hq,ax,Y,E,aq,ag,hbl⟩;by_cases hm0:m=0
  ·subst hm0;go_wp2;rw[show ∀ J Q b w,Exit.jump 0 J Q .ret b w=Q .ret b w from fun _ _ _ _=>rfl];go_ret;exact⟨lq,u,rfl,hinv,hq,ax,Y,E,hbl⟩
  ·obtain⟨a,rfl⟩:∃ a,m=a+1:=⟨m - 1,by omega⟩
   have y:=hinv.Dp;have v:=hinv.Bh
   have hk1:a+(k+2)+1 - a=k+3:=by omega
   have aw:=dy wv;rw[N] at aw;obtain⟨x,hW2⟩:=hinv.fy (by omega) aw;have am:=Y.fy a (k+3);have hfwin:=E.fy (k:=a) (m:=k+3) (by omega)
   have r:((u.drop a).take (k+3)).length=k+3:=by simp;omega
   have j:Words ((u.drop a).take (k+3)):=(hinv.wu.drop a).take (k+3);have R:=fun wx hx hy=>vS (some ⟨s,z+a,none⟩) (k+3) s (z+a) av k cv bv ov ((u.drop a).take (k+3)) F wx r N (by omega) j wv hx hy htop hW2
   have c:=fun d nw=>hinv.step (d:=d) (nw:=nw) (by omega) aw
   have HH:=(show Hid _ from And.intro x (And.intro r (And.intro j (And.intro y (And.intro v c)))))
   clear hinv x r j y v c
   have e1:((a:Nat):Int)+1 - 1=a:=by omega
   generalize hL:(u.drop a).take (k+3)=L at *;go_wp2_with fail;rw[hk1];refine(R _ am aq).mono ?_
   rintro e w2 ⟨g,rfl,C,f⟩;obtain⟨x,r,j,y,v,c⟩:=HH.out
   have hsz2:w.heap.size < w2.heap.size:=Nat.lt_of_lt_of_le ag f.size
   have O:s < wr.heap.size:=by
    rcases Y.lt with e | e
    ·subst e;simp at v
    ·exact e
   have HB2:=(show Hid _ from hbl.trans (f.mono (Nat.le_of_lt O)))
   clear hbl;have az:=hq.keep f;have S:=dE.below f ax ag;have hu2:=Y.keep f;have af:=dE.below f E O;have hv2:=aq.keep f;have hc:=az.cell a (by omega);have hf:=S a (by omega);rw[Nat.zero_add] at hc hf;clear R am;have hg0:=C.1;have hg1:=C.2.1;clear x r j y v c hq ax Y E aq;go_wp2_with fail
   have T:s≠w.heap.size:=by
    rcases hu.lt with e | e
    ·subst e;simp at ac
    ·omega
   have ae:s<=w.heap.size:=by
    rcases hu.lt with e | e
    ·subst e;simp at ac
    ·omega
   have hbv:bv≠w.heap.size:=by
    rcases hv.lt with e | e
    ·subst e;simp at N
    ·omega
   obtain⟨x,r,j,y,v,c⟩:=HH.out
   have t:Wr w.heap.size 0 q0 w2 (w2.setCell ⟨w.heap.size,a,none⟩ (.int .u64 g)):=(Wr.refl _ _ _ _).setCell (by omega) (by omega) _;have hq3:=az.setCell (i:=a) (by omega) g;rw[Nat.zero_add] at hq3;generalize w2.setCell ⟨w.heap.size,a,none⟩ (.int .u64 g)=w3 at *;have ao:=t.free S;have U:=t.free af;have aA:=hu2.wr t (.inr T);have hv3:=hv2.wr t (.inr hbv)
   have hsz3:w.heap.size < w3.heap.size:=by rw[t.size];exact hsz2
   have D:=aA.fy a (k+3);rw[hL] at D;have M:=U.fy (k:=a) (m:=k+3) (by omega);refine(iO (some ⟨s,z+a,none⟩) s (z+a) (k+3) (k+3) av bv ov (k+2) cv g L F w3 r N (by omega) (by omega) (Nat.le_refl _) hcv hg0 hg1 j wv D M hv3 (.inr ad)).mono ?_
   rintro e w4 ⟨fR,rfl,ho0,ho1,nw,X,au,ak,p,B⟩;have HB4:=(show Hid _ from(HB2.out.trans (t.below ae)).trans (p.below (Nat.le_refl _)))
   have H:=p.free ao;have W:=p.free U;have ab:=hq3.wr p (.inr (Ne.symm T));have hv4:=hv3.wr p (.inr ad);have ar:=aA.patch p ak X (by omega)
   have al:w.heap.size < w4.heap.size:=by rw[p.size];exact hsz3
   have hP:=fk (l:=u) (m:=nw) (k:=a) (by omega)
   have hVB3:val F < 18446744073709551616 ^ (k+3):=by
    have:=pow_pos (k+2);rw[Int.pow_succ _ (k+2)];omega
   have I:=dy au;rw[X] at I;have A:=fun Z=>C8 (Z:=Z) (n:=k+3) C hVB3 B I (aL j) ho0
   clear t S af hu2 hv2 az ao U aA hv3 D M p hq3;by_cases ho:fR=0
   ·subst ho;have hx:=(A 0).1 rfl;have hJ:=c g nw hg0 hg1 au X hx.1 hx.2;have HJ:=(show Hid _ from hJ)
    clear hJ hx A c HH x r j y v B I hP;go_wp2_with fail;go_step3;refine And.intro (Eq.refl 0) (And.intro ?_ ?_)
    ·exact⟨a,lq.set a g,patch u a nw,_,_,_,_,_,_,_,_,_,_,_,_,_,_,_,_,_,_,_,_,_,_,_,_,_,_,_,_,_,_,_,_,_,_,_,_,_,_,_,_,_,_,_,_,_,_,_,rfl,by omega,HJ.out,ab,H,ar,W,hv4,al,HB4.out⟩
    ·simp[intOf]
   ·have hg1':1<=g:=((A ((val nw+val F * 1) % 18446744073709551616 ^ (k+3))).2 ho rfl).1;have V:=ab.cell a (by simp;omega);have ap:=H a (by omega);rw[Nat.zero_add] at V ap;rw[dD (by omega),if_pos rfl] at V;have HN:=(show Hid _ from And.intro A (And.intro c (And.intro y (And.intro v (And.intro x (And.intro r (And.intro j (And.intro hP X))))))))
    clear A c HH x r j y v B I hP
    have hgw:IntKind.u64.wrap (g - 1)=g - 1:=by rw[IntKind.wrap_u64];omega
    have hob:(fR == 0)=false:=by simpa using ho
    go_wp2_with fail;obtain⟨A,c,y,v,x,r,j,hP,hnl'⟩:=HN.out
    have q:Wr w.heap.size 0 q0 w4 (w4.setCell ⟨w.heap.size,a,none⟩ (.int .u64 (g - 1))):=(Wr.refl _ _ _ _).setCell (by omega) (by omega) _;have ay:=ab.setCell (i:=a) (by simp;omega) (g - 1);rw[Nat.zero_add,List.set_set] at ay;generalize w4.setCell ⟨w.heap.size,a,none⟩ (.int .u64 (g - 1))=w5 at *;have an:=q.free H;have P:=q.free W;have hu5:=ar.wr q (.inr T);have hv5:=hv4.wr q (.inr hbv);have aj:=ak.wr q (.inr T)
    have hsz5:w.heap.size < w5.heap.size:=by rw[q.size];exact al
    have G:=P.fy (k:=a) (m:=k+3) (by omega);refine(ee (some ⟨s,z+a,none⟩) s (z+a) (k+3) (k+3) av bv ov (k+2) cv 1 nw F w5 X N (by omega) (by omega) (Nat.le_refl _) hcv (by omega) (by omega) au wv aj G hv5 (.inr ad)).mono ?_
    rintro e w6 ⟨rfl,n2,ah,hnw6,hat6,o,aa⟩;have HB6:=(show Hid _ from(HB4.out.trans (q.below ae)).trans (o.below (Nat.le_refl _)))
    have hfq6:=o.free an;have hfu6:=o.free P;have hq6:=ay.wr o (.inr (Ne.symm T));have hv6:=hv5.wr o (.inr ad);have hu6:=hu5.patch o hat6 ah (by omega);rw[q8 (by omega) (by omega)] at hu6
    have hsz6:w.heap.size < w6.heap.size:=by rw[o.size];exact hsz5
    have hx:=(A (val n2)).2 ho aa;have HJ:=(show Hid _ from c (g - 1) n2 (by omega) (by omega) hnw6 ah hx.2.1 hx.2.2)
    clear hx A c HN x r j y v hP q ay an P hu5 hv5 aj G o ab H ar hv4 W aa V ap;go_wp2_with fail;go_step3;refine And.intro (Eq.refl 0) (And.intro ?_ ?_)
    ·exact⟨a,lq.set a (g - 1),patch u a n2,_,_,_,_,_,_,_,_,_,_,_,_,_,_,_,_,_,_,_,_,_,_,_,_,_,_,_,_,_,_,_,_,_,_,_,_,_,_,_,_,_,_,_,_,_,_,_,rfl,by omega,HJ.out,hq6,hfq6,hu6,hfu6,hv6,hsz6,HB6.out⟩
    ·simp[intOf]
end
end
section
open Go.RowKit Lim
section
variable {l L:List Int}{k s:Nat}
theorem Bp(wl:Words l){n:Nat}(hn:l.length=n+1):nth l n * 18446744073709551616 ^ n<=val l/\val l < (nth l n+1) * 18446744073709551616 ^ n:=by
 have e1:=bF l n (by omega);have b:=aL (wl.take n);have a:=dy (wl.take n);rw[List.length_take,Nat.min_eq_left (by omega)] at a;rw[dS (by omega),List.drop_of_length_le (show l.length<=n+1 by omega)] at e1
 have e2:(18446744073709551616:Int) ^ n * (nth l n+18446744073709551616 * val [])=nth l n * 18446744073709551616 ^ n:=by
  rw[show val []=0 from rfl];grind
 rw[e2] at e1;rw[Int.add_mul (nth l n) 1];omega
theorem fh{a b p:Int}(hp:0 < p)(h:a * p < b * p):a < b:=Int.lt_of_mul_lt_mul_right h (Int.le_of_lt hp)
theorem tQ{a:List Int}(j:Words L)(hL:L.length=k+2)(c:Words a)(hv:a.length=k+3)(hs:s<=63)(e:val a=val L * 2 ^ s)(b0:9223372036854775808<=nth L (k+1) * 2 ^ s)(b1:nth L (k+1) * 2 ^ s < 18446744073709551616):aE a=k+2/\9223372036854775808<=nth a (k+1):=by
 obtain⟨t1,t2⟩:=Bp (n:=k+1) j hL;obtain⟨m,l⟩:=Bp (n:=k+2) c hv
 have b:(0:Int) < 2 ^ s:=Int.pow_pos (by decide);have d:=pow_pos (k+1);have hC:=pow_pos (k+2)
 have c1:(nth L (k+1)+1) * 2 ^ s<=18446744073709551616:=by
  have h:(18446744073709551616:Int)=2 ^ (64 - s) * 2 ^ s:=by rw[<- Int.pow_add,show 64 - s+s=64 by omega];rfl
  rw[h] at b1 ⊢;have:=fh b b1;exact Int.mul_le_mul_of_nonneg_right (by omega) (Int.le_of_lt b)
 have c2:val a < 1 * 18446744073709551616 ^ (k+2):=by
  have k1:val L * 2 ^ s < (nth L (k+1)+1) * 18446744073709551616 ^ (k+1) * 2 ^ s:=Int.mul_lt_mul_of_pos_right t2 b
  have k2:(nth L (k+1)+1) * 2 ^ s * 18446744073709551616 ^ (k+1)<=18446744073709551616 * 18446744073709551616 ^ (k+1):=Int.mul_le_mul_of_nonneg_right c1 (Int.le_of_lt d);rw[Int.mul_right_comm] at k1;rw[Int.pow_succ _ (k+1),Int.mul_comm _ 18446744073709551616];omega
 have q:nth a (k+2) < 1:=fh hC (by omega)
 have g:nth a (k+2)=0:=by have:=c.nth (k+2);omega
 have e1:=bF a (k+2) (by omega);rw[dS (by omega),List.drop_of_length_le (show a.length<=k+2+1 by omega),g,show val []=0 from rfl] at e1;obtain⟨v1,v2⟩:=Bp (n:=k+1) (c.take (k+2)) (by simp;omega);rw[dt (by omega)] at v1 v2
 have p:9223372036854775808 * 18446744073709551616 ^ (k+1)<=val a:=by
  have k1:nth L (k+1) * 18446744073709551616 ^ (k+1) * 2 ^ s<=val L * 2 ^ s:=Int.mul_le_mul_of_nonneg_right t1 (Int.le_of_lt b)
  have k2:9223372036854775808 * 18446744073709551616 ^ (k+1)<=nth L (k+1) * 2 ^ s * 18446744073709551616 ^ (k+1):=Int.mul_le_mul_of_nonneg_right b0 (Int.le_of_lt d);rw[Int.mul_right_comm] at k1;omega
 have o:9223372036854775808 < nth a (k+1)+1:=fh d (by omega);refine⟨jR (by omega) ?_ ?_,by omega⟩
 ·intro i hi;by_cases f:i=k+2
  ·subst f;exact g
  ·simp[nth,List.getElem?_eq_none (show a.length<=i by omega)]
 ·intro _;rw[show k+2 - 1=k+1 from rfl];omega
theorem Cm{N:Nat}(wl:Words l)(b:l.length=N)(g:Words L)(hL:L.length=k+2)(c:1<=nth L (k+1))(h:k+2<=N) :
  val l * 2 ^ s < val L * 2 ^ s * 18446744073709551616 ^ (N+1 - (k+2)):=by
 obtain⟨t1,t2⟩:=Bp (n:=k+1) g hL
 have f:(0:Int) < 2 ^ s:=Int.pow_pos (by decide);have e:=pow_pos (k+1);have a:=pow_pos (N+1 - (k+2));have d:=dy wl;rw[b] at d
 have k1:1 * 18446744073709551616 ^ (k+1)<=nth L (k+1) * 18446744073709551616 ^ (k+1):=Int.mul_le_mul_of_nonneg_right c (Int.le_of_lt e)
 have k2:18446744073709551616 ^ (k+1) * 18446744073709551616 ^ (N+1 - (k+2))<=val L * 18446744073709551616 ^ (N+1 - (k+2)):=Int.mul_le_mul_of_nonneg_right (by omega) (Int.le_of_lt a);rw[<- Int.pow_add,show k+1+(N+1 - (k+2))=N by omega] at k2;rw[Int.mul_right_comm];exact Int.mul_lt_mul_of_pos_right (by omega) f
theorem A9{x V Q R P:Int}(g:0 < P)(h:0 < V)(e:x * P=Q * (V * P)+R)(r0:0<=R)(r1:R < V * P):Q=x / V/\R / P=x % V:=by
 have f:R=(x - Q * V) * P:=by rw[Int.sub_mul,e,Int.mul_assoc];omega
 have c:R / P=x - Q * V:=by rw[f,Int.mul_ediv_cancel _ (by omega)]
 have j:0<=x - Q * V:=by rw[<- c];exact Int.ediv_nonneg r0 (Int.le_of_lt g)
 have i:x - Q * V < V:=fh g (by rw[<- f];exact r1);have d:=(Int.ediv_emod_unique (a:=x) (b:=V) (r:=x - Q * V) (q:=Q) h).2 ⟨by rw[Int.mul_comm V];omega,j,i⟩;exact⟨d.1.symm,by rw[c];exact d.2.symm⟩
theorem yG(ao:Option Addr)(n c b o:Nat)(ao':Option Addr)(n' c' b' o':Nat)(l d:List Int)(w:World)(hl:l.length=n)(hl':d.length=n')(hc:n<=c)(hc':n'<=c')(hbig:n<=1099511627776)(hbig':n'<=1099511627776)(wl:Words l)(u:Words d)(ha:At w ao b o l)(ha':At w ao' b' o' d)(hge:val d<=val l)(h2:2<=aE d) :
  Calls Tryz.prog 70 #[.slice ao n c,.slice ao' n' c'] w fun e w'=>jQ w w' e (val l) (val d) n n':=by
 have h0:=aL wl;have hn:=bC l
 have hn':=bC d
 have hNN:aE d<=aE l:=by
  by_cases c:aE l < aE d
  ·have:=dC wl u c;omega
  ·omega
 have t1:=bp ao' n' c' d w hl' hc' (by omega) ha'.cells
 have z:=ha'.sub (aE d);rw[show d.take (aE d)=norm d from rfl] at z;have t2:=iy ao n c b o ao' (aE d) (aE d) b' o' l (norm d) w hl (aJ d) hc (Nat.le_refl _) (by omega) (by omega) wl u.norm ha z;rw[cZ] at t2
 have hs0:0<=sgn (val l) (val d):=by unfold sgn;split<;>(try split)<;>omega
 have f:=aJ d
 have F:=u.norm
 have g:=cZ d
 have ae:nth (norm d) (aE d - 1)≠0:=by rw[fU];exact iE (by omega)
 generalize norm d=L' at *;generalize v:aE d=r at *;obtain⟨m,hm⟩:∃ m,r=m+1:=⟨r - 1,by omega⟩
 rw[show r - 1=m by omega] at ae
 have hmi:(r:Int) - 1=m:=by omega
 have hmN:m < r:=by omega
 have hmN':(m:Int) < r:=by omega
 have hty:=F.nth m;rcases z.loc with e | rfl
 ·subst e;simp at f;omega
 generalize sgn (val l) (val d)=sg at *;have H1:=(show Hid _ from And.intro g (And.intro hm (And.intro f (And.intro hge (And.intro hl v)))))
 clear g hm f v;go_enter Tryz.func70,Tryz.ntmps70;go_wp2_with fail;refine t1.mono ?_
 rintro e w1 ⟨rfl,rfl⟩;go_wp2_with fail;refine t2.mono ?_
 rintro e w2 ⟨rfl,q⟩;have hcy:=(z.keep q).cell m (by rw[H1.out.2.2.1];exact hmN);clear t1 t2;go_wp2_with fail;refine(DV (nth L' m) w2 (by omega) hty.2).mono ?_
 rintro e w3 ⟨s,rfl,hs,HS,rfl⟩;have ta:=bp ao n c l w3 hl hc (by omega) (ha.keep q).cells;have ad:=(ha.keep q).sub (aE l);rw[show l.take (aE l)=norm l from rfl] at ad;have P:=aJ l;have S:=wl.norm;have HV:=(show Hid _ from cZ l)
 rw[hl] at hn;generalize norm l=L at *;generalize aE l=N at *;clear hcy;go_wp2_with fail;refine ta.mono ?_
 rintro e w4 ⟨rfl,rfl⟩;clear ta;go_wp2_with fail;refine(nX ao N N b o s L w4 P (Nat.le_refl _) (by omega) hs S ad).mono ?_
 rintro e w5 ⟨lu,rfl,ab,hwu,af,hfu,ac,V,O⟩;have hs5:=(z.keep q).keep O;have HU:=(show Hid _ from And.intro ab (And.intro V P))
 clear ab V P;go_wp2_with fail;refine(nX (some ⟨b',o',none⟩) r r b' o' s L' w5 H1.out.2.2.1 (Nat.le_refl _) (by omega) hs F hs5).mono ?_
 rintro e w6 ⟨K,rfl,hlv,T,I,hfv,hszv,B,A⟩;obtain⟨k,hk⟩:∃ k,k+2=r:=⟨r - 2,by omega⟩
 obtain⟨q0,x⟩:∃ q0,q0+(k+2)=N+1:=⟨N+1 - (k+2),by omega⟩
 obtain⟨g,hm,f,hge',X,v⟩:=H1.out
 have hmk:m=k+1:=by omega
 have G:=tQ (k:=k) F (by omega) T (by omega) hs B (by rw[<- hmk];exact HS.out.1) (by rw[<- hmk];exact HS.out.2);have M:=Cm (s:=s) (N:=N) (k:=k) (l:=L) (L:=L') S HU.out.2.2 F (by omega) (by rw[<- hmk];omega) (by omega);rw[<- HU.out.2.1,<- B,show N+1 - (k+2)=q0 by omega] at M;have tv:=bp (some ⟨w5.heap.size,0,none⟩) (r+1) (r+1) K w6 hlv (Nat.le_refl _) (by omega) I.cells;rw[G.1,hk] at tv;have hsv:=I.sub (aE K);rw[show K.take (aE K)=norm K from rfl] at hsv;have t:=aJ K;rw[G.1] at t;have Q:=mh w4.heap.size 0 (N+1) (some ⟨w5.heap.size,0,none⟩) k q0 r w5.heap.size 0 lu (norm K) w6 (by rw[x];exact HU.out.1) t (by omega) (by omega) (by omega) (by omega) hwu T.norm (af.keep A) (by rw[x];exact dE.below A hfu ac) hsv (by omega) (by rw[fU];exact G.2) (by rw[cZ];exact M);rw[x,hk,cZ] at Q;have HK:=(show Hid _ from And.intro hk (And.intro x (And.intro B hmk)))
 have hq0n:q0<=N:=by omega
 clear g hm f v hk x hmk G M t B X;go_wp2_with fail;refine tv.mono ?_
 rintro e w7 ⟨rfl,rfl⟩;clear tv;go_wp2_with fail;refine Q.mono ?_
 rintro e w8 ⟨R,lr,rfl,D,W,hfq,hatr,ah,hbd⟩;clear Q
 have C:lr.length=N+1:=by rw[D.Bh];exact HK.out.2.1
 have Y:=(show Hid _ from D)
 have H:=D.wu;clear D;go_wp2_with fail;refine(vW (some ⟨w4.heap.size,0,none⟩) w4.heap.size 0 (N+1) (N+1) s lr w8 C (by omega) (Nat.le_refl _) hs H hatr ah).mono ?_
 rintro e w9 ⟨rfl,Z,y,hwz,J,j,E⟩;have U:=W.wr j (.inr (by omega));have aa:=j.free hfq;have hfz9:=j.free ah;have tq:=bp (some ⟨w7.heap.size,0,none⟩) q0 q0 R w9 Y.out.Dp (Nat.le_refl _) (by omega) U.cells;have tr:=bp (some ⟨w4.heap.size,0,none⟩) (N+1) (N+1) Z w9 y (Nat.le_refl _) (by omega) J.cells;have hz1:=bC Z;have hz2:=bC R;rw[Y.out.Dp] at hz2;rw[y] at hz1;have HX:=(show Hid _ from And.intro C (And.intro y E))
 clear C y E;go_wp2_with fail;refine tq.mono ?_
 rintro e w10 ⟨rfl,rfl⟩;go_wp2_with fail;refine tr.mono ?_
 rintro e w11 ⟨rfl,rfl⟩;clear tq tr;go_wp2;go_ret3;have hsq:=U.sub (aE R);have hsz:=J.sub (aE Z);have p:=q.size;have hsz5:=O.size;have hsz7:=A.size
 have HB:Below w1.heap.size w1 w11:=(((q.trans (O.mono p)).trans (A.mono (by omega))).trans (hbd.mono p)).trans (j.below p);obtain⟨g,hm,f,hge',X,v⟩:=H1.out;obtain⟨C,y,E⟩:=HX.out;have he:=Y.out.eq;have hlt:=Y.out.lt;rw[HU.out.2.1,HV.out,HK.out.2.2.1,g,Int.pow_zero,Int.one_mul,List.drop_zero] at he;rw[HK.out.2.2.1,g,Int.pow_zero,Int.mul_one] at hlt
 have hV:0 < val d:=by
  have:val d≠0:=fun e=>by have:=(cj u).2 e;omega
  have:=aL u;omega
 have ag:=A9 (fO s hs).1 hV he (aL H) hlt;have i1:=cA Y.out.wq;have i2:=cA hwz;rw[ag.1] at i1;rw[E,ag.2] at i2;exact⟨_,_,norm R,norm Z,rfl,dI.of (aJ R).symm (Nat.le_refl _) (by omega) hsq (fun i hi=>aa i (by omega)),dI.of (aJ Z).symm (Nat.le_refl _) p hsz (fun i hi=>hfz9 i (by omega)),i1,i2,by rw[aJ];omega,by rw[aJ];omega,HB⟩
theorem vC(ao:Option Addr)(n c b o:Nat)(ao':Option Addr)(n' c' b' o':Nat)(l f:List Int)(w:World)(k:l.length=n)(h:f.length=n')(hc:n<=c)(i:n'<=c')(d:n<=1099511627776)(a:n'<=1099511627776)(wl:Words l)(g:Words f)(m:At w ao b o l)(j:At w ao' b' o' f)(p:val f≠0) :
  Calls Tryz.prog 70 #[.slice ao n c,.slice ao' n' c'] w fun e w'=>jQ w w' e (val l) (val f) n n':=by
 by_cases q:val l < val f
 ·exact div_lt ao n c b o ao' n' c' b' o' l f w k h hc i d a wl g m j q
 ·have s:aE f≠0:=fun e=>p ((cj g).1 e)
  by_cases r:aE f=1
  ·exact div_one ao n c b o ao' n' c' b' o' l f w k h hc i d a wl g m j (by omega) r
  ·exact yG ao n c b o ao' n' c' b' o' l f w k h hc i d a wl g m j (by omega) (by omega)
theorem sk(ao:Option Addr)(n c b o:Nat)(ao':Option Addr)(n' c' b' o':Nat)(ad:Option Addr)(g z O N:Nat)(l j i:List Int)(w:World)(U:l.length=n)(E:j.length=n')(B:i.length=g)(hc:n<=c)(x:n'<=c')(I:g<=z)(L:n<=274877906944)(y:n'<=274877906944)(G:g<=274877906944)(wl:Words l)(D:Words j)(wd:Words i)(W:At w ao b o l)(J:At w ao' b' o' j)(A:At w ad O N i)(K:val i≠0) :
  Calls Tryz.prog 93 #[.slice ao n c,.slice ao' n' c',.slice ad g z] w fun e w'=>jQ w w' e (val l * val j) (val i) (n+n') g:=by
 go_enter Tryz.func93,Tryz.ntmps93;go_wp2_with fail;refine(qc ao n c b o ao' n' c' b' o' l j w U E hc x (by omega) (by omega) wl D W J).mono ?_
 rintro e S ⟨v,r,rfl,s,M,hlen,d⟩;obtain⟨R,br,or',Z,rfl,H,Y,p,_⟩:=s.is;have m:=A.keep d;have f:=d.size;have t2:=vC R r.length Z br or' ad g z O N r i S rfl B H I (by omega) (by omega) M.1 wd p m K;rw[M.2.2] at t2;go_wp2_with fail;refine t2.mono ?_
 rintro e w2 ⟨q,u,V,X,rfl,P,hu,F,C,T,Q,t⟩;go_wp2;go_ret3;exact⟨q,u,V,X,rfl,P.mono f,hu.mono f,F,C,by omega,by omega,d.trans (t.mono f)⟩
end
end
section
open Go.RowKit Lim
section
variable {w:World}{B:Nat}{v:Value}{l l1:List Int}{c m c0:Int}
def eh(w:World)(B:Nat)(v:Value)(l:List Int):Prop:=w.ownsRow B 22 1 v l.length (l.map (Value.int .u64))
theorem eh.open(h:eh w B v l):∃ ao c,v=.slice ao l.length c/\l.length<=c/\c<=maxLen/\∃ g,(l=[]\/ao=some ⟨g,0,none⟩)/\B<=g/\At w ao g 0 l/\dE w g 0 l.length:=by
 obtain⟨_,b⟩:=h;rcases b with⟨rfl,h0⟩ | ⟨g,cap,cur,rfl,hB,hh,hle,hmx,hsz,htk⟩
 ·have e:l=[]:=List.eq_nil_of_length_eq_zero h0;subst e;exact⟨none,0,rfl,Nat.le_refl _,by decide,B,.inl rfl,Nat.le_refl _,⟨.inl rfl,fun i hi=>by simp at hi⟩,fun i hi=>by simp at hi⟩
 ·refine⟨some ⟨g,0,none⟩,cap,rfl,hle,hmx,g,.inr rfl,hB,⟨.inr rfl,fun i hi=>?_⟩,fun i hi=>?_⟩
  ·have e:cur.toList[i]?=some (.int .u64 (nth l i)):=by
    have a:(cur.toList.take (l.length * 1))[i]?=some (.int .u64 (nth l i)):=by
     rw[htk,List.getElem?_map,List.getElem?_eq_getElem hi,bV hi];rfl
    rwa [Nat.mul_one,List.getElem?_take_of_lt hi] at a
   simp only[World.cell?,hh];simpa using e
  ·simp[World.frozen?,hh]
theorem eh.setCell(h:eh w B v l){c g:Nat}(hv:v=.slice (some ⟨g,0,none⟩) l.length c){i:Nat}(hi:i < l.length)(x:Int):eh (w.setCell ⟨g,0+i,none⟩ (.int .u64 x)) B v (l.set i x):=by
 obtain⟨_,a⟩:=h;refine⟨by simp,?_⟩;rcases a with⟨rfl,h0⟩ | ⟨g',cap,cur,rfl,hB,hh,hle,hmx,hsz,htk⟩
 ·omega
 ·simp only[Value.slice.injEq,Option.some.injEq,Addr.mk.injEq,and_true,true_and] at hv;obtain⟨rfl,rfl⟩:=hv;right;refine⟨g',cap,cur.setIfInBounds i (.int .u64 x),by simp,hB,?_,by simpa using hle,hmx,by simpa using hsz,?_⟩
  ·simp only[World.setCell,Array.getElem?_modify,if_true,hh,Nat.zero_add];simp
  ·rw[List.length_set,Nat.mul_one] at *;rw[Array.toList_setIfInBounds,List.map_set,<- htk,List.take_set]
theorem eh.new{w':World}(h:eh w' w.heap.size v l):dI w w' v l:=by
 obtain⟨ao,c,rfl,hc,_,g,_,hg,hat,hf⟩:=h.open;exact⟨ao,g,0,c,rfl,hc,hg,hat,hf⟩
structure nh(l:List Int)(m c0:Int)(k:Nat)(l1:List Int)(c:Int):Prop where
 len:l1.length=l.length
 words:Words l1
 high:∀ i,k<=i->nth l1 i=nth l i
 val:Lim.val (l1.take k)+18446744073709551616 ^ k * c=Lim.val (l.take k) * m+c0
theorem nh.step{a c':Int}{k:Nat}(h:nh l m c0 k l1 c)(g:k < l.length)(d:0<=a)(b:a < 18446744073709551616)(e:a+18446744073709551616 * c'=nth l k * m+c):nh l m c0 (k+1) (l1.set k a) c':=by
 have f:=h.len;refine⟨by simp[f],h.words.set k d b,fun i hi=>by rw[dD (by omega),if_neg (by omega)];exact h.high i (by omega),?_⟩;have j:=h.val;rw[dw (by simp[f];omega),dw g,List.take_set_of_le (Nat.le_refl _),dD (by omega),if_pos rfl,Int.pow_succ];have:18446744073709551616 ^ k * (a+18446744073709551616 * c')=18446744073709551616 ^ k * (nth l k * m+c):=by rw[e]
 grind
theorem nW(n:Nat)(w:World)(hn:n<=19):Calls Tryz.prog 161 #[.int .i64 n] w fun e w'=>e=.returned (.int .u64 (10 ^ n))/\w'=w:=by
 go_enter Tryz.func161,Tryz.ntmps161;go_wp2;go_loop [3,5] (fun f d=>∃ (k:Nat) (p:Int),k<=n/\d=.int .i64 k/\f=.int .u64 p/\Hid (p=10 ^ k)) (fun _ d=>n - (intOf d).toNat)
 case atStart=>exact⟨0,1,Nat.zero_le _,rfl,rfl,rfl⟩
 case round =>
  obtain⟨k,p,j,rfl,rfl,b⟩:=hrel;by_cases g:k < n
  ·have i:(1:Int)<=p:=by rw[b.out]; exact Int.pow_pos (by decide)
   have l:p<=1000000000000000000:=by
    rw[b.out];have:(10:Nat) ^ k<=10 ^ 18:=Nat.pow_le_pow_right (by decide) (by omega)
    have e:((10 ^ k:Nat):Int)=(10:Int) ^ k:=by rw[Int.natCast_pow];rfl
    rw[<- e];omega
   go_wp2;go_round
   case rel=>exact⟨k+1,p * 10,by omega,by go_num,rfl,by show _=_;rw[Int.pow_succ,<- b.out]⟩
   case measure=>simp[intOf];omega
  ·have c:k=n:=by omega
   subst c;go_wp2;go_ret;exact⟨kH b.out,rfl⟩
theorem we(hc:c≠0):aE (l ++ [c])=(l ++ [c]).length:=by
 apply jR (Nat.le_refl _)
 ·intro i hi;exact fS hi
 ·intro _;rw[List.length_append,List.length_singleton,Nat.add_sub_cancel,bJ (Nat.le_refl _),Nat.sub_self,cJ];exact hc
theorem sf{r:List Int}(wl:Words l)(wr:Words r)(hlen:r.length=l.length)(hv:val r=val l * m+c)(hm:0 < m)(hc:0<=c)(hn:aE l=l.length):aE r=r.length:=by
 have e:=bC r;by_cases h:l.length=0
 ·omega
 have d:=fC wl (by omega);have f:=gX wr;have b:=aL wl
 have g:val l * 1<=val l * m:=Int.mul_le_mul_of_nonneg_left (by omega) b;by_cases a:aE r < r.length
 ·have:=gT (show aE r<=aE l - 1 by omega);omega
 ·omega
theorem nh.fin(h:nh l m c0 l.length l1 c):Lim.val (l1 ++ [c])=Lim.val l * m+c0:=by
 have a:=h.val;rw[List.take_of_length_le (by rw[h.len];exact Nat.le_refl _),List.take_of_length_le (Nat.le_refl _)] at a;rw[ea,ez,h.len];exact a
theorem nQ(B:Nat)(v:Value)(l:List Int)(m c0:Int)(w:World)(hB:B<=w.heap.size)(b:eh w B v l)(C:l.length<=1099511627776)(wl:Words l)(E:0<=m)(S:m < 18446744073709551616)(K:0<=c0)(P:c0 < 18446744073709551616) :
  Calls Tryz.prog 206 #[v,.int .u64 m,.int .u64 c0] w fun e w'=>∃ v' r,e=.returned v'/\eh w' B v' r/\Words r/\val r=val l * m+c0/\r.length<=l.length+1/\(aE l=l.length->0 < m->aE r=r.length)/\Below B w w':=by
 obtain⟨i0,hi,R,X,Y⟩:=info_parts gR;obtain⟨ao,cap,rfl,z,hmax,g,p,hBg,_,_⟩:=b.open
 have V:∃ n,n=l.length:=⟨_,rfl⟩
 obtain⟨n,hn⟩:=V
 have L:n<=l.length:=by omega
 have hn2:l.length<=n:=by omega
 have y:Hid (n=l.length):=hn;rw[<- hn] at b C z ⊢;clear hn;go_enter Tryz.func206,Tryz.ntmps206;go_wp2;go_loopw [2,13] (fun tc Q wr=>∃ (k:Nat) (c:Int) (l1:List Int),k<=n/\Q=.int .i64 k/\tc=.int .u64 c/\0<=c/\c < 18446744073709551616/\nh l m c0 k l1 c/\eh wr B (.slice ao n cap) l1/\Below B w wr) (fun _ Q _=>n - (intOf Q).toNat)
 case atStart=>exact⟨0,c0,l,Nat.zero_le _,rfl,rfl,K,P,⟨rfl,wl,fun _ _=>rfl,by simp[val]⟩,b,Below.refl _ _⟩
 case round =>
  clear b;obtain⟨k,c,l1,hk,rfl,rfl,q,G,hinv,b,d⟩:=hrel;have j:=hinv.len;by_cases hlt:k < n
  ·rcases p with e | rfl
   ·subst e;simp at L;omega
   obtain⟨ao',c',e',_,_,T,o,J,D,I⟩:=b.open;simp only[Value.slice.injEq] at e';obtain⟨rfl,e1,rfl⟩:=e'
   have M:T=g:=by
    rcases o with e | e
    ·subst e;simp at e1;omega
    ·simpa using e.symm
   subst M;have H:=D.cell k (by omega);have Z:=I k (by omega);rw[Nat.zero_add] at H Z;rw[hinv.high k (Nat.le_refl _)] at H;obtain⟨U,O⟩:=wl.nth k
   have HI:Hid (nh l m c0 k l1 c):=hinv
   have HM:Hid (eh wr B (.slice (some ⟨T,0,none⟩) n cap) l1):=b
   have HB:Hid (Below B w wr):=d
   have HE:Hid (n=l1.length):=e1;clear hinv b d D I o e1 wl
   go_wp2_with (first
    | (go_at_call 89;refine(lp _ _ U O E S _).mono ?_;rintro e w' ⟨N,lo,rfl,h1,h2,h3,h4,h5,rfl⟩)
    | simp only[qE _ _ h3 q])
   have hxm:nth l k * m<=340282366920938463426481119284349108225:=by
    have:=Int.mul_le_mul (show nth l k<=18446744073709551615 by omega) (show m<=18446744073709551615 by omega) E (by decide);simpa using this
   have h5':=h5.out
   have e5:(lo+c) % 18446744073709551616+18446744073709551616 * (N+(lo+c) / 18446744073709551616)=nth l k * m+c:=by omega
   have HN:=HM.out.setCell (c:=cap) (g:=T) (by rw[<- HE.out]) (i:=k) (by omega) ((lo+c) % 18446744073709551616);rw[Nat.zero_add] at HN;go_roundw
   case rel=>exact⟨k+1,_,_,by omega,by go_num,rfl,by omega,by omega,HI.out.step (by omega) (Int.emod_nonneg _ (by decide)) (Int.emod_lt_of_pos _ (by decide)) e5,HN,HB.out.setCell J _⟩
   case measure=>simp[intOf];omega
  ·have W:k=n:=by omega
   subst W
   have HF:Hid (val (l1 ++ [c])=val l * m+c0):=by rw[y.out] at hinv;exact hinv.fin
   have x:=hinv.words;by_cases hc:c=0
   ·subst hc;go_wp2;go_ret
    have A:val l1=val l * m+c0:=by rw[<- HF.out,ea];simp[val]
    refine⟨_,l1,rfl,b,x,A,by omega,fun h1 h2=>sf wl x (by omega) A h2 K (by omega),d⟩
   ·have hcb:(c != 0)=true:=by rw[bne_iff_ne]; exact hc
    have F:wr.ownsRow B 22 1 (.slice ao k cap) k (l1.map (Value.int .u64)):=by have:=b;unfold eh at this;rwa [j,<- y.out] at this
    have hsz:=d.size;go_wp2_with (at_builtin;refine wpList_append_own _ rfl _ _ 30 rfl B 22 i0 (.int .u64 0) 1 8 fX hi R X Y rfl (by decide) _ _ _ rfl (F.alloc _) ⟨wr.heap.size,0,none⟩ 1 1 [.int .u64 c] rfl rfl ?c1 ?c2 ?c3 ?c4 ?c5 ?_)
    case c1=>exact cell_one_new _ _ _
    case c2=>intro u hu;simp at hu;subst hu;rfl
    case c3=>unfold maxLen;omega
    case c4=>omega
    case c5=>simp;omega
    intro v' w1 s t _;go_wp2;go_ret
    have hM:eh w1 B v' (l1 ++ [c]):=by
     unfold eh;rw[List.length_append,j,<- y.out,List.map_append];exact s
    refine⟨_,l1 ++ [c],rfl,hM,x.append (Words.cons q G Words.nil),HF.out,by simp;omega,fun _ _=>we hc,?_⟩
    exact(d.alloc (by omega) _).grown t (by simp; omega) (by
     intro g1 f;rcases p with e | rfl
     ·subst e;rcases b.2 with⟨e2,_⟩ | ⟨g2,cap2,cur2,e2,hB2,_⟩
      ·rw[e2] at f;simp[Value.ownBlock] at f
      ·rw[e2] at f;simp[Value.ownBlock] at f;omega
     ·simp[Value.ownBlock] at f;omega)
end
end
section
open Go.RowKit Lim
section
variable {w:World}{l:List Int}{ops:Array Oper}{rest:List Oper}
theorem eh.cell{B g n c:Nat}(h:eh w B (.slice (some ⟨g,0,none⟩) n c) l){i:Nat}(hi:i < l.length):w.cell? ⟨g,i,none⟩=some (.int .u64 (nth l i))/\w.frozen? ⟨g,i,none⟩=false:=by
 obtain⟨o,p,e,_,_,m,a,_,b,d⟩:=h.open;simp only[Value.slice.injEq] at e;obtain⟨rfl,_,_⟩:=e
 have k:m=g:=by
  rcases a with e | e
  ·subst e;simp at hi
  ·simpa using e.symm
 subst k;have f:=b.cell i hi;have j:=d i hi;rw[Nat.zero_add] at f j;exact⟨f,j⟩
theorem wj{o:Oper}{a:Act}{Q:Exit->Act->World->Prop}(j:o.guard=none)(l c:Operand)(d:o.op=Op.makeSlice 30 l c)(n m:Nat)(L C:Int)(h:a.eval l=.int .i64 L)(hc:a.eval c=.int .i64 C)(hL:L=(n:Int))(hC:C=(m:Int))(e:n<=m)(hn:m<=17592186044416)(k:∀ w',eh w' w.heap.size (.slice (some ⟨w.heap.size,0,none⟩) n m) (List.replicate n 0)->Below w.heap.size w w'->w'.heap.size=w.heap.size+1->wpList Tryz.prog ops Q rest (a.put o.dst (.slice (some ⟨w.heap.size,0,none⟩) n m)) w') :
  wpList Tryz.prog ops Q (o :: rest) a w:=by
 obtain⟨i,hi,g,hs,hb⟩:=info_parts gR;refine wpList_plain j fun K f=>?_
 have b:=run_make (P:=Tryz.prog) w 30 22 i (.int .u64 0) fX hi g .i64 .i64 (n:Int) (m:Int) (by omega) (by omega) (by rw[hb];omega) (by omega);subst hL;subst hC;unfold Oper.wp;simp only[execOp,d,h,hc];simp[b,Result.andThen];refine f _ _ (k _ ⟨by simp,.inr ⟨w.heap.size,m,((List.replicate m 0).map (Value.int .u64)).toArray,by simp,Nat.le_refl _,?_,by simpa using e,by unfold maxLen;omega,by simp,?_⟩⟩ ?_ ?_)
 ·show (w.heap.push _)[w.heap.size]?=_
  rw[Array.getElem?_push_size,hs,Nat.mul_one,qB]
 ·simp;omega
 ·exact(Below.refl _ _).alloc (Nat.le_refl _) _
 ·simp
theorem xm(n:Nat)(w:World)(hn:n<=4096) :
  Calls Tryz.prog 165 #[.int .i64 n] w fun e w'=>∃ v r,e=.returned (.tuple #[v,.int .i64 0])/\dI w w' v r/\IsN r (10 ^ n)/\r.length<=n+2/\Below w.heap.size w w':=by
 obtain⟨q,L⟩:∃ q:Nat,q=n / 19:=⟨_,rfl⟩
 obtain⟨t,S⟩:∃ t:Nat,t=n % 19:=⟨_,rfl⟩
 have U:(n:Int) / 19=q:=by omega
 have V:(n:Int) % 19=t:=by omega
 have X:t < 19:=by omega
 have Q:Hid (n=19 * q+t):=by show _=_;omega
 have M:q<=n:=by omega
 clear L S
 have N:decide ((n:Int) < 0)=false:=by simp
 have P:decide (4096 < (n:Int))=false:=by simp;omega
 go_enter Tryz.func165,Tryz.ntmps165;go_wp2_with (at_make;refine wj rfl _ _ rfl 1 (q+1) _ _ rfl rfl rfl (by omega) (by omega) (by omega) ?_;intro Z b m j;have F:=b.cell (i:=0) (by simp);obtain⟨I,G⟩:=F);have o:=b.setCell (c:=q+1) (g:=w.heap.size) rfl (i:=0) (by simp) 1;rw[show (List.replicate 1 (0:Int)).set 0 1=[1] from rfl,Nat.add_zero] at o;have B:=m.setCell (p:=⟨w.heap.size,0,none⟩) (Nat.le_refl _) (.int .u64 1);clear b m I G;go_loopw [4,19] (fun K H wr=>∃ (k:Nat) (l:List Int),k<=q/\H=.int .i64 k/\eh wr w.heap.size K l/\Words l/\Hid (aE l=l.length)/\Hid (val l=10 ^ (19 * k))/\l.length<=k+1/\Below w.heap.size w wr) (fun _ H _=>q - (intOf H).toNat)
 case atStart=>exact⟨0,[1],Nat.zero_le _,rfl,o,Words.cons (by decide) (by decide) Words.nil,rfl,rfl,by simp,B⟩
 case round =>
  clear o B j;obtain⟨k,l,hk,rfl,hm,wl,E,hv,hlen,A⟩:=hrel;have j:=A.size;by_cases W:k < q
  ·go_wp2_with (go_at_call 206;refine(nQ w.heap.size _ l 10000000000000000000 0 _ j hm (by omega) wl (by decide) (by decide) (by decide) (by decide)).mono ?_;rintro e R ⟨J,r,rfl,s,u,f,y,z,d⟩);have e1:=hv.out;have e2:=z E.out (by decide);go_roundw
   case rel=>exact⟨k+1,r,by omega,by go_num,s,u,e2,by show _=_;rw[f,e1,Int.add_zero,show 19 * (k+1)=19 * k+19 from by omega,Int.pow_add];rfl,by omega,A.trans d⟩
   case measure=>simp[intOf];omega
  ·have C:k=q:=by omega
   have T:Hid (k=q):=C;clear C
   have D:(0:Int) < 10 ^ t:=Int.pow_pos (by decide)
   have x:(10:Int) ^ t < 18446744073709551616:=by
    have:(10:Nat) ^ t<=10 ^ 18:=Nat.pow_le_pow_right (by decide) (by omega)
    have e:((10 ^ t:Nat):Int)=(10:Int) ^ t:=by rw[Int.natCast_pow];rfl
    have e2:(10:Nat) ^ 18=1000000000000000000:=by decide
    omega
   have O:=nW t wr (by omega);generalize hp:(10:Int) ^ t=p at *
   have Y:Hid ((10:Int) ^ t=p):=hp;clear hp;go_wp2_with fail;refine O.mono ?_
   rintro e w4 ⟨rfl,rfl⟩;go_wp2_with fail;refine(nQ w.heap.size _ l p 0 _ j hm (by omega) wl (by omega) x (by decide) (by decide)).mono ?_
   rintro e R ⟨J,r,rfl,s,u,f,y,z,d⟩;have e1:=hv.out;have e2:=z E.out D
   have e3:val r=10 ^ n:=by rw[f,e1,Int.add_zero,Q.out,Int.pow_add,Y.out,T.out]
   clear f;go_wp2;go_ret2;exact⟨J,r,rfl,s.new,⟨u,e2,e3⟩,by omega,A.trans d⟩
end
end
section
open Go.RowKit Lim
end
section
open Go.RowKit Lim
section
variable {w w':World}{ao:Option Addr}{b o:Nat}{l:List Int}
structure AtB(w:World)(ao:Option Addr)(b o:Nat)(l:List Int):Prop where
 loc:l=[]\/ao=some ⟨b,o,none⟩
 cell:∀ i,i < l.length->w.cell? ⟨b,o+i,none⟩=some (.int .u8 (nth l i))
theorem AtB.lt(k:AtB w ao b o l):l=[]\/b < w.heap.size:=by
 cases l with
 | nil=>exact .inl rfl
 | cons x l=>exact .inr (aI (k.cell 0 (by simp)))
theorem AtB.keep(h:Below w.heap.size w w')(k:AtB w ao b o l):AtB w' ao b o l :=
 ⟨k.loc,fun i hi=>by
  rcases k.lt with e | e
  ·subst e;simp at hi
  ·rw[h.cell (p:=⟨b,o+i,none⟩) e];exact k.cell i hi⟩
theorem AtB.wr{n:Nat}(h:Wr b o n w w'){b' o':Nat}(k:AtB w ao b' o' l)(hb:l=[]\/b'≠b):AtB w' ao b' o' l :=
 ⟨k.loc,fun i hi=>by
  rcases hb with e | e
  ·subst e;simp at hi
  ·rw[h.other e];exact k.cell i hi⟩
theorem AtB.setCell(k:AtB w ao b o l){i:Nat}(hi:i < l.length)(x:Int):AtB (w.setCell ⟨b,o+i,none⟩ (.int .u8 x)) ao b o (l.set i x) :=
  ⟨by rcases k.loc with e | e
      · subst e;simp at hi
      · exact .inr e,fun j g=>by
    rw[List.length_set] at g;have hc:=k.cell j g;rw[dD hi];have a:=k.cell i hi;simp only[World.cell?,World.setCell,Array.getElem?_modify,if_true] at hc a ⊢
    cases hh:w.heap[b]? with
    | none=>rw[hh] at hc;simp at hc
    | some ob =>
      rw[hh] at hc a
      cases ob with
      | cells c e f =>
        simp at hc a ⊢;rw[Array.getElem?_setIfInBounds];by_cases e:j=i
        · subst e
          obtain⟨d,_⟩:= Array.getElem?_eq_some_iff.1 a;simp[d]
        · rw[if_neg (by omega),if_neg e];exact hc
      | _=>simp at hc⟩
structure Bm(w w':World)(v:Value)(l:List Int):Prop where
 is:∃ ao b o c,v=.slice ao l.length c/\l.length<=c/\w.heap.size<=b/\AtB w' ao b o l/\dE w' b o l.length
def bj(l:List Int):Prop:=∀ x∈l,0<=x/\x < 256
theorem bj.nth(h:bj l)(i:Nat):0<=nth l i/\nth l i < 256:=by
 by_cases hi:i < l.length
 ·exact h _ (lK hi)
 ·rw[fS (by omega)];decide
def bO:List Int->Int
 | []=>0
 | x :: l=>x * 256 ^ l.length+bO l
theorem bM(h:bj l):0<=bO l/\bO l < 256 ^ l.length:=by
 induction l with
 | nil=>simp[bO]
 | cons x l ih =>
  have c:=ih (fun y hy=>h y (List.mem_cons_of_mem _ hy));have b:=h x List.mem_cons_self
  have a:(0:Int) < 256 ^ l.length:=Int.pow_pos (by decide)
  have e:0<=x * 256 ^ l.length:=Int.mul_nonneg b.1 (Int.le_of_lt a)
  have d:x * 256 ^ l.length<=255 * 256 ^ l.length:=Int.mul_le_mul_of_nonneg_right (by omega) (Int.le_of_lt a);rw[bO,List.length_cons,Int.pow_succ];omega
def IsB(l:List Int)(n:Int):Prop:=bj l/\(l≠[]->nth l 0≠0)/\bO l=n
theorem mo:∀ {a b:List Int},bj a->bj b->a.length=b.length->bO a=bO b->a=b
 | [],[],_,_,_,_=>rfl
 | x :: a,y :: b,ha,hb,hl,hv=>by
  have ha':bj a:=fun z g=>ha z (List.mem_cons_of_mem _ g)
  have f:bj b:=fun z g=>hb z (List.mem_cons_of_mem _ g)
  have d:a.length=b.length:=by simpa using hl
  have i:=bM ha';have j:=bM f;rw[bO,bO,d] at hv;rw[d] at i
  have h:(0:Int) < 256 ^ b.length:=Int.pow_pos (by decide)
  have e:x=y:=by
   rcases Int.lt_trichotomy x y with c | c | c
   ·have:(x+1) * 256 ^ b.length<=y * 256 ^ b.length:=Int.mul_le_mul_of_nonneg_right (by omega) (Int.le_of_lt h);rw[Int.add_mul] at this;omega
   ·exact c
   ·have:(y+1) * 256 ^ b.length<=x * 256 ^ b.length:=Int.mul_le_mul_of_nonneg_right (by omega) (Int.le_of_lt h);rw[Int.add_mul] at this;omega
  subst e;rw[mo ha' f d (by omega)]
theorem vr(h:bj l)(b:l≠[])(c:nth l 0≠0):256 ^ (l.length - 1)<=bO l:=by
 cases l with
 | nil=>exact absurd rfl b
 | cons x l =>
  rw[cJ] at c;have e:=h x List.mem_cons_self;have f:=bM (l:=l) (fun z a=>h z (List.mem_cons_of_mem _ a))
  have d:(0:Int) < 256 ^ l.length:=Int.pow_pos (by decide);have:1 * 256 ^ l.length<=x * 256 ^ l.length:=Int.mul_le_mul_of_nonneg_right (by omega) (Int.le_of_lt d);rw[bO,List.length_cons,Nat.add_sub_cancel];omega
theorem hH{a:Nat}(h:a<=b):(256:Int) ^ a<=256 ^ b:=by
 have:(256:Nat) ^ a<=256 ^ b:=Nat.pow_le_pow_right (by decide) h
 have e1:((256 ^ a:Nat):Int)=(256:Int) ^ a:=by rw[Int.natCast_pow];rfl
 have e2:((256 ^ b:Nat):Int)=(256:Int) ^ b:=by rw[Int.natCast_pow];rfl
 omega
theorem lQ{a b:List Int}{n:Int}(c:IsB a n)(hb:IsB b n):a=b:=by
 apply mo c.1 hb.1
 ·have key:∀ {a b:List Int},IsB a n->IsB b n->¬ a.length < b.length:=by
   intro a b c hb d;have g:=(bM c.1).2;have f:=vr hb.1 (fun e=>by subst e;simp at d) (hb.2.1 (fun e=>by subst e;simp at d));rw[c.2.2] at g;rw[hb.2.2] at f;have:=hH (show a.length<=b.length - 1 by omega);omega
  have g:=key c hb;have f:=key hb c;omega
 ·rw[c.2.2,hb.2.2]
end
end
section
open Go.RowKit Lim
section
variable {l:List Int}{i:Nat}
theorem bpow(k:Nat):(18446744073709551616:Int) ^ k=((2 ^ (64 * k):Nat):Int):=by
 rw[Nat.pow_mul,Int.natCast_pow];rfl
theorem xW(wl:Words l)(hn:aE l≠0):bitLen (val l).toNat=64 * (aE l - 1)+bitLen (nth l (aE l - 1)).toNat:=by
 have g:=aL wl;have hs:=bF (norm l) (aE l - 1) (by rw[aJ];omega)
 have d:(norm l).drop (aE l - 1)=[nth l (aE l - 1)]:=by
  apply lG
  ·simp[aJ];omega
  ·intro i hi;simp[aJ] at hi;have:i=0:=by omega
   subst this;rw[dH,fU,cJ];rfl
 rw[d,ez,cZ] at hs;have c:=dy (wl.norm.take (aE l - 1));have e:=aL (wl.norm.take (aE l - 1));rw[List.length_take,aJ,Nat.min_eq_left (by omega)] at c;have f:=wl.nth (aE l - 1);have h:=iE hn;generalize nth l (aE l - 1)=x at *;generalize val ((norm l).take (aE l - 1))=y at *;generalize aE l - 1=k at *;rw[bpow] at hs c;obtain⟨x,rfl⟩:=Int.eq_ofNat_of_zero_le f.1;obtain⟨y,rfl⟩:=Int.eq_ofNat_of_zero_le e;obtain⟨v,hv⟩:=Int.eq_ofNat_of_zero_le g;rw[hv] at hs ⊢
 have b:v / 2 ^ (64 * k)=x:=by
  have a:v=y+2 ^ (64 * k) * x:=by
   have:(v:Int)=((y+2 ^ (64 * k) * x:Nat):Int):=by rw[hs,Int.natCast_add,Int.natCast_mul]
   exact Int.ofNat.inj this
  rw[a,Nat.add_mul_div_left _ _ (Nat.two_pow_pos _),Nat.div_eq_of_lt (by omega),Nat.zero_add]
 rw[Int.toNat_natCast,Int.toNat_natCast,bitLen_shift v (64 * k) (by rw[b];omega),b]
theorem rC(ao:Option Addr)(n c b o:Nat)(l:List Int)(w:World)(s:l.length=n)(hc:n<=c)(i:n<=1099511627776)(wl:Words l)(g:At w ao b o l) :
  Calls Tryz.prog 55 #[.slice ao n c] w fun e w'=>e=.returned (.int .i64 (bitLen (val l).toNat))/\Below w.heap.size w w':=by
 have hn:=bC l;have t1:=bp ao n c l w s hc (by omega) g.cells;by_cases f:aE l=0
 ·rw[f] at t1
  have hv:(val l).toNat=0:=by rw[(cj wl).1 f];rfl
  rw[hv,show bitLen 0=0 from rfl];go_enter Tryz.func55,Tryz.ntmps55;go_wp2_with fail;refine t1.mono ?_
  rintro e q ⟨rfl,rfl⟩;go_wp2_with fail;go_ret;exact⟨rfl,Below.refl _ _⟩
 ·have p:=xW wl f;have hx:=wl.nth (aE l - 1);have d:=g.cell (aE l - 1) (by omega);have m:=ic (n:=(nth l (aE l - 1)).toNat) (by omega);have t2:=fun r=>Ei (nth l (aE l - 1)) r hx.1 hx.2
  rcases g.loc with e | rfl
  ·subst e;simp[aE] at f
  rw[p];generalize nth l (aE l - 1)=x at *;generalize bitLen x.toNat=L at *;clear p g;obtain⟨k,j⟩:∃ k,aE l=k+1:=⟨aE l - 1,by omega⟩
  rw[j] at t1 d hn ⊢;rw[Nat.add_sub_cancel] at d ⊢;clear j f
  have t:(k:Int) < (k:Int)+1:=by omega
  go_enter Tryz.func55,Tryz.ntmps55;go_wp2_with fail;refine t1.mono ?_
  rintro e q ⟨rfl,rfl⟩;clear t1;go_wp2_with fail;refine(t2 _).mono ?_
  rintro e u ⟨rfl,rfl⟩;go_wp2;go_ret;exact⟨kH (by omega),Below.refl _ _⟩
theorem AF:IsN [] 0:=⟨Words.nil,rfl,rfl⟩
structure AK(lb:List Int)(m k:Nat)(lz:List Int):Prop where
 len:lz.length=m
 words:Words lz
 val:Lim.val lz=bO (lb.drop (lb.length - k))
theorem nT(h:i < l.length):bO (l.drop i)=nth l i * 256 ^ (l.length - 1 - i)+bO (l.drop (i+1)):=by
 rw[List.drop_eq_getElem_cons h,bO,bV h,List.length_drop,show l.length - (i+1)=l.length - 1 - i from by omega]
theorem bj.drop(h:bj l)(k:Nat):bj (l.drop k):=fun x hx=>h x (List.mem_of_mem_drop hx)
theorem CK(h:i < l.length)(x:Int):val (l.set i x)=val l+18446744073709551616 ^ i * (x - nth l i):=by
 have e1:=bF (l.set i x) i (by simp;omega);have e2:=bF l i (by omega);rw[List.take_set_of_le (Nat.le_refl _),List.drop_set,if_neg (by omega),Nat.sub_self] at e1;rw[List.drop_eq_getElem_cons h,List.set_cons_zero,val] at e1;rw[List.drop_eq_getElem_cons h,val] at e2;rw[e1,e2,bV h];grind
theorem BN(wl:Words l)(h:i < l.length){P:Int}(f:val l < 18446744073709551616 ^ i * P):nth l i < P:=by
 have e2:=bF l i (by omega);rw[List.drop_eq_getElem_cons h,val] at e2;have e:=aL (wl.take i);have c:=aL (wl.drop (i+1));have a:=pow_pos i
 have d:0<=18446744073709551616 ^ i * (18446744073709551616 * val (l.drop (i+1))):=Int.mul_nonneg (Int.le_of_lt a) (by omega);rw[Int.mul_add] at e2
 have b:18446744073709551616 ^ i * nth l i < 18446744073709551616 ^ i * P:=by rw[bV h];omega
 exact Int.lt_of_mul_lt_mul_left b (Int.le_of_lt a)
theorem jU(k:Nat):(256:Int) ^ k=18446744073709551616 ^ (k / 8) * 2 ^ (8 * (k % 8)):=by
 have e:(18446744073709551616:Int)=256 ^ 8:=by decide
 have e2:(2:Int) ^ (8 * (k % 8))=256 ^ (k % 8):=by rw[Int.pow_mul];rfl
 rw[e,e2,<- Int.pow_mul,<- Int.pow_add];congr 1;omega
theorem BV{lb lz:List Int}{m k:Nat}(hb:bj lb)(hm:(lb.length+7) / 8=m)(h:AK lb m k lz)(j:k < lb.length) :
  bits .or .u64 (nth lz (k / 8)) (IntKind.u64.wrap (nth lb (lb.length - 1 - k) * 2 ^ (8 * (k % 8))))=nth lz (k / 8)+nth lb (lb.length - 1 - k) * 2 ^ (8 * (k % 8)) /\
  AK lb m (k+1) (lz.set (k / 8) (nth lz (k / 8)+nth lb (lb.length - 1 - k) * 2 ^ (8 * (k % 8)))):=by
 have f:=h.len;have hx:=hb.nth (lb.length - 1 - k);have c:=bM (hb.drop (lb.length - k));rw[List.length_drop,show lb.length - (lb.length - k)=k from by omega] at c;have hv:=h.val;have b:=h.words.nth (k / 8);have d:=BN h.words (i:=k / 8) (by omega) (P:=2 ^ (8 * (k % 8))) (by rw[<- jU,hv];exact c.2)
 have hS:(0:Int) < 2 ^ (8 * (k % 8)):=Int.pow_pos (by decide)
 have n:(2:Int) ^ (8 * (k % 8)) * 256<=18446744073709551616:=by
  have:(2:Nat) ^ (8 * (k % 8))<=2 ^ 56:=Nat.pow_le_pow_right (by decide) (by omega)
  have e:((2 ^ (8 * (k % 8)):Nat):Int)=(2:Int) ^ (8 * (k % 8)):=by rw[Int.natCast_pow];rfl
  have e2:(2:Nat) ^ 56=72057594037927936:=by decide
  omega
 have a:0<=nth lb (lb.length - 1 - k) * 2 ^ (8 * (k % 8)):=Int.mul_nonneg hx.1 (Int.le_of_lt hS)
 have g:nth lb (lb.length - 1 - k) * 2 ^ (8 * (k % 8))<=255 * 2 ^ (8 * (k % 8)):=Int.mul_le_mul_of_nonneg_right (by omega) (Int.le_of_lt hS);constructor
 ·rw[IntKind.wrap_u64,Int.emod_eq_of_lt a (by omega)];rw[u64_or _ _ b.1 b.2 a (by omega),Nat.or_comm,<- u64_or _ _ a (by omega) b.1 b.2];rw[qp _ _ (8 * (k % 8)) _ rfl hx.1 (by omega) b.1 d b.2,Int.add_comm]
 ·refine⟨by simp[f],h.words.set _ (by omega) (by omega),?_⟩;rw[CK (by omega),hv,show lb.length - (k+1)=lb.length - 1 - k from by omega,nT (l:=lb) (i:=lb.length - 1 - k) (by omega),show lb.length - 1 - k+1=lb.length - k from by omega,show lb.length - 1 - (lb.length - 1 - k)=k from by omega,jU k];grind
theorem B9(ao:Option Addr)(n c b o:Nat)(lb:List Int)(w:World)(f:lb.length=n)(hn:0 < n)(d:AtB w ao b o lb)(g:nth lb 0=0) :
  Calls Tryz.prog 256 #[.slice ao n c] w fun e w'=>e=.returned (.tuple #[.slice none 0 0,.int .i64 13])/\w'=w:=by
 rcases d.loc with e | rfl
 ·subst e;simp at f;omega
 have hc:=d.cell 0 (by omega);rw[g,Nat.add_zero] at hc;go_enter Tryz.func256,Tryz.ntmps256;go_wp2;go_ret2;exact⟨rfl,rfl⟩
theorem ym(ao:Option Addr)(n c b o:Nat)(lb:List Int)(w:World)(F:lb.length=n)(Q:n<=1099511627776)(A:bj lb)(y:AtB w ao b o lb)(P:0 < n->nth lb 0≠0) :
  Calls Tryz.prog 256 #[.slice ao n c] w fun e w'=>∃ v r,e=.returned (.tuple #[v,.int .i64 0])/\dI w w' v r/\IsN r (bO lb)/\r.length<=n/\Below w.heap.size w w':=by
 obtain⟨m,hm⟩:∃ m:Nat,((n:Int)+7) / 8=m:=⟨(n+7) / 8,by omega⟩
 have aa:m<=n:=by omega
 have E:lb=[]\/b≠w.heap.size:=by
  rcases y.lt with e | e
  ·exact .inl e
  ·exact .inr (by omega)
 by_cases hn:0 < n
 ·rcases y.loc with e | rfl
  ·subst e;simp at F;omega
  have hc:=y.cell 0 (by omega);rw[Nat.add_zero] at hc
  have u:(nth lb 0 == 0)=false:=beq_eq_false_iff_ne.2 (P hn)
  have t:nth lb 0≠0:=P hn;have W:=(show Hid _ from t)
  clear t P;go_enter Tryz.func256,Tryz.ntmps256;go_wp2_with (at_make;refine cY rfl _ _ rfl m _ _ rfl rfl (by omega) (by omega) (by omega) ?_;intro R d f M);have p:=y.keep f;clear hc u;go_loopw [22] (fun H wr=>∃ (k:Nat) (l:List Int),k<=n/\H=.int .i64 k/\AK lb m k l/\At wr (some ⟨w.heap.size,0,none⟩) w.heap.size 0 l/\Wr w.heap.size 0 m R wr) (fun H _=>n - (intOf H).toNat)
  case atStart=>exact⟨0,_,Nat.zero_le _,rfl,⟨by simp,eD _,by rw[Nat.sub_zero,List.drop_length,fq fun i=>by simp[nth,List.getElem?_replicate];split<;>rfl];rfl⟩,d.at,Wr.refl _ _ _ _⟩
  case round =>
   obtain⟨k,l,hk,rfl,hinv,q,g⟩:=hrel;have hlen:=hinv.len;by_cases hlt:k < n
   ·obtain⟨i,hi⟩:∃ i:Nat,(k:Int) / 8=i:=⟨k / 8,by omega⟩
    obtain⟨j,hj⟩:∃ j:Nat,(k:Int) % 8=j:=⟨k % 8,by omega⟩
    obtain⟨h,hh⟩:∃ h:Nat,(n:Int) - 1 - k=h:=⟨n - 1 - k,by omega⟩
    have hi1:(i:Int) < m:=by omega
    have U:(h:Int) < n:=by omega
    have Y:j < 8:=by omega
    have u:=q.cell i (by omega);have S:=(p.wr g E).cell h (by omega);have L:=g.free (d.free 0 m) i (by omega);rw[Nat.zero_add] at u L;have C:=BV A (m:=m) (by omega) hinv (by omega);rw[show k / 8=i from by omega,show k % 8=j from by omega,show lb.length - 1 - k=h from by omega] at C;obtain⟨B,s⟩:=C;have T:=(show Hid _ from s)
    have X:=(show Hid _ from q)
    have HW:=(show Hid _ from g)
    have hxx:=A.nth h;clear s q g hinv d p A;generalize nth l i=z at *;generalize nth lb h=x at *;go_wp2_with fail;go_region;go_wp2;rw[Nat.mul_comm j 8,B];refine⟨⟨k+1,_,by omega,by go_num,T.out,?_,?_⟩,by simp[intOf];omega⟩
    ·have:=(X.out.setCell (i:=i) (by omega) (z+x * 2 ^ (8 * j))).drew;rwa [Nat.zero_add] at this
    ·exact(HW.out.setCell (by omega) (by omega) _).drew
   ·have K:k=n:=by omega
    subst K;have hv:=hinv.val;rw[<- F,Nat.sub_self,List.drop_zero] at hv;have O:=g.free (d.free 0 m);have Z:=f.trans (g.below (Nat.le_refl _));have I:=bM A;have N:=vr A (fun e=>by subst e;simp at F;omega) W.out
    have D:aE l=l.length:=by
     have h1:=bC l;by_cases c:aE l < l.length
     ·have h2:=gX hinv.words;have h3:=gT (show aE l<=m - 1 by omega)
      have h4:(18446744073709551616:Int) ^ (m - 1)<=256 ^ (lb.length - 1):=by
       rw[show (18446744073709551616:Int)=256 ^ 8 from by decide,<- Int.pow_mul];exact hH (by omega)
      rw[hv] at h2;omega
     ·omega
    have V:IsN l (bO lb):=⟨hinv.words,D,hv⟩
    clear hinv d g f p hv I N D;go_wp2;go_ret2;exact⟨_,l,rfl,dI.of hlen.symm (Nat.le_refl _) (Nat.le_refl _) q O,V,by omega,Z⟩
 ·have J:n=0:=by omega
  subst J
  have e0:lb=[]:=List.eq_nil_of_length_eq_zero F;subst e0
  have G:m=0:=by omega
  subst G;clear hm y E;go_enter Tryz.func256,Tryz.ntmps256;go_wp2_with (at_make;refine cY rfl _ _ rfl 0 _ _ rfl rfl (by omega) (by omega) (by omega) ?_;intro R d f M);refine wp_loop_rounds 1 ?_
  rw[rounds_succ];go_wp2;go_ret2;exact⟨_,[],rfl,dI.of rfl (Nat.le_refl _) (Nat.le_refl _) d.at (d.free _ _),AF,by simp,f⟩
end
end
section
open Go.RowKit Lim
theorem xP {a b:Nat} (h:a<=b):(10:Int) ^ a<=10 ^ b:=by
 have:(10:Nat) ^ a<=10 ^ b:=Nat.pow_le_pow_right (by decide) h
 have e1:((10 ^ a:Nat):Int)=(10:Int) ^ a:=by rw[Int.natCast_pow];rfl
 have e2:((10 ^ b:Nat):Int)=(10:Int) ^ b:=by rw[Int.natCast_pow];rfl
 omega
end
section
open Go.RowKit Lim
end
section
open Go.RowKit Lim
section
variable {w w':World}{ao ao':Option Addr}{n c n' c' g:Nat}{x y:Int}{v:Value}{r l:List Int}{fn:Func}{p:Tmp}{tmps:Array Value}
structure aU(w:World)(ao:Option Addr)(n c:Nat)(x:Int):Prop where
 ex:∃ b o l,l.length=n/\n<=c/\Words l/\At w ao b o l/\val l=x
structure dY(w:World)(ao:Option Addr)(n c:Nat)(x:Int):Prop where
 ex:∃ b o l,l.length=n/\n<=c/\IsN l x/\At w ao b o l
theorem dY.a(h:dY w ao n c x):aU w ao n c x:=by
 obtain⟨b,o,l,h1,h2,h3,h4⟩:=h.ex;exact⟨b,o,l,h1,h2,h3.1,h4,h3.2.2⟩
theorem aU.keep(h:aU w ao n c x)(hb:Below w.heap.size w w'):aU w' ao n c x:=by
 obtain⟨b,o,l,h1,h2,h3,h4,h5⟩:=h.ex;exact⟨b,o,l,h1,h2,h3,h4.keep hb,h5⟩
theorem dY.keep(h:dY w ao n c x)(hb:Below w.heap.size w w'):dY w' ao n c x:=by
 obtain⟨b,o,l,h1,h2,h3,h4⟩:=h.ex;exact⟨b,o,l,h1,h2,h3,h4.keep hb⟩
theorem aU.pZ(h:aU w ao n c x):0<=x:=by
 obtain⟨b,o,l,h1,h2,h3,h4,h5⟩:=h.ex;rw[<- h5];exact aL h3
theorem dY.eqv(h:dY w ao n c x)(e:x=y):dY w ao n c y:=e▸h
theorem AG(w:World):dY w none 0 0 0:=⟨0,0,[],rfl,Nat.le_refl _,jo,.inl rfl,fun i hi=>by simp at hi⟩
theorem dI.o(h:dI w w' v r)(hI:IsN r x):∃ a c,v=.slice a r.length c/\dY w' a r.length c x:=by
 obtain⟨ao,b,o,c,e,h1,h2,h3,h4⟩:=h.is;exact⟨ao,c,e,b,o,r,rfl,h1,hI,h3⟩
theorem ax{wa:World}(b:Below w.heap.size w wa)(h:Below wa.heap.size wa w'):Below w.heap.size w w':=b.trans (h.mono b.size)
theorem nMul(h:aU w ao n c x)(z:aU w ao' n' c' y)(hn:n<=1099511627776)(i:n'<=1099511627776) :
  Calls Tryz.prog 24 #[.slice ao n c,.slice ao' n' c'] w fun e w'=>∃ a k d,e=.returned (.slice a k d)/\dY w' a k d (x * y)/\k<=n+n'/\Below w.heap.size w w':=by
 obtain⟨b,o,l,t,B,E,u,rfl⟩:=h.ex;obtain⟨s,F,D,f,m,j,p,rfl⟩:=z.ex;refine(qc ao n c b o ao' n' c' s F l D w t f B m hn i E j u p).mono ?_
 rintro e w' ⟨v,r,rfl,g,q,hlen,C⟩;obtain⟨a,d,rfl,A⟩:=g.o q;exact⟨a,_,d,rfl,A,hlen,C⟩
theorem nCmp(h:aU w ao n c x)(j:aU w ao' n' c' y)(hn:n<=1099511627776)(a:n'<=1099511627776) :
  Calls Tryz.prog 26 #[.slice ao n c,.slice ao' n' c'] w fun e w'=>e=.returned (.int .i64 (sgn x y))/\Below w.heap.size w w':=by
 obtain⟨b,o,l,q,k,s,r,rfl⟩:=h.ex;obtain⟨m,t,p,f,g,d,i,rfl⟩:=j.ex;exact iy ao n c b o ao' n' c' m t l p w q f k g hn a s d r i
theorem nDiv(h:aU w ao n c x)(G:aU w ao' n' c' y)(hn:n<=1099511627776)(m:n'<=1099511627776)(z:y≠0) :
  Calls Tryz.prog 70 #[.slice ao n c,.slice ao' n' c'] w fun e w'=>∃ a k d a' k' d',e=.returned (.tuple #[.slice a k d,.slice a' k' d',.int .i64 0])/\dY w' a k d (x / y)/\dY w' a' k' d' (x % y)/\k<=n/\k'<=n+n'/\Below w.heap.size w w':=by
 obtain⟨b,o,l,E,I,M,F,rfl⟩:=h.ex;obtain⟨D,N,K,f,t,q,A,rfl⟩:=G.ex;refine(vC ao n c b o ao' n' c' D N l K w E f I t hn m M q F A z).mono ?_
 rintro e w' ⟨v,u,r,s,rfl,g,B,C,L,i,j,J⟩;obtain⟨a,d,rfl,H⟩:=g.o C;obtain⟨a',d',rfl,p⟩:=B.o L;exact⟨a,_,d,a',_,d',rfl,H,p,i,j,J⟩
theorem AA(g:aU w ao' n' c' y)(a:n'<=1099511627776)(h:y=0) :
  Calls Tryz.prog 70 #[v,.slice ao' n' c'] w fun e w'=>e=.returned (.tuple #[.slice none 0 0,.slice none 0 0,.int .i64 11])/\w'=w:=by
 obtain⟨i,k,j,c,d,b,f,rfl⟩:=g.ex;exact div_zero v ao' n' c' i k j w c d a b f h
theorem qY{ad:Option Addr}{b f:Nat}{z:Int}(h:aU w ao n c x)(m:aU w ao' n' c' y)(l:aU w ad b f z)(hn:n<=274877906944)(o:n'<=274877906944)(j:b<=274877906944)(i:z=0) :
  Calls Tryz.prog 93 #[.slice ao n c,.slice ao' n' c',.slice ad b f] w fun e w'=>e=.returned (.tuple #[.slice none 0 0,.slice none 0 0,.int .i64 11])/\Below w.heap.size w w':=by
 go_enter Tryz.func93,Tryz.ntmps93;go_wp2_with fail;refine(nMul h m (by omega) (by omega)).mono ?_
 rintro e p ⟨a,k,d,rfl,r,q,g⟩;go_wp2_with fail;refine(AA (l.keep g) (by omega) i).mono ?_
 rintro e s ⟨rfl,rfl⟩;go_wp2;go_ret3;exact⟨rfl,g⟩
theorem nBits(h:aU w ao n c x)(hn:n<=1099511627776) :
  Calls Tryz.prog 55 #[.slice ao n c] w fun e w'=>e=.returned (.int .i64 (bitLen x.toNat))/\Below w.heap.size w w':=by
 obtain⟨b,o,l,d,a,g,f,rfl⟩:=h.ex;exact rC ao n c b o l w d a hn g f
theorem nPow(n:Nat)(hn:n<=4096) :
  Calls Tryz.prog 165 #[.int .i64 n] w fun e w'=>∃ a k d,e=.returned (.tuple #[.slice a k d,.int .i64 0])/\dY w' a k d (10 ^ n)/\k<=n+2/\Below w.heap.size w w':=by
 refine(xm n w hn).mono ?_
 rintro e w' ⟨v,r,rfl,b,c,hlen,g⟩;obtain⟨a,d,rfl,f⟩:=b.o c;exact⟨a,_,d,rfl,f,hlen,g⟩
theorem r5(x:Int)(hx:0<=x):(bitLen x.toNat=0)<->x=0:=by
 constructor
 ·intro h;by_cases e:x.toNat=0
  ·omega
  ·have:=mu e;omega
 ·intro h;subst h;rfl
structure Slot(w:World)(g:Nat)(v:Value)(t:TypeId):Prop where
 blk:w.heap[g]?=some (.cells #[v] t (0,0))
theorem Slot.cell{t:TypeId}(h:Slot w g v t):w.cell? ⟨g,0,none⟩=some v:=cell_of_one h.blk
theorem Slot.free{t:TypeId}(h:Slot w g v t):w.frozen? ⟨g,0,none⟩=false:=free_of_one h.blk
theorem Slot.lt{t:TypeId}(h:Slot w g v t):g < w.heap.size:=lt_of_block h.blk
theorem Slot.keep{t:TypeId}(h:Slot w g v t)(hb:Below w.heap.size w w'):Slot w' g v t:=⟨by rw[hb.block g h.lt];exact h.blk⟩
theorem Slot.put{t:TypeId}(h:Slot w g v t)(u:Value):Slot (w.setCell ⟨g,0,none⟩ u) g u t:=⟨one_setCell h.blk⟩
theorem eR(w:World)(v:Value)(t:TypeId):Slot (w.alloc (.cells #[v] t)) w.heap.size v t:=⟨by
 show (w.heap.push _)[w.heap.size]?=_
 rw[Array.getElem?_push_size]⟩
theorem Slot.alloc{t:TypeId}(h:Slot w g v t)(o:Obj):Slot (w.alloc o) g v t:=h.keep (ae w o)
theorem l8(w:World)(o:Obj)(v:Value)(t:TypeId):Slot ((w.alloc o).alloc (.cells #[v] t)) (w.heap.size+1) v t:=by
 have:=eR (w.alloc o) v t;rwa [show (w.alloc o).heap.size=w.heap.size+1 by simp] at this
theorem lO(w:World)(o o':Obj):Below w.heap.size w ((w.alloc o).alloc o'):=ax (ae w o) (ae _ o')
theorem At.put{b o:Nat}(k:At w ao b o l){t:TypeId}(s:Slot w g v t)(hv:∀ x,v≠.int .u64 x)(u:Value):At (w.setCell ⟨g,0,none⟩ u) ao b o l :=
 ⟨k.loc,fun i hi=>by
  have hc:=k.cell i hi;by_cases e:b=g
  ·subst e
   have c:o + i=0->False:=fun a=>by
    rw[a,s.cell] at hc;exact hv _ (Option.some.inj hc)
   have hs:=s.blk;simp only[World.cell?,hs] at hc;have:o+i < 1:=by
    have:=(Array.getElem?_eq_some_iff.1 hc).1;simpa using this
   exact(c (by omega)).elim
  ·rw[World.cell?_of_block (w:=w) (Below.heap_setCell w _ u b e)];exact hc⟩
theorem dY.put(h:dY w ao n c x){t:TypeId}(s:Slot w g v t)(hv:∀ x,v≠.int .u64 x)(u:Value):dY (w.setCell ⟨g,0,none⟩ u) ao n c x:=by
 obtain⟨b,o,l,h1,h2,h3,h4⟩:=h.ex;exact⟨b,o,l,h1,h2,h3,h4.put s hv u⟩
theorem o9:∀ x,Value.slice ao n c≠.int .u64 x:=fun _ h=>by cases h
theorem qA{W w1:World}(b:Below w.heap.size w W)(h:Below W.heap.size W w1)(hg:w.heap.size<=g)(u:Value):Below w.heap.size w (w1.setCell ⟨g,0,none⟩ u):=(ax b h).setCell hg u
theorem Slot.drew{t:TypeId}(h:Slot w g v t):Slot w.drew g v t:=⟨h.blk⟩
theorem aU.drew(h:aU w ao n c x):aU w.drew ao n c x:=by
 obtain⟨b,o,l,h1,h2,h3,h4,h5⟩:=h.ex;exact⟨b,o,l,h1,h2,h3,h4.drew,h5⟩
theorem yq:(Tryz.prog.info? 32).map (·.size)=some 1:=by kernel_rfl
theorem wI:∃ f,Tryz.prog.underlying 32=some (.struct f):=by
  cases h:Tryz.prog.underlying 32 with
  | none => exact absurd h (by have : (Tryz.prog.underlying 32).isSome = true := by kernel_rfl
                               intro e;rw[e] at this;simp at this)
  | some d =>
    have:(match Tryz.prog.underlying 32 with | some (.struct _)=>true | _=>false)=true:=by kernel_rfl
    rw[h] at this
    cases d <;> first | exact⟨_,rfl⟩ | simp at this
theorem qC{t:TypeId}(s:Slot w g v t):(loadVar 32 ⟨g,0,none⟩).run Tryz.prog w=.ok (.agg #[v]) w:=by
 obtain⟨f,hu⟩:=wI;exact run_loadVar_row w g t 32 #[v] (0,0) _ s.blk hu rfl yq
theorem lI(h:fn.results=#[.cell p 32]){t:TypeId}(b:tmps.getD p undef=.pointer (some ⟨g,0,none⟩))(s:Slot w g v t) :
  (results fn tmps).run Tryz.prog w=.ok (.agg #[v]) w:=by
 have a:tmps[p]?.getD undef=.pointer (some ⟨g,0,none⟩):=by simpa using b
 simp[results,h,a,asAddr,qC s]
theorem rM{u:Tmp}(h:fn.results=#[.tmp u,.cell p 32]){x:Value}{t:TypeId}(c:tmps.getD p undef=.pointer (some ⟨g,0,none⟩))(hu:tmps.getD u undef=x)(s:Slot w g v t) :
  (results fn tmps).run Tryz.prog w=.ok (.tuple #[x,.agg #[v]]) w:=by
 have b:tmps[p]?.getD undef=.pointer (some ⟨g,0,none⟩):=by simpa using c
 have a:tmps[u]?.getD undef=x:=by simpa using hu
 simp[results,h,b,a,asAddr,qC s]
end
end
end Go.Proofs.YthfepflplbahkaaGreatDoor
