import Derived.Test.YthfepflplbahkaaGreatDoorChecked
import Derived.WalkKit
import Derived.WalkSpells
import Derived.WalkLawsBesides
import Derived.Laws.Externs
import Derived.Laws.MathBits
import Derived.Laws.CopyOwn
import Derived.Deep.QuietTactic
import Derived.BigQuiet
import Derived.Deep.RegionWith
import Derived.ScopeJumps
import Derived.WalkSmall
import Derived.OneCell
set_option maxRecDepth 100000
set_option maxHeartbeats 8000000
namespace Go.Proofs.YthfepflplbahkaaGreatDoor
section
namespace Lim
section
variable {l a b:List Int}{i k:Nat}{x:Int}
def nth(l:List Int)(i:Nat):Int:=l.getD i 0
def val:List Int->Int
 | []=>0
 | x :: l=>x + 18446744073709551616 * val l
def Words(l:List Int):Prop:=∀ x∈l,0<=x/\x < 18446744073709551616
def aI:List Int->Nat
 | []=>0
 | x :: l=>if aI l=0 then (if x=0 then 0 else 1) else aI l + 1
def norm(l:List Int):List Int:=l.take (aI l)
def IsN(l:List Int)(n:Int):Prop:=Words l/\aI l=l.length/\val l=n
theorem Bi(i:Nat):nth [] i=0:=by simp[nth]
theorem cI(x:Int)(l:List Int):nth (x :: l) 0=x:=by simp[nth]
theorem dG(x:Int)(l:List Int)(i:Nat):nth (x :: l) (i + 1)=nth l i:=by simp[nth]
theorem fR(h:l.length<=i):nth l i=0:=by
 simp[nth,List.getElem?_eq_none h]
theorem bT(h:i < l.length):nth l i=l[i]:=by
 simp[nth,List.getElem?_eq_getElem h]
theorem lh(h:i < l.length):nth l i∈l:=by
 rw[bT h]; exact List.getElem_mem h
theorem Words.nth(h:Words l)(i:Nat):0<=nth l i/\nth l i < 18446744073709551616:=by
 by_cases hi:i < l.length
 ·exact h _ (lh hi)
 ·rw[fR (by omega)]; decide
theorem Words.nil:Words []:=fun _ h=>by simp at h
theorem Words.cons(h0:0<=x)(h1:x < 18446744073709551616)(h:Words l):Words (x :: l):=by
 intro y hy;rcases List.mem_cons.1 hy with e | e
 ·subst e; exact⟨h0,h1⟩
 ·exact h y e
theorem Words.tail(h:Words (x :: l)):Words l:=fun y hy=>h y (List.mem_cons_of_mem _ hy)
theorem Words.head(h:Words (x :: l)):0<=x/\x < 18446744073709551616:=h x (List.mem_cons_self)
theorem Words.take(h:Words l)(k:Nat):Words (l.take k):=fun x hx=>h x (List.mem_of_mem_take hx)
theorem Words.drop(h:Words l)(k:Nat):Words (l.drop k):=fun x hx=>h x (List.mem_of_mem_drop hx)
theorem Words.append(ha:Words a)(hb:Words b):Words (a ++ b):=by
 intro x hx;rcases List.mem_append.1 hx with e | e
 ·exact ha x e
 ·exact hb x e
theorem du(h:i < k):nth (l.take k) i=nth l i:=by
 simp[nth,h]
theorem dH(l:List Int)(k i:Nat):nth (l.drop k) i=nth l (k + i):=by
 simp[nth,List.getElem?_drop]
theorem cU(h:i < a.length):nth (a ++ b) i=nth a i:=by
 simp[nth,List.getElem?_append_left h]
theorem bJ(h:a.length<=i):nth (a ++ b) i=nth b (i - a.length):=by
 simp[nth,List.getElem?_append_right h]
theorem lE(hl:a.length=b.length)(h:∀ i,i < a.length->nth a i=nth b i):a=b:=by
 apply List.ext_getElem hl;intro i h1 h2;have:=h i h1;rwa [bT h1,bT h2] at this
theorem dA(a:k < l.length):nth (l.set k x) i=if i=k then x else nth l i:=by
 simp only[nth,List.getD_eq_getElem?_getD,List.getElem?_set];by_cases h:k=i
 ·subst h; simp[a]
 ·simp[h,show ¬ i=k from fun e=>h e.symm]
theorem Words.set(h:Words l)(k:Nat)(h0:0<=x)(h1:x < 18446744073709551616):Words (l.set k x):=by
 intro y hy;rcases List.mem_or_eq_of_mem_set hy with e | e
 ·exact h y e
 ·subst e; exact⟨h0,h1⟩
theorem dQ(h:k < l.length):l.take (k + 1)=l.take k ++ [nth l k]:=by
 rw[bT h,List.take_succ_eq_append_getElem h]
theorem aM(h:Words l):0<=val l:=by
 induction l with
 | nil=>simp[val]
 | cons x l ih=>have:=h.head; have:=ih h.tail; simp only[val]; omega
theorem ea(a b:List Int):val (a ++ b)=val a + 18446744073709551616 ^ a.length * val b:=by
 induction a with
 | nil=>simp[val]
 | cons x a ih=>simp only[List.cons_append,val,ih,List.length_cons,Int.pow_succ]; grind
theorem dz(h:Words l):val l < 18446744073709551616 ^ l.length:=by
 induction l with
 | nil=>simp[val]
 | cons x l ih =>
  have:=h.head; have:=ih h.tail;simp only[val,List.length_cons,Int.pow_succ]; omega
theorem eA(x:Int):val [x]=x:=by simp[val]
theorem dw(h:k < l.length):val (l.take (k + 1))=val (l.take k) + 18446744073709551616 ^ k * nth l k:=by
 rw[dQ h,ea,eA,List.length_take,Nat.min_eq_left (by omega)]
theorem bF(l:List Int)(k:Nat)(h:k<=l.length):val l=val (l.take k) + 18446744073709551616 ^ k * val (l.drop k):=by
 conv=>lhs; rw[<- List.take_append_drop k l]
 rw[ea,List.length_take,Nat.min_eq_left h]
theorem bB(l:List Int):aI l<=l.length:=by
 induction l with
 | nil=>simp[aI]
 | cons x l ih=>simp only[aI,List.length_cons]; split<;>(try split)<;>omega
theorem fQ:aI l=0<->∀ i,nth l i=0:=by
 induction l with
 | nil=>simp[aI,nth]
 | cons x l ih =>
  simp only[aI];constructor
  ·intro h i;by_cases e:aI l=0
   ·by_cases a:x=0
    ·cases i with
     | zero=>rw[cI,a]
     | succ i=>rw[dG]; exact ih.1 e i
    ·simp[e,a] at h
   ·simp[e] at h
  ·intro h
   have c:x=0:=by have:=h 0; rwa [cI] at this
   have b:aI l=0:=ih.2 fun i=>by have:=h (i + 1); rwa [dG] at this
   simp[b,c]
theorem jL(d:k<=l.length)(c:∀ i,k<=i->nth l i=0)(b:k≠0->nth l (k - 1)≠0):aI l=k:=by
 induction l generalizing k with
 | nil=>simp[aI] at *; omega
 | cons x l ih =>
  cases k with
  | zero =>
   have:aI (x :: l)=0:=fQ.2 fun i=>c i (Nat.zero_le _)
   exact this
  | succ k =>
   have e:aI l=k:=ih (by simpa using d) (fun i hi=>by have:=c (i + 1) (by omega); rwa [dG] at this) (fun a=>by
    have:=b (by omega); rw[show k + 1 - 1=(k - 1) + 1 from by omega,dG] at this; exact this)
   simp only[aI,e];by_cases a:k=0
   ·subst a;have:=b (by omega); rw[show (0 + 1 - 1)=0 from rfl,cI] at this;simp[this]
   ·simp[a]
theorem fx(h : aI l ≤ i) : nth l i = 0 := by
  induction l generalizing i with
  | nil => simp[nth]
  | cons x l ih =>
    simp only[aI] at h;by_cases e : aI l = 0
    · simp only[e, if_true] at h
      cases i with
      | zero => by_cases a : x = 0
                · rw[cI, a]
                · simp[a] at h
      | succ i => rw[dG]; exact fQ.1 e i
    · simp only[e, if_false] at h
      cases i with
      | zero => omega
      | succ i => rw[dG]; exact ih (by omega)
theorem iA(h:aI l≠0):nth l (aI l - 1)≠0:=by
 induction l with
 | nil=>simp[aI] at h
 | cons x l ih =>
  simp only[aI] at h ⊢;by_cases e:aI l=0
  ·simp only[e,if_true] at h ⊢;by_cases a:x=0
   ·simp[a] at h
   ·simp[a,cI]
  ·simp only[e,if_false] at h ⊢;have:=ih e;rw[show aI l + 1 - 1=(aI l - 1) + 1 from by omega,dG]; exact this
theorem aK(l:List Int):(norm l).length=aI l:=by
 rw[norm,List.length_take,Nat.min_eq_left (bB l)]
theorem ga(l:List Int)(i:Nat):nth (norm l) i=nth l i:=by
 by_cases h:i < aI l
 ·exact du h
 ·rw[fR (by rw[aK]; omega),fx (by omega)]
theorem Words.norm(h:Words l):Words (norm l):=h.take _
theorem oF(l:List Int):aI (norm l)=(norm l).length:=by
 rw[aK];apply jL (by rw[aK]; omega)
 ·intro i hi; rw[ga]; exact fx hi
 ·intro h; rw[ga]; exact iA h
theorem fq(h:∀ i,nth l i=0):val l=0:=by
 induction l with
 | nil=>rfl
 | cons x l ih =>
  have h0:=h 0; rw[cI] at h0;rw[val,h0,ih fun i=>by have:=h (i + 1); rwa [dG] at this]; rfl
theorem cV(l:List Int):val (norm l)=val l:=by
 rw[bF l (aI l) (bB l),fq (l:=l.drop (aI l)) fun i=>by rw[dH]; exact fx (by omega)];simp[norm]
theorem cj(h:Words l):IsN (norm l) (val l):=⟨h.norm,oF l,cV l⟩
theorem pU(h:Words l)(hn:aI l≠0):0 < val l:=by
 induction l with
 | nil=>simp[aI] at hn
 | cons x l ih =>
  have hx:=h.head; have hv:=aM h.tail;simp only[val];by_cases e:aI l=0
  ·simp only[aI,e,if_true] at hn;have:x≠0:=by intro a; simp[a] at hn
   omega
  ·have:=ih h.tail e; omega
theorem bZ(h:Words l):aI l=0<->val l=0:=by
 constructor
 ·intro e; exact fq (fQ.1 e)
 ·intro e;by_cases n:aI l=0
  ·exact n
  ·have:=pU h n; omega
theorem fI(h:Words l)(hn:aI l≠0):18446744073709551616 ^ (aI l - 1)<=val l:=by
 have e:=cV l;have a:=aK l;have hw:=h.norm;have hs:=bF (norm l) (aI l - 1) (by omega)
 have c:(norm l).drop (aI l - 1)=[nth l (aI l - 1)]:=by
  apply lE
  ·simp[a]; omega
  ·intro i hi;simp[a] at hi;have:i=0:=by omega
   subst this;rw[dH,ga,cI]; rfl
 have f:=aM (hw.take (aI l - 1));have hx:=h.nth (aI l - 1);have b:=iA hn
 have d:(0:Int) < 18446744073709551616 ^ (aI l - 1):=Int.pow_pos (by decide);rw[c,eA] at hs;have:18446744073709551616 ^ (aI l - 1) * 1<=18446744073709551616 ^ (aI l - 1) * nth l (aI l - 1):=Int.mul_le_mul_of_nonneg_left (by omega) (Int.le_of_lt d);omega
theorem gN(h:Words l):val l < 18446744073709551616 ^ aI l:=by
 have:=dz h.norm;rwa [cV,aK] at this
theorem gK{a b:Nat}(h:a<=b):(18446744073709551616:Int) ^ a<=18446744073709551616 ^ b:=by
 obtain⟨d,rfl⟩:=Nat.exists_eq_add_of_le h;rw[Int.pow_add]
 have c:(0:Int) < 18446744073709551616 ^ a:=Int.pow_pos (by decide)
 have e:(0:Int) < 18446744073709551616 ^ d:=Int.pow_pos (by decide);have:(18446744073709551616:Int) ^ a * 1<=18446744073709551616 ^ a * 18446744073709551616 ^ d:=Int.mul_le_mul_of_nonneg_left (by omega) (Int.le_of_lt c);omega
theorem dC(ha:Words a)(hb:Words b)(h:aI a < aI b):val a < val b:=by
 have h1:=gN ha;have h2:=fI hb (by omega);have:=gK (show aI a<=aI b - 1 by omega);omega
end
end Lim
end
section
open Go.RowKit Lim
def Cells (w:World) (ao:Option Addr) (l:List Int):Prop :=
 l=[]\/∃ b o,ao=some ⟨b,o,none⟩/\∀ i,i < l.length->w.cell? ⟨b,o + i,none⟩=some (.int .u64 (nth l i))
theorem bj (ao:Option Addr) (n c:Nat) (l:List Int) (w:World) (j:l.length=n) (hc:n<=c) (hb:n<=4398046511104) (d:Cells w ao l) :
  Calls Tryz.prog 58 #[.slice ao n c] w fun e w'=>e=.returned (.slice ao (aI l) (aI l))/\w'=w:=by
 go_enter Tryz.func58,Tryz.ntmps58;go_wp2;go_loop [3] (fun t=>∃ k:Nat,k<=n/\t=.int .i64 k/\Hid (∀ i,k<=i->nth l i=0)) (fun t=>(intOf t).toNat)
 case atStart=>exact⟨n,Nat.le_refl _,rfl,fun i hi=>fR (by omega)⟩
 case round =>
  obtain⟨k,q,rfl,f⟩:=hrel;by_cases m:0 < k
  ·rcases d with e | ⟨b,o,rfl,d⟩
   ·subst e; simp at j; omega
   ·have g:=d (k - 1) (by omega)
    have p:w.cell? ⟨b,o + k - 1,none⟩=some (.int .u64 (nth l (k - 1))):=by rw[<- g]; congr 2; omega
    clear d;go_wp2
    ·go_round
     case rel=>exact⟨k - 1,by omega,by go_num,fun i hi=>by
      by_cases e:i=k - 1
      ·subst e; exact beq_iff_eq.1 (by assumption)
      ·exact f.out i (by omega)⟩
     case measure=>simp[intOf]; omega
    ·go_ret;rw[jL (k:=k) (by omega) f.out (fun _=>beq_eq_false_iff_ne.1 (by assumption))];exact⟨rfl,rfl⟩
  ·go_wp2;go_ret;rw[jL (k:=k) (by omega) f.out (fun _=>by omega)];exact⟨rfl,rfl⟩
end
section
open Go.RowKit Lim
def bor (x y:Int):Int:=if x < y then 1 else 0
theorem rW (x y:Int) (hx:0<=x) (hy:0<=y) (w:World):(callFunc 90 #[.int .u64 x,.int .u64 y,.int .u64 0]).run Tryz.prog w =
  .ok (.value (.tuple #[.int .u64 ((x + y) % 18446744073709551616),.int .u64 ((x + y) / 18446744073709551616)])) w:=by
 obtain⟨x,rfl⟩:=Int.eq_ofNat_of_zero_le hx;obtain⟨y,rfl⟩:=Int.eq_ofNat_of_zero_le hy;rw[run_callFunc_extern Tryz.func90 (by kernel_rfl) (by kernel_rfl) (by kernel_rfl) (e:=add64Entry) (by kernel_rfl),run_add64 (P:=Tryz.prog) x y 0 (by omega) (by omega) (by omega) (by omega),Int.add_zero];rfl
theorem BH (x y:Int) (hx:0<=x) (w:World):(callFunc 90 #[.int .u64 x,.int .u64 (y % 18446744073709551616),.int .u64 0]).run Tryz.prog w =
  .ok (.value (.tuple #[.int .u64 ((x + y % 18446744073709551616) % 18446744073709551616),.int .u64 ((x + y % 18446744073709551616) / 18446744073709551616)])) w :=
 rW x _ hx (Int.emod_nonneg _ (by decide)) w
theorem DM (x y:Int) (hx:0<=x) (a:x < 18446744073709551616) (hy:0<=y) (b:y < 18446744073709551616) (w:World):(callFunc 168 #[.int .u64 x,.int .u64 y,.int .u64 0]).run Tryz.prog w =
  .ok (.value (.tuple #[.int .u64 ((x - y) % 18446744073709551616),.int .u64 (bor x y)])) w:=by
 obtain⟨x,rfl⟩:=Int.eq_ofNat_of_zero_le hx;obtain⟨y,rfl⟩:=Int.eq_ofNat_of_zero_le hy
 have this:(callFunc 168 #[.int .u64 (x:Int),.int .u64 (y:Int),.int .u64 0]).run Tryz.prog w =
   .ok (.value (.tuple #[.int .u64 (((x + 18446744073709551616 - y - 0) % 18446744073709551616:Nat):Int),.int .u64 ((if x < y + 0 then 1 else 0:Nat):Int)])) w:=by kernel_rfl
 rw[this]
 have e1:(((x + 18446744073709551616 - y - 0) % 18446744073709551616:Nat):Int)=((x:Int) - y) % 18446744073709551616:=by omega
 have e2:((if x < y + 0 then 1 else 0:Nat):Int)=bor x y:=by unfold bor; split<;>split<;>omega
 rw[e1,e2]
theorem nu {k k':IntKind} {a b c d:Int} (h:a=b) (h':c=d):Ending.returned (.tuple #[.int k a,.int k' c])=.returned (.tuple #[.int k b,.int k' d]):=by rw[h,h']
theorem qS (z:Int) (h0:0<=z) (h1:z < 18446744073709551616):bits .and .u64 z 4294967295=z % 4294967296:=and_low32 z h0 h1
theorem mul64 (x y:Int) (hx:0<=x) (b:x < 18446744073709551616) (hy:0<=y) (c:y < 18446744073709551616) (w:World) :
  Calls Tryz.prog 89 #[.int .u64 x,.int .u64 y] w fun e w'=>e=.returned (.tuple #[.int .u64 (x * y / 18446744073709551616),.int .u64 (x * y % 18446744073709551616)])/\w'=w:=by
 go_enter Tryz.func89,Tryz.ntmps89;go_wp2;go_ret2;refine⟨nu ?_ ?_,rfl⟩
 ·show IntKind.u64.wrap (IntKind.u64.wrap (IntKind.u64.wrap (x / 4294967296 * (y / 4294967296)) + IntKind.u64.wrap (IntKind.u64.wrap (x / 4294967296 * bits BinOp.and IntKind.u64 y 4294967295) + IntKind.u64.wrap (bits BinOp.and IntKind.u64 x 4294967295 * bits BinOp.and IntKind.u64 y 4294967295) / 4294967296) / 4294967296) + IntKind.u64.wrap (bits BinOp.and IntKind.u64 (IntKind.u64.wrap (IntKind.u64.wrap (x / 4294967296 * bits BinOp.and IntKind.u64 y 4294967295) + IntKind.u64.wrap (bits BinOp.and IntKind.u64 x 4294967295 * bits BinOp.and IntKind.u64 y 4294967295) / 4294967296)) 4294967295 + IntKind.u64.wrap (bits BinOp.and IntKind.u64 x 4294967295 * (y / 4294967296))) / 4294967296)=_
  simp only[IntKind.wrap_u64];rw[qS x hx b,qS y hy c,qS _ (Int.emod_nonneg _ (by decide)) (Int.emod_lt_of_pos _ (by decide))];exact mul64_arith x y hx b hy c
 ·show IntKind.u64.wrap (x * y)=_
  rw[IntKind.wrap_u64]
theorem lG (x y:Int) (hx:0<=x) (a:x < 18446744073709551616) (hy:0<=y) (b:y < 18446744073709551616) (w:World) :
  Calls Tryz.prog 89 #[.int .u64 x,.int .u64 y] w fun e w'=>∃ hi lo:Int,e=.returned (.tuple #[.int .u64 hi,.int .u64 lo])/\0<=hi/\hi<=18446744073709551614/\0<=lo/\lo < 18446744073709551616/\Hid (hi * 18446744073709551616 + lo=x * y)/\w'=w:=by
 refine(mul64 x y hx a hy b w).mono ?_
 rintro e w' ⟨rfl,rfl⟩
 have c:0<=x * y:=Int.mul_nonneg hx hy
 have d:x * y<=18446744073709551615 * 18446744073709551615:=Int.mul_le_mul (by omega) (by omega) hy (by decide);exact⟨_,_,rfl,by omega,by omega,by omega,by omega,by show _=_; omega,rfl⟩
end
section
open Go.RowKit Lim
section
variable {w w1 w':World}{ao ao':Option Addr}{b o n o' n' i k B b':Nat}{l m:List Int}{v:Value}
structure At(w:World)(ao:Option Addr)(b o:Nat)(l:List Int):Prop where
 loc:l=[]\/ao=some ⟨b,o,none⟩
 cell:∀ i,i < l.length->w.cell? ⟨b,o + i,none⟩=some (.int .u64 (nth l i))
theorem At.cells(h:At w ao b o l):Cells w ao l:=by
 rcases h.loc with e | e
 ·exact .inl e
 ·exact .inr ⟨b,o,e,h.cell⟩
def dD(w:World)(b o n:Nat):Prop:=∀ i,i < n->w.frozen? ⟨b,o + i,none⟩=false
structure Wr(b o n:Nat)(w w':World):Prop where
 os:w'.os=w.os
 tape:w'.tape=w.tape
 output:w'.output=w.output
 size:w'.heap.size=w.heap.size
 block:∀ k,k≠b->w'.heap[k]? = w.heap[k]?
 cell:∀ i,(i < o\/o + n<=i)->w'.cell? ⟨b,i,none⟩=w.cell? ⟨b,i,none⟩
 frozen:∀ i,w'.frozen? ⟨b,i,none⟩=w.frozen? ⟨b,i,none⟩
theorem Wr.refl(b o n:Nat)(w:World):Wr b o n w w:=⟨rfl,rfl,rfl,rfl,fun _ _=>rfl,fun _ _=>rfl,fun _=>rfl⟩
theorem Wr.trans{a:World}(h:Wr b o n w w1)(k:Wr b o n w1 a):Wr b o n w a :=
 ⟨k.os.trans h.os,k.tape.trans h.tape,k.output.trans h.output,k.size.trans h.size,fun i hi=>(k.block i hi).trans (h.block i hi),fun i hi=>(k.cell i hi).trans (h.cell i hi),fun i=>(k.frozen i).trans (h.frozen i)⟩
theorem Wr.mono(h:Wr b o n w w')(h1:o'<=o)(h2:o + n<=o' + n'):Wr b o' n' w w' :=
 ⟨h.os,h.tape,h.output,h.size,h.block,fun i hi=>h.cell i (by omega),h.frozen⟩
theorem Wr.setCell(h:Wr b o n w w1)(e:o<=i)(c:i < o + n)(v:Value):Wr b o n w (w1.setCell ⟨b,i,none⟩ v) :=
 h.trans ⟨rfl,rfl,rfl,by simp[World.setCell],fun k a=>Below.heap_setCell _ _ _ _ a,fun j d=>by
   simp only[World.cell?,World.setCell,Array.getElem?_modify,if_true]
   cases hh:w1.heap[b]? with
   | none=>simp
   | some ob =>
    cases ob<;>simp
    rw[Array.getElem?_setIfInBounds,if_neg (by omega)],fun j=>by
   simp only[World.frozen?,World.setCell,Array.getElem?_modify,if_true]
   cases hh:w1.heap[b]? with
   | none=>simp
   | some ob=>cases ob<;>simp⟩
theorem Wr.other(h:Wr b o n w w')(hk:k≠b):w'.cell? ⟨k,i,none⟩=w.cell? ⟨k,i,none⟩:=World.cell?_of_block (w:=w) (h.block k hk)
theorem Wr.below(h:Wr b o n w w')(hB:B<=b):Below B w w' :=
 ⟨h.os,h.tape,h.output,by rw[h.size]; exact Nat.le_refl _,fun k hk=>h.block k (by omega)⟩
theorem Wr.free(h:Wr b o n w w')(k:dD w b' o' n'):dD w' b' o' n':=by
 intro i hi;by_cases e:b'=b
 ·subst e; rw[h.frozen]; exact k i hi
 ·rw[World.frozen?_of_block (w:=w) (h.block b' e)]; exact k i hi
theorem At.wr(h:Wr b o n w w')(k:At w ao b' o' l)(hb:l=[]\/b'≠b):At w' ao b' o' l :=
 ⟨k.loc,fun i hi=>by
  rcases hb with e | e
  ·subst e; simp at hi
  ·rw[h.other e]; exact k.cell i hi⟩
theorem At.below(h:Below B w w')(k:At w ao b o l)(hb:l=[]\/b < B):At w' ao b o l :=
 ⟨k.loc,fun i hi=>by
  rcases hb with e | e
  ·subst e; simp at hi
  ·rw[h.cell (p:=⟨b,o + i,none⟩) e]; exact k.cell i hi⟩
theorem aJ(h:w.cell? ⟨b,o,none⟩=some v):b < w.heap.size:=by
 simp only[World.cell?] at h;by_cases hb:b < w.heap.size
 ·exact hb
 ·rw[Array.getElem?_eq_none (by omega)] at h; simp at h
theorem At.lt(k:At w ao b o l):l=[]\/b < w.heap.size:=by
 cases l with
 | nil=>exact .inl rfl
 | cons x l=>exact .inr (aJ (k.cell 0 (by simp)))
theorem At.keep(h:Below w.heap.size w w')(k:At w ao b o l):At w' ao b o l:=k.below h k.lt
theorem At.setCell(k : At w ao b o l)(hi : i < l.length)(x : Int) : At (w.setCell ⟨b, o + i, none⟩ (.int .u64 x)) ao b o (l.set i x) :=
  ⟨by rcases k.loc with e | e
      · subst e; simp at hi
      · exact .inr e, fun j g => by
    rw[List.length_set] at g;have hc := k.cell j g;rw[dA hi];have a := k.cell i hi;simp only[World.cell?, World.setCell, Array.getElem?_modify, if_true] at hc a ⊢
    cases hh : w.heap[b]? with
    | none => rw[hh] at hc; simp at hc
    | some ob =>
      rw[hh] at hc a
      cases ob with
      | cells c e f =>
        simp at hc a ⊢;rw[Array.getElem?_setIfInBounds];by_cases e : j = i
        · subst e
          obtain⟨d, _⟩:= Array.getElem?_eq_some_iff.1 a;simp[d]
        · rw[if_neg (by omega), if_neg e]; exact hc
      | _ => simp at hc⟩
theorem At.drew(h:At w ao b o l):At w.drew ao b o l:=⟨h.loc,h.cell⟩
theorem dD.drew(h:dD w b o n):dD w.drew b o n:=h
theorem Wr.drew(h:Wr b o n w w'):Wr b o n w w'.drew:=⟨h.os,h.tape,h.output,h.size,h.block,h.cell,h.frozen⟩
theorem At.drewN(h:At w ao b o l)(n:Nat):At (w.drewN n) ao b o l:=⟨h.loc,h.cell⟩
theorem Wr.drewN(h:Wr b o n w w')(k:Nat):Wr b o n w (w'.drewN k):=⟨h.os,h.tape,h.output,h.size,h.block,h.cell,h.frozen⟩
def patch(l:List Int)(k:Nat)(m:List Int):List Int:=l.take k ++ (m ++ l.drop (k + m.length))
theorem fk(h:k + m.length<=l.length):(patch l k m).length=l.length:=by simp[patch]; omega
theorem kP(hl:Words l)(hm:Words m):Words (patch l k m):=(hl.take k).append (hm.append (hl.drop _))
theorem qe(h:k + m.length<=l.length)(hi:i < m.length):nth (patch l k m) (k + i)=nth m i:=by
 have e:(l.take k).length=k:=by simp; omega
 rw[patch,bJ (by omega),e,Nat.add_sub_cancel_left,cU hi]
theorem nI(h:k + m.length<=l.length)(hi:i < k\/k + m.length<=i):nth (patch l k m) i=nth l i:=by
 have e:(l.take k).length=k:=by simp; omega
 rcases hi with hi | hi
 ·rw[patch,cU (by omega),du hi]
 ·rw[patch,bJ (by omega),e,bJ (by omega),dH]; congr 1; omega
theorem om(h:k + m.length<=l.length):val (patch l k m)=val l + 18446744073709551616 ^ k * (val m - val ((l.drop k).take m.length)):=by
 have e:(l.take k).length=k:=by simp; omega
 have b:=bF l k (by omega);have a:=bF (l.drop k) m.length (by simp; omega);rw[List.drop_drop] at a;rw[patch,ea,ea,e,b,a];grind
theorem At.patch(h : At w ao b o l)(hw : Wr b (o + k) n w w')(hm : At w' ao' b (o + k) m)(hn : m.length = n)(c : k + n ≤ l.length) : At w' ao b o (patch l k m) :=
  ⟨by rcases h.loc with e | e
      · left; subst e; simp at c; simp[Go.Proofs.YthfepflplbahkaaGreatDoor.patch, List.eq_nil_of_length_eq_zero (show m.length = 0 by omega)]
      · exact .inr e, fun i hi => by
    rw[fk (by omega)] at hi;by_cases a : k ≤ i ∧ i < k + n
    · obtain⟨j, rfl⟩:= Nat.exists_eq_add_of_le a.1
      rw[qe (by omega) (by omega), ← hm.cell j (by omega), Nat.add_assoc]
    · rw[nI (by omega) (by omega), hw.cell _ (by omega)]; exact h.cell i hi⟩
theorem At.fK(h:At w ao b o l)(k n:Nat):At w (some ⟨b,o + k,none⟩) b (o + k) ((l.drop k).take n) :=
 ⟨.inr rfl,fun i hi=>by
  simp only[List.length_take,List.length_drop] at hi
  rw[du (by omega),dH,Nat.add_assoc]; exact h.cell _ (by omega)⟩
theorem dD.fK(h:dD w b o n){m:Nat}(hk:k + m<=n):dD w b (o + k) m:=fun i hi=>by
 rw[Nat.add_assoc]; exact h _ (by omega)
theorem At.sub(k : At w ao b o l)(n : Nat) : At w ao b o (l.take n) :=
  ⟨by rcases k.loc with e | e
      · subst e; exact .inl (by simp)
      · exact .inr e, fun i hi => by
    rw[List.length_take] at hi
    rw[du (by omega)]; exact k.cell i (by omega)⟩
end
end
section
open Go.RowKit Lim
section
variable {w:World}{g:Nat}{l:List Int}{ops:Array Oper}{rest:List Oper}{o:Oper}{a:Act}
theorem gH:(Tryz.prog.info? 22).map (fun i=>(i.zero,i.size,i.bytes))=some (some (.int .u64 0),1,8):=by kernel_rfl
theorem fX:Tryz.prog.underlying 30=some (.slice 22):=by kernel_rfl
def Row(w:World)(g:Nat)(l:List Int):Prop:=w.heap[g]? = some (.cells (l.map (Value.int .u64)).toArray 22 (0,0))
theorem Row.at(h:Row w g l):At w (some ⟨g,0,none⟩) g 0 l :=
 ⟨.inr rfl,fun i hi=>by
  unfold Row at h;simp only[World.cell?,h]
  simp[bT hi,hi]⟩
theorem Row.free(h:Row w g l)(o n:Nat):dD w g o n:=by
 intro i _;unfold Row at h;simp[World.frozen?,h]
theorem Row.lt(h:Row w g l):g < w.heap.size:=(Array.getElem?_eq_some_iff.1 h).1
structure dF(w w':World)(v:Value)(l:List Int):Prop where
 is:∃ ao b o c,v=.slice ao l.length c/\l.length<=c/\w.heap.size<=b/\At w' ao b o l/\dD w' b o l.length
theorem qL(n:Nat):madeCells (Value.int .u64 0).cells n=((List.replicate n 0).map (Value.int .u64)).toArray:=by
 apply Array.ext
 ·simp[size_madeCells]
 ·intro j b a;simp[madeCells,Value.cells,Nat.mod_one]
theorem cY{Q:Exit->Act->World->Prop}(h:o.guard=none)(l c:Operand)(e:o.op=Op.makeSlice 30 l c)(n:Nat)(L C:Int)(f:a.eval l=.int .i64 L)(hc:a.eval c=.int .i64 C)(hL:L=(n:Int))(hC:C=(n:Int))(hn:n<=17592186044416)(j:∀ w',Row w' w.heap.size (List.replicate n 0)->Below w.heap.size w w'->w'.heap.size=w.heap.size + 1->wpList Tryz.prog ops Q rest (a.put o.dst (.slice (some ⟨w.heap.size,0,none⟩) n n)) w') :
  wpList Tryz.prog ops Q (o :: rest) a w:=by
 obtain⟨i,hi,g,hs,hb⟩:=info_parts gH;refine wpList_plain h fun K d => ?_
 have b:=run_make (P:=Tryz.prog) w 30 22 i (.int .u64 0) fX hi g .i64 .i64 (n:Int) (n:Int) (by omega) (by omega) (by rw[hb]; omega) (by omega);subst hL;subst hC;unfold Oper.wp;simp only[execOp,e,f,hc];simp[b,Result.andThen];refine d _ _ (j _ ?_ ?_ ?_)
 ·show (w.heap.push _)[w.heap.size]? = _
  rw[Array.getElem?_push_size,hs,Nat.mul_one,qL]
 ·exact(Below.refl _ _).alloc (Nat.le_refl _) _
 ·simp
theorem gz{Q:Exit->Act->World->Prop}(p:o.guard=none)(d s:Operand)(B:o.op=.call { callee:=.builtin .copy,args:=#[d,s],argTypes:=#[30,30] })(g dLen dCap sLen sCap:Nat)(sp:Option Addr)(A:a.eval d=.slice (some ⟨g,0,none⟩) dLen dCap)(hs:a.eval s=.slice sp sLen sCap)(lz ls:List Int)(b:Row w g lz)(x:lz.length=dLen)(b' o':Nat)(l:ls.length=sLen)(hle:sLen<=dLen)(q:At w sp b' o' ls)(h:∀ w',Row w' g (ls ++ lz.drop sLen)->Wr g 0 dLen w w'->wpList Tryz.prog ops Q rest (a.put o.dst (goInt sLen)) w'):wpList Tryz.prog ops Q (o :: rest) a w:=by
 obtain⟨i,hi,E,z,hb⟩:=info_parts gH
 have c:(Tryz.prog.info? 22).map (·.size)=some 1:=by rw[hi]; simp[z]
 by_cases u:sLen=0
 ·have D:ls=[]:=List.eq_nil_of_length_eq_zero (by omega);subst D;refine wpList_copy_nothing p d s _ _ B _ fX c _ sp dLen dCap sLen sCap A hs (by subst u; exact Nat.zero_min _) ?_
  have:=h w (by rw[u]; simpa using b) (Wr.refl _ _ _ _);rwa [u] at this
 ·obtain rfl:sp=some ⟨b',o',none⟩:=by
   rcases q.loc with e | e
   ·subst e; simp at l; omega
   ·exact e
  have n:Nat.min sLen dLen=sLen:=Nat.min_eq_left hle
  have hlen:(ls.map (Value.int .u64)).length=sLen:=by simp[l]
  refine wpList_copy_own p d s _ _ B _ fX c g 0 dLen dCap ⟨b',o',none⟩ sLen sCap A hs _ _ b (ls.map (Value.int .u64)) (by rw[n,hlen]) ?_ (by simp[l,x]; omega) (ints_oneCell _ _) ?_
  ·intro j v hv;rw[List.getElem?_map] at hv
   have f:j < ls.length:=by
    rcases Nat.lt_or_ge j ls.length with f | f
    ·exact f
    ·rw[List.getElem?_eq_none f] at hv; simp at hv
   rw[List.getElem?_eq_getElem f] at hv;simp at hv;subst hv;have:=q.cell j f;rw[bT f] at this;rw[<- this];by_cases m:j=0
   ·subst m; exact congrArg w.cell? (by simp[Addr.add])
   ·exact congrArg w.cell? (by simp[Addr.add,m])
  ·rw[hlen]
   have r:Row (w.setRow g (List.take 0 (List.map (Value.int .u64) lz).toArray.toList ++ (List.map (Value.int .u64) ls ++ List.drop (0 + sLen) (List.map (Value.int .u64) lz).toArray.toList)).toArray) g (ls ++ lz.drop sLen):=by
    unfold Row;rw[setRow_heap w g _ _ _ _ b,Nat.zero_add];simp only[List.take_zero,List.nil_append,<- List.map_drop,<- List.map_append]
   refine h _ r ⟨rfl,rfl,rfl,by simp[World.setRow],fun k C=>setRow_other w g k _ C,fun j f => ?_,fun j => ?_⟩
   ·have t:w.heap[g]? = _:=b
    have y:(w.setRow g (List.take 0 (List.map (Value.int .u64) lz).toArray.toList ++ (List.map (Value.int .u64) ls ++ List.drop (0 + sLen) (List.map (Value.int .u64) lz).toArray.toList)).toArray).heap[g]? = _:=r;simp only[World.cell?,t,y];simp;rw[List.getElem?_eq_none (by simp; omega),List.getElem?_eq_none (by omega)];rfl
   ·have t:w.heap[g]? = _:=b
    have y:(w.setRow g (List.take 0 (List.map (Value.int .u64) lz).toArray.toList ++ (List.map (Value.int .u64) ls ++ List.drop (0 + sLen) (List.map (Value.int .u64) lz).toArray.toList)).toArray).heap[g]? = _:=r;simp only[World.frozen?,t,y]
end
end
section
open Go.RowKit Lim
section
variable {x y:Int}{l a b:List Int}
def sgn(x y:Int):Int:=if x < y then -1 else if y < x then 1 else 0
theorem gW(h:x < y):sgn x y = -1:=by simp[sgn,h]
theorem iT(h:y < x):sgn x y=1:=by simp only[sgn]; rw[if_neg (by omega),if_pos h]
theorem r5(h:x=y):sgn x y=0:=by simp[sgn,h]
theorem fT(l:List Int):val l=nth l 0 + 18446744073709551616 * val l.tail:=by
 cases l with
 | nil=>simp[val,nth]
 | cons x l=>simp[val,nth]
theorem fM(l:List Int)(i:Nat):nth l.tail i=nth l (i + 1):=by
 cases l with
 | nil=>simp[nth]
 | cons x l=>simp[nth]
theorem Lim.Words.tl(h:Words l):Words l.tail:=fun x hx=>h x (List.mem_of_mem_tail hx)
theorem oT:∀ {a b:List Int},(∀ i,nth a i=nth b i)->val a=val b
 | [],b,h=>by rw[fq (l:=b) fun i=>by rw[<- h i,Bi]]; rfl
 | x :: a,b,h=>by
  rw[fT (x :: a),fT b,h 0,List.tail_cons,oT (a:=a) (b:=b.tail) fun i=>by rw[fM,<- h (i + 1),dG]]
theorem j1:∀ (h:Nat) {a b:List Int},Words a->Words b->(∀ i,h < i->nth a i=nth b i)->nth a h < nth b h->val a < val b
 | 0,a,b,_,_,he,hl=>by
  rw[fT a,fT b,oT (a:=a.tail) (b:=b.tail) fun i=>by rw[fM,fM]; exact he _ (by omega)];omega
 | h + 1,a,b,ha,hb,he,hl=>by
  have:=j1 h ha.tl hb.tl (fun i hi=>by rw[fM,fM]; exact he _ (by omega)) (by rw[fM,fM]; exact hl);have d:=ha.nth 0; have c:=hb.nth 0;rw[fT a,fT b];omega
theorem sgn_at(e:Words a)(hb:Words b)(h:Nat)(he:∀ i,h < i->nth a i=nth b i)(d:nth a h≠nth b h):sgn (nth a h) (nth b h)=sgn (val a) (val b):=by
 rcases Int.lt_or_gt_of_ne d with c | c
 ·rw[gW c,gW (j1 h e hb he c)]
 ·rw[iT c,iT (j1 h hb e (fun i hi=>(he i hi).symm) c)]
theorem yu(e:Words a)(hb:Words b)(d:aI a≠aI b):sgn (aI a) (aI b)=sgn (val a) (val b):=by
 rcases Nat.lt_or_gt_of_ne d with c | c
 ·rw[gW (by omega),gW (dC e hb c)]
 ·rw[iT (by omega),iT (dC hb e c)]
theorem qF(x y:Int)(w:World):Calls Tryz.prog 60 #[.int .i64 x,.int .i64 y] w fun e w'=>e=.returned (.int .i64 (sgn x y))/\w'=w:=by
 rcases Int.lt_trichotomy x y with h | h | h
 ·rw[gW h];go_enter Tryz.func60,Tryz.ntmps60;go_wp2;go_ret;exact⟨rfl,rfl⟩
 ·rw[r5 h]; subst h;go_enter Tryz.func60,Tryz.ntmps60;go_wp2;go_ret;exact⟨rfl,rfl⟩
 ·rw[iT h]
  have b:¬ x < y:=by omega
  go_enter Tryz.func60,Tryz.ntmps60;go_wp2;go_ret;exact⟨rfl,rfl⟩
theorem qX(x y:Int)(w:World):Calls Tryz.prog 61 #[.int .u64 x,.int .u64 y] w fun e w'=>e=.returned (.int .i64 (sgn x y))/\w'=w:=by
 rcases Int.lt_trichotomy x y with h | h | h
 ·rw[gW h];go_enter Tryz.func61,Tryz.ntmps61;go_wp2;go_ret;exact⟨rfl,rfl⟩
 ·rw[r5 h]; subst h;go_enter Tryz.func61,Tryz.ntmps61;go_wp2;go_ret;exact⟨rfl,rfl⟩
 ·rw[iT h]
  have b:¬ x < y:=by omega
  go_enter Tryz.func61,Tryz.ntmps61;go_wp2;go_ret;exact⟨rfl,rfl⟩
theorem j4{k:IntKind}{a b:Int}(h:a=b):Ending.returned (.int k a)=.returned (.int k b):=by rw[h]
theorem ij(ao:Option Addr)(n c b o:Nat)(ao':Option Addr)(n' c' b' o':Nat)(l d:List Int)(w:World)(Z:l.length=n)(H:d.length=n')(hc:n<=c)(D:n'<=c')(O:n<=1099511627776)(C:n'<=1099511627776)(wl:Words l)(p:Words d)(z:At w ao b o l)(g:At w ao' b' o' d) :
  Calls Tryz.prog 26 #[.slice ao n c,.slice ao' n' c'] w fun e w'=>e=.returned (.int .i64 (sgn (val l) (val d)))/\Below w.heap.size w w':=by
 have hn:=bB l
 have G:=bB d;have t1:=bj ao n c l w Z hc (by omega) z.cells;have t2:=bj ao' n' c' d w H D (by omega) g.cells
 have t:∀ i,aI l<=i->nth l i=0:=fun i hi=>fx hi
 have j:∀ i,aI d<=i->nth d i=0:=fun i hi=>fx hi
 have s:Hid (aI l≠aI d->sgn (aI l) (aI d)=sgn (val l) (val d)):=yu wl p
 have I:Hid (∀ i,aI l<=i->nth l i=0):=t
 have q:Hid (∀ i,aI d<=i->nth d i=0):=j;clear t j;generalize aI l=N at *;generalize aI d=K at *;go_enter Tryz.func26,Tryz.ntmps26;go_wp2_with fail;refine t1.mono ?_
 rintro e w1 ⟨rfl,rfl⟩;go_wp2_with fail;refine t2.mono ?_
 rintro e P ⟨rfl,rfl⟩;clear t1 t2;by_cases u:N=K
 ·subst u;go_wp2_with fail;go_loopw [25] (fun F wr=>∃ k:Nat,k<=N/\F=.int .i64 k/\Hid (∀ i,N - k<=i->nth l i=nth d i)/\Below P.heap.size P wr) (fun F _=>N - (intOf F).toNat)
  case atStart=>exact⟨0,Nat.zero_le _,rfl,fun i hi=>by rw[I.out i (by omega),q.out i (by omega)],Below.refl _ _⟩
  case round =>
   obtain⟨k,hk,rfl,A,f⟩:=hrel;by_cases X:k < N
   ·have r:=z.keep f
    have m:=g.keep f;rcases z.loc with e | rfl
    ·subst e; simp at hn; omega
    rcases g.loc with e | rfl
    ·subst e; simp at G; omega
    obtain⟨h,J⟩:∃ h:Nat,N=h + 1 + k:=⟨N - 1 - k,by omega⟩
    have q1:=r.cell h (by omega);have Q:=m.cell h (by omega)
    have HN:Hid (N=h + 1 + k):=J
    have M:(N:Int) - 1 - k=h:=by omega
    have R:Hid (∀ i,h < i->nth l i=nth d i):=fun i hi=>A.out i (by omega)
    have V:Hid (nth l h≠nth d h->sgn (nth l h) (nth d h)=sgn (val l) (val d)):=sgn_at wl p h R.out
    have S:(h:Int) < N:=by omega
    clear J A I q s z g r m wl p;generalize hx:nth l h=x at *;generalize hy:nth d h=y at *
    have L:Hid (x=y->nth l h=nth d h):=fun e=>hx.trans (e.trans hy.symm)
    clear hx hy;by_cases v:x=y
    ·have Y:Hid (nth l h=nth d h):=L.out v;clear L;subst v;go_wp2_with fail;go_quiet (fail);go_wp2;go_roundw
     case rel=>exact⟨k + 1,by omega,by go_num,fun i hi=>by
      by_cases e:i=h
      ·subst e; exact Y.out
      ·exact R.out i (by have:=HN.out; omega),below_drewN f _⟩
     case measure=>simp[intOf]; omega
    ·have U:(x != y)=true:=by rw[bne_iff_ne]; exact v
     go_wp2_with fail;go_quiet (fail);go_wp2_with fail
     have q3:(wr.drewN nq).cell? ⟨b,o + h,none⟩=some (.int .u64 x):=q1
     have q4:(wr.drewN nq).cell? ⟨b',o' + h,none⟩=some (.int .u64 y):=Q;have B:=below_drewN f nq;clear q1 Q f;generalize wr.drewN nq=W at *;go_quiet ((go_at_call 61; exact Calls.quiet_of_same (qX _ _ _)));go_wp2;go_ret;exact⟨j4 (V.out v),below_drewN B _⟩
   ·have E:k=N:=by omega
    subst E;go_wp2;go_ret;rw[r5 (oT fun i=>A.out i (by omega))];exact⟨rfl,f⟩
 ·have T:((N:Int) != (K:Int))=true:=by rw[bne_iff_ne]; omega
  go_wp2_with (go_at_call 60; refine(qF _ _ _).mono ?_; rintro e w' ⟨rfl,rfl⟩);go_ret;exact⟨j4 (s.out u),Below.refl _ _⟩
end
end
section
open Go.RowKit Lim
section
variable {n:Nat}
theorem w64(z:Int)(h0:0<=z)(h1:z<=1000):wrap64 z=z:=by
 unfold wrap64; omega
theorem gm(k:Int)(i:Nat)(h0:0<=k)(hk:k<=56)(h:i < 256):wrap64 (k + wrap64 (bitLen i:Int))=k + bitLen i:=by
 have:=bitLen_le8 i h;rw[w64 (bitLen i) (by omega) (by omega),w64 _ (by omega) (by omega)]
theorem iO(x:Int)(b i:Nat)(h:x.toNat / 2 ^ b=i)(hi:i≠0):((bitLen x.toNat:Nat):Int)=b + bitLen i:=by
 rw[bitLen_shift x.toNat b (by rw[h]; exact hi),h]; omega
theorem len64(x:Int)(w:World)(b:0<=x)(c:x < 18446744073709551616) :
  Calls Tryz.prog 139 #[.int .u64 x] w fun e w'=>e=.returned (.int .i64 (bitLen x.toNat))/\w'=w:=by
 by_cases c0:4294967296<=x
 ·by_cases c1:65536<=x / 4294967296
  ·by_cases c2:256<=x / 4294967296 / 65536
   ·go_enter Tryz.func139,Tryz.ntmps139;go_wp2;go_ret;refine⟨j4 ?_,rfl⟩;rw[len8tab_get,gm 56 (x / 4294967296 / 65536 / 256).toNat (by decide) (by decide) (by omega),iO x 56 (x / 4294967296 / 65536 / 256).toNat (by rw[show (2:Nat) ^ 56=72057594037927936 from rfl]; omega) (by omega)];rfl
   ·go_enter Tryz.func139,Tryz.ntmps139;go_wp2;go_ret;refine⟨j4 ?_,rfl⟩;rw[len8tab_get,gm 48 (x / 4294967296 / 65536).toNat (by decide) (by decide) (by omega),iO x 48 (x / 4294967296 / 65536).toNat (by rw[show (2:Nat) ^ 48=281474976710656 from rfl]; omega) (by omega)];rfl
  ·by_cases c2:256<=x / 4294967296
   ·go_enter Tryz.func139,Tryz.ntmps139;go_wp2;go_ret;refine⟨j4 ?_,rfl⟩;rw[len8tab_get,gm 40 (x / 4294967296 / 256).toNat (by decide) (by decide) (by omega),iO x 40 (x / 4294967296 / 256).toNat (by rw[show (2:Nat) ^ 40=1099511627776 from rfl]; omega) (by omega)];rfl
   ·go_enter Tryz.func139,Tryz.ntmps139;go_wp2;go_ret;refine⟨j4 ?_,rfl⟩;rw[len8tab_get,gm 32 (x / 4294967296).toNat (by decide) (by decide) (by omega),iO x 32 (x / 4294967296).toNat (by rw[show (2:Nat) ^ 32=4294967296 from rfl]; omega) (by omega)];rfl
 ·by_cases c1:65536<=x
  ·by_cases c2:256<=x / 65536
   ·go_enter Tryz.func139,Tryz.ntmps139;go_wp2;go_ret;refine⟨j4 ?_,rfl⟩;rw[len8tab_get,gm 24 (x / 65536 / 256).toNat (by decide) (by decide) (by omega),iO x 24 (x / 65536 / 256).toNat (by rw[show (2:Nat) ^ 24=16777216 from rfl]; omega) (by omega)];rfl
   ·go_enter Tryz.func139,Tryz.ntmps139;go_wp2;go_ret;refine⟨j4 ?_,rfl⟩;rw[len8tab_get,gm 16 (x / 65536).toNat (by decide) (by decide) (by omega),iO x 16 (x / 65536).toNat (by rw[show (2:Nat) ^ 16=65536 from rfl]; omega) (by omega)];rfl
  ·by_cases c2:256<=x
   ·go_enter Tryz.func139,Tryz.ntmps139;go_wp2;go_ret;refine⟨j4 ?_,rfl⟩;rw[len8tab_get,gm 8 (x / 256).toNat (by decide) (by decide) (by omega),iO x 8 (x / 256).toNat (by rw[show (2:Nat) ^ 8=256 from rfl]; omega) (by omega)];rfl
   ·go_enter Tryz.func139,Tryz.ntmps139;go_wp2;go_ret;refine⟨j4 ?_,rfl⟩;rw[len8tab_get];have:=bitLen_le8 x.toNat (by omega);rw[w64 (bitLen x.toNat:Int) (by omega) (by omega),w64 _ (by omega) (by omega)]
theorem lQ(h:n≠0):1<=bitLen n:=by unfold bitLen; rw[if_neg h]; omega
theorem gY(h:n < 18446744073709551616):bitLen n<=64:=by
 unfold bitLen;split
 ·omega
 ·have:=(Nat.log2_lt (k:=64) ‹_›).2 (by omega); omega
theorem DQ(x:Int)(w:World)(b:0<=x)(c:x < 18446744073709551616) :
  Calls Tryz.prog 87 #[.int .u64 x] w fun e w'=>e=.returned (.int .i64 (64 - bitLen x.toNat))/\w'=w:=by
 have d:=gY (n:=x.toNat) (by omega);have t1:=len64 x w b c;generalize bitLen x.toNat=L at *;go_enter Tryz.func87,Tryz.ntmps87;go_wp2_with fail;refine t1.mono ?_
 rintro e f ⟨rfl,rfl⟩;go_wp2;go_ret;exact⟨rfl,rfl⟩
end
end
section
open Go.RowKit Lim
section
variable {y y1 y0 u a q r:Int}
theorem D7(y:Int)(w:World)(g:0 < y)(d:y < 18446744073709551616) :
  Calls Tryz.prog 87 #[.int .u64 y] w fun e w'=>∃ s:Nat,e=.returned (.int .i64 s)/\s<=63/\Hid (9223372036854775808<=y * 2 ^ s/\y * 2 ^ s < 18446744073709551616)/\w'=w:=by
 refine(DQ y w (by omega) d).mono ?_
 rintro e w' ⟨rfl,rfl⟩;have f:=gY (n:=y.toNat) (by omega);have h:=lQ (n:=y.toNat) (by omega);have hs:=bitLen_spec y.toNat;generalize bitLen y.toNat=L at *;refine⟨64 - L,j4 (by omega),by omega,?_,rfl⟩;have b:=hs.1;have a:=hs.2 (by omega);obtain⟨n,rfl⟩:∃ n:Nat,y=n:=⟨y.toNat,by omega⟩
 rw[Int.toNat_natCast] at b a
 have e1:(2:Nat) ^ L * 2 ^ (64 - L)=18446744073709551616:=by rw[<- Nat.pow_add,show L + (64 - L)=64 from by omega]
 have e2:(2:Nat) ^ (L - 1) * 2 ^ (64 - L)=9223372036854775808:=by rw[<- Nat.pow_add,show L - 1 + (64 - L)=63 from by omega]
 have k1:n * 2 ^ (64 - L) < 2 ^ L * 2 ^ (64 - L):=Nat.mul_lt_mul_of_pos_right b (Nat.two_pow_pos _)
 have k2:2 ^ (L - 1) * 2 ^ (64 - L)<=n * 2 ^ (64 - L):=Nat.mul_le_mul_right _ a;rw[e1] at k1;rw[e2] at k2
 have c:((n * 2 ^ (64 - L):Nat):Int)=(n:Int) * 2 ^ (64 - L):=by rw[Int.natCast_mul,Int.natCast_pow]; rfl
 show _/\_
 rw[<- c];omega
structure eL(y y1 u a q r:Int):Prop where
 eq:q * y1 + r=u
 r0:0<=r
 up:u * 4294967296 + a < (q + 1) * y
 q0:0<=q
 qb:q<=4294967297
theorem eL.start(e:y=y1 * 4294967296 + y0)(c:0<=y0)(j:y0 < 4294967296)(h:2147483648<=y1)(u0:0<=u)(i:u < y)(a0:0<=a)(a1:a < 4294967296) :
  eL y y1 u a (u / y1) (u % y1):=by
 have d:=Int.mul_ediv_add_emod u y1;have f:=Int.emod_nonneg u (show y1≠0 by omega);have g:=Int.emod_lt_of_pos u (show 0 < y1 by omega)
 have b:0<=u / y1:=Int.ediv_nonneg u0 (by omega);generalize u / y1=q at *;generalize u % y1=r at *;refine⟨by rw[Int.mul_comm]; exact d,f,?_,b,?_⟩
 ·have k1:(q + 1) * y=(y1 * q + y1) * 4294967296 + (q + 1) * y0:=by rw[e]; grind
  have k2:0<=(q + 1) * y0:=Int.mul_nonneg (by omega) c;rw[k1]; omega
 ·by_cases hc:q<=4294967297
  ·exact hc
  ·have k:y1 * 4294967298<=y1 * q:=Int.mul_le_mul_of_nonneg_left (by omega) (by omega);omega
theorem eL.big(h:eL y y1 u a q r)(a1:a < 4294967296)(y0:0 < y)(d:u < y)(b:4294967296<=q)(c:0<=y1):eL y y1 u a (q - 1) (r + y1):=by
 have k:y * 4294967296<=y * q:=Int.mul_le_mul_of_nonneg_left b (by omega);have:=h.eq; have:=h.r0; have:=h.qb;refine⟨by rw[Int.sub_mul]; omega,by omega,?_,by omega,by omega⟩;rw[Int.sub_add_cancel,Int.mul_comm q y]; omega
theorem eL.more(h:eL y y1 u a q r)(e:y=y1 * 4294967296 + y0)(u0:0<=u)(a0:0<=a)(f:0<=y1)(hc:4294967296 * r + a < q * y0):eL y y1 u a (q - 1) (r + y1):=by
 have he:=h.eq; have:=h.r0; have:=h.qb; have:=h.q0
 have k:q * y=q * y1 * 4294967296 + q * y0:=by rw[e]; grind
 have b:u * 4294967296 + a < q * y:=by rw[k]; omega
 have d:1<=q:=by
  by_cases c:1<=q
  ·exact c
  ·have:q=0:=by omega
   subst this;simp at b; omega
 refine⟨by rw[Int.sub_mul]; omega,by omega,?_,by omega,by omega⟩;rw[Int.sub_add_cancel]; exact b
structure Dig(y u a q:Int):Prop where
 lo:q * y<=u * 4294967296 + a
 hi:u * 4294967296 + a < (q + 1) * y
 q0:0<=q
 q1:q < 4294967296
theorem eL.dig(h:eL y y1 u a q r)(e:y=y1 * 4294967296 + y0)(b:0 < y)(d:u < y)(a1:a < 4294967296)(hc:q * y0<=4294967296 * r + a):Dig y u a q:=by
 have he:=h.eq
 have k:q * y=q * y1 * 4294967296 + q * y0:=by rw[e]; grind
 have lo:q * y<=u * 4294967296 + a:=by rw[k]; omega
 refine⟨lo,h.up,h.q0,?_⟩;by_cases c:q < 4294967296
 ·exact c
 ·have:4294967296 * y<=q * y:=Int.mul_le_mul_of_nonneg_right (by omega) (by omega);omega
theorem eL.kL(h:eL y y1 u a q r)(e:y=y1 * 4294967296 + y0)(b:0 < y)(f:u < y)(a0:0<=a)(a1:a < 4294967296)(c:0<=y0)(i:y0 < 4294967296)(d:q<=4294967296)(g:4294967296<=r):Dig y u a q :=
 h.dig e b f a1 (by
  have:q * y0<=4294967296 * y0:=Int.mul_le_mul_of_nonneg_right d c
  omega)
theorem Dig.rest(h:Dig y u a q):0<=u * 4294967296 + a - q * y/\u * 4294967296 + a - q * y < y:=by
 have:=h.lo; have h2:=h.hi;rw[Int.add_mul] at h2;omega
theorem ediv64(x S T:Int)(hS:0 < S)(h:S * T=18446744073709551616):x * S / 18446744073709551616=x / T:=by
 rw[<- h,Int.mul_comm S T,Int.mul_ediv_mul_of_pos_left _ _ hS]
theorem qt(a b:Int)(s:Nat)(k:Int)(i:a=k * 2 ^ s)(j:0<=k)(f:a < 18446744073709551616)(c:0<=b)(m:b < 2 ^ s)(g:b < 18446744073709551616):bits .or .u64 a b=a + b:=by
 have l:(0:Int) < 2 ^ s:=Int.pow_pos (by decide)
 have h:0<=a:=by rw[i]; exact Int.mul_nonneg j (Int.le_of_lt l)
 rw[u64_or a b h f c g];obtain⟨k,rfl⟩:=Int.eq_ofNat_of_zero_le j;obtain⟨b,rfl⟩:=Int.eq_ofNat_of_zero_le c
 have e:a.toNat=2 ^ s * k:=by
  have:a=((2 ^ s * k:Nat):Int):=by rw[i,Int.natCast_mul,Int.natCast_pow,Int.mul_comm]; rfl
  rw[this,Int.toNat_natCast]
 have d:b < 2 ^ s:=by
  have:((2 ^ s:Nat):Int)=2 ^ s:=by rw[Int.natCast_pow]; rfl
  omega
 rw[e,Int.toNat_natCast,<- Nat.two_pow_add_eq_or_of_lt d,<- e];omega
theorem xe(hi lo y:Int)(s:Nat)(h:0<=hi)(o:hi < y)(f:0<=lo)(l1:lo < 18446744073709551616)(hs:s<=63)(n:9223372036854775808<=y * 2 ^ s/\y * 2 ^ s < 18446744073709551616) :
  ∃ Y Yh Yl U A A1 A0:Int,IntKind.u64.wrap (y * 2 ^ s)=Y/\Y / 4294967296=Yh/\bits .and .u64 Y 4294967295=Yl/\bits .or .u64 (IntKind.u64.wrap (hi * 2 ^ s)) (lo / 2 ^ (64 - s))=U /\
   IntKind.u64.wrap (lo * 2 ^ s)=A/\A / 4294967296=A1/\bits .and .u64 A 4294967295=A0/\0<=Yl/\Yl < 4294967296/\2147483648<=Yh/\Yh < 4294967296/\0<=U/\U < Y/\Y < 18446744073709551616/\0<=A1/\A1 < 4294967296/\0<=A0/\A0 < 4294967296 /\
   Hid (Y=Yh * 4294967296 + Yl)/\Hid ((U * 4294967296 + A1) * 4294967296 + A0=(hi * 18446744073709551616 + lo) * 2 ^ s/\Y=y * 2 ^ s):=by
 have hS:(0:Int) < 2 ^ s:=Int.pow_pos (by decide)
 have g:(0:Int) < 2 ^ (64 - s):=Int.pow_pos (by decide)
 have d:(2:Int) ^ s * 2 ^ (64 - s)=18446744073709551616:=by rw[<- Int.pow_add,show s + (64 - s)=64 from by omega]; rfl
 have i:(2:Int) ^ s * 1<=2 ^ s * 2 ^ (64 - s):=Int.mul_le_mul_of_nonneg_left (by omega) (Int.le_of_lt hS)
 have e:0<=hi * 2 ^ s:=Int.mul_nonneg h (Int.le_of_lt hS)
 have c:(hi + 1) * 2 ^ s<=y * 2 ^ s:=Int.mul_le_mul_of_nonneg_right (by omega) (Int.le_of_lt hS);rw[Int.add_mul,Int.one_mul] at c
 have j:0<=lo * 2 ^ s:=Int.mul_nonneg f (Int.le_of_lt hS)
 have b:0<=lo / 2 ^ (64 - s):=Int.ediv_nonneg f (Int.le_of_lt g)
 have a:lo / 2 ^ (64 - s) < 2 ^ s:=by
  rw[Int.ediv_lt_iff_lt_mul g,d]; exact l1
 have m:=ediv64 lo (2 ^ s) (2 ^ (64 - s)) hS d
 have k:bits .or .u64 (IntKind.u64.wrap (hi * 2 ^ s)) (lo / 2 ^ (64 - s))=hi * 2 ^ s + lo / 2 ^ (64 - s):=by
  rw[IntKind.wrap_u64,Int.emod_eq_of_lt e (by omega)];exact qt _ _ s hi rfl h (by omega) b a (by omega)
 have l:IntKind.u64.wrap (y * 2 ^ s)=y * 2 ^ s:=by rw[IntKind.wrap_u64]; omega
 have hA:IntKind.u64.wrap (lo * 2 ^ s)=lo * 2 ^ s % 18446744073709551616:=IntKind.wrap_u64 _
 have e3:(hi * 18446744073709551616 + lo) * 2 ^ s=hi * 2 ^ s * 18446744073709551616 + lo * 2 ^ s:=by grind
 rw[k,l,hA];rw[<- m] at b a ⊢;rw[e3];generalize hi * 2 ^ s=H at *;generalize lo * 2 ^ s=p at *;generalize y * 2 ^ s=Y at *;refine⟨Y,_,_,_,_,_,_,rfl,rfl,qS _ (by omega) (by omega),rfl,rfl,rfl,qS _ (by omega) (by omega),by omega,by omega,by omega,by omega,by omega,by omega,by omega,by omega,by omega,by omega,by omega,?_,?_,rfl⟩
 ·show _=_; omega
 ·omega
theorem wg(U A p V:Int)(h:V=U * 4294967296 + A - p)(a:0<=V)(b:V < 18446744073709551616):IntKind.u64.wrap (IntKind.u64.wrap (IntKind.u64.wrap (U * 4294967296) + A) - IntKind.u64.wrap p)=V:=by
 simp only[IntKind.wrap_u64]; omega
theorem yk(u y:Int)(hu:0<=u)(b:u < 18446744073709551616)(hy:0 < y):IntKind.u64.wrap (u - IntKind.u64.wrap (u / y * y))=u % y:=by
 have a:=Int.mul_ediv_add_emod u y;have c:=Int.emod_nonneg u (show y≠0 by omega);have d:=Int.mul_nonneg (Int.ediv_nonneg hu (Int.le_of_lt hy)) (Int.le_of_lt hy);rw[Int.mul_comm] at a;generalize u / y * y=p at *;generalize u % y=r at *;simp only[IntKind.wrap_u64]; omega
theorem il(Y b c u a:Int)(hy:Y=b * 4294967296 + c)(e:0<=c)(g:c < 4294967296)(d:2147483648<=b)(i:b < 4294967296)(u0:0<=u)(f:u < Y)(h:Y < 18446744073709551616)(a0:0<=a)(a1:a < 4294967296) :
  IntKind.u64.wrap (u - IntKind.u64.wrap (u / b * b))=u % b/\eL Y b u a (u / b) (u % b)/\u % b < 4294967296 :=
 ⟨yk u b u0 (by omega) (by omega),eL.start hy e g d u0 f a0 a1,by have:=Int.emod_lt_of_pos u (show 0 < b by omega); omega⟩
theorem dr{Y:Int}(h:Dig Y u a q)(b:Y < 18446744073709551616):∃ V:Int,IntKind.u64.wrap (IntKind.u64.wrap (IntKind.u64.wrap (u * 4294967296) + a) - IntKind.u64.wrap (q * Y))=V/\0<=V/\V < Y/\Hid (V=u * 4294967296 + a - q * Y):=by
 have:=h.rest;exact⟨u * 4294967296 + a - q * Y,wg u a (q * Y) _ rfl this.1 (by omega),this.1,this.2,rfl⟩
theorem fh(hi lo y Y U h d Q V a:Int)(s:Nat)(hy:0 < y)(e:(U * 4294967296 + h) * 4294967296 + d=(hi * 18446744073709551616 + lo) * 2 ^ s)(i:Y=y * 2 ^ s)(j:V=U * 4294967296 + h - Q * Y)(f:Dig Y V d a) :
  Q * 4294967296 + a=(hi * 18446744073709551616 + lo) / y/\(V * 4294967296 + d - a * Y) / 2 ^ s=(hi * 18446744073709551616 + lo) % y:=by
 have hS:(0:Int) < 2 ^ s:=Int.pow_pos (by decide);have g:=f.rest;have l:=f.q0;have k:=f.q1;generalize hN:hi * 18446744073709551616 + lo=N at *
 have key:N * 2 ^ s=(Q * 4294967296 + a) * y * 2 ^ s + (V * 4294967296 + d - a * Y):=by rw[<- e,j,i]; grind
 generalize hR:V * 4294967296 + d - a * Y=R at *
 have hdiv:R=(N - (Q * 4294967296 + a) * y) * 2 ^ s:=by rw[Int.sub_mul]; omega
 generalize hK:Q * 4294967296 + a=K at *;generalize hD:N - K * y=D at *;rw[hdiv] at g;rw[i] at g
 have d0:0<=D:=by
  by_cases c:0<=D
  ·exact c
  ·have:D * 2 ^ s <= -1 * 2 ^ s:=Int.mul_le_mul_of_nonneg_right (by omega) (Int.le_of_lt hS);omega
 have d1:D < y:=Int.lt_of_mul_lt_mul_right g.2 (Int.le_of_lt hS)
 have b:N=y * K + D:=by rw[<- hD,Int.mul_comm y K]; omega
 constructor
 ·have:N / y=K:=by rw[b,Int.add_comm,Int.add_mul_ediv_left _ _ (by omega),Int.ediv_eq_zero_of_lt d0 d1,Int.zero_add]
  omega
 ·rw[hdiv,Int.mul_ediv_cancel _ (by omega),b,Int.add_comm,Int.add_mul_emod_self_left,Int.emod_eq_of_lt d0 d1]
theorem oq(hi lo y:Int)(w:World)(h0:0 < hi)(h1:hi < y)(l0:0<=lo)(l1:lo < 18446744073709551616)(y1:y < 18446744073709551616) :
  Calls Tryz.prog 166 #[.int .u64 hi,.int .u64 lo,.int .u64 y] w fun e w'=>e=.returned (.tuple #[.int .u64 ((hi * 18446744073709551616 + lo) / y),.int .u64 ((hi * 18446744073709551616 + lo) % y)])/\w'=w:=by
 have hb0:(hi == 0)=false:=beq_eq_false_iff_ne.2 (by omega)
 have hb1:(y == 0)=false:=beq_eq_false_iff_ne.2 (by omega);go_enter Tryz.func166,Tryz.ntmps166;go_wp2_with fail;refine(D7 y _ (by omega) y1).mono ?_
 rintro e w' ⟨s,rfl,hs,HS,rfl⟩;obtain⟨Y,n,K,U,A,v,i,e1,e2,e3,e4,e5,e6,e7,f,m,P,O,u0,u1,D,a10,M,S,j,x,z⟩:=xe hi lo y s (by omega) h1 l0 l1 hs HS.out;obtain⟨d2,t,o⟩:=il Y n K U v x.out f m P O u0 u1 D a10 M;go_wp2_with fail;clear e1 e2 e3 e4 e5 e6 e7 d2 HS hb0 hb1;go_loop [15,16] (fun tq tr=>∃ q r:Int,tq=.int .u64 q/\tr=.int .u64 r/\eL Y n U v q r/\r < 4294967296) (fun tq _=>(intOf tq).toNat)
 case atStart=>exact⟨_,_,rfl,rfl,t,o⟩
 case round =>
  clear t o;obtain⟨q,r,rfl,rfl,g,hr⟩:=hrel;have q0:=g.q0;have qb:=g.qb;have r0:=g.r0;by_cases c1:4294967296<=q
  ·have b:=g.big M (by omega) u1 c1 (by omega);obtain⟨Q,E⟩:∃ Q,q - 1=Q:=⟨_,rfl⟩
   obtain⟨R,H⟩:∃ R,r + n=R:=⟨_,rfl⟩
   rw[E,H] at b;have L:=b.q0
   have I:Q < q:=by omega
   have W:R < 8589934592:=by omega
   have T:=b.r0;by_cases c2:4294967296<=R
   ·have d:Hid (Dig Y U v Q):=b.kL x.out (by omega) u1 (by omega) M f m (by omega) c2;have N:=d.out.q1;obtain⟨V,v1,v2,v3,B⟩:=dr d.out D;obtain⟨d2,t,o⟩:=il Y n K V i x.out f m P O v2 v3 D S j;obtain⟨l,u⟩:∃ l,l=Q:=⟨_,rfl⟩
    have aa:0<=l:=by omega
    have QQ1:l < 4294967296:=by omega
    have B:Hid (V=U * 4294967296 + v - l * Y):=by rw[u]; exact B
    go_wp2_with fail;rw[<- u];clear v1 d2 u;go_loop [18,16] (fun tq tr=>∃ q r:Int,tq=.int .u64 q/\tr=.int .u64 r/\eL Y n V i q r/\r < 4294967296) (fun tq _=>(intOf tq).toNat)
    case atStart=>exact⟨_,_,rfl,rfl,t,o⟩
    case round =>
     clear t o d;obtain⟨q,r,rfl,rfl,g,hr⟩:=hrel;have q0:=g.q0;have qb:=g.qb;have r0:=g.r0;by_cases c1:4294967296<=q
     ·have b:=g.big j (by omega) v3 c1 (by omega);obtain⟨Q,E⟩:∃ Q,q - 1=Q:=⟨_,rfl⟩
      obtain⟨R,H⟩:∃ R,r + n=R:=⟨_,rfl⟩
      rw[E,H] at b;have L:=b.q0
      have I:Q < q:=by omega
      have W:R < 8589934592:=by omega
      have T:=b.r0;by_cases c2:4294967296<=R
      ·have d:Hid (Dig Y V i Q):=b.kL x.out (by omega) v3 (by omega) j f m (by omega) c2;have N:=d.out.q1;obtain⟨Z,z1,z2,z3,C⟩:=dr d.out D;go_wp2;go_ret2;have c:=fh hi lo y Y U v i l V Q s (by omega) z.out.1 z.out.2 B.out d.out;exact⟨nu c.1 (by rw[<- c.2,<- C.out]),rfl⟩
      ·have J:Hid (eL Y n V i Q R):=b;clear b g;go_wp2;go_round
       case rel=>exact⟨Q,R,rfl,rfl,J.out,by omega⟩
       case measure=>simp[intOf]; omega
     ·obtain⟨p,F⟩:∃ p,q * K=p:=⟨_,rfl⟩
      have p0:0<=p:=by rw[<- F]; exact Int.mul_nonneg q0 f
      have p1:p < 18446744073709551616:=by
       have:=Int.mul_le_mul (show q<=4294967295 by omega) (show K<=4294967295 by omega) f (by decide);omega
      by_cases X:4294967296 * r + i < p
      ·have b:=g.more x.out (by omega) (by omega) (by omega) (by rw[F]; exact X);obtain⟨Q,E⟩:∃ Q,q - 1=Q:=⟨_,rfl⟩
       obtain⟨R,H⟩:∃ R,r + n=R:=⟨_,rfl⟩
       rw[E,H] at b;have L:=b.q0
       have I:Q < q:=by omega
       have W:R < 8589934592:=by omega
       have T:=b.r0;by_cases c2:4294967296<=R
       ·have d:Hid (Dig Y V i Q):=b.kL x.out (by omega) v3 (by omega) j f m (by omega) c2;have N:=d.out.q1;obtain⟨Z,z1,z2,z3,C⟩:=dr d.out D;go_wp2;go_ret2;have c:=fh hi lo y Y U v i l V Q s (by omega) z.out.1 z.out.2 B.out d.out;exact⟨nu c.1 (by rw[<- c.2,<- C.out]),rfl⟩
       ·have J:Hid (eL Y n V i Q R):=b;clear b g;go_wp2;go_round
        case rel=>exact⟨Q,R,rfl,rfl,J.out,by omega⟩
        case measure=>simp[intOf]; omega
      ·have d:Hid (Dig Y V i q):=g.dig x.out (by omega) v3 j (by rw[F]; omega);have N:=d.out.q1;have L:=d.out.q0;clear g
       have G:∃ Q,Q=q:=⟨_,rfl⟩
       obtain⟨Q,rfl⟩:=G;obtain⟨Z,z1,z2,z3,C⟩:=dr d.out D;go_wp2;go_ret2;have c:=fh hi lo y Y U v i l V Q s (by omega) z.out.1 z.out.2 B.out d.out;exact⟨nu c.1 (by rw[<- c.2,<- C.out]),rfl⟩
   ·have J:Hid (eL Y n U v Q R):=b;clear b g;go_wp2;go_round
    case rel=>exact⟨Q,R,rfl,rfl,J.out,by omega⟩
    case measure=>simp[intOf]; omega
  ·obtain⟨p,F⟩:∃ p,q * K=p:=⟨_,rfl⟩
   have p0:0<=p:=by rw[<- F]; exact Int.mul_nonneg q0 f
   have p1:p < 18446744073709551616:=by
    have:=Int.mul_le_mul (show q<=4294967295 by omega) (show K<=4294967295 by omega) f (by decide);omega
   by_cases X:4294967296 * r + v < p
   ·have b:=g.more x.out (by omega) (by omega) (by omega) (by rw[F]; exact X);obtain⟨Q,E⟩:∃ Q,q - 1=Q:=⟨_,rfl⟩
    obtain⟨R,H⟩:∃ R,r + n=R:=⟨_,rfl⟩
    rw[E,H] at b;have L:=b.q0
    have I:Q < q:=by omega
    have W:R < 8589934592:=by omega
    have T:=b.r0;by_cases c2:4294967296<=R
    ·have d:Hid (Dig Y U v Q):=b.kL x.out (by omega) u1 (by omega) M f m (by omega) c2;have N:=d.out.q1;obtain⟨V,v1,v2,v3,B⟩:=dr d.out D;obtain⟨d2,t,o⟩:=il Y n K V i x.out f m P O v2 v3 D S j;obtain⟨l,u⟩:∃ l,l=Q:=⟨_,rfl⟩
     have aa:0<=l:=by omega
     have QQ1:l < 4294967296:=by omega
     have B:Hid (V=U * 4294967296 + v - l * Y):=by rw[u]; exact B
     go_wp2_with fail;rw[<- u];clear v1 d2 u;go_loop [18,16] (fun tq tr=>∃ q r:Int,tq=.int .u64 q/\tr=.int .u64 r/\eL Y n V i q r/\r < 4294967296) (fun tq _=>(intOf tq).toNat)
     case atStart=>exact⟨_,_,rfl,rfl,t,o⟩
     case round =>
      clear t o d;obtain⟨q,r,rfl,rfl,g,hr⟩:=hrel;have q0:=g.q0;have qb:=g.qb;have r0:=g.r0;by_cases c1:4294967296<=q
      ·have b:=g.big j (by omega) v3 c1 (by omega);obtain⟨Q,E⟩:∃ Q,q - 1=Q:=⟨_,rfl⟩
       obtain⟨R,H⟩:∃ R,r + n=R:=⟨_,rfl⟩
       rw[E,H] at b;have L:=b.q0
       have I:Q < q:=by omega
       have W:R < 8589934592:=by omega
       have T:=b.r0;by_cases c2:4294967296<=R
       ·have d:Hid (Dig Y V i Q):=b.kL x.out (by omega) v3 (by omega) j f m (by omega) c2;have N:=d.out.q1;obtain⟨Z,z1,z2,z3,C⟩:=dr d.out D;go_wp2;go_ret2;have c:=fh hi lo y Y U v i l V Q s (by omega) z.out.1 z.out.2 B.out d.out;exact⟨nu c.1 (by rw[<- c.2,<- C.out]),rfl⟩
       ·have J:Hid (eL Y n V i Q R):=b;clear b g;go_wp2;go_round
        case rel=>exact⟨Q,R,rfl,rfl,J.out,by omega⟩
        case measure=>simp[intOf]; omega
      ·obtain⟨p,F⟩:∃ p,q * K=p:=⟨_,rfl⟩
       have p0:0<=p:=by rw[<- F]; exact Int.mul_nonneg q0 f
       have p1:p < 18446744073709551616:=by
        have:=Int.mul_le_mul (show q<=4294967295 by omega) (show K<=4294967295 by omega) f (by decide);omega
       by_cases X:4294967296 * r + i < p
       ·have b:=g.more x.out (by omega) (by omega) (by omega) (by rw[F]; exact X);obtain⟨Q,E⟩:∃ Q,q - 1=Q:=⟨_,rfl⟩
        obtain⟨R,H⟩:∃ R,r + n=R:=⟨_,rfl⟩
        rw[E,H] at b;have L:=b.q0
        have I:Q < q:=by omega
        have W:R < 8589934592:=by omega
        have T:=b.r0;by_cases c2:4294967296<=R
        ·have d:Hid (Dig Y V i Q):=b.kL x.out (by omega) v3 (by omega) j f m (by omega) c2;have N:=d.out.q1;obtain⟨Z,z1,z2,z3,C⟩:=dr d.out D;go_wp2;go_ret2;have c:=fh hi lo y Y U v i l V Q s (by omega) z.out.1 z.out.2 B.out d.out;exact⟨nu c.1 (by rw[<- c.2,<- C.out]),rfl⟩
        ·have J:Hid (eL Y n V i Q R):=b;clear b g;go_wp2;go_round
         case rel=>exact⟨Q,R,rfl,rfl,J.out,by omega⟩
         case measure=>simp[intOf]; omega
       ·have d:Hid (Dig Y V i q):=g.dig x.out (by omega) v3 j (by rw[F]; omega);have N:=d.out.q1;have L:=d.out.q0;clear g
        have G:∃ Q,Q=q:=⟨_,rfl⟩
        obtain⟨Q,rfl⟩:=G;obtain⟨Z,z1,z2,z3,C⟩:=dr d.out D;go_wp2;go_ret2;have c:=fh hi lo y Y U v i l V Q s (by omega) z.out.1 z.out.2 B.out d.out;exact⟨nu c.1 (by rw[<- c.2,<- C.out]),rfl⟩
    ·have J:Hid (eL Y n U v Q R):=b;clear b g;go_wp2;go_round
     case rel=>exact⟨Q,R,rfl,rfl,J.out,by omega⟩
     case measure=>simp[intOf]; omega
   ·have d:Hid (Dig Y U v q):=g.dig x.out (by omega) u1 M (by rw[F]; omega);have N:=d.out.q1;have L:=d.out.q0;clear g
    have G:∃ Q,Q=q:=⟨_,rfl⟩
    obtain⟨Q,rfl⟩:=G;obtain⟨V,v1,v2,v3,B⟩:=dr d.out D;obtain⟨d2,t,o⟩:=il Y n K V i x.out f m P O v2 v3 D S j;obtain⟨l,u⟩:∃ l,l=Q:=⟨_,rfl⟩
    have aa:0<=l:=by omega
    have QQ1:l < 4294967296:=by omega
    have B:Hid (V=U * 4294967296 + v - l * Y):=by rw[u]; exact B
    go_wp2_with fail;rw[<- u];clear v1 d2 u;go_loop [18,16] (fun tq tr=>∃ q r:Int,tq=.int .u64 q/\tr=.int .u64 r/\eL Y n V i q r/\r < 4294967296) (fun tq _=>(intOf tq).toNat)
    case atStart=>exact⟨_,_,rfl,rfl,t,o⟩
    case round =>
     clear t o d;obtain⟨q,r,rfl,rfl,g,hr⟩:=hrel;have q0:=g.q0;have qb:=g.qb;have r0:=g.r0;by_cases c1:4294967296<=q
     ·have b:=g.big j (by omega) v3 c1 (by omega);obtain⟨Q,E⟩:∃ Q,q - 1=Q:=⟨_,rfl⟩
      obtain⟨R,H⟩:∃ R,r + n=R:=⟨_,rfl⟩
      rw[E,H] at b;have L:=b.q0
      have I:Q < q:=by omega
      have W:R < 8589934592:=by omega
      have T:=b.r0;by_cases c2:4294967296<=R
      ·have d:Hid (Dig Y V i Q):=b.kL x.out (by omega) v3 (by omega) j f m (by omega) c2;have N:=d.out.q1;obtain⟨Z,z1,z2,z3,C⟩:=dr d.out D;go_wp2;go_ret2;have c:=fh hi lo y Y U v i l V Q s (by omega) z.out.1 z.out.2 B.out d.out;exact⟨nu c.1 (by rw[<- c.2,<- C.out]),rfl⟩
      ·have J:Hid (eL Y n V i Q R):=b;clear b g;go_wp2;go_round
       case rel=>exact⟨Q,R,rfl,rfl,J.out,by omega⟩
       case measure=>simp[intOf]; omega
     ·obtain⟨p,F⟩:∃ p,q * K=p:=⟨_,rfl⟩
      have p0:0<=p:=by rw[<- F]; exact Int.mul_nonneg q0 f
      have p1:p < 18446744073709551616:=by
       have:=Int.mul_le_mul (show q<=4294967295 by omega) (show K<=4294967295 by omega) f (by decide);omega
      by_cases X:4294967296 * r + i < p
      ·have b:=g.more x.out (by omega) (by omega) (by omega) (by rw[F]; exact X);obtain⟨Q,E⟩:∃ Q,q - 1=Q:=⟨_,rfl⟩
       obtain⟨R,H⟩:∃ R,r + n=R:=⟨_,rfl⟩
       rw[E,H] at b;have L:=b.q0
       have I:Q < q:=by omega
       have W:R < 8589934592:=by omega
       have T:=b.r0;by_cases c2:4294967296<=R
       ·have d:Hid (Dig Y V i Q):=b.kL x.out (by omega) v3 (by omega) j f m (by omega) c2;have N:=d.out.q1;obtain⟨Z,z1,z2,z3,C⟩:=dr d.out D;go_wp2;go_ret2;have c:=fh hi lo y Y U v i l V Q s (by omega) z.out.1 z.out.2 B.out d.out;exact⟨nu c.1 (by rw[<- c.2,<- C.out]),rfl⟩
       ·have J:Hid (eL Y n V i Q R):=b;clear b g;go_wp2;go_round
        case rel=>exact⟨Q,R,rfl,rfl,J.out,by omega⟩
        case measure=>simp[intOf]; omega
      ·have d:Hid (Dig Y V i q):=g.dig x.out (by omega) v3 j (by rw[F]; omega);have N:=d.out.q1;have L:=d.out.q0;clear g
       have G:∃ Q,Q=q:=⟨_,rfl⟩
       obtain⟨Q,rfl⟩:=G;obtain⟨Z,z1,z2,z3,C⟩:=dr d.out D;go_wp2;go_ret2;have c:=fh hi lo y Y U v i l V Q s (by omega) z.out.1 z.out.2 B.out d.out;exact⟨nu c.1 (by rw[<- c.2,<- C.out]),rfl⟩
theorem mj(lo y:Int)(w:World)(hy:0 < y)(c:0<=lo)(l1:lo < 18446744073709551616)(y1:y < 18446744073709551616) :
  Calls Tryz.prog 166 #[.int .u64 0,.int .u64 lo,.int .u64 y] w fun e w'=>e=.returned (.tuple #[.int .u64 (lo / y),.int .u64 (lo % y)])/\∃ n,w'=w.drewN n:=by
 have b:(y == 0)=false:=beq_eq_false_iff_ne.2 (by omega);go_enter Tryz.func166,Tryz.ntmps166;go_wp2_with fail;go_quiet (fail);go_wp2;go_ret2;exact⟨rfl,_,rfl⟩
theorem div64(hi lo y:Int)(w:World)(f:0<=hi)(d:hi < y)(a:0<=lo)(l1:lo < 18446744073709551616)(y1:y < 18446744073709551616) :
  Calls Tryz.prog 166 #[.int .u64 hi,.int .u64 lo,.int .u64 y] w fun e w'=>∃ q r:Int,e=.returned (.tuple #[.int .u64 q,.int .u64 r])/\0<=q/\q < 18446744073709551616/\0<=r/\r < y/\Hid (q * y + r=hi * 18446744073709551616 + lo)/\∃ n,w'=w.drewN n:=by
 have fin:∀ N:Int,0<=N->N < y * 18446744073709551616->0<=N / y/\N / y < 18446744073709551616/\0<=N % y/\N % y < y/\Hid (N / y * y + N % y=N):=by
  intro N n0 b;refine⟨Int.ediv_nonneg n0 (by omega),(Int.ediv_lt_iff_lt_mul (by omega)).2 (by rw[Int.mul_comm]; exact b),Int.emod_nonneg _ (by omega),Int.emod_lt_of_pos _ (by omega),?_⟩
  show _=_
  rw[Int.mul_comm]; exact Int.mul_ediv_add_emod N y
 by_cases c:hi=0
 ·subst c;refine(mj lo y w (by omega) a l1 y1).mono ?_
  rintro e w' ⟨rfl,hw⟩;obtain⟨f1,f2,f3,f4,f5⟩:=fin lo a (by omega);exact⟨_,_,rfl,f1,f2,f3,f4,by simpa using f5,hw⟩
 ·refine(oq hi lo y w (by omega) d a l1 y1).mono ?_
  rintro e w' ⟨rfl,rfl⟩;obtain⟨f1,f2,f3,f4,f5⟩:=fin (hi * 18446744073709551616 + lo) (by omega) (by omega);exact⟨_,_,rfl,f1,f2,f3,f4,f5,0,rfl⟩
end
end
section
open Go.RowKit Lim
section
variable {l:List Int}{h:Nat}
theorem dW(hl:h < l.length):val (l.drop h)=nth l h + 18446744073709551616 * val (l.drop (h + 1)):=by
 rw[List.drop_eq_getElem_cons hl,val,bT hl]
structure jA(lz:List Int)(d:Int)(h:Nat)(lz1:List Int)(left:Int):Prop where
 len:lz1.length=lz.length
 words:Words lz1
 low:∀ i,i < h->nth lz1 i=nth lz i
 val:Lim.val (lz1.drop h) * d + left=Lim.val (lz.drop h)
theorem jA.step{lz lz1:List Int}{d left q r:Int}(hv:jA lz d (h + 1) lz1 left)(b:h < lz.length)(q0:0<=q)(q1:q < 18446744073709551616)(e:q * d + r=left * 18446744073709551616 + nth lz h):jA lz d h (lz1.set h q) r:=by
 have a:=hv.len;refine⟨by simp[a],hv.words.set h q0 q1,fun i hi=>by rw[dA (by omega),if_neg (by omega)]; exact hv.low i (by omega),?_⟩;rw[dW (by simp; omega),dA (by omega),if_pos rfl,List.drop_set,if_pos (by omega),dW b,<- hv.val];grind
theorem gF(s:Option Addr)(j l b H:Nat)(d:Int)(lz:List Int)(w:World)(p:lz.length=b)(F:b<=2199023255552)(m:b<=H)(d0:0 < d)(d1:d < 18446744073709551616)(t:Words lz)(B:At w s j l lz)(v:dD w j l b) :
  Calls Tryz.prog 113 #[.slice s b H,.int .u64 d] w fun e w'=>∃ (left:Int) (lz':List Int),e=.returned (.int .u64 left)/\0<=left/\left < d/\lz'.length=b/\Words lz'/\At w' s j l lz'/\Wr j l b w w'/\val lz' * d + left=val lz:=by
 go_enter Tryz.func113,Tryz.ntmps113;go_wp2;go_loopw [5,10] (fun tc z wr=>∃ (k:Nat) (c:Int) (f:List Int),k<=b/\z=.int .i64 k/\tc=.int .u64 c/\0<=c/\c < d/\jA lz d (b - k) f c/\At wr s j l f/\Wr j l b w wr) (fun _ z _=>b - (intOf z).toNat)
 case atStart=>exact⟨0,0,lz,Nat.zero_le _,rfl,rfl,by decide,d0,⟨rfl,t,fun _ _=>rfl,by simp[<- p,val]⟩,B,Wr.refl _ _ _ _⟩
 case round =>
  obtain⟨k,c,f,O,rfl,rfl,o,n,hinv,i,g⟩:=hrel;have u:=hinv.len;by_cases M:k < b
  ·rcases B.loc with e | rfl
   ·subst e; simp at p; omega
   obtain⟨h,G⟩:∃ h:Nat,b=h + 1 + k:=⟨b - 1 - k,by omega⟩
   have m:=i.cell h (by omega);have L:=g.free v h (by omega);have D:=t.nth h;rw[hinv.low h (by omega)] at m
   have E:(b:Int) - 1 - k=h:=by omega
   have J:(h:Int) < b:=by omega
   obtain⟨x,A⟩:=D
   have N:Hid (jA lz d (h + 1) f c):=by rw[show h + 1=b - k from by omega]; exact hinv
   have K:Hid (b=h + 1 + k):=G;clear G hinv B t;go_wp2_with (go_at_call 166; refine(div64 _ _ _ _ o n x A d1).mono ?_; rintro e w' ⟨q,r,rfl,q0,q1,r0,r1,y,I,rfl⟩);have hn:=K.out;refine⟨⟨k + 1,r,f.set h q,by omega,by go_num,rfl,r0,r1,by rw[show b - (k + 1)=h from by omega]; exact N.out.step (by omega) q0 q1 y.out,?_,?_⟩,by simp[intOf]; omega⟩
   ·exact(i.setCell (by omega) q).drewN I
   ·exact(g.setCell (by omega) (by omega) _).drewN I
  ·have C:k=b:=by omega
   subst C;go_wp2;go_ret;refine⟨c,f,rfl,o,n,by omega,hinv.words,i,g,?_⟩;have:=hinv.val;rwa [Nat.sub_self,List.drop_zero,List.drop_zero] at this
end
end
section
open Go.RowKit Lim
theorem dF.of {w w':World} {l:List Int} {ao:Option Addr} {n c b o:Nat} (hn:n=l.length) (e:n<=c) (a:w.heap.size<=b) (f:At w' ao b o l) (d:dD w' b o n):dF w w' (.slice ao n c) l:=by
 subst hn; exact⟨ao,b,o,c,rfl,e,a,f,d⟩
theorem jK (ao:Option Addr) (n c b o:Nat) (l:List Int) (w:World) (r:l.length=n) (hc:n<=c) (p:n<=1099511627776) (q:At w ao b o l) :
  Calls Tryz.prog 112 #[.slice ao n c] w fun e w'=>e=.returned (.slice (some ⟨w.heap.size,0,none⟩) (aI l) (aI l))/\Row w' w.heap.size (norm l)/\Below w.heap.size w w':=by
 have hn:=bB l;have t1:=bj ao n c l w r hc (by omega) q.cells;have hs:=q.sub (aI l);have i:=aK l;rw[show l.take (aI l)=norm l from rfl] at hs;generalize aI l=N at *;generalize norm l=L at *;go_enter Tryz.func112,Tryz.ntmps112;go_wp2_with fail;refine t1.mono ?_
 rintro e t ⟨rfl,rfl⟩;clear t1
 go_wp2_with (first
  | (at_make; refine cY rfl _ _ rfl N _ _ rfl rfl rfl rfl (by omega) ?_; intro u g d s; have j:=hs.keep d)
  | (refine gz rfl (.tmp 10) (.tmp 11) rfl _ _ _ _ _ _ rfl rfl _ _ g (by simp) _ _ i (Nat.le_refl _) j ?_; intro v f m))
 go_ret;refine⟨rfl,?_,?_⟩
 ·simpa using f
 ·exact d.trans (m.below (Nat.le_refl _))
end
section
open Go.RowKit Lim
section
variable {lz lb lz1:List Int}{m c:Int}{k:Nat}
theorem yX(z x m c hi lo:Int)(b:0<=z/\z < 18446744073709551616)(hc:0<=c/\c < 18446744073709551616)(f:0<=hi)(a:hi<=18446744073709551614)(g:0<=lo)(e:lo < 18446744073709551616)(d:hi * 18446744073709551616 + lo=x * m)(hb:x * m<=340282366920938463426481119284349108225) :
  0<=hi + (lo + c) / 18446744073709551616/\hi + (lo + c) / 18446744073709551616<=18446744073709551615 /\
  0<=hi + (lo + c) / 18446744073709551616 + (z + (lo + c) % 18446744073709551616) / 18446744073709551616 /\
  hi + (lo + c) / 18446744073709551616 + (z + (lo + c) % 18446744073709551616) / 18446744073709551616<=18446744073709551615 /\
  (z + (lo + c) % 18446744073709551616) % 18446744073709551616 + 18446744073709551616 * (hi + (lo + c) / 18446744073709551616 + (z + (lo + c) % 18446744073709551616) / 18446744073709551616)=z + x * m + c:=by
 omega
def dh(lz lb:List Int)(m:Int)(k:Nat)(lz1:List Int)(c:Int):Prop :=
 lz1.length=lz.length/\Words lz1/\(∀ i,k<=i->nth lz1 i=nth lz i)/\val (lz1.take k) + 18446744073709551616 ^ k * c=val (lz.take k) + val (lb.take k) * m
theorem dh.step{a c':Int}(h:dh lz lb m k lz1 c)(l:k < lz.length)(b:0<=a)(d:a < 18446744073709551616)(e:a + 18446744073709551616 * c'=nth lz k + nth lb k * m + c):dh lz lb m (k + 1) (lz1.set k a) c':=by
 obtain⟨f,j,n,o⟩:=h;refine⟨by simp[f],j.set k b d,fun i hi => ?_,?_⟩
 ·rw[dA (by omega),if_neg (by omega)]; exact n i (by omega)
 ·have hb:val (lb.take (k + 1))=val (lb.take k) + 18446744073709551616 ^ k * nth lb k:=by
   by_cases g:k < lb.length
   ·exact dw g
   ·rw[List.take_of_length_le (by omega),List.take_of_length_le (by omega),fR (by omega)]; simp
  rw[dw (by simp[f]; omega),dw l,hb,List.take_set_of_le (Nat.le_refl _),dA (by omega),if_pos rfl,Int.pow_succ];have:18446744073709551616 ^ k * (a + 18446744073709551616 * c')=18446744073709551616 ^ k * (nth lz k + nth lb k * m + c):=by rw[e]
  grind
theorem dh.done{n:Nat}(hn:lz.length=n)(h:dh lz lb m k lz1 c)(hc:c=0\/lz.length=k)(r:lb.length<=k)(o:k<=n) :
  val lz1=(val lz + val lb * m) % 18446744073709551616 ^ n:=by
 obtain⟨f,d,q,b⟩:=h;rw[List.take_of_length_le (l:=lb) (by omega)] at b;have a:=dz d;have g:=aM d;rw[f,hn] at a;rcases hc with e | e
 ·subst e
  have p:lz1.drop k=lz.drop k:=lE (by simp[f]) fun i hi=>by rw[dH,dH]; exact q _ (by omega)
  have e1:=bF lz1 k (by omega);have e2:=bF lz k (by omega);rw[p] at e1;have:val lz + val lb * m=val lz1:=by rw[e1,e2]; simp only[Int.mul_zero,Int.add_zero] at b; omega
  rw[this];exact(Int.emod_eq_of_lt g a).symm
 ·have j:k=n:=by omega
  subst j;rw[List.take_of_length_le (l:=lz1) (by omega),List.take_of_length_le (l:=lz) (by omega)] at b;rw[<- b,Int.add_mul_emod_self_left];exact(Int.emod_eq_of_lt g a).symm
theorem eh(H : Option Addr)(n o i Z : Nat)(ab : Option Addr)(bb ob u Y : Nat)(m : Int)(lz lb : List Int)(w : World)(B : lz.length = i)(Q : lb.length = u)(hle : u ≤ i)(hbig : i ≤ 2199023255552)(p : i ≤ Z)(N : u ≤ Y)(I : 0 ≤ m)(S : m < 18446744073709551616)(D : Words lz)(K : Words lb)(G : At w H n o lz)(q : dD w n o i)(hb : At w ab bb ob lb)(z : lb = [] ∨ bb ≠ n) :
    Calls Tryz.prog 59 #[.slice H i Z, .slice ab u Y, .int .u64 m] w fun e w' => e = .returned (.tuple #[]) ∧
      ∃ lz', lz'.length = i ∧ Words lz' ∧ At w' H n o lz' ∧ Wr n o i w w' ∧ val lz' = (val lz + val lb * m) % 18446744073709551616 ^ i := by
  go_enter Tryz.func59, Tryz.ntmps59;go_wp2;go_loopw [6, 14] (fun tc A wr => ∃ (k : Nat) (c : Int) (g : List Int), k ≤ u ∧ A = .int .i64 k ∧ tc = .int .u64 c ∧ 0 ≤ c ∧ c < 18446744073709551616 ∧ dh lz lb m k g c ∧ At wr H n o g ∧ Wr n o i w wr) (fun _ A _ => u - (intOf A).toNat)
  case atStart => exact⟨0, 0, lz, Nat.zero_le _, rfl, rfl, by decide, by decide, ⟨rfl, D, fun _ _ => rfl, by simp[val]⟩, G, Wr.refl _ _ _ _⟩
  case round =>
    obtain⟨k, c, g, hk, rfl, rfl, r, y, hinv, f, b⟩:= hrel;have v := hinv.1;by_cases hlt : k < u
    · rcases hb.loc with e | rfl
      · subst e; simp at Q; omega
      rcases G.loc with e | rfl
      · subst e; simp at B; omega
      have E := hb.wr b z;have N := E.cell k (by omega);have p := f.cell k (by omega);have M := b.free q k (by omega);have hx := K.nth k;have x := D.nth k;rw[hinv.2.2.1 k (Nat.le_refl _)] at p;obtain⟨U, W⟩:= hx;obtain⟨s, F⟩:= x
      have C : Hid (dh lz lb m k g c) := hinv
      have P : Hid (At wr (some ⟨n, o, none⟩) n o g) := f
      have R : Hid (Wr n o i w wr) := b;clear hinv f b E G hb q D K z
      go_wp2_with (first
        | (go_at_call 89; refine(lG _ _ U W I S _).mono ?_; rintro e w' ⟨hi, lo, rfl, h1, h2, h3, h4, h5, rfl⟩)
        | simp only[rW _ _ h3 r]
        | simp only[BH _ _ s])
      have T : nth lb k * m ≤ 340282366920938463426481119284349108225 := by
        have := Int.mul_le_mul (show nth lb k ≤ 18446744073709551615 by omega) (show m ≤ 18446744073709551615 by omega) I (by decide);simpa using this
      obtain⟨s1, s2, s3, s4, J⟩:= yX (nth lz k) (nth lb k) m c hi lo ⟨s, F⟩ ⟨r, y⟩ h1 h2 h3 h4 h5 T;rw[Int.add_emod_emod] at J;rw[IntWalk.u64_in _ ⟨s3, s4⟩];refine⟨⟨k + 1, _, _, by omega, by go_num, rfl, s3, by omega, C.out.step (by omega) (Int.emod_nonneg _ (by decide)) (Int.emod_lt_of_pos _ (by decide)) J, P.out.setCell (by omega) _, R.out.setCell (by omega) (by omega) _⟩, by simp[intOf]; omega⟩
    · have O : k = u := by omega
      subst O
      have C : Hid (dh lz lb m k g c) := hinv;clear hinv;go_wp2;go_loopw [6, 11] (fun tc A wr => ∃ (j : Nat) (c : Int) (g : List Int), k ≤ j ∧ j ≤ i ∧ A = .int .i64 j ∧ tc = .int .u64 c ∧ 0 ≤ c ∧ c < 18446744073709551616 ∧ dh lz lb m j g c ∧ At wr H n o g ∧ Wr n o i w wr) (fun _ A _ => i - (intOf A).toNat)
      case atStart => exact⟨k, c, g, Nat.le_refl _, by omega, rfl, rfl, r, y, C.out, f, b⟩
      case round =>
        clear f b C v r y;obtain⟨j, d, t, hkj, hj, rfl, rfl, X, hd1, hinv, f, b⟩:= hrel;have L := hinv.1;by_cases hlt2 : j < i
        · by_cases hd : d = 0
          · subst hd
            go_wp2;go_end0;refine⟨rfl, t, by omega, hinv.2.1, f, b, ?_⟩;exact dh.done (by omega) hinv (.inl rfl) (by omega) (by omega)
          · rcases G.loc with e | rfl
            · subst e; simp at B; omega
            have p := f.cell j (by omega);have M := b.free q j (by omega);have x := D.nth j;rw[hinv.2.2.1 j (Nat.le_refl _)] at p;obtain⟨s, F⟩:= x
            have hdb : (d != 0) = true := by rw[bne_iff_ne]; exact hd
            have C : Hid (dh lz lb m j t d) := hinv
            have P : Hid (At wr (some ⟨n, o, none⟩) n o t) := f
            have R : Hid (Wr n o i w wr) := b;clear hinv f b G hb q D K z;go_wp2_with (simp only[rW _ _ s X])
            have J : (nth lz j + d) % 18446744073709551616 + 18446744073709551616 * ((nth lz j + d) / 18446744073709551616) = nth lz j + nth lb j * m + d := by
              rw[fR (l := lb) (by omega)]; omega
            refine⟨⟨j + 1, _, _, by omega, by omega, by go_num, rfl, by omega, by omega, C.out.step (by omega) (Int.emod_nonneg _ (by decide)) (Int.emod_lt_of_pos _ (by decide)) J, P.out.setCell (by omega) _, R.out.setCell (by omega) (by omega) _⟩, by simp[intOf]; omega⟩
        · have V : j = i := by omega
          subst V;go_wp2;go_end0;refine⟨rfl, t, by omega, hinv.2.1, f, b, ?_⟩;exact dh.done (by omega) hinv (.inr B) (by omega) (by omega)
end
end
section
open Go.RowKit Lim
section
variable {l:List Int}
theorem qn{n:Int}(h:IsN l n):0<=n/\n < 18446744073709551616 ^ l.length:=by
 rw[<- h.2.2]; exact⟨aM h.1,dz h.1⟩
theorem pow_pos(k:Nat):(0:Int) < 18446744073709551616 ^ k:=Int.pow_pos (by decide)
theorem uV{L L' lz:List Int}{x y:Int}(hL:IsN L x)(a:IsN L' y)(hle:L'.length<=L.length)(hw:Words lz)(hv:val lz=(val (L ++ [0]) + val L' * 1) % 18446744073709551616 ^ (L.length + 1)):IsN (norm lz) (x + y):=by
 have c:=qn hL;have b:=qn a;have f:=gK hle;have d:=pow_pos L.length
 have e:val (L ++ [0]) + val L' * 1=x + y:=by rw[ea,hL.2.2,a.2.2]; simp[val]
 rw[e,Int.emod_eq_of_lt (by omega) (by rw[Int.pow_succ]; omega)] at hv;rw[<- hv];exact cj hw
theorem eC(n:Nat):Words (List.replicate n 0):=fun x hx=>by rw[List.eq_of_mem_replicate hx]; decide
theorem CY(ao:Option Addr)(n c b o:Nat)(ao':Option Addr)(n' c' b' o':Nat)(l u:List Int)(w:World)(hl:l.length=n)(W:u.length=n')(hc:n<=c)(U:n'<=c')(hbig:n<=1099511627776)(hbig':n'<=1099511627776)(wl:Words l)(V:Words u)(ha:At w ao b o l)(M:At w ao' b' o' u) :
  Calls Tryz.prog 23 #[.slice ao n c,.slice ao' n' c'] w fun e w'=>∃ v r,e=.returned v/\dF w w' v r/\IsN r (val l + val u)/\r.length<=n + n' + 1/\Below w.heap.size w w':=by
 have hn:=bB l
 have hn':=bB u;have t1:=bj ao n c l w hl hc (by omega) ha.cells;have t2:=bj ao' n' c' u w W U (by omega) M.cells;have hs:=ha.sub (aI l)
 have F:=M.sub (aI u);have D:=aK l
 have t:=aK u;have T:=cj wl
 have E:=cj V;rw[show l.take (aI l)=norm l from rfl] at hs;rw[show u.take (aI u)=norm u from rfl] at F;generalize aI l=N at *;generalize aI u=O at *;generalize norm l=L at *;generalize norm u=S at *;clear ha M;go_enter Tryz.func23,Tryz.ntmps23;go_wp2_with fail;refine t1.mono ?_
 rintro e w1 ⟨rfl,rfl⟩;go_wp2_with fail;refine t2.mono ?_
 rintro e G ⟨rfl,rfl⟩;clear t1 t2;by_cases hlt:N < O
 ·have x:L=[]\/b≠G.heap.size:=by
   rcases hs.lt with e | e
   ·exact .inl e
   ·exact .inr (by omega)
  go_wp2_with (first
   | (at_make; refine cY rfl _ _ rfl (O + 1) _ _ rfl rfl (by omega) (by omega) (by omega) ?_; intro w3 s d hsz; have B:=F.keep d; have C:=hs.keep d)
   | (refine gz rfl (.tmp 23) (.tmp 24) rfl _ _ _ _ _ _ rfl rfl _ _ s (by simp) _ _ t (by omega) B ?_; intro Q j f))
  have q:Row Q G.heap.size (S ++ [0]):=by
   have:=j; rw[List.drop_replicate,show O + 1 - O=1 from by omega] at this; simpa using this
  have A:=C.wr f x;refine(eh _ G.heap.size 0 _ _ _ b o _ _ 1 (S ++ [0]) L Q (by simp[t]) D (by omega) (by omega) (Nat.le_refl _) (Nat.le_refl _) (by decide) (by decide) (E.1.append (eC 1)) T.1 q.at (q.free _ _) A x).mono ?_
  rintro e Y ⟨rfl,p,P,J,m,g,z⟩
  have Z:IsN (norm p) (_ + _):=uV E T (by omega) J (by rw[z,t]);have I:=g.free (q.free 0 (O + 1));have X:=bB p;have H:=aK p;have y:=m.sub (aI p);have HB:=(d.trans (f.below (Nat.le_refl _))).trans (g.below (Nat.le_refl _));rw[show p.take (aI p)=norm p from rfl] at y;have t3:=bj (some ⟨G.heap.size,0,none⟩) (O + 1) (O + 1) p Y P (Nat.le_refl _) (by omega) m.cells;clear q A C B s j f g d m z;generalize aI p=K at *;generalize norm p=R at *;go_wp2_with fail;refine t3.mono ?_
  rintro e w6 ⟨rfl,rfl⟩;go_wp2;go_ret;exact⟨_,R,rfl,dF.of H.symm (Nat.le_refl _) (Nat.le_refl _) y (fun i hi=>I i (by omega)),by rw[Int.add_comm]; exact Z,by omega,HB⟩
 ·have x:S=[]\/b'≠G.heap.size:=by
   rcases F.lt with e | e
   ·exact .inl e
   ·exact .inr (by omega)
  go_wp2_with (first
   | (at_make; refine cY rfl _ _ rfl (N + 1) _ _ rfl rfl (by omega) (by omega) (by omega) ?_; intro w3 s d hsz; have B:=hs.keep d; have C:=F.keep d)
   | (refine gz rfl (.tmp 23) (.tmp 24) rfl _ _ _ _ _ _ rfl rfl _ _ s (by simp) _ _ D (by omega) B ?_; intro Q j f))
  have q:Row Q G.heap.size (L ++ [0]):=by
   have:=j; rw[List.drop_replicate,show N + 1 - N=1 from by omega] at this; simpa using this
  have A:=C.wr f x;refine(eh _ G.heap.size 0 _ _ _ b' o' _ _ 1 (L ++ [0]) S Q (by simp[D]) t (by omega) (by omega) (Nat.le_refl _) (Nat.le_refl _) (by decide) (by decide) (T.1.append (eC 1)) E.1 q.at (q.free _ _) A x).mono ?_
  rintro e Y ⟨rfl,p,P,J,m,g,z⟩
  have Z:IsN (norm p) (_ + _):=uV T E (by omega) J (by rw[z,D]);have I:=g.free (q.free 0 (N + 1));have X:=bB p;have H:=aK p;have y:=m.sub (aI p);have HB:=(d.trans (f.below (Nat.le_refl _))).trans (g.below (Nat.le_refl _));rw[show p.take (aI p)=norm p from rfl] at y;have t3:=bj (some ⟨G.heap.size,0,none⟩) (N + 1) (N + 1) p Y P (Nat.le_refl _) (by omega) m.cells;clear q A C B s j f g d m z;generalize aI p=K at *;generalize norm p=R at *;go_wp2_with fail;refine t3.mono ?_
  rintro e w6 ⟨rfl,rfl⟩;go_wp2;go_ret;exact⟨_,R,rfl,dF.of H.symm (Nat.le_refl _) (Nat.le_refl _) y (fun i hi=>I i (by omega)),Z,by omega,HB⟩
end
end
section
open Go.RowKit Lim
theorem AQ (x y:Int):0<=bor x y/\bor x y<=1:=by unfold bor; split<;>decide
theorem uz (x y:Int) (hx:0<=x/\x < 18446744073709551616) (hy:0<=y/\y < 18446744073709551616):(x - y) % 18446744073709551616=x - y + 18446744073709551616 * bor x y:=by
 unfold bor; split<;>omega
theorem Ci (x y:Int) (hx:0<=x) (a:x < 18446744073709551616) (w:World):(callFunc 168 #[.int .u64 x,.int .u64 (y % 18446744073709551616),.int .u64 0]).run Tryz.prog w =
  .ok (.value (.tuple #[.int .u64 ((x - y % 18446744073709551616) % 18446744073709551616),.int .u64 (bor x (y % 18446744073709551616))])) w :=
 DM x _ hx a (Int.emod_nonneg _ (by decide)) (Int.emod_lt_of_pos _ (by decide)) w
theorem wE (z x m c hi lo:Int) (a:0<=z/\z < 18446744073709551616) (hc:0<=c/\c < 18446744073709551616) (f:0<=hi) (b:hi<=18446744073709551614) (g:0<=lo) (e:lo < 18446744073709551616) (d:hi * 18446744073709551616 + lo=x * m)
  (hb:x * m<=340282366920938463426481119284349108225) :
  0<=hi + (lo + c) / 18446744073709551616/\hi + (lo + c) / 18446744073709551616<=18446744073709551615 /\
  0<=hi + (lo + c) / 18446744073709551616 + bor z ((lo + c) % 18446744073709551616) /\
  hi + (lo + c) / 18446744073709551616 + bor z ((lo + c) % 18446744073709551616)<=18446744073709551615 /\
  (z - (lo + c) % 18446744073709551616) % 18446744073709551616 + 18446744073709551616 * (-(hi + (lo + c) / 18446744073709551616 + bor z ((lo + c) % 18446744073709551616)))=z + x * -m + -c:=by
 rw[uz z _ a ⟨by omega,by omega⟩,show x * -m = -(x * m) from Int.mul_neg x m];have:=AQ z ((lo + c) % 18446744073709551616);unfold bor at *;split<;>omega
theorem dh.fP {lz lb lz1:List Int} {m c:Int} {k n:Nat} (hn:lz.length=n) (h:dh lz lb m k lz1 c) (hc:c=0\/lz.length=k) (p:lb.length<=k) (f:k<=n) :
  val lz1 + 18446744073709551616 ^ n * c=val lz + val lb * m:=by
 obtain⟨b,o,j,a⟩:=h;rw[List.take_of_length_le (l:=lb) (by omega)] at a;rcases hc with e | e
 ·subst e
  have g:lz1.drop k=lz.drop k:=lE (by simp[b]) fun i hi=>by rw[dH,dH]; exact j _ (by omega)
  have e1:=bF lz1 k (by omega);have e2:=bF lz k (by omega);rw[g] at e1;simp only[Int.mul_zero,Int.add_zero] at a ⊢;rw[e1,e2]; omega
 ·have d:k=n:=by omega
  subst d;rw[List.take_of_length_le (l:=lz1) (by omega),List.take_of_length_le (l:=lz) (by omega)] at a;exact a
theorem iK (C : Option Addr) (n p g cz : Nat) (ab : Option Addr) (bb ob y cb : Nat) (m : Int) (lz lb : List Int) (w : World)
    (x : lz.length = g) (X : lb.length = y) (hle : y ≤ g) (hbig : g ≤ 2199023255552) (s : g ≤ cz) (U : y ≤ cb) (M : 0 ≤ m) (Z : m < 18446744073709551616)
    (H : Words lz) (Q : Words lb) (L : At w C n p lz) (t : dD w n p g) (hb : At w ab bb ob lb) (E : lb = [] ∨ bb ≠ n) :
    Calls Tryz.prog 117 #[.slice C g cz, .slice ab y cb, .int .u64 m] w fun e w' => ∃ fP : Int, e = .returned (.int .u64 fP) ∧ 0 ≤ fP ∧ fP < 18446744073709551616 ∧
      ∃ lz', lz'.length = g ∧ Words lz' ∧ At w' C n p lz' ∧ Wr n p g w w' ∧ val lz' = val lz - val lb * m + 18446744073709551616 ^ g * fP := by
  have fin : ∀ (j : Nat) (d : Int) (o : List Int) (wr : World), y ≤ j → j ≤ g → 0 ≤ d → d < 18446744073709551616 → dh lz lb (-m) j o (-d) → At wr C n p o → Wr n p g w wr → (d = 0 ∨ g = j) →
      ∃ fP : Int, Ending.returned (.int .u64 d) = .returned (.int .u64 fP) ∧ 0 ≤ fP ∧ fP < 18446744073709551616 ∧
      ∃ lz', lz'.length = g ∧ Words lz' ∧ At wr C n p lz' ∧ Wr n p g w wr ∧ val lz' = val lz - val lb * m + 18446744073709551616 ^ g * fP := by
    intro j d o wr h1 T O h4 J h6 h7 h8;refine⟨d, rfl, O, h4, o, by rw[J.1, x], J.2.1, h6, h7, ?_⟩
    have := J.fP x (by rcases h8 with e | e
                       · left; omega
                       · right; omega) (by omega) T
    rw[Int.mul_neg, Int.mul_neg] at this;omega
  have K := (show Hid _ from fin);clear fin;go_enter Tryz.func117, Tryz.ntmps117;go_wp2;go_loopw [7, 15] (fun tc F wr => ∃ (k : Nat) (c : Int) (i : List Int), k ≤ y ∧ F = .int .i64 k ∧ tc = .int .u64 c ∧ 0 ≤ c ∧ c < 18446744073709551616 ∧ dh lz lb (-m) k i (-c) ∧ At wr C n p i ∧ Wr n p g w wr) (fun _ F _ => y - (intOf F).toNat)
  case atStart => exact⟨0, 0, lz, Nat.zero_le _, rfl, rfl, by decide, by decide, ⟨rfl, H, fun _ _ => rfl, by simp[val]⟩, L, Wr.refl _ _ _ _⟩
  case round =>
    obtain⟨k, c, i, hk, rfl, rfl, u, D, hinv, f, b⟩:= hrel;have A := hinv.1;by_cases hlt : k < y
    · rcases hb.loc with e | rfl
      · subst e; simp at X; omega
      rcases L.loc with e | rfl
      · subst e; simp at x; omega
      have I := hb.wr b E;have U := I.cell k (by omega);have s := f.cell k (by omega);have S := b.free t k (by omega);have hx := Q.nth k;have B := H.nth k;rw[hinv.2.2.1 k (Nat.le_refl _)] at s;obtain⟨ac, hx1⟩:= hx;obtain⟨r, q⟩:= B
      have G : Hid (dh lz lb (-m) k i (-c)) := hinv
      have W : Hid (At wr (some ⟨n, p, none⟩) n p i) := f
      have Y : Hid (Wr n p g w wr) := b;clear hinv f b I L hb t H Q E
      go_wp2_with (first
        | (go_at_call 89; refine(lG _ _ ac hx1 M Z _).mono ?_; rintro e w' ⟨hi, lo, rfl, h1, T, O, h4, J, rfl⟩)
        | simp only[rW _ _ O u]
        | simp only[Ci _ _ r q])
      have aa : nth lb k * m ≤ 340282366920938463426481119284349108225 := by
        have := Int.mul_le_mul (show nth lb k ≤ 18446744073709551615 by omega) (show m ≤ 18446744073709551615 by omega) M (by decide);simpa using this
      obtain⟨s1, s2, s3, s4, P⟩:= wE (nth lz k) (nth lb k) m c hi lo ⟨r, q⟩ ⟨u, D⟩ h1 T O h4 J aa;rw[Int.sub_emod_emod] at P;rw[IntWalk.u64_in _ ⟨s3, s4⟩];refine⟨⟨k + 1, _, _, by omega, by go_num, rfl, s3, by omega, G.out.step (by omega) (Int.emod_nonneg _ (by decide)) (Int.emod_lt_of_pos _ (by decide)) P, W.out.setCell (by omega) _, Y.out.setCell (by omega) (by omega) _⟩, by simp[intOf]; omega⟩
    · have V : k = y := by omega
      subst V
      have G : Hid (dh lz lb (-m) k i (-c)) := hinv;clear hinv;go_wp2;go_loopw [7, 12] (fun tc F wr => ∃ (j : Nat) (c : Int) (i : List Int), k ≤ j ∧ j ≤ g ∧ F = .int .i64 j ∧ tc = .int .u64 c ∧ 0 ≤ c ∧ c < 18446744073709551616 ∧ dh lz lb (-m) j i (-c) ∧ At wr C n p i ∧ Wr n p g w wr) (fun _ F _ => g - (intOf F).toNat)
      case atStart => exact⟨k, c, i, Nat.le_refl _, by omega, rfl, rfl, u, D, G.out, f, b⟩
      case round =>
        clear f b G A u D;obtain⟨j, d, o, N, hj, rfl, rfl, z, v, hinv, f, b⟩:= hrel;have R := hinv.1;by_cases hlt2 : j < g
        · by_cases hd : d = 0
          · subst hd
            go_wp2;go_ret;exact K.out j 0 o _ N hj z v hinv f b (.inl rfl)
          · rcases L.loc with e | rfl
            · subst e; simp at x; omega
            have s := f.cell j (by omega);have S := b.free t j (by omega);have B := H.nth j;rw[hinv.2.2.1 j (Nat.le_refl _)] at s;obtain⟨r, q⟩:= B
            have hdb : (d != 0) = true := by rw[bne_iff_ne]; exact hd
            have G : Hid (dh lz lb (-m) j o (-d)) := hinv
            have W : Hid (At wr (some ⟨n, p, none⟩) n p o) := f
            have Y : Hid (Wr n p g w wr) := b;clear hinv f b L hb t H Q E;go_wp2_with (simp only[DM _ _ r q z v]);have hbb := AQ (nth lz j) d
            have P : (nth lz j - d) % 18446744073709551616 + 18446744073709551616 * -bor (nth lz j) d = nth lz j + nth lb j * -m + -d := by
              rw[fR (l := lb) (by omega), uz _ _ ⟨r, q⟩ ⟨z, v⟩]; omega
            refine⟨⟨j + 1, _, _, by omega, by omega, by go_num, rfl, by omega, by omega, G.out.step (by omega) (Int.emod_nonneg _ (by decide)) (Int.emod_lt_of_pos _ (by decide)) P, W.out.setCell (by omega) _, Y.out.setCell (by omega) (by omega) _⟩, by simp[intOf]; omega⟩
        · have ad : j = g := by omega
          subst ad;go_wp2;go_ret;exact K.out j d o _ N hj z v hinv f b (.inr rfl)
end
section
open Go.RowKit Lim
theorem BP {L L' lz:List Int} {x y fP:Int} (hL:IsN L x) (a:IsN L' y) (hle:y<=x) (hw:Words lz) (b:lz.length=L.length) (i:0<=fP)
  (hv:val lz=val L - val L' * 1 + 18446744073709551616 ^ L.length * fP):IsN (norm lz) (x - y):=by
 have g:=qn hL;have f:=qn a;have e:=dz hw;have j:=aM hw;have c:=pow_pos L.length;rw[hL.2.2,a.2.2] at hv;rw[b] at e
 have d:fP=0:=by
  by_cases h:0 < fP
  ·have:18446744073709551616 ^ L.length * 1<=18446744073709551616 ^ L.length * fP:=Int.mul_le_mul_of_nonneg_left (by omega) (Int.le_of_lt c);omega
  ·omega
 subst d;have:x - y=val lz:=by rw[hv]; simp
 rw[this];exact cj hw
theorem sub_lt (ao:Option Addr) (n c b o:Nat) (ao':Option Addr) (n' c' b' o':Nat) (l f:List Int) (w:World) (s:l.length=n) (q:f.length=n') (hc:n<=c) (m:n'<=c') (g:n<=1099511627776) (d:n'<=1099511627776)
  (wl:Words l) (p:Words f) (t:At w ao b o l) (i:At w ao' b' o' f) (j:val l < val f) :
  Calls Tryz.prog 72 #[.slice ao n c,.slice ao' n' c'] w fun e w'=>e=.returned (.tuple #[.slice none 0 0,.int .i64 10])/\Below w.heap.size w w':=by
 have t1:=ij ao n c b o ao' n' c' b' o' l f w s q hc m g d wl p t i;rw[gW j] at t1;go_enter Tryz.func72,Tryz.ntmps72;go_wp2_with fail;refine t1.mono ?_
 rintro e u ⟨rfl,r⟩;go_wp2_with fail;go_ret2;exact⟨rfl,r⟩
theorem sub_ge (ao:Option Addr) (n c b o:Nat) (ao':Option Addr) (n' c' b' o':Nat) (l d:List Int) (w:World) (X:l.length=n) (F:d.length=n') (hc:n<=c) (D:n'<=c') (t:n<=1099511627776) (B:n'<=1099511627776)
  (wl:Words l) (u:Words d) (W:At w ao b o l) (y:At w ao' b' o' d) (S:val d<=val l) :
  Calls Tryz.prog 72 #[.slice ao n c,.slice ao' n' c'] w fun e w'=>∃ v r,e=.returned (.tuple #[v,.int .i64 0])/\dF w w' v r/\IsN r (val l - val d)/\r.length<=n/\Below w.heap.size w w':=by
 have t1:=ij ao n c b o ao' n' c' b' o' l d w X F hc D t B wl u W y
 have aa:0<=sgn (val l) (val d):=by unfold sgn; split<;>(try split)<;>omega
 have hle:aI d<=aI l:=by
  rcases Nat.lt_or_ge (aI l) (aI d) with h | h
  ·have:=dC wl u h; omega
  ·exact h
 generalize hsg:sgn (val l) (val d)=sg at *;clear hsg;go_enter Tryz.func72,Tryz.ntmps72;go_wp2_with fail;refine t1.mono ?_
 rintro e M ⟨rfl,m⟩;have E:=W.keep m
 have p:=y.keep m;clear t1;go_wp2_with fail;refine(jK ao n c b o l M X hc t E).mono ?_
 rintro e w2 ⟨rfl,f,A⟩
 have j:=p.keep A
 have z:=j.sub (aI d)
 have T:norm d=[]\/b'≠M.heap.size:=by
  rcases(p.sub (aI d)).lt with e | e
  ·exact .inl e
  ·exact .inr (by omega)
 rw[show d.take (aI d)=norm d from rfl] at z;have t2:=bj ao' n' c' d w2 F D (by omega) j.cells;have hn:=bB l
 have hn':=bB d;have C:=aK l
 have J:=aK d;have Z:=cj wl
 have H:=cj u;clear W y E p j;generalize aI l=N at *;generalize aI d=N' at *;generalize norm l=L at *;generalize norm d=L' at *;go_wp2_with fail;refine t2.mono ?_
 rintro e w3 ⟨rfl,rfl⟩;clear t2;go_wp2_with fail;refine(iK _ M.heap.size 0 _ _ _ b' o' _ _ 1 L L' w3 C J hle (by omega) (Nat.le_refl _) (Nat.le_refl _) (by decide) (by decide) Z.1 H.1 f.at (f.free _ _) z T).mono ?_
 rintro e Y ⟨fP,rfl,O,ho1,s,V,U,q,x,I⟩
 have HF:IsN (norm s) (_ - _):=BP Z H S U (by omega) O (by rw[I,C]);have Q:=x.free (f.free 0 N);have hz1:=bB s;have P:=aK s;have G:=q.sub (aI s);have g:=m.size
 have HB:Below w.heap.size w Y:=(m.trans (A.mono g)).trans (x.below g);rw[show s.take (aI s)=norm s from rfl] at G;have t3:=bj (some ⟨M.heap.size,0,none⟩) N N s Y V (Nat.le_refl _) (by omega) q.cells;clear z f x q I m A;generalize aI s=K at *;generalize norm s=R at *;go_wp2_with fail;refine t3.mono ?_
 rintro e w5 ⟨rfl,rfl⟩;go_wp2;go_ret2;exact⟨_,R,rfl,dF.of P.symm (Nat.le_refl _) g G (fun i hi=>Q i (by omega)),HF,by omega,HB⟩
end
section
open Go.RowKit Lim
section
variable {w w1:World}{v:Value}{l:List Int}
theorem Row.built(w:World)(l:List Int):Row (w.alloc (.cells (l.map (Value.int .u64)).toArray 22)) w.heap.size l:=by
 show (w.heap.push _)[w.heap.size]? = _
 rw[Array.getElem?_push_size]
theorem Row.built1(w:World)(x:Int):Row (w.alloc (.cells #[.int .u64 x] 22)) w.heap.size [x]:=Row.built w [x]
theorem ae(w:World)(o:Obj):Below w.heap.size w (w.alloc o):=(Below.refl _ _).alloc (Nat.le_refl _) _
theorem AX(x:Int)(w:World)(l:0<=x)(j:x < 18446744073709551616) :
  Calls Tryz.prog 25 #[.int .u64 x] w fun e w'=>∃ v r,e=.returned v/\dF w w' v r/\IsN r x/\r.length<=1/\Below w.heap.size w w':=by
 have c:=Row.built1 w x;have hb:=ae w (.cells #[.int .u64 x] 22)
 have hw:Words [x]:=Words.cons l j Words.nil;have t1:=bj (some ⟨w.heap.size,0,none⟩) 1 1 [x] (w.alloc (.cells #[.int .u64 x] 22)) rfl (by decide) (by decide) c.at.cells;have g:=bB [x];have d:=aK [x];have b:=c.at.sub (aI [x])
 have m:IsN (norm [x]) x:=by have:=cj hw; rwa [eA] at this
 have f:=c.free 0 1;rw[show [x].take (aI [x])=norm [x] from rfl] at b;rw[List.length_singleton] at g;generalize aI [x]=K at *;generalize norm [x]=R at *;clear c;go_enter Tryz.func25,Tryz.ntmps25;go_wp2_with fail;refine t1.mono ?_
 rintro e n ⟨rfl,rfl⟩;go_wp2;go_ret;exact⟨_,R,rfl,dF.of d.symm (Nat.le_refl _) (Nat.le_refl _) b (fun i hi=>f i (by omega)),m,by omega,hb⟩
theorem div_zero(v:Value)(ao':Option Addr)(n' c' b' o':Nat)(b:List Int)(w:World)(g:b.length=n')(d:n'<=c')(i:n'<=1099511627776)(f:Words b)(c:At w ao' b' o' b)(j:val b=0) :
  Calls Tryz.prog 70 #[v,.slice ao' n' c'] w fun e w'=>e=.returned (.tuple #[.slice none 0 0,.slice none 0 0,.int .i64 11])/\w'=w:=by
 have t1:=bj ao' n' c' b w g d (by omega) c.cells;rw[(bZ f).2 j] at t1;go_enter Tryz.func70,Tryz.ntmps70;go_wp2_with fail;refine t1.mono ?_
 rintro e l ⟨rfl,rfl⟩;go_wp2_with fail;go_ret3;exact⟨rfl,rfl⟩
def ji(w w':World)(e:Ending)(x y:Int)(n n':Nat):Prop :=
 ∃ v u r s,e=.returned (.tuple #[v,u,.int .i64 0])/\dF w w' v r/\dF w w' u s/\IsN r (x / y)/\IsN s (x % y)/\r.length<=n/\s.length<=n + n'/\Below w.heap.size w w'
theorem dF.nil(w w':World):dF w w' (.slice none 0 0) []:=⟨none,w.heap.size,0,0,rfl,Nat.le_refl _,Nat.le_refl _,⟨.inl rfl,fun i hi=>by simp at hi⟩,fun i hi=>by simp at hi⟩
theorem jE:IsN [] 0:=⟨Words.nil,rfl,rfl⟩
theorem dF.later{d:World}(h:dF w w1 v l)(hb:Below w1.heap.size w1 d):dF w d v l:=by
 obtain⟨j,b,o,c,e,m,g,f,k⟩:=h;refine⟨j,b,o,c,e,m,g,f.keep hb,fun i hi => ?_⟩;have a:=aJ (f.cell i hi);rw[hb.frozen (p:=⟨b,o + i,none⟩) a]; exact k i hi
theorem dF.mono{w0:World}(h:dF w w1 v l)(hb:w0.heap.size<=w.heap.size):dF w0 w1 v l:=by
 obtain⟨ao,b,o,c,e,h1,h2,h3,h4⟩:=h;exact⟨ao,b,o,c,e,h1,by omega,h3,h4⟩
theorem div_lt(ao:Option Addr)(n c b o:Nat)(ao':Option Addr)(n' c' b' o':Nat)(l d:List Int)(w:World)(y:l.length=n)(u:d.length=n')(hc:n<=c)(t:n'<=c')(f:n<=1099511627776)(x:n'<=1099511627776)(wl:Words l)(m:Words d)(A:At w ao b o l)(p:At w ao' b' o' d)(i:val l < val d) :
  Calls Tryz.prog 70 #[.slice ao n c,.slice ao' n' c'] w fun e w'=>ji w w' e (val l) (val d) n n':=by
 have z:=aM wl;have hn:=bB l
 have D:=bB d
 have B:aI d≠0:=fun e=>by have:=(bZ m).1 e; omega
 have t1:=bj ao' n' c' d w u t (by omega) p.cells
 have q:=p.sub (aI d);rw[show d.take (aI d)=norm d from rfl] at q;have t2:=ij ao n c b o ao' (aI d) (aI d) b' o' l (norm d) w y (aK d) hc (Nat.le_refl _) f (by omega) wl m.norm A q;rw[cV,gW i] at t2;have F:=cj wl;have s:=aK l
 have C:((aI d:Int) == 0)=false:=beq_eq_false_iff_ne.2 (by omega);go_enter Tryz.func70,Tryz.ntmps70;go_wp2_with fail;refine t1.mono ?_
 rintro e H ⟨rfl,rfl⟩;go_wp2_with fail;refine t2.mono ?_
 rintro e E ⟨rfl,j⟩;go_wp2_with fail;refine(jK ao n c b o l E y hc f (A.keep j)).mono ?_
 rintro e G ⟨rfl,g,v⟩;clear t1 t2;go_wp2;go_ret3;have r:=j.size;exact⟨_,_,[],norm l,rfl,dF.nil _ _,dF.of s.symm (Nat.le_refl _) r g.at (g.free _ _),by rw[Int.ediv_eq_zero_of_lt z i]; exact jE,by rw[Int.emod_eq_of_lt z i]; exact F,by simp,by omega,j.trans (v.mono r)⟩
theorem div_one(ao:Option Addr)(n c b o:Nat)(ao':Option Addr)(n' c' b' o':Nat)(l f:List Int)(w:World)(hl:l.length=n)(ab:f.length=n')(hc:n<=c)(Z:n'<=c')(x:n<=1099511627776)(V:n'<=1099511627776)(wl:Words l)(D:Words f)(ha:At w ao b o l)(I:At w ao' b' o' f)(aa:val f<=val l)(h1:aI f=1) :
  Calls Tryz.prog 70 #[.slice ao n c,.slice ao' n' c'] w fun e w'=>ji w w' e (val l) (val f) n n':=by
 have h0:=aM wl;have hn:=bB l
 have hn':=bB f;have t1:=bj ao' n' c' f w ab Z (by omega) I.cells
 have j:=I.sub (aI f);rw[show f.take (aI f)=norm f from rfl] at j;have t2:=ij ao n c b o ao' (aI f) (aI f) b' o' l (norm f) w hl (aK f) hc (Nat.le_refl _) x (by omega) wl D.norm ha j;rw[cV] at t2
 have X:0<=sgn (val l) (val f):=by unfold sgn; split<;>(try split)<;>omega
 have y:=aK f
 have C:=cj D;rw[h1] at t1 t2 y;generalize hN':norm f=L' at *;obtain⟨d,rfl⟩:=List.length_eq_one_iff.1 y
 have hd:val f=d:=by have:=C.2.2; rw[eA] at this; exact this.symm
 have ag:=C.1 d (by simp)
 have O:0 < d:=by
  have h2:=C.2.1;by_cases c:d=0
  ·subst c; simp[aI] at h2
  ·omega
 rw[hd] at aa t2 ⊢;rw[hd] at X;generalize sgn (val l) d=sg at *;rcases j.loc with e | rfl
 ·simp at e
 go_enter Tryz.func70,Tryz.ntmps70;go_wp2_with fail;refine t1.mono ?_
 rintro e w1 ⟨rfl,rfl⟩;go_wp2_with fail;refine t2.mono ?_
 rintro e P ⟨rfl,m⟩;go_wp2_with fail;refine(jK ao n c b o l P hl hc x (ha.keep m)).mono ?_
 rintro e w3 ⟨rfl,g,t⟩;have B:=m.size;have hsz3:=t.size;have G:=((j.keep m).keep t).cell 0 (by simp);rw[cI] at G;rw[Nat.add_zero] at G;have ae:=wl.norm;have ac:=cV l;have W:=aK l;clear t1 t2;generalize aI l=N at *;generalize norm l=L at *;go_wp2_with fail;refine(gF (some ⟨P.heap.size,0,none⟩) P.heap.size 0 N N d L w3 W (by omega) (Nat.le_refl _) O ag.2 ae g.at (g.free _ _)).mono ?_
 rintro e w4 ⟨left,p,rfl,J,ad,af,T,z,v,E⟩;have Q:=v.free (g.free 0 N);have hz1:=bB p;have Y:=aK p;have H:=z.sub (aI p);have HF:=cj T;have U:=v.size;have hlt3:=g.lt;rw[show p.take (aI p)=norm p from rfl] at H;have t3:=bj (some ⟨P.heap.size,0,none⟩) N N p w4 af (Nat.le_refl _) (by omega) z.cells
 have HB:Below w1.heap.size w1 w4:=(m.trans (t.mono B)).trans (v.below B)
 have ev:val p=val l / d/\left=val l % d:=by
  have hh:=Int.ediv_emod_unique (a:=val l) (b:=d) (r:=left) (q:=val p) O;have:=hh.2 ⟨by rw[<- ac,<- E,Int.mul_comm]; omega,J,ad⟩;exact⟨this.1.symm,this.2.symm⟩
 rw[ev.1] at HF
 have A:Hid (left=val l % d):=ev.2;clear v g E m t j ev;generalize aI p=K at *;generalize norm p=R at *;go_wp2_with fail;refine t3.mono ?_
 rintro e w5 ⟨rfl,rfl⟩;go_wp2_with fail;refine(AX left w5 J (by omega)).mono ?_
 rintro e w6 ⟨u,s,rfl,M,S,hsl,F⟩;go_wp2;go_ret3;refine⟨_,u,R,s,rfl,(dF.of Y.symm (Nat.le_refl _) B H (fun i hi=>Q i (by omega))).later F,M.mono (by omega),HF,by rw[<- A.out]; exact S,by omega,by omega,HB.trans (F.mono (by omega))⟩
end
end
section
open Go.RowKit Lim
section
variable {l:List Int}{S T v1:Int}
theorem fO(s:Nat)(hs:s<=63):(0:Int) < 2 ^ s/\(2:Int) ^ s < 18446744073709551616/\(2:Int) ^ s * 2 ^ (64 - s)=18446744073709551616/\(0:Int) < 2 ^ (64 - s):=by
 have a:(0:Int) < 2 ^ s:=Int.pow_pos (by decide)
 have b:(2:Nat) ^ s<=2 ^ 63:=Nat.pow_le_pow_right (by decide) hs
 have e:((2 ^ s:Nat):Int)=(2:Int) ^ s:=by rw[Int.natCast_pow]; rfl
 have e2:(2:Nat) ^ 63=9223372036854775808:=by decide
 refine⟨a,by omega,?_,Int.pow_pos (by decide)⟩;rw[<- Int.pow_add,show s + (64 - s)=64 from by omega]; rfl
theorem nW(ao:Option Addr)(n c b o s:Nat)(l:List Int)(w:World)(C:l.length=n)(hc:n<=c)(D:n<=1099511627776)(hs:s<=63)(wl:Words l)(F:At w ao b o l) :
  Calls Tryz.prog 114 #[.slice ao n c,.int .i64 s] w fun e w'=>∃ lz,e=.returned (.slice (some ⟨w.heap.size,0,none⟩) (n + 1) (n + 1))/\lz.length=n + 1/\Words lz/\At w' (some ⟨w.heap.size,0,none⟩) w.heap.size 0 lz/\dD w' w.heap.size 0 (n + 1)/\w.heap.size < w'.heap.size/\val lz=val l * 2 ^ s/\Below w.heap.size w w':=by
 obtain⟨p1,E,G,H⟩:=fO s hs
 have v:l=[]\/b≠w.heap.size:=by
  rcases F.lt with e | e
  ·exact .inl e
  ·exact .inr (by omega)
 have j:=aM wl;have p:=dz wl
 have z:Hid (0<=val l * 2 ^ s/\val l * 2 ^ s < 18446744073709551616 ^ (n + 1)):=by
  refine⟨Int.mul_nonneg j (Int.le_of_lt p1),?_⟩
  have O:val l * 2 ^ s<=val l * 18446744073709551616:=Int.mul_le_mul_of_nonneg_left (by omega) j;rw[C] at p;rw[Int.pow_succ]; omega
 obtain⟨S,hS⟩:∃ S,(2:Int) ^ s=S:=⟨_,rfl⟩
 rw[hS] at p1 E z ⊢
 have J:IntKind.u64.wrap S=S:=IntWalk.u64_in _ ⟨by omega,by omega⟩;clear G H j p;go_enter Tryz.func114,Tryz.ntmps114;go_wp2_with (at_make; refine cY rfl _ _ rfl (n + 1) _ _ rfl rfl (by omega) (by omega) (by omega) ?_; intro M d g A);have x:=F.keep g;refine(eh _ w.heap.size 0 (n + 1) (n + 1) ao b o n c S (List.replicate (n + 1) 0) l M (by simp) C (by omega) (by omega) (Nat.le_refl _) hc (by omega) E (eC _) wl d.at (d.free _ _) x v).mono ?_
 rintro e I ⟨rfl,lz,B,y,t,f,m⟩;have u:=f.free (d.free 0 (n + 1));have K:=d.lt;have r:=f.size;rw[fq (l:=List.replicate (n + 1) 0) (fun i=>by simp[nth,List.getElem?_replicate]; split<;>rfl),Int.zero_add,Int.emod_eq_of_lt z.out.1 z.out.2] at m;have N:=(show Hid _ from m)
 have L:=g.trans (f.below (Nat.le_refl _))
 have q:w.heap.size < I.heap.size:=by omega
 clear m r A d f g;go_wp2;go_ret;exact⟨lz,rfl,B,y,t,u,q,N.out,L⟩
structure mo(lz:List Int)(S:Int)(h:Nat)(lz1:List Int):Prop where
 len:lz1.length=lz.length
 words:Words lz1
 low:∀ i,i < h->nth lz1 i=nth lz i
 val:Lim.val (lz1.drop h)=Lim.val (lz.drop h) / S
theorem Dy(S T:Int)(h:S * T=18446744073709551616)(k:Nat):val (l.drop k) % S=nth l k % S:=by
 by_cases a:k < l.length
 ·rw[dW a,<- h,Int.mul_assoc,Int.add_mul_emod_self_left]
 ·rw[List.drop_of_length_le (by omega),fR (by omega)]; rfl
theorem mo.step{lz lz1:List Int}{b:Int}{h:Nat}(hS:0 < S)(a:S * T=18446744073709551616)(hv:mo lz S (h + 1) lz1)(d:h < lz.length)(z0:0<=b)(z1:b < 18446744073709551616)(e:b=nth lz h / S + T * (nth lz (h + 1) % S)):mo lz S h (lz1.set h b):=by
 have c:=hv.len;refine⟨by simp[c],hv.words.set h z0 z1,fun i hi=>by rw[dA (by omega),if_neg (by omega)]; exact hv.low i (by omega),?_⟩;rw[dW (by simp; omega),dA (by omega),if_pos rfl,List.drop_set,if_pos (by omega),hv.val,dW d,e,<- Dy S T a (h + 1)];generalize Lim.val (lz.drop (h + 1))=Y
 have e1:nth lz h + 18446744073709551616 * Y=nth lz h + S * (T * Y):=by rw[<- a]; grind
 rw[e1,Int.add_mul_ediv_left _ _ (by omega)];have e2:=Int.mul_ediv_add_emod Y S
 have e3:T * Y=T * (S * (Y / S) + Y % S):=by rw[e2]
 rw[e3,<- a];grind
theorem Av{x y:Int}(s:Nat)(h:S=2 ^ s)(e:T=2 ^ (64 - s))(hs:s<=63)(hx:0<=x/\x < 18446744073709551616) :
  bits .or .u64 (x / S) (IntKind.u64.wrap (y * T))=x / S + T * (y % S)/\0<=x / S + T * (y % S)/\x / S + T * (y % S) < 18446744073709551616:=by
 obtain⟨p1,k,b,d⟩:=fO s hs;rw[<- h] at p1 k b;rw[<- e] at b d
 have a:0<=x / S:=Int.ediv_nonneg hx.1 (Int.le_of_lt p1)
 have f:x / S < T:=by rw[Int.ediv_lt_iff_lt_mul p1,Int.mul_comm,b]; exact hx.2
 have c:=Int.emod_nonneg y (show S≠0 by omega);have l:=Int.emod_lt_of_pos y p1
 have m:IntKind.u64.wrap (y * T)=y % S * T:=by
  rw[IntKind.wrap_u64,<- b,Int.mul_comm y T,Int.mul_comm S T,Int.mul_emod_mul_of_pos _ _ d,Int.mul_comm]
 have g:0<=y % S * T:=Int.mul_nonneg c (Int.le_of_lt d)
 have i:(y % S + 1) * T<=S * T:=Int.mul_le_mul_of_nonneg_right (by omega) (Int.le_of_lt d);rw[Int.add_mul,Int.one_mul,b] at i
 have j:T<=18446744073709551616:=by
  have:1 * T<=S * T:=Int.mul_le_mul_of_nonneg_right (by omega) (Int.le_of_lt d);omega
 rw[m,Int.mul_comm T];refine⟨?_,by omega,by omega⟩;rw[u64_or _ _ a (by omega) g (by omega),Nat.or_comm,<- u64_or _ _ g (by omega) a (by omega)];rw[qt _ _ (64 - s) (y % S) (by rw[e]) c (by omega) a (by rw[<- e]; exact f) (by omega),Int.add_comm]
theorem vL(m:Option Addr)(g i b C s:Nat)(lz:List Int)(w:World)(t:lz.length=b)(z:b<=2199023255552)(j:b<=C)(hs:s<=63)(n:Words lz)(r:At w m g i lz)(p:dD w g i b) :
  Calls Tryz.prog 116 #[.slice m b C,.int .i64 s] w fun e w'=>e=.returned (.tuple #[])/\∃ lz',lz'.length=b/\Words lz'/\At w' m g i lz'/\Wr g i b w w'/\val lz'=val lz / 2 ^ s:=by
 obtain⟨p1,P,D,O⟩:=fO s hs;go_enter Tryz.func116,Tryz.ntmps116;go_wp2;go_loopw [4,10] (fun tc q wr=>∃ (k:Nat) (c:List Int),k<=b/\q=.int .i64 k/\tc=.int .u64 (nth lz (b - k))/\mo lz (2 ^ s) (b - k) c/\At wr m g i c/\Wr g i b w wr) (fun _ q _=>b - (intOf q).toNat)
 case atStart=>exact⟨0,lz,Nat.zero_le _,rfl,by rw[fR (by omega)],⟨rfl,n,fun _ _=>rfl,by rw[Nat.sub_zero,List.drop_of_length_le (by omega)]; simp[val]⟩,r,Wr.refl _ _ _ _⟩
 case round =>
  obtain⟨k,c,Q,rfl,rfl,hinv,f,d⟩:=hrel;have o:=hinv.len;by_cases L:k < b
  ·rcases r.loc with e | rfl
   ·subst e; simp at t; omega
   obtain⟨h,B⟩:∃ h:Nat,b=h + 1 + k:=⟨b - 1 - k,by omega⟩
   have j:=f.cell h (by omega);have I:=d.free p h (by omega);rw[hinv.low h (by omega)] at j
   have v:(b:Int) - 1 - k=h:=by omega
   have F:(h:Int) < b:=by omega
   have l:b - k=h + 1:=by omega
   rw[l] at hinv ⊢;obtain⟨e1,e2,e3⟩:=Av (y:=nth lz (h + 1)) s rfl rfl hs (n.nth h)
   have K:Hid (mo lz (2 ^ s) h (c.set h (nth lz h / 2 ^ s + 2 ^ (64 - s) * (nth lz (h + 1) % 2 ^ s)))):=hinv.step p1 D (by omega) e2 e3 rfl
   have H:Hid (b=h + 1 + k):=B;have E:=(show Hid _ from f)
   have G:=(show Hid _ from d)
   have N:Hid (nth lz (b - (k + 1))=nth lz h):=by show _=_; rw[show b - (k + 1)=h from by omega]
   have M:Hid (b - (k + 1)=h):=by show _=_; omega
   clear B hinv r n f d l;generalize nth lz h=x at *;generalize nth lz (h + 1)=y at *
   have A:(64:Int) - s=((64 - s:Nat):Int):=by omega
   go_wp2_with fail;go_region;go_wp2;refine⟨⟨k + 1,_,by omega,by go_num,by rw[N.out],by rw[M.out]; exact K.out,?_,?_⟩,by simp[intOf]; omega⟩
   ·exact(E.out.setCell (by omega) _).drew
   ·exact(G.out.setCell (by omega) (by have:=H.out; omega) _).drew
  ·have u:k=b:=by omega
   subst u;have hv:=hinv.val;rw[Nat.sub_self,List.drop_zero,List.drop_zero] at hv;have J:=(show Hid _ from hv)
   clear hv;go_wp2;go_end0;exact⟨rfl,c,by omega,hinv.words,f,d,J.out⟩
def rD(u v g:Int):Prop:=0<=g/\g < 18446744073709551616/\(g - 1) * v<=u/\u < (g + 1) * v
theorem Aj{u v u0 R P:Int}(d:0 < P)(hv:v < (v1 + 1) * P)(c:9223372036854775808<=v1)(hu:u=u0 * 18446744073709551616 * P + R)(e:0<=R)(b:v1<=u0)(a:u < v * 18446744073709551616):rD u v 18446744073709551615:=by
 refine⟨by decide,by decide,?_,by rw[show (18446744073709551615 + 1:Int)=18446744073709551616 from rfl,Int.mul_comm]; exact a⟩
 have k1:v * 18446744073709551614<=(v1 + 1) * P * 18446744073709551614:=Int.mul_le_mul_of_nonneg_right (by omega) (by decide)
 have k2:v1 * P<=u0 * P:=Int.mul_le_mul_of_nonneg_right b (by omega)
 have k3:9223372036854775808 * P<=v1 * P:=Int.mul_le_mul_of_nonneg_right c (by omega)
 have e1:(v1 + 1) * P * 18446744073709551614=v1 * P * 18446744073709551614 + P * 18446744073709551614:=by grind
 have e2:u0 * 18446744073709551616 * P=u0 * P * 18446744073709551616:=by grind
 rw[show (18446744073709551615 - 1:Int)=18446744073709551614 from rfl,Int.mul_comm];omega
theorem sL{u v v2 a g rest hi Q:Int}(D:0 < Q)(d:v1 * 18446744073709551616 * Q + v2 * Q<=v)(hv:v < v1 * 18446744073709551616 * Q + (v2 + 1) * Q)(r:9223372036854775808<=v1)(p:0<=v2)(t:v2 < 18446744073709551616)(l:a * (18446744073709551616 * Q)<=u)(hu:u < (a + 1) * (18446744073709551616 * Q))(b:0<=g)(m:g < 18446744073709551616)(k:0<=rest)(A:rest < v1)(he:g * v1 + rest=a)(lo:Int)(j:0<=lo)(x:lo < 18446744073709551616)(hm:hi * 18446744073709551616 + lo=g * v2) :
  (rest < hi->rD u v (g - 1))/\(hi<=rest->rD u v g):=by
 have o:0<=g * v2:=Int.mul_nonneg b p
 have i:g * v2<=g * 18446744073709551615:=Int.mul_le_mul_of_nonneg_left (by omega) b
 have f:0<=hi:=by omega
 have e:hi<=18446744073709551615:=by omega
 obtain⟨X,hX⟩:∃ X,18446744073709551616 * Q=X:=⟨_,rfl⟩
 have z:0 < X:=by omega
 have m1:g * (v1 * 18446744073709551616 * Q + v2 * Q)<=g * v:=Int.mul_le_mul_of_nonneg_left d b
 have m2:g * v<=g * (v1 * 18446744073709551616 * Q + (v2 + 1) * Q):=Int.mul_le_mul_of_nonneg_left (by omega) b
 have e1:g * (v1 * 18446744073709551616 * Q + v2 * Q)=a * X - rest * X + hi * X + lo * Q:=by
  rw[<- hX,<- he];have:g * (v2 * Q)=(hi * 18446744073709551616 + lo) * Q:=by rw[hm]; grind
  grind
 have e2:g * (v1 * 18446744073709551616 * Q + (v2 + 1) * Q)=a * X - rest * X + hi * X + lo * Q + g * Q:=by
  have:g * (v1 * 18446744073709551616 * Q + (v2 + 1) * Q)=g * (v1 * 18446744073709551616 * Q + v2 * Q) + g * Q:=by grind
  rw[this,e1]
 rw[e1] at m1;rw[e2] at m2
 have e3:v1 * 18446744073709551616 * Q=v1 * X:=by rw[<- hX]; grind
 rw[e3] at d;rw[hX] at l hu;rw[Int.add_mul,Int.one_mul] at hu
 have k1:9223372036854775808 * X<=v1 * X:=Int.mul_le_mul_of_nonneg_right r (by omega)
 have k2:(rest + 1) * X<=v1 * X:=Int.mul_le_mul_of_nonneg_right (by omega) (by omega)
 have k3:lo * Q<=18446744073709551615 * Q:=Int.mul_le_mul_of_nonneg_right (by omega) (by omega)
 have w:0<=lo * Q:=Int.mul_nonneg j (by omega)
 have k4:g * Q<=18446744073709551615 * Q:=Int.mul_le_mul_of_nonneg_right (by omega) (by omega)
 have C:0<=v2 * Q:=Int.mul_nonneg p (by omega)
 have E:0<=hi * X:=Int.mul_nonneg f (by omega)
 have F:0<=rest * X:=Int.mul_nonneg k (by omega)
 have B:hi * X<=18446744073709551615 * X:=Int.mul_le_mul_of_nonneg_right e (by omega);rw[Int.add_mul,Int.one_mul] at k2;constructor
 ·intro y
  have q:(rest + 1) * X<=hi * X:=Int.mul_le_mul_of_nonneg_right (by omega) (by omega);rw[Int.add_mul,Int.one_mul] at q
  have n:1<=g:=by
   by_cases c:1<=g
   ·exact c
   ·have:g=0:=by omega
    subst this; simp at hm; omega
  have h:hi<=18446744073709551614:=by omega
  have s:hi * X<=18446744073709551614 * X:=Int.mul_le_mul_of_nonneg_right h (by omega);refine⟨by omega,by omega,?_,?_⟩
  ·rw[show (g - 1 - 1) * v=g * v - 2 * v from by grind];omega
  ·rw[show (g - 1 + 1) * v=g * v from by grind];omega
 ·intro hle
  have q:hi * X<=rest * X:=Int.mul_le_mul_of_nonneg_right hle (by omega);refine⟨b,m,?_,?_⟩
  ·rw[Int.sub_mul,Int.one_mul]; omega
  ·rw[Int.add_mul,Int.one_mul]; omega
end
end
section
open Go.RowKit Lim
section
variable {f:FuncId}{args:Array Value}{w:World}{n:Nat}{v:Value}{l:List Int}
theorem qK(hi lo y:Int)(w:World)(d:0<=hi)(b:hi < y)(a:0<=lo)(l1:lo < 18446744073709551616)(y1:y < 18446744073709551616) :
  Calls Tryz.prog 166 #[.int .u64 hi,.int .u64 lo,.int .u64 y] w fun e w'=>e=.returned (.tuple #[.int .u64 ((hi * 18446744073709551616 + lo) / y),.int .u64 ((hi * 18446744073709551616 + lo) % y)])/\∃ n,w'=w.drewN n:=by
 by_cases c:hi=0
 ·subst c;refine(mj lo y w (by omega) a l1 y1).mono ?_
  rintro e w' ⟨rfl,hw⟩;exact⟨by simp,hw⟩
 ·refine(oq hi lo y w (by omega) b a l1 y1).mono ?_
  rintro e w' ⟨rfl,rfl⟩;exact⟨rfl,0,rfl⟩
theorem nB{P:Program}(h:Calls P f args (w.drewN n) fun e w'=>e=.returned v/\∃ m,w'=(w.drewN n).drewN m):Calls P f args (w.drewN n) fun e w''=>e=.returned v/\∃ m,w''=w.drewN m :=
 h.mono fun _ _ ⟨he,m,hm⟩=>⟨he,n + m,by rw[hm,World.drewN_drewN]⟩
theorem top2(wl:Words l)(hn:l.length=n + 2):(nth l (n + 1) * 18446744073709551616 + nth l n) * 18446744073709551616 ^ n<=val l/\val l < (nth l (n + 1) * 18446744073709551616 + nth l n + 1) * 18446744073709551616 ^ n:=by
 have e1:=bF l n (by omega);have b:=aM (wl.take n);have a:=dz (wl.take n);rw[List.length_take,Nat.min_eq_left (by omega)] at a;rw[dW (by omega),dW (by omega),List.drop_of_length_le (show l.length<=n + 1 + 1 by omega)] at e1
 have e2:(18446744073709551616:Int) ^ n * (nth l n + 18446744073709551616 * (nth l (n + 1) + 18446744073709551616 * val []))=(nth l (n + 1) * 18446744073709551616 + nth l n) * 18446744073709551616 ^ n:=by
  rw[show val []=0 from rfl]; grind
 rw[e2] at e1;rw[Int.add_mul (nth l (n + 1) * 18446744073709551616 + nth l n) 1];omega
theorem wF(au:Option Addr)(cu T I:Nat)(av:Option Addr)(k cv bv B:Nat)(lu i:List Int)(w:World)(t:lu.length=k + 3)(p:i.length=k + 2)(hbig:k<=1099511627776)(wu:Words lu)(D:Words i)(hu:At w au T I lu)(hv:At w av bv B i)(o:9223372036854775808<=nth i (k + 1))(u:val lu < val i * 18446744073709551616) :
  Calls Tryz.prog 167 #[.slice au (k + 3) cu,.slice av (k + 2) cv] w fun e w'=>∃ g:Int,e=.returned (.int .u64 g)/\rD (val lu) (val i) g/\Below w.heap.size w w':=by
 obtain⟨f,s⟩:=top2 D p;obtain⟨c,j⟩:=top2 (n:=k + 1) wu t;have c0:=hu.cell (k + 2) (by omega);have c1:=hu.cell (k + 1) (by omega);have d1:=hv.cell (k + 1) (by omega);have d2:=hv.cell k (by omega);have b0:=wu.nth (k + 2);have J:=wu.nth (k + 1);have e1:=D.nth (k + 1);have e2:=D.nth k;have F:=pow_pos k;have L:=pow_pos (k + 1);rcases hu.loc with e | rfl
 ·subst e; simp at t
 rcases hv.loc with e | rfl
 ·subst e; simp at p
 rw[show k + 1 + 1=k + 2 from rfl] at c j;have H:=(show Hid _ from u)
 clear hu hv wu D u t p;obtain⟨N,C⟩:∃ N,k + 2=N:=⟨_,rfl⟩
 obtain⟨m,hm⟩:∃ m,k + 1=m:=⟨_,rfl⟩
 have hN1:(N:Int) - 1=m:=by omega
 have hN2:(N:Int) - 2=k:=by omega
 have hmN:(m:Int) < N:=by omega
 have hkN:(k:Int) < N:=by omega
 have hmN1:(m:Int) < (N:Int) + 1:=by omega
 have Z:(N:Int) < (N:Int) + 1:=by omega
 have hNb:N<=1099511627778:=by omega
 have hmle:m<=N:=by omega
 have aa:m < N + 1:=by omega
 have hmi:(m:Int)<=N:=by omega
 have hwm:IntKind.i64.wrap (m:Int)=m:=by rw[IntKind.wrap_i64]; omega
 have hwk:IntKind.i64.wrap (k:Int)=k:=by rw[IntKind.wrap_i64]; omega
 generalize nth lu (k + 2)=u0 at *;generalize nth lu (k + 1)=d at *;generalize nth i (k + 1)=v1 at *;generalize nth i k=v2 at *;generalize val lu=U at *;generalize val i=V at *;by_cases K:v1<=u0
 ·have HN:Hid (rD U V 18446744073709551615):=by
   refine Aj (v1:=v1) (u0:=u0) (P:=18446744073709551616 ^ (k + 1)) (R:=U - u0 * 18446744073709551616 * 18446744073709551616 ^ (k + 1)) L ?_ o (by omega) ?_ K H.out
   ·rw[Int.pow_succ];have:(v1 * 18446744073709551616 + v2 + 1) * 18446744073709551616 ^ k<=(v1 * 18446744073709551616 + 18446744073709551616) * 18446744073709551616 ^ k:=Int.mul_le_mul_of_nonneg_right (by omega) (by omega)
    have e:(v1 * 18446744073709551616 + 18446744073709551616) * 18446744073709551616 ^ k=(v1 + 1) * (18446744073709551616 ^ k * 18446744073709551616):=by grind
    omega
   ·have:0<=d * 18446744073709551616 ^ (k + 1):=Int.mul_nonneg J.1 (by omega);rw[Int.add_mul] at c;omega
  rw[show k + 3=N + 1 from by omega,C] at *;rw[hm] at c1 d1;clear c j f s F L C hm;go_enter Tryz.func167,Tryz.ntmps167;go_wp2_with fail;go_quiet (fail);go_wp2;go_ret;exact⟨_,rfl,HN.out,below_drewN (Below.refl _ _) _⟩
 ·have y:∀ g rest hi lo:Int,0<=g->g < 18446744073709551616->0<=rest->rest < v1->g * v1 + rest=u0 * 18446744073709551616 + d->0<=lo->lo < 18446744073709551616->hi * 18446744073709551616 + lo=g * v2->(rest < hi->rD U V (g - 1))/\(hi<=rest->rD U V g):=by
   intro g rest hi lo h1 h2 h3 h4 h5 h6 h7 h8;refine sL (Q:=18446744073709551616 ^ k) F ?_ ?_ o e2.1 e2.2 ?_ ?_ h1 h2 h3 h4 h5 lo h6 h7 h8
   ·rw[Int.add_mul] at f; exact f
   ·have e:(v1 * 18446744073709551616 + v2 + 1) * 18446744073709551616 ^ k=v1 * 18446744073709551616 * 18446744073709551616 ^ k + (v2 + 1) * 18446744073709551616 ^ k:=by grind
    rw[<- e]; exact s
   ·rw[Int.mul_comm 18446744073709551616,<- Int.pow_succ]; exact c
   ·rw[Int.mul_comm 18446744073709551616,<- Int.pow_succ]; exact j
  have r:=(show Hid _ from y)
  have q:=Int.mul_ediv_add_emod (u0 * 18446744073709551616 + d) v1;have E:=Int.emod_nonneg (u0 * 18446744073709551616 + d) (show v1≠0 by omega);have X:=Int.emod_lt_of_pos (u0 * 18446744073709551616 + d) (show 0 < v1 by omega)
  have A:0<=(u0 * 18446744073709551616 + d) / v1:=Int.ediv_nonneg (by omega) (by omega)
  have x:(u0 * 18446744073709551616 + d) / v1 < 18446744073709551616:=by
   rw[Int.ediv_lt_iff_lt_mul (by omega)];have:(u0 + 1) * 18446744073709551616<=v1 * 18446744073709551616:=Int.mul_le_mul_of_nonneg_right (by omega) (by decide);omega
  have tD:=fun wx:World=>qK u0 d v1 wx b0.1 (by omega) J.1 J.2 e1.2
  generalize hg:(u0 * 18446744073709551616 + d) / v1=g at *;generalize hr:(u0 * 18446744073709551616 + d) % v1=rest at *;rw[Int.mul_comm] at q;have S:=(show Hid _ from q)
  rw[show k + 3=N + 1 from by omega,C] at *;rw[hm] at c1 d1;clear y q hg hr c j f s F L C hm
  have hge':u0 < v1:=by omega
  go_enter Tryz.func167,Tryz.ntmps167;go_wp2_with fail;go_quiet (fail)
  have M:(w.drewN nq).cell? ⟨T,I + N,none⟩=some (.int .u64 u0):=c0
  have G:(w.drewN nq).cell? ⟨T,I + m,none⟩=some (.int .u64 d):=c1
  have W:(w.drewN nq).cell? ⟨bv,B + m,none⟩=some (.int .u64 v1):=d1
  have z:(w.drewN nq).cell? ⟨bv,B + k,none⟩=some (.int .u64 v2):=d2;have v:=below_drewN (Below.refl w.heap.size w) nq;clear c0 c1 d1 d2;generalize w.drewN nq=Y at *;go_wp2_with fail;go_quiet ((go_at_call 166; exact nB (tD _)))
  have d2'':(Y.drewN nq).cell? ⟨bv,B + k,none⟩=some (.int .u64 v2):=z;have l:=below_drewN v nq;clear M G W z v tD;generalize Y.drewN nq=W2 at *;go_wp2_with fail;refine(lG g v2 A x e2.1 e2.2 _).mono ?_
  rintro e w3 ⟨hi,lo,rfl,i1,i2,i3,i4,i5,rfl⟩;have b:=r.out g rest hi lo A x E X S.out i3 i4 i5.out;by_cases hc:rest < hi
  ·have O:=(show Hid _ from b.1 hc)
   have hg2:0<=g - 1:=(b.1 hc).1;clear b r;go_wp2;go_ret;exact⟨_,rfl,O.out,l⟩
  ·have O:=(show Hid _ from b.2 (by omega))
   clear b r;go_wp2;go_ret;exact⟨_,rfl,O.out,l⟩
end
end
section
open Go.RowKit Lim
section
variable {L L' lz:List Int}{k:Nat}
theorem Ac(hL:Words L)(a:Words L')(b:Words lz)(j:k < L.length)(g:lz.length=L.length + L'.length)(hv:val lz=val (L.take k) * val L') :
  0<=val ((lz.drop k).take (L'.length + 1)) + val L' * nth L k/\val ((lz.drop k).take (L'.length + 1)) + val L' * nth L k < 18446744073709551616 ^ (L'.length + 1):=by
 have d:=dz (hL.take k);have h:=dz a;have n:=aM (hL.take k);have c:=aM a;have i:=aM (b.take k);have m:=aM ((b.drop k).take (L'.length + 1));have h7:=aM ((b.drop k).drop (L'.length + 1));have h8:=hL.nth k;rw[List.length_take,Nat.min_eq_left (by omega)] at d;have e1:=bF lz k (by omega);have e2:=bF (lz.drop k) (L'.length + 1) (by simp; omega);have e:=pow_pos k;have l:=pow_pos L'.length;have f:=pow_pos (L'.length + 1)
 have m1:val (L.take k) * val L'<=18446744073709551616 ^ k * val L':=Int.mul_le_mul_of_nonneg_right (by omega) c
 have m2:(18446744073709551616:Int) ^ k * val (lz.drop k)<=18446744073709551616 ^ k * val L':=by omega
 have m3:val (lz.drop k)<=val L':=Int.le_of_mul_le_mul_left m2 e
 have m4:0<=18446744073709551616 ^ (L'.length + 1) * val ((lz.drop k).drop (L'.length + 1)):=Int.mul_nonneg (Int.le_of_lt f) h7
 have m5:val L' * nth L k<=val L' * 18446744073709551615:=Int.mul_le_mul_of_nonneg_left (by omega) c
 have m6:0<=val L' * nth L k:=Int.mul_nonneg c h8.1;refine⟨by omega,?_⟩;rw[Int.pow_succ];omega
structure kh(L L' lz:List Int)(k:Nat):Prop where
 len:lz.length=L.length + L'.length
 words:Words lz
 val:Lim.val lz=Lim.val (L.take k) * Lim.val L'
theorem kh.step{lw:List Int}(hL:Words L)(b:Words L')(d:k < L.length)(h:kh L L' lz k)(hw:Words lw)(c:lw.length=L'.length + 1)(hv:Lim.val lw=(Lim.val ((lz.drop k).take (L'.length + 1)) + Lim.val L' * nth L k) % 18446744073709551616 ^ (L'.length + 1)):kh L L' (patch lz k lw) (k + 1):=by
 have a:=Ac hL b h.words d h.len h.val;rw[Int.emod_eq_of_lt a.1 a.2] at hv;have e:=h.len;refine⟨by rw[fk (by omega)]; exact h.len,kP h.words hw,?_⟩;rw[om (by omega),c,hv,h.val,dw d];grind
theorem oL(ao:Option Addr)(n c b o:Nat)(ao':Option Addr)(n' c' b' o':Nat)(l p:List Int)(w:World)(hl:l.length=n)(hl':p.length=n')(hc:n<=c)(hc':n'<=c')(hbig:n<=1099511627776)(aa:n'<=1099511627776)(wl:Words l)(X:Words p)(ha:At w ao b o l)(I:At w ao' b' o' p) :
  Calls Tryz.prog 24 #[.slice ao n c,.slice ao' n' c'] w fun e w'=>∃ v r,e=.returned v/\dF w w' v r/\IsN r (val l * val p)/\r.length<=n + n'/\Below w.heap.size w w':=by
 have hn:=bB l
 have hn':=bB p;have t1:=bj ao n c l w hl hc (by omega) ha.cells;have t2:=bj ao' n' c' p w hl' hc' (by omega) I.cells;have hs:=ha.sub (aI l)
 have z:=I.sub (aI p);have O:=aK l
 have u:=aK p;have Z:=cj wl
 have G:=cj X;rw[show l.take (aI l)=norm l from rfl] at hs;rw[show p.take (aI p)=norm p from rfl] at z;generalize aI l=N at *;generalize aI p=d at *;generalize norm l=L at *;generalize norm p=P at *
 have t:L=[]\/b≠w.heap.size:=by
  rcases hs.lt with e | e
  ·exact .inl e
  ·exact .inr (by omega)
 have Q:P=[]\/b'≠w.heap.size:=by
  rcases z.lt with e | e
  ·exact .inl e
  ·exact .inr (by omega)
 clear ha I;go_enter Tryz.func24,Tryz.ntmps24;go_wp2_with fail;refine t1.mono ?_
 rintro e w1 ⟨rfl,rfl⟩;go_wp2_with fail;refine t2.mono ?_
 rintro e A ⟨rfl,rfl⟩;clear t1 t2;go_wp2_with (at_make; refine cY rfl _ _ rfl (N + d) _ _ rfl rfl (by omega) (by omega) (by omega) ?_; intro w3 s j hsz);have J:=hs.keep j;have M:=z.keep j;have C:=s.at
 have B:=s.free 0 (N + d);clear hs z s;go_loopw [22] (fun ti wr=>∃ (k:Nat) (f:List Int),k<=N/\ti=.int .i64 k/\kh L P f k/\At wr (some ⟨A.heap.size,0,none⟩) A.heap.size 0 f/\Wr A.heap.size 0 (N + d) w3 wr) (fun ti _=>N - (intOf ti).toNat)
 case atStart=>exact⟨0,_,Nat.zero_le _,rfl,⟨by simp[O,u],eC _,by simp[val,fq (l:=List.replicate (N + d) 0) fun i=>by simp[nth,List.getElem?_replicate]; split<;>rfl]⟩,C,Wr.refl _ _ _ _⟩
 case round =>
  clear C;obtain⟨k,f,hk,rfl,hinv,q,g⟩:=hrel;by_cases hlt:k < N
  ·have hlen:=hinv.len;rcases J.loc with e | rfl
   ·subst e; simp at O; omega
   have t:=t;have hcx:=(J.wr g t).cell k (by omega)
   have D:=M.wr g Q;have hx:=Z.1.nth k;have F:=(g.free B).fK (k:=k) (m:=d + 1) (by omega);have y:=(q.drew).fK k (d + 1);rw[Nat.zero_add] at y F
   have hkn:k + d + 1 - k=d + 1:=by omega
   have H:=eh (some ⟨A.heap.size,k,none⟩) A.heap.size k (d + 1) (d + 1) ao' b' o' d d (nth L k) ((f.drop k).take (d + 1)) P wr.drew (by simp; omega) u (by omega) (by omega) (Nat.le_refl _) (Nat.le_refl _) hx.1 hx.2 ((hinv.words.drop k).take _) G.1 y F.drew D.drew Q
   have HX:Hid (∀ lw,Words lw->lw.length=d + 1->val lw=(val ((f.drop k).take (d + 1)) + val P * nth L k) % 18446744073709551616 ^ (d + 1)->kh L P (patch f k lw) (k + 1)):=by
    intro lw h1 h2 h3;rw[<- u] at h2 h3;exact kh.step Z.1 G.1 (by omega) hinv h1 h2 h3
   have HA:Hid (At wr.drew (some ⟨A.heap.size,0,none⟩) A.heap.size 0 f):=q.drew
   have HW:Hid (Wr A.heap.size 0 (N + d) w3 wr.drew):=g.drew;clear F y D hinv g q;generalize nth L k=x at *;go_wp2_with fail;go_region_with (go_at_call 59; refine H.mono ?_; rintro e w5 ⟨rfl,lw,W,V,T,E,hvw⟩)
   all_goals go_wp2
   all_goals exact⟨⟨k + 1,patch f k lw,by omega,by go_num,HX.out lw V W hvw,HA.out.patch (k:=k) (n:=d + 1) (by rw[Nat.zero_add]; exact E) (by rw[Nat.zero_add]; exact T) (by omega) (by omega),HW.out.trans (E.mono (by omega) (by omega))⟩,by simp[intOf]; omega⟩
  ·have hkN:k=N:=by omega
   subst hkN;have hv:=hinv.val;have hlen:=hinv.len;have Y:=hinv.words;rw[List.take_of_length_le (by omega),Z.2.2,G.2.2] at hv;have U:=g.free B;have hz1:=bB f;have hz2:=aK f;have S:=q.sub (aI f)
   have HF:IsN (norm f) (val l * val p):=by rw[<- hv]; exact cj Y
   have HB:=j.trans (g.below (Nat.le_refl _));rw[show f.take (aI f)=norm f from rfl] at S;have t3:=bj (some ⟨A.heap.size,0,none⟩) (k + d) (k + d) f wr (by omega) (Nat.le_refl _) (by omega) q.cells;clear J M q g j hinv hv;generalize aI f=K at *;generalize norm f=R at *;go_wp2_with fail;refine t3.mono ?_
   rintro e w6 ⟨rfl,rfl⟩;go_wp2;go_ret;exact⟨_,R,rfl,dF.of hz2.symm (Nat.le_refl _) (Nat.le_refl _) S (fun i hi=>U i (by omega)),HF,by omega,HB⟩
end
end
section
open Go.RowKit Lim
section
variable {lu lq lu1:List Int}{V:Int}{q0 k a n:Nat}{w:World}
structure kM(lu:List Int)(V:Int)(q0 k m:Nat)(lq lu1:List Int):Prop where
 BR:lq.length=q0
 Ce:lu1.length=q0 + (k + 2)
 wq:Words lq
 wu:Words lu1
 eq:val lu=18446744073709551616 ^ m * val (lq.drop m) * V + val lu1
 lt:val lu1 < V * 18446744073709551616 ^ m
theorem kM.fK(h:kM lu V q0 k (a + 1) lq lu1)(o:a < q0)(n:V < 18446744073709551616 ^ (k + 2)) :
  val lu1=val (lu1.take a) + 18446744073709551616 ^ a * val ((lu1.drop a).take (k + 3))/\val ((lu1.drop a).take (k + 3)) < V * 18446744073709551616:=by
 have g:=h.Ce;have e1:=bF lu1 a (by omega);have e2:=bF (lu1.drop a) (k + 3) (by simp; omega);have m:=aM (h.wu.take a);have l:=aM ((h.wu.drop a).take (k + 3));have i:=aM ((h.wu.drop a).drop (k + 3));have e:=h.lt;have b:=pow_pos a
 have d:val ((lu1.drop a).drop (k + 3))=0:=by
  by_cases c:val ((lu1.drop a).drop (k + 3))=0
  ·exact c
  ·have k1:18446744073709551616 ^ (k + 3) * 1<=18446744073709551616 ^ (k + 3) * val ((lu1.drop a).drop (k + 3)):=Int.mul_le_mul_of_nonneg_left (by omega) (Int.le_of_lt (pow_pos _))
   have k2:18446744073709551616 ^ a * 18446744073709551616 ^ (k + 3)<=18446744073709551616 ^ a * val (lu1.drop a):=Int.mul_le_mul_of_nonneg_left (by omega) (Int.le_of_lt b)
   have k3:(V + 1) * 18446744073709551616 ^ (a + 1)<=18446744073709551616 ^ (k + 2) * 18446744073709551616 ^ (a + 1):=Int.mul_le_mul_of_nonneg_right (by omega) (Int.le_of_lt (pow_pos _));rw[Int.add_mul] at k3
   have k4:(18446744073709551616:Int) ^ (k + 2) * 18446744073709551616 ^ (a + 1)=18446744073709551616 ^ a * 18446744073709551616 ^ (k + 3):=by rw[<- Int.pow_add,<- Int.pow_add]; congr 1; omega
   have j:=pow_pos (a + 1);omega
 rw[d,Int.mul_zero,Int.add_zero] at e2;rw[e2] at e1;refine⟨e1,?_⟩
 have f:18446744073709551616 ^ a * val ((lu1.drop a).take (k + 3)) < 18446744073709551616 ^ a * (V * 18446744073709551616):=by
  have:18446744073709551616 ^ a * (V * 18446744073709551616)=V * 18446744073709551616 ^ (a + 1):=by rw[Int.pow_succ]; grind
  omega
 exact Int.lt_of_mul_lt_mul_left f (Int.le_of_lt b)
theorem kM.step{d:Int}{nw:List Int}(h:kM lu V q0 k (a + 1) lq lu1)(n:a < q0)(j:V < 18446744073709551616 ^ (k + 2))(d0:0<=d)(d1:d < 18446744073709551616)(wn:Words nw)(hn:nw.length=k + 3)(e:val nw=val ((lu1.drop a).take (k + 3)) - d * V)(e1:val nw < V):kM lu V q0 k a (lq.set a d) (patch lu1 a nw):=by
 have hw:=h.fK n j;have f:=h.Ce;have c:=h.BR;have b:=om (l:=lu1) (m:=nw) (k:=a) (by omega);have g:=dz (h.wu.take a);rw[List.length_take,Nat.min_eq_left (by omega)] at g;have i:=pow_pos a;refine⟨by simp[c],by rw[fk (by omega)]; exact f,h.wq.set a d0 d1,kP h.wu wn,?_,?_⟩
 ·rw[h.eq,dW (l:=lq.set a d) (by simp; omega),dA (by omega),if_pos rfl,List.drop_set,if_pos (by omega),b,hn,e,Int.pow_succ];grind
 ·have k1:18446744073709551616 ^ a * (val nw + 1)<=18446744073709551616 ^ a * V:=Int.mul_le_mul_of_nonneg_left (by omega) (Int.le_of_lt i);rw[b,hn,Int.mul_sub,Int.mul_comm V];rw[Int.mul_add] at k1;omega
theorem De{U g o Z:Int}{x:Int}(hn:rD U V g)(j:V < 18446744073709551616 ^ n)(hx:x=U - V * g + 18446744073709551616 ^ n * o)(x1:x < 18446744073709551616 ^ n)(m:0<=U)(p:0<=o) :
  (o=0->x=U - g * V/\x < V)/\(o≠0->Z=(x + V * 1) % 18446744073709551616 ^ n->1<=g/\Z=U - (g - 1) * V/\Z < V):=by
 obtain⟨g0,g1,i,l⟩:=hn;rw[Int.sub_mul] at i;rw[Int.add_mul] at l;rw[Int.mul_comm V g] at hx;have d:=pow_pos n;constructor
 ·intro h; subst h; omega
 ·intro h f
  have k1:18446744073709551616 ^ n * 1<=18446744073709551616 ^ n * o:=Int.mul_le_mul_of_nonneg_left (by omega) (Int.le_of_lt d)
  have a:o=1:=by
   by_cases c:2<=o
   ·have k2:18446744073709551616 ^ n * 2<=18446744073709551616 ^ n * o:=Int.mul_le_mul_of_nonneg_left c (Int.le_of_lt d);omega
   ·omega
  subst a
  have b:U - g * V < 0:=by omega
  have k:1<=g:=by
   by_cases c:1<=g
   ·exact c
   ·have:g=0:=by omega
    subst this; omega
  have e:x + V * 1=(U - (g - 1) * V) + 18446744073709551616 ^ n * 1:=by rw[hx,Int.sub_mul]; omega
  rw[e,Int.add_mul_emod_self_left,Int.sub_mul,Int.emod_eq_of_lt (by omega) (by omega)] at f;rw[Int.sub_mul];exact⟨k,by omega,by omega⟩
theorem jq{P:Program}{a:Act}{Q:Exit->Act->World->Prop}{c rest:Code}(l:Nat)(J:Act->World->Prop)(μ:Act->World->Nat)(hf:findLabel c l=some (Code.skip.seq rest))(first:(∀ a w,J a w->rest.wp P (Exit.jump l J Q) a w)->c.wp P (Exit.jump l J Q) a w)(pass:∀ a w,J a w->rest.wp P (Exit.jump l (fun a' w'=>J a' w'/\μ a' w' < μ a w) Q) a w):(Code.scope c).wp P Q a w :=
 wp_scope_jumps l J μ hf (first fun a w b=>wp_mono (pass a w b) fun e a' w' h=>by
  cases e with
  | goto l'=>exact⟨h.1,h.2.1⟩
  | _=>exact h) fun a w b=>wp_seq (wp_skip (pass a w b))
theorem rm{l m a:List Int}(h:k + m.length<=l.length)(hm:a.length=m.length):patch (patch l k m) k a=patch l k a:=by
 have e:(l.take k).length=k:=by simp; omega
 unfold patch;rw[List.take_left' e,hm,<- List.append_assoc (l.take k) m,List.drop_left' (by simp; omega)]
theorem dD.below{B:Nat}{w':World}(h:Below B w w'){b o:Nat}(k:dD w b o n)(hb:b < B):dD w' b o n:=fun i hi=>by
 rw[World.frozen?_of_block (w:=w) (h.block b hb)]; exact k i hi
theorem lW(s A cu:Nat)(av:Option Addr)(k q0 cv bv ov:Nat)(lu G:List Int)(w:World)(ad:lu.length=q0 + (k + 2))(N:G.length=k + 2)(hbig:k<=1099511627776)(hbigq:q0<=1099511627776)(hcu:q0 + (k + 2)<=cu)(hcv:k + 2<=cv)(wu:Words lu)(wv:Words G)(hu:At w (some ⟨s,A,none⟩) s A lu)(hfu:dD w s A (q0 + (k + 2)))(hv:At w av bv ov G)(ac:bv≠s)(htop:9223372036854775808<=nth G (k + 1))(hval:val lu < val G * 18446744073709551616 ^ q0) :
  Calls Tryz.prog 115 #[.slice (some ⟨s,A,none⟩) (q0 + (k + 2)) cu,.slice av (k + 2) cv] w fun e w'=>∃ lq lr:List Int,e=.returned (.slice (some ⟨w.heap.size,0,none⟩) q0 q0)/\kM lu (val G) q0 k 0 lq lr/\At w' (some ⟨w.heap.size,0,none⟩) w.heap.size 0 lq/\dD w' w.heap.size 0 q0/\At w' (some ⟨s,A,none⟩) s A lr/\dD w' s A (q0 + (k + 2))/\Below s w w':=by
 go_enter Tryz.func115,Tryz.ntmps115;go_wp2;refine jq 0 (fun a' w'=>∃ (m:Nat) (lq v:List Int) (u8 u9 u10 u11 u12 u13 u14 u15 u16 u17 u18 u19 u20 u21 u22 u23 u24 u25 u26 u27 u28 u29 u30 u31 u32 u33 u34 u35 u36 u37 u38 u39 u40 u41 u42 u43 u44 u45 u46 u47 u48 u49 u50 u51 u52 u53 u54:Value),a'={ tmps:=#[.slice (some ⟨s,A,none⟩) (q0 + (k + 2)) cu,.slice av (k + 2) cv,undef,undef,.slice none 0 0,.int .i64 ((k:Int) + 2),.int .i64 (m:Int),.slice (some ⟨w.heap.size,0,none⟩) q0 q0,u8,u9,u10,u11,u12,u13,u14,u15,u16,u17,u18,u19,u20,u21,u22,u23,u24,u25,u26,u27,u28,u29,u30,u31,u32,u33,u34,u35,u36,u37,u38,u39,u40,u41,u42,u43,u44,u45,u46,u47,u48,u49,u50,u51,u52,u53,u54],defers:=[] }/\m<=q0/\kM lu (val G) q0 k m lq v/\At w' (some ⟨w.heap.size,0,none⟩) w.heap.size 0 lq/\dD w' w.heap.size 0 q0/\At w' (some ⟨s,A,none⟩) s A v/\dD w' s A (q0 + (k + 2))/\At w' av bv ov G/\w.heap.size < w'.heap.size/\Below s w w') (fun a' _=>(intOf (a'.tmps.getD 6 undef)).toNat) rfl ?_ ?_
 ·intro ax;go_wp2_with (at_make; refine cY rfl _ _ rfl q0 _ _ rfl rfl (by omega) (by omega) (by omega) ?_; intro w1 al f hsz);go_step3
  have S:s < w.heap.size:=by
   rcases hu.lt with e | e
   ·subst e; simp at ad
   ·exact e
  have hI:kM lu (val G) q0 k q0 (List.replicate q0 0) lu:=⟨by simp,ad,eC _,wu,by simp[val],hval⟩
  rename_i K hK;refine hK _ _ (ax _ _ ⟨q0,List.replicate q0 0,lu,_,_,_,_,_,_,_,_,_,_,_,_,_,_,_,_,_,_,_,_,_,_,_,_,_,_,_,_,_,_,_,_,_,_,_,_,_,_,_,_,_,_,_,_,_,_,_,rfl,Nat.le_refl _,hI,al.at,al.free 0 q0,hu.keep f,dD.below f hfu S,hv.keep f,by omega,f.mono (Nat.le_of_lt S)⟩)
 ·rintro a' wr ⟨m,lq,v,u8,u9,u10,u11,u12,u13,u14,u15,u16,u17,u18,u19,u20,u21,u22,u23,u24,u25,u26,u27,u28,u29,u30,u31,u32,u33,u34,u35,u36,u37,u38,u39,u40,u41,u42,u43,u44,u45,u46,u47,u48,u49,u50,u51,u52,u53,u54,rfl,hm,hinv,hq,aE,aa,E,aB,aj,au⟩;by_cases hm0:m=0
  ·subst hm0;go_wp2;rw[show ∀ J Q b w,Exit.jump 0 J Q .ret b w=Q .ret b w from fun _ _ _ _=>rfl];go_ret;exact⟨lq,v,rfl,hinv,hq,aE,aa,E,au⟩
  ·obtain⟨a,rfl⟩:∃ a,m=a + 1:=⟨m - 1,by omega⟩
   have x:=hinv.BR;have u:=hinv.Ce
   have hk1:a + (k + 2) + 1 - a=k + 3:=by omega
   have ay:=dz wv;rw[N] at ay;obtain⟨y,hW2⟩:=hinv.fK (by omega) ay;have ao:=aa.fK a (k + 3);have hfwin:=E.fK (k:=a) (m:=k + 3) (by omega)
   have r:((v.drop a).take (k + 3)).length=k + 3:=by simp; omega
   have j:Words ((v.drop a).take (k + 3)):=(hinv.wu.drop a).take (k + 3);have U:=fun wx hx hy=>wF (some ⟨s,A + a,none⟩) (k + 3) s (A + a) av k cv bv ov ((v.drop a).take (k + 3)) G wx r N (by omega) j wv hx hy htop hW2
   have c:=fun d nw=>hinv.step (d:=d) (nw:=nw) (by omega) ay
   have HH:=(show Hid _ from And.intro y (And.intro r (And.intro j (And.intro x (And.intro u c)))))
   clear hinv y r j x u c
   have e1:((a:Nat):Int) + 1 - 1=a:=by omega
   generalize hL:(v.drop a).take (k + 3)=L at *;go_wp2_with fail;rw[hk1];refine(U _ ao aB).mono ?_
   rintro e w2 ⟨g,rfl,B,f⟩;obtain⟨y,r,j,x,u,c⟩:=HH.out
   have hsz2:w.heap.size < w2.heap.size:=Nat.lt_of_lt_of_le aj f.size
   have S:s < wr.heap.size:=by
    rcases aa.lt with e | e
    ·subst e; simp at u
    ·exact e
   have HB2:=(show Hid _ from au.trans (f.mono (Nat.le_of_lt S)))
   clear au;have aC:=hq.keep f;have R:=dD.below f aE aj;have hu2:=aa.keep f;have ae:=dD.below f E S;have hv2:=aB.keep f;have hc:=aC.cell a (by omega);have hf:=R a (by omega);rw[Nat.zero_add] at hc hf;clear U ao;have hg0:=B.1;have hg1:=B.2.1;clear y r j x u c hq aE aa E aB;go_wp2_with fail
   have O:s≠w.heap.size:=by
    rcases hu.lt with e | e
    ·subst e; simp at ad
    ·omega
   have am:s<=w.heap.size:=by
    rcases hu.lt with e | e
    ·subst e; simp at ad
    ·omega
   have hbv:bv≠w.heap.size:=by
    rcases hv.lt with e | e
    ·subst e; simp at N
    ·omega
   obtain⟨y,r,j,x,u,c⟩:=HH.out
   have t:Wr w.heap.size 0 q0 w2 (w2.setCell ⟨w.heap.size,a,none⟩ (.int .u64 g)):=(Wr.refl _ _ _ _).setCell (by omega) (by omega) _;have aA:=aC.setCell (i:=a) (by omega) g;rw[Nat.zero_add] at aA;generalize w2.setCell ⟨w.heap.size,a,none⟩ (.int .u64 g)=w3 at *;have ag:=t.free R;have W:=t.free ae;have az:=hu2.wr t (.inr O);have aF:=hv2.wr t (.inr hbv)
   have hsz3:w.heap.size < w3.heap.size:=by rw[t.size]; exact hsz2
   have C:=az.fK a (k + 3);rw[hL] at C;have F:=W.fK (k:=a) (m:=k + 3) (by omega);refine(iK (some ⟨s,A + a,none⟩) s (A + a) (k + 3) (k + 3) av bv ov (k + 2) cv g L G w3 r N (by omega) (by omega) (Nat.le_refl _) hcv hg0 hg1 j wv C F aF (.inr ac)).mono ?_
   rintro e w4 ⟨fP,rfl,ho0,ho1,nw,Y,aD,ak,o,D⟩;have HB4:=(show Hid _ from(HB2.out.trans (t.below am)).trans (o.below (Nat.le_refl _)))
   have I:=o.free ag;have P:=o.free W;have ab:=aA.wr o (.inr (Ne.symm O));have aw:=aF.wr o (.inr ac);have ar:=az.patch o ak Y (by omega)
   have ai:w.heap.size < w4.heap.size:=by rw[o.size]; exact hsz3
   have hP:=fk (l:=v) (m:=nw) (k:=a) (by omega)
   have hVB3:val G < 18446744073709551616 ^ (k + 3):=by
    have:=pow_pos (k + 2);rw[Int.pow_succ _ (k + 2)]; omega
   have H:=dz aD;rw[Y] at H;have z:=fun Z=>De (Z:=Z) (n:=k + 3) B hVB3 D H (aM j) ho0
   clear t R ae hu2 hv2 aC ag W az aF C F o aA;by_cases ho:fP=0
   ·subst ho;have hx:=(z 0).1 rfl;have hJ:=c g nw hg0 hg1 aD Y hx.1 hx.2;have HJ:=(show Hid _ from hJ)
    clear hJ hx z c HH y r j x u D H hP;go_wp2_with fail;go_step3;refine And.intro (Eq.refl 0) (And.intro ?_ ?_)
    ·exact⟨a,lq.set a g,patch v a nw,_,_,_,_,_,_,_,_,_,_,_,_,_,_,_,_,_,_,_,_,_,_,_,_,_,_,_,_,_,_,_,_,_,_,_,_,_,_,_,_,_,_,_,_,_,_,_,rfl,by omega,HJ.out,ab,I,ar,P,aw,ai,HB4.out⟩
    ·simp[intOf]
   ·have hg1':1<=g:=((z ((val nw + val G * 1) % 18446744073709551616 ^ (k + 3))).2 ho rfl).1;have V:=ab.cell a (by simp; omega);have ap:=I a (by omega);rw[Nat.zero_add] at V ap;rw[dA (by omega),if_pos rfl] at V;have HN:=(show Hid _ from And.intro z (And.intro c (And.intro x (And.intro u (And.intro y (And.intro r (And.intro j (And.intro hP Y))))))))
    clear z c HH y r j x u D H hP
    have hgw:IntKind.u64.wrap (g - 1)=g - 1:=by rw[IntKind.wrap_u64]; omega
    have hob:(fP == 0)=false:=by simpa using ho
    go_wp2_with fail;obtain⟨z,c,x,u,y,r,j,hP,hnl'⟩:=HN.out
    have q:Wr w.heap.size 0 q0 w4 (w4.setCell ⟨w.heap.size,a,none⟩ (.int .u64 (g - 1))):=(Wr.refl _ _ _ _).setCell (by omega) (by omega) _;have aq:=ab.setCell (i:=a) (by simp; omega) (g - 1);rw[Nat.zero_add,List.set_set] at aq;generalize w4.setCell ⟨w.heap.size,a,none⟩ (.int .u64 (g - 1))=w5 at *;have ah:=q.free I;have T:=q.free P;have hu5:=ar.wr q (.inr O);have hv5:=aw.wr q (.inr hbv);have an:=ak.wr q (.inr O)
    have hsz5:w.heap.size < w5.heap.size:=by rw[q.size]; exact ai
    have M:=T.fK (k:=a) (m:=k + 3) (by omega);refine(eh (some ⟨s,A + a,none⟩) s (A + a) (k + 3) (k + 3) av bv ov (k + 2) cv 1 nw G w5 Y N (by omega) (by omega) (Nat.le_refl _) hcv (by omega) (by omega) aD wv an M hv5 (.inr ac)).mono ?_
    rintro e w6 ⟨rfl,n2,af,hnw6,hat6,p,X⟩;have HB6:=(show Hid _ from(HB4.out.trans (q.below am)).trans (p.below (Nat.le_refl _)))
    have hfq6:=p.free ah;have hfu6:=p.free T;have hq6:=aq.wr p (.inr (Ne.symm O));have hv6:=hv5.wr p (.inr ac);have hu6:=hu5.patch p hat6 af (by omega);rw[rm (by omega) (by omega)] at hu6
    have hsz6:w.heap.size < w6.heap.size:=by rw[p.size]; exact hsz5
    have hx:=(z (val n2)).2 ho X;have HJ:=(show Hid _ from c (g - 1) n2 (by omega) (by omega) hnw6 af hx.2.1 hx.2.2)
    clear hx z c HN y r j x u hP q aq ah T hu5 hv5 an M p ab I ar aw P X V ap;go_wp2_with fail;go_step3;refine And.intro (Eq.refl 0) (And.intro ?_ ?_)
    ·exact⟨a,lq.set a (g - 1),patch v a n2,_,_,_,_,_,_,_,_,_,_,_,_,_,_,_,_,_,_,_,_,_,_,_,_,_,_,_,_,_,_,_,_,_,_,_,_,_,_,_,_,_,_,_,_,_,_,_,rfl,by omega,HJ.out,hq6,hfq6,hu6,hfu6,hv6,hsz6,HB6.out⟩
    ·simp[intOf]
end
end
section
open Go.RowKit Lim
section
variable {l L:List Int}{k s:Nat}
theorem BO(wl:Words l){n:Nat}(hn:l.length=n + 1):nth l n * 18446744073709551616 ^ n<=val l/\val l < (nth l n + 1) * 18446744073709551616 ^ n:=by
 have e1:=bF l n (by omega);have b:=aM (wl.take n);have a:=dz (wl.take n);rw[List.length_take,Nat.min_eq_left (by omega)] at a;rw[dW (by omega),List.drop_of_length_le (show l.length<=n + 1 by omega)] at e1
 have e2:(18446744073709551616:Int) ^ n * (nth l n + 18446744073709551616 * val [])=nth l n * 18446744073709551616 ^ n:=by
  rw[show val []=0 from rfl]; grind
 rw[e2] at e1;rw[Int.add_mul (nth l n) 1];omega
theorem fi{a b p:Int}(hp:0 < p)(h:a * p < b * p):a < b:=Int.lt_of_mul_lt_mul_right h (Int.le_of_lt hp)
theorem sc{a:List Int}(l:Words L)(hL:L.length=k + 2)(f:Words a)(hv:a.length=k + 3)(hs:s<=63)(e:val a=val L * 2 ^ s)(b0:9223372036854775808<=nth L (k + 1) * 2 ^ s)(h:nth L (k + 1) * 2 ^ s < 18446744073709551616):aI a=k + 2/\9223372036854775808<=nth a (k + 1):=by
 obtain⟨t1,t2⟩:=BO (n:=k + 1) l hL;obtain⟨q,m⟩:=BO (n:=k + 2) f hv
 have b:(0:Int) < 2 ^ s:=Int.pow_pos (by decide);have d:=pow_pos (k + 1);have hC:=pow_pos (k + 2)
 have c1:(nth L (k + 1) + 1) * 2 ^ s<=18446744073709551616:=by
  have j:(18446744073709551616:Int)=2 ^ (64 - s) * 2 ^ s:=by rw[<- Int.pow_add,show 64 - s + s=64 by omega]; rfl
  rw[j] at h ⊢;have:=fi b h;exact Int.mul_le_mul_of_nonneg_right (by omega) (Int.le_of_lt b)
 have c2:val a < 1 * 18446744073709551616 ^ (k + 2):=by
  have k1:val L * 2 ^ s < (nth L (k + 1) + 1) * 18446744073709551616 ^ (k + 1) * 2 ^ s:=Int.mul_lt_mul_of_pos_right t2 b
  have k2:(nth L (k + 1) + 1) * 2 ^ s * 18446744073709551616 ^ (k + 1)<=18446744073709551616 * 18446744073709551616 ^ (k + 1):=Int.mul_le_mul_of_nonneg_right c1 (Int.le_of_lt d);rw[Int.mul_right_comm] at k1;rw[Int.pow_succ _ (k + 1),Int.mul_comm _ 18446744073709551616];omega
 have o:nth a (k + 2) < 1:=fi hC (by omega)
 have g:nth a (k + 2)=0:=by have:=f.nth (k + 2); omega
 have e1:=bF a (k + 2) (by omega);rw[dW (by omega),List.drop_of_length_le (show a.length<=k + 2 + 1 by omega),g,show val []=0 from rfl] at e1;obtain⟨v1,v2⟩:=BO (n:=k + 1) (f.take (k + 2)) (by simp; omega);rw[du (by omega)] at v1 v2
 have p:9223372036854775808 * 18446744073709551616 ^ (k + 1)<=val a:=by
  have k1:nth L (k + 1) * 18446744073709551616 ^ (k + 1) * 2 ^ s<=val L * 2 ^ s:=Int.mul_le_mul_of_nonneg_right t1 (Int.le_of_lt b)
  have k2:9223372036854775808 * 18446744073709551616 ^ (k + 1)<=nth L (k + 1) * 2 ^ s * 18446744073709551616 ^ (k + 1):=Int.mul_le_mul_of_nonneg_right b0 (Int.le_of_lt d);rw[Int.mul_right_comm] at k1;omega
 have r:9223372036854775808 < nth a (k + 1) + 1:=fi d (by omega);refine⟨jL (by omega) ?_ ?_,by omega⟩
 ·intro i hi;by_cases c:i=k + 2
  ·subst c; exact g
  ·simp[nth,List.getElem?_eq_none (show a.length<=i by omega)]
 ·intro _;rw[show k + 2 - 1=k + 1 from rfl]; omega
theorem Dw{N:Nat}(wl:Words l)(a:l.length=N)(f:Words L)(hL:L.length=k + 2)(d:1<=nth L (k + 1))(h:k + 2<=N) :
  val l * 2 ^ s < val L * 2 ^ s * 18446744073709551616 ^ (N + 1 - (k + 2)):=by
 obtain⟨t1,t2⟩:=BO (n:=k + 1) f hL
 have e:(0:Int) < 2 ^ s:=Int.pow_pos (by decide);have g:=pow_pos (k + 1);have c:=pow_pos (N + 1 - (k + 2));have b:=dz wl;rw[a] at b
 have k1:1 * 18446744073709551616 ^ (k + 1)<=nth L (k + 1) * 18446744073709551616 ^ (k + 1):=Int.mul_le_mul_of_nonneg_right d (Int.le_of_lt g)
 have k2:18446744073709551616 ^ (k + 1) * 18446744073709551616 ^ (N + 1 - (k + 2))<=val L * 18446744073709551616 ^ (N + 1 - (k + 2)):=Int.mul_le_mul_of_nonneg_right (by omega) (Int.le_of_lt c);rw[<- Int.pow_add,show k + 1 + (N + 1 - (k + 2))=N by omega] at k2;rw[Int.mul_right_comm];exact Int.mul_lt_mul_of_pos_right (by omega) e
theorem AM{x V Q R P:Int}(g:0 < P)(i:0 < V)(e:x * P=Q * (V * P) + R)(r0:0<=R)(r1:R < V * P):Q=x / V/\R / P=x % V:=by
 have f:R=(x - Q * V) * P:=by rw[Int.sub_mul,e,Int.mul_assoc]; omega
 have d:R / P=x - Q * V:=by rw[f,Int.mul_ediv_cancel _ (by omega)]
 have h:0<=x - Q * V:=by rw[<- d]; exact Int.ediv_nonneg r0 (Int.le_of_lt g)
 have j:x - Q * V < V:=fi g (by rw[<- f]; exact r1);have c:=(Int.ediv_emod_unique (a:=x) (b:=V) (r:=x - Q * V) (q:=Q) i).2 ⟨by rw[Int.mul_comm V]; omega,h,j⟩;exact⟨c.1.symm,by rw[d]; exact c.2.symm⟩
theorem xp(ao:Option Addr)(n c b o:Nat)(ao':Option Addr)(n' c' b' o':Nat)(l d:List Int)(w:World)(hl:l.length=n)(hl':d.length=n')(hc:n<=c)(hc':n'<=c')(hbig:n<=1099511627776)(hbig':n'<=1099511627776)(wl:Words l)(u:Words d)(ha:At w ao b o l)(ha':At w ao' b' o' d)(hge:val d<=val l)(h2:2<=aI d) :
  Calls Tryz.prog 70 #[.slice ao n c,.slice ao' n' c'] w fun e w'=>ji w w' e (val l) (val d) n n':=by
 have h0:=aM wl;have hn:=bB l
 have hn':=bB d
 have hNN:aI d<=aI l:=by
  by_cases c:aI l < aI d
  ·have:=dC wl u c; omega
  ·omega
 have t1:=bj ao' n' c' d w hl' hc' (by omega) ha'.cells
 have v:=ha'.sub (aI d);rw[show d.take (aI d)=norm d from rfl] at v;have t2:=ij ao n c b o ao' (aI d) (aI d) b' o' l (norm d) w hl (aK d) hc (Nat.le_refl _) (by omega) (by omega) wl u.norm ha v;rw[cV] at t2
 have hs0:0<=sgn (val l) (val d):=by unfold sgn; split<;>(try split)<;>omega
 have f:=aK d
 have E:=u.norm
 have g:=cV d
 have Z:nth (norm d) (aI d - 1)≠0:=by rw[ga]; exact iA (by omega)
 generalize norm d=L' at *;generalize t:aI d=q at *;obtain⟨m,hm⟩:∃ m,q=m + 1:=⟨q - 1,by omega⟩
 rw[show q - 1=m by omega] at Z
 have hmi:(q:Int) - 1=m:=by omega
 have hmN:m < q:=by omega
 have hmN':(m:Int) < q:=by omega
 have hty:=E.nth m;rcases v.loc with e | rfl
 ·subst e; simp at f; omega
 generalize sgn (val l) (val d)=sg at *;have H1:=(show Hid _ from And.intro g (And.intro hm (And.intro f (And.intro hge (And.intro hl t)))))
 clear g hm f t;go_enter Tryz.func70,Tryz.ntmps70;go_wp2_with fail;refine t1.mono ?_
 rintro e w1 ⟨rfl,rfl⟩;go_wp2_with fail;refine t2.mono ?_
 rintro e w2 ⟨rfl,r⟩;have hcy:=(v.keep r).cell m (by rw[H1.out.2.2.1]; exact hmN);clear t1 t2;go_wp2_with fail;refine(D7 (nth L' m) w2 (by omega) hty.2).mono ?_
 rintro e w3 ⟨s,rfl,hs,HS,rfl⟩;have ta:=bj ao n c l w3 hl hc (by omega) (ha.keep r).cells;have ab:=(ha.keep r).sub (aI l);rw[show l.take (aI l)=norm l from rfl] at ab;have O:=aK l;have hwn:=wl.norm;have HV:=(show Hid _ from cV l)
 rw[hl] at hn;generalize norm l=L at *;generalize aI l=N at *;clear hcy;go_wp2_with fail;refine ta.mono ?_
 rintro e S ⟨rfl,rfl⟩;clear ta;go_wp2_with fail;refine(nW ao N N b o s L S O (Nat.le_refl _) (by omega) hs hwn ab).mono ?_
 rintro e w5 ⟨lu,rfl,hlu,hwu,hatu,hfu,hszu,hvu,M⟩;have hs5:=(v.keep r).keep M;have HU:=(show Hid _ from And.intro hlu (And.intro hvu O))
 clear hlu hvu O;go_wp2_with fail;refine(nW (some ⟨b',o',none⟩) q q b' o' s L' w5 H1.out.2.2.1 (Nat.le_refl _) (by omega) hs E hs5).mono ?_
 rintro e w6 ⟨Q,rfl,hlv,W,H,hfv,hszv,C,D⟩;obtain⟨k,hk⟩:∃ k,k + 2=q:=⟨q - 2,by omega⟩
 obtain⟨q0,y⟩:∃ q0,q0 + (k + 2)=N + 1:=⟨N + 1 - (k + 2),by omega⟩
 obtain⟨g,hm,f,hge',hl2,t⟩:=H1.out
 have hmk:m=k + 1:=by omega
 have F:=sc (k:=k) E (by omega) W (by omega) hs C (by rw[<- hmk]; exact HS.out.1) (by rw[<- hmk]; exact HS.out.2);have P:=Dw (s:=s) (N:=N) (k:=k) (l:=L) (L:=L') hwn HU.out.2.2 E (by omega) (by rw[<- hmk]; omega) (by omega);rw[<- HU.out.2.1,<- C,show N + 1 - (k + 2)=q0 by omega] at P;have tv:=bj (some ⟨w5.heap.size,0,none⟩) (q + 1) (q + 1) Q w6 hlv (Nat.le_refl _) (by omega) H.cells;rw[F.1,hk] at tv;have aa:=H.sub (aI Q);rw[show Q.take (aI Q)=norm Q from rfl] at aa;have x:=aK Q;rw[F.1] at x;have K:=lW S.heap.size 0 (N + 1) (some ⟨w5.heap.size,0,none⟩) k q0 q w5.heap.size 0 lu (norm Q) w6 (by rw[y]; exact HU.out.1) x (by omega) (by omega) (by omega) (by omega) hwu W.norm (hatu.keep D) (by rw[y]; exact dD.below D hfu hszu) aa (by omega) (by rw[ga]; exact F.2) (by rw[cV]; exact P);rw[y,hk,cV] at K;have HK:=(show Hid _ from And.intro hk (And.intro y (And.intro C hmk)))
 have hq0n:q0<=N:=by omega
 clear g hm f t hk y hmk F P x C hl2;go_wp2_with fail;refine tv.mono ?_
 rintro e w7 ⟨rfl,rfl⟩;clear tv;go_wp2_with fail;refine K.mono ?_
 rintro e w8 ⟨lq,lr,rfl,G,V,hfq,hatr,U,hbd⟩;clear K
 have B:lr.length=N + 1:=by rw[G.Ce]; exact HK.out.2.1
 have T:=(show Hid _ from G)
 have I:=G.wu;clear G;go_wp2_with fail;refine(vL (some ⟨S.heap.size,0,none⟩) S.heap.size 0 (N + 1) (N + 1) s lr w8 B (by omega) (Nat.le_refl _) hs I hatr U).mono ?_
 rintro e w9 ⟨rfl,lz,z,hwz,J,p,A⟩;have hq9:=V.wr p (.inr (by omega));have X:=p.free hfq;have R:=p.free U;have tq:=bj (some ⟨w7.heap.size,0,none⟩) q0 q0 lq w9 T.out.BR (Nat.le_refl _) (by omega) hq9.cells;have tr:=bj (some ⟨S.heap.size,0,none⟩) (N + 1) (N + 1) lz w9 z (Nat.le_refl _) (by omega) J.cells;have hz1:=bB lz;have hz2:=bB lq;rw[T.out.BR] at hz2;rw[z] at hz1;have HX:=(show Hid _ from And.intro B (And.intro z A))
 clear B z A;go_wp2_with fail;refine tq.mono ?_
 rintro e w10 ⟨rfl,rfl⟩;go_wp2_with fail;refine tr.mono ?_
 rintro e w11 ⟨rfl,rfl⟩;clear tq tr;go_wp2;go_ret3;have hsq:=hq9.sub (aI lq);have hsz:=J.sub (aI lz);have j:=r.size;have hsz5:=M.size;have hsz7:=D.size
 have HB:Below w1.heap.size w1 w11:=(((r.trans (M.mono j)).trans (D.mono (by omega))).trans (hbd.mono j)).trans (p.below j);obtain⟨g,hm,f,hge',hl2,t⟩:=H1.out;obtain⟨B,z,A⟩:=HX.out;have he:=T.out.eq;have Y:=T.out.lt;rw[HU.out.2.1,HV.out,HK.out.2.2.1,g,Int.pow_zero,Int.one_mul,List.drop_zero] at he;rw[HK.out.2.2.1,g,Int.pow_zero,Int.mul_one] at Y
 have hV:0 < val d:=by
  have:val d≠0:=fun e=>by have:=(bZ u).2 e; omega
  have:=aM u;omega
 have hdb:=AM (fO s hs).1 hV he (aM I) Y;have i1:=cj T.out.wq;have i2:=cj hwz;rw[hdb.1] at i1;rw[A,hdb.2] at i2;exact⟨_,_,norm lq,norm lz,rfl,dF.of (aK lq).symm (Nat.le_refl _) (by omega) hsq (fun i hi=>X i (by omega)),dF.of (aK lz).symm (Nat.le_refl _) j hsz (fun i hi=>R i (by omega)),i1,i2,by rw[aK]; omega,by rw[aK]; omega,HB⟩
theorem uw(ao:Option Addr)(n c b o:Nat)(ao':Option Addr)(n' c' b' o':Nat)(l d:List Int)(w:World)(k:l.length=n)(j:d.length=n')(hc:n<=c)(i:n'<=c')(f:n<=1099511627776)(a:n'<=1099511627776)(wl:Words l)(g:Words d)(p:At w ao b o l)(h:At w ao' b' o' d)(m:val d≠0) :
  Calls Tryz.prog 70 #[.slice ao n c,.slice ao' n' c'] w fun e w'=>ji w w' e (val l) (val d) n n':=by
 by_cases r:val l < val d
 ·exact div_lt ao n c b o ao' n' c' b' o' l d w k j hc i f a wl g p h r
 ·have s:aI d≠0:=fun e=>m ((bZ g).1 e)
  by_cases q:aI d=1
  ·exact div_one ao n c b o ao' n' c' b' o' l d w k j hc i f a wl g p h (by omega) q
  ·exact xp ao n c b o ao' n' c' b' o' l d w k j hc i f a wl g p h (by omega) (by omega)
theorem tK(ao:Option Addr)(n c b o:Nat)(ao':Option Addr)(n' c' b' o':Nat)(ad:Option Addr)(i x N O:Nat)(l p g:List Int)(w:World)(P:l.length=n)(C:p.length=n')(H:g.length=i)(hc:n<=c)(y:n'<=c')(I:i<=x)(L:n<=274877906944)(J:n'<=274877906944)(t:i<=274877906944)(wl:Words l)(A:Words p)(wd:Words g)(ha:At w ao b o l)(F:At w ao' b' o' p)(B:At w ad N O g)(z:val g≠0) :
  Calls Tryz.prog 93 #[.slice ao n c,.slice ao' n' c',.slice ad i x] w fun e w'=>ji w w' e (val l * val p) (val g) (n + n') i:=by
 go_enter Tryz.func93,Tryz.ntmps93;go_wp2_with fail;refine(oL ao n c b o ao' n' c' b' o' l p w P C hc y (by omega) (by omega) wl A ha F).mono ?_
 rintro e Y ⟨v,r,rfl,s,M,hlen,d⟩;obtain⟨W,U,or',Q,rfl,K,V,m,_⟩:=s.is;have j:=B.keep d;have f:=d.size;have t2:=uw W r.length Q U or' ad i x N O r g Y rfl H K I (by omega) (by omega) M.1 wd m j z;rw[M.2.2] at t2;go_wp2_with fail;refine t2.mono ?_
 rintro e w2 ⟨q,u,R,X,rfl,Z,hu,D,E,S,T,G⟩;go_wp2;go_ret3;exact⟨q,u,R,X,rfl,Z.mono f,hu.mono f,D,E,by omega,by omega,d.trans (G.mono f)⟩
end
end
section
open Go.RowKit Lim
section
variable {w:World}{B:Nat}{v:Value}{l l1:List Int}{c m c0:Int}
def ep(w:World)(B:Nat)(v:Value)(l:List Int):Prop:=w.ownsRow B 22 1 v l.length (l.map (Value.int .u64))
theorem ep.open(h:ep w B v l):∃ ao c,v=.slice ao l.length c/\l.length<=c/\c<=maxLen/\∃ g,(l=[]\/ao=some ⟨g,0,none⟩)/\B<=g/\At w ao g 0 l/\dD w g 0 l.length:=by
 obtain⟨_,a⟩:=h;rcases a with⟨rfl,h0⟩ | ⟨g,cap,cur,rfl,hB,hh,hle,hmx,hsz,htk⟩
 ·have e:l=[]:=List.eq_nil_of_length_eq_zero h0;subst e;exact⟨none,0,rfl,Nat.le_refl _,by decide,B,.inl rfl,Nat.le_refl _,⟨.inl rfl,fun i hi=>by simp at hi⟩,fun i hi=>by simp at hi⟩
 ·refine⟨some ⟨g,0,none⟩,cap,rfl,hle,hmx,g,.inr rfl,hB,⟨.inr rfl,fun i hi => ?_⟩,fun i hi => ?_⟩
  ·have e:cur.toList[i]? = some (.int .u64 (nth l i)):=by
    have b:(cur.toList.take (l.length * 1))[i]? = some (.int .u64 (nth l i)):=by
     rw[htk,List.getElem?_map,List.getElem?_eq_getElem hi,bT hi]; rfl
    rwa [Nat.mul_one,List.getElem?_take_of_lt hi] at b
   simp only[World.cell?,hh];simpa using e
  ·simp[World.frozen?,hh]
theorem ep.setCell(h:ep w B v l){c g:Nat}(hv:v=.slice (some ⟨g,0,none⟩) l.length c){i:Nat}(hi:i < l.length)(x:Int):ep (w.setCell ⟨g,0 + i,none⟩ (.int .u64 x)) B v (l.set i x):=by
 obtain⟨_,a⟩:=h;refine⟨by simp,?_⟩;rcases a with⟨rfl,h0⟩ | ⟨g',cap,cur,rfl,hB,hh,hle,hmx,hsz,htk⟩
 ·omega
 ·simp only[Value.slice.injEq,Option.some.injEq,Addr.mk.injEq,and_true,true_and] at hv;obtain⟨rfl,rfl⟩:=hv;right;refine⟨g',cap,cur.setIfInBounds i (.int .u64 x),by simp,hB,?_,by simpa using hle,hmx,by simpa using hsz,?_⟩
  ·simp only[World.setCell,Array.getElem?_modify,if_true,hh,Nat.zero_add];simp
  ·rw[List.length_set,Nat.mul_one] at *;rw[Array.toList_setIfInBounds,List.map_set,<- htk,List.take_set]
theorem ep.new{w':World}(h:ep w' w.heap.size v l):dF w w' v l:=by
 obtain⟨ao,c,rfl,hc,_,g,_,hg,hat,hf⟩:=h.open;exact⟨ao,g,0,c,rfl,hc,hg,hat,hf⟩
structure l8(l:List Int)(m c0:Int)(k:Nat)(l1:List Int)(c:Int):Prop where
 len:l1.length=l.length
 words:Words l1
 high:∀ i,k<=i->nth l1 i=nth l i
 val:Lim.val (l1.take k) + 18446744073709551616 ^ k * c=Lim.val (l.take k) * m + c0
theorem l8.step{a c':Int}{k:Nat}(h:l8 l m c0 k l1 c)(g:k < l.length)(b:0<=a)(d:a < 18446744073709551616)(e:a + 18446744073709551616 * c'=nth l k * m + c):l8 l m c0 (k + 1) (l1.set k a) c':=by
 have f:=h.len;refine⟨by simp[f],h.words.set k b d,fun i hi=>by rw[dA (by omega),if_neg (by omega)]; exact h.high i (by omega),?_⟩;have j:=h.val;rw[dw (by simp[f]; omega),dw g,List.take_set_of_le (Nat.le_refl _),dA (by omega),if_pos rfl,Int.pow_succ];have:18446744073709551616 ^ k * (a + 18446744073709551616 * c')=18446744073709551616 ^ k * (nth l k * m + c):=by rw[e]
 grind
theorem nN(n:Nat)(w:World)(hn:n<=19):Calls Tryz.prog 161 #[.int .i64 n] w fun e w'=>e=.returned (.int .u64 (10 ^ n))/\w'=w:=by
 go_enter Tryz.func161,Tryz.ntmps161;go_wp2;go_loop [3,5] (fun f c=>∃ (k:Nat) (p:Int),k<=n/\c=.int .i64 k/\f=.int .u64 p/\Hid (p=10 ^ k)) (fun _ c=>n - (intOf c).toNat)
 case atStart=>exact⟨0,1,Nat.zero_le _,rfl,rfl,rfl⟩
 case round =>
  obtain⟨k,p,j,rfl,rfl,b⟩:=hrel;by_cases g:k < n
  ·have l:(1:Int)<=p:=by rw[b.out]; exact Int.pow_pos (by decide)
   have i:p<=1000000000000000000:=by
    rw[b.out];have:(10:Nat) ^ k<=10 ^ 18:=Nat.pow_le_pow_right (by decide) (by omega)
    have e:((10 ^ k:Nat):Int)=(10:Int) ^ k:=by rw[Int.natCast_pow]; rfl
    rw[<- e]; omega
   go_wp2;go_round
   case rel=>exact⟨k + 1,p * 10,by omega,by go_num,rfl,by show _=_; rw[Int.pow_succ,<- b.out]⟩
   case measure=>simp[intOf]; omega
  ·have d:k=n:=by omega
   subst d;go_wp2;go_ret;exact⟨j4 b.out,rfl⟩
theorem wJ(hc:c≠0):aI (l ++ [c])=(l ++ [c]).length:=by
 apply jL (Nat.le_refl _)
 ·intro i hi; exact fR hi
 ·intro _; rw[List.length_append,List.length_singleton,Nat.add_sub_cancel,bJ (Nat.le_refl _),Nat.sub_self,cI]; exact hc
theorem tY{r:List Int}(wl:Words l)(wr:Words r)(hlen:r.length=l.length)(hv:val r=val l * m + c)(hm:0 < m)(hc:0<=c)(hn:aI l=l.length):aI r=r.length:=by
 have g:=bB r;by_cases e:l.length=0
 ·omega
 have d:=fI wl (by omega);have h:=gN wr;have b:=aM wl
 have f:val l * 1<=val l * m:=Int.mul_le_mul_of_nonneg_left (by omega) b;by_cases a:aI r < r.length
 ·have:=gK (show aI r<=aI l - 1 by omega);omega
 ·omega
theorem l8.fin(h:l8 l m c0 l.length l1 c):Lim.val (l1 ++ [c])=Lim.val l * m + c0:=by
 have a:=h.val;rw[List.take_of_length_le (by rw[h.len]; exact Nat.le_refl _),List.take_of_length_le (Nat.le_refl _)] at a;rw[ea,eA,h.len]; exact a
theorem nQ(B:Nat)(v:Value)(l:List Int)(m c0:Int)(w:World)(hB:B<=w.heap.size)(b:ep w B v l)(G:l.length<=1099511627776)(wl:Words l)(I:0<=m)(W:m < 18446744073709551616)(C:0<=c0)(U:c0 < 18446744073709551616) :
  Calls Tryz.prog 206 #[v,.int .u64 m,.int .u64 c0] w fun e w'=>∃ v' r,e=.returned v'/\ep w' B v' r/\Words r/\val r=val l * m + c0/\r.length<=l.length + 1/\(aI l=l.length->0 < m->aI r=r.length)/\Below B w w':=by
 obtain⟨i0,hi,S,O,R⟩:=info_parts gH;obtain⟨ao,cap,rfl,A,hmax,g,q,hBg,_,_⟩:=b.open
 have P:∃ n,n=l.length:=⟨_,rfl⟩
 obtain⟨n,hn⟩:=P
 have T:n<=l.length:=by omega
 have hn2:l.length<=n:=by omega
 have t:Hid (n=l.length):=hn;rw[<- hn] at b G A ⊢;clear hn;go_enter Tryz.func206,Tryz.ntmps206;go_wp2;go_loopw [2,13] (fun tc V wr=>∃ (k:Nat) (c:Int) (l1:List Int),k<=n/\V=.int .i64 k/\tc=.int .u64 c/\0<=c/\c < 18446744073709551616/\l8 l m c0 k l1 c/\ep wr B (.slice ao n cap) l1/\Below B w wr) (fun _ V _=>n - (intOf V).toNat)
 case atStart=>exact⟨0,c0,l,Nat.zero_le _,rfl,rfl,C,U,⟨rfl,wl,fun _ _=>rfl,by simp[val]⟩,b,Below.refl _ _⟩
 case round =>
  clear b;obtain⟨k,c,l1,hk,rfl,rfl,p,J,hinv,b,d⟩:=hrel;have f:=hinv.len;by_cases hlt:k < n
  ·rcases q with e | rfl
   ·subst e; simp at T; omega
   obtain⟨ao',c',e',_,_,L,j,K,F,E⟩:=b.open;simp only[Value.slice.injEq] at e';obtain⟨rfl,e1,rfl⟩:=e'
   have Y:L=g:=by
    rcases j with e | e
    ·subst e; simp at e1; omega
    ·simpa using e.symm
   subst Y;have z:=F.cell k (by omega);have M:=E k (by omega);rw[Nat.zero_add] at z M;rw[hinv.high k (Nat.le_refl _)] at z;obtain⟨X,Z⟩:=wl.nth k
   have HI:Hid (l8 l m c0 k l1 c):=hinv
   have HM:Hid (ep wr B (.slice (some ⟨L,0,none⟩) n cap) l1):=b
   have HB:Hid (Below B w wr):=d
   have HE:Hid (n=l1.length):=e1;clear hinv b d F E j e1 wl
   go_wp2_with (first
    | (go_at_call 89; refine(lG _ _ X Z I W _).mono ?_; rintro e w' ⟨N,lo,rfl,h1,h2,h3,h4,h5,rfl⟩)
    | simp only[rW _ _ h3 p])
   have hxm:nth l k * m<=340282366920938463426481119284349108225:=by
    have:=Int.mul_le_mul (show nth l k<=18446744073709551615 by omega) (show m<=18446744073709551615 by omega) I (by decide);simpa using this
   have h5':=h5.out
   have e5:(lo + c) % 18446744073709551616 + 18446744073709551616 * (N + (lo + c) / 18446744073709551616)=nth l k * m + c:=by omega
   have HN:=HM.out.setCell (c:=cap) (g:=L) (by rw[<- HE.out]) (i:=k) (by omega) ((lo + c) % 18446744073709551616);rw[Nat.zero_add] at HN;go_roundw
   case rel=>exact⟨k + 1,_,_,by omega,by go_num,rfl,by omega,by omega,HI.out.step (by omega) (Int.emod_nonneg _ (by decide)) (Int.emod_lt_of_pos _ (by decide)) e5,HN,HB.out.setCell K _⟩
   case measure=>simp[intOf]; omega
  ·have Q:k=n:=by omega
   subst Q
   have HF:Hid (val (l1 ++ [c])=val l * m + c0):=by rw[t.out] at hinv; exact hinv.fin
   have x:=hinv.words;by_cases hc:c=0
   ·subst hc;go_wp2;go_ret
    have D:val l1=val l * m + c0:=by rw[<- HF.out,ea]; simp[val]
    refine⟨_,l1,rfl,b,x,D,by omega,fun h1 h2=>tY wl x (by omega) D h2 C (by omega),d⟩
   ·have hcb:(c != 0)=true:=by rw[bne_iff_ne]; exact hc
    have H:wr.ownsRow B 22 1 (.slice ao k cap) k (l1.map (Value.int .u64)):=by have:=b; unfold ep at this; rwa [f,<- t.out] at this
    have hsz:=d.size;go_wp2_with (at_builtin; refine wpList_append_own _ rfl _ _ 30 rfl B 22 i0 (.int .u64 0) 1 8 fX hi S O R rfl (by decide) _ _ _ rfl (H.alloc _) ⟨wr.heap.size,0,none⟩ 1 1 [.int .u64 c] rfl rfl ?c1 ?c2 ?c3 ?c4 ?c5 ?_)
    case c1=>exact cell_one_new _ _ _
    case c2=>intro u hu; simp at hu; subst hu; rfl
    case c3=>unfold maxLen; omega
    case c4=>omega
    case c5=>simp; omega
    intro v' w1 s y _;go_wp2;go_ret
    have hM:ep w1 B v' (l1 ++ [c]):=by
     unfold ep;rw[List.length_append,f,<- t.out,List.map_append]; exact s
    refine⟨_,l1 ++ [c],rfl,hM,x.append (Words.cons p J Words.nil),HF.out,by simp; omega,fun _ _=>wJ hc,?_⟩
    exact(d.alloc (by omega) _).grown y (by simp; omega) (by
     intro g1 o;rcases q with e | rfl
     ·subst e;rcases b.2 with⟨e2,_⟩ | ⟨g2,cap2,cur2,e2,hB2,_⟩
      ·rw[e2] at o; simp[Value.ownBlock] at o
      ·rw[e2] at o; simp[Value.ownBlock] at o; omega
     ·simp[Value.ownBlock] at o; omega)
end
end
section
open Go.RowKit Lim
section
variable {w:World}{l:List Int}{ops:Array Oper}{rest:List Oper}
theorem ep.cell{B g n c:Nat}(h:ep w B (.slice (some ⟨g,0,none⟩) n c) l){i:Nat}(hi:i < l.length):w.cell? ⟨g,i,none⟩=some (.int .u64 (nth l i))/\w.frozen? ⟨g,i,none⟩=false:=by
 obtain⟨o,p,e,_,_,k,a,_,b,d⟩:=h.open;simp only[Value.slice.injEq] at e;obtain⟨rfl,_,_⟩:=e
 have m:k=g:=by
  rcases a with e | e
  ·subst e; simp at hi
  ·simpa using e.symm
 subst m;have j:=b.cell i hi;have f:=d i hi;rw[Nat.zero_add] at j f;exact⟨j,f⟩
theorem wj{o:Oper}{a:Act}{Q:Exit->Act->World->Prop}(j:o.guard=none)(l c:Operand)(f:o.op=Op.makeSlice 30 l c)(n m:Nat)(L C:Int)(g:a.eval l=.int .i64 L)(hc:a.eval c=.int .i64 C)(hL:L=(n:Int))(hC:C=(m:Int))(e:n<=m)(hn:m<=17592186044416)(k:∀ w',ep w' w.heap.size (.slice (some ⟨w.heap.size,0,none⟩) n m) (List.replicate n 0)->Below w.heap.size w w'->w'.heap.size=w.heap.size + 1->wpList Tryz.prog ops Q rest (a.put o.dst (.slice (some ⟨w.heap.size,0,none⟩) n m)) w') :
  wpList Tryz.prog ops Q (o :: rest) a w:=by
 obtain⟨i,hi,h,hs,hb⟩:=info_parts gH;refine wpList_plain j fun K d => ?_
 have b:=run_make (P:=Tryz.prog) w 30 22 i (.int .u64 0) fX hi h .i64 .i64 (n:Int) (m:Int) (by omega) (by omega) (by rw[hb]; omega) (by omega);subst hL;subst hC;unfold Oper.wp;simp only[execOp,f,g,hc];simp[b,Result.andThen];refine d _ _ (k _ ⟨by simp,.inr ⟨w.heap.size,m,((List.replicate m 0).map (Value.int .u64)).toArray,by simp,Nat.le_refl _,?_,by simpa using e,by unfold maxLen; omega,by simp,?_⟩⟩ ?_ ?_)
 ·show (w.heap.push _)[w.heap.size]? = _
  rw[Array.getElem?_push_size,hs,Nat.mul_one,qL]
 ·simp; omega
 ·exact(Below.refl _ _).alloc (Nat.le_refl _) _
 ·simp
theorem vI(n:Nat)(w:World)(hn:n<=4096) :
  Calls Tryz.prog 165 #[.int .i64 n] w fun e w'=>∃ v r,e=.returned (.tuple #[v,.int .i64 0])/\dF w w' v r/\IsN r (10 ^ n)/\r.length<=n + 2/\Below w.heap.size w w':=by
 obtain⟨q,V⟩:∃ q:Nat,q=n / 19:=⟨_,rfl⟩
 obtain⟨t,T⟩:∃ t:Nat,t=n % 19:=⟨_,rfl⟩
 have X:(n:Int) / 19=q:=by omega
 have M:(n:Int) % 19=t:=by omega
 have W:t < 19:=by omega
 have L:Hid (n=19 * q + t):=by show _=_; omega
 have P:q<=n:=by omega
 clear V T
 have K:decide ((n:Int) < 0)=false:=by simp
 have N:decide (4096 < (n:Int))=false:=by simp; omega
 go_enter Tryz.func165,Tryz.ntmps165;go_wp2_with (at_make; refine wj rfl _ _ rfl 1 (q + 1) _ _ rfl rfl rfl (by omega) (by omega) (by omega) ?_; intro w1 b m j; have I:=b.cell (i:=0) (by simp); obtain⟨G,H⟩:=I);have x:=b.setCell (c:=q + 1) (g:=w.heap.size) rfl (i:=0) (by simp) 1;rw[show (List.replicate 1 (0:Int)).set 0 1=[1] from rfl,Nat.add_zero] at x;have E:=m.setCell (p:=⟨w.heap.size,0,none⟩) (Nat.le_refl _) (.int .u64 1);clear b m G H;go_loopw [4,19] (fun U F wr=>∃ (k:Nat) (l:List Int),k<=q/\F=.int .i64 k/\ep wr w.heap.size U l/\Words l/\Hid (aI l=l.length)/\Hid (val l=10 ^ (19 * k))/\l.length<=k + 1/\Below w.heap.size w wr) (fun _ F _=>q - (intOf F).toNat)
 case atStart=>exact⟨0,[1],Nat.zero_le _,rfl,x,Words.cons (by decide) (by decide) Words.nil,rfl,rfl,by simp,E⟩
 case round =>
  clear x E j;obtain⟨k,l,hk,rfl,hm,wl,C,hv,hlen,s⟩:=hrel;have j:=s.size;by_cases R:k < q
  ·go_wp2_with (go_at_call 206; refine(nQ w.heap.size _ l 10000000000000000000 0 _ j hm (by omega) wl (by decide) (by decide) (by decide) (by decide)).mono ?_; rintro e O ⟨J,r,rfl,o,z,f,A,u,d⟩);have e1:=hv.out;have e2:=u C.out (by decide);go_roundw
   case rel=>exact⟨k + 1,r,by omega,by go_num,o,z,e2,by show _=_; rw[f,e1,Int.add_zero,show 19 * (k + 1)=19 * k + 19 from by omega,Int.pow_add]; rfl,by omega,s.trans d⟩
   case measure=>simp[intOf]; omega
  ·have B:k=q:=by omega
   have Y:Hid (k=q):=B;clear B
   have D:(0:Int) < 10 ^ t:=Int.pow_pos (by decide)
   have y:(10:Int) ^ t < 18446744073709551616:=by
    have:(10:Nat) ^ t<=10 ^ 18:=Nat.pow_le_pow_right (by decide) (by omega)
    have e:((10 ^ t:Nat):Int)=(10:Int) ^ t:=by rw[Int.natCast_pow]; rfl
    have e2:(10:Nat) ^ 18=1000000000000000000:=by decide
    omega
   have S:=nN t wr (by omega);generalize hp:(10:Int) ^ t=p at *
   have Q:Hid ((10:Int) ^ t=p):=hp;clear hp;go_wp2_with fail;refine S.mono ?_
   rintro e Z ⟨rfl,rfl⟩;go_wp2_with fail;refine(nQ w.heap.size _ l p 0 _ j hm (by omega) wl (by omega) y (by decide) (by decide)).mono ?_
   rintro e O ⟨J,r,rfl,o,z,f,A,u,d⟩;have e1:=hv.out;have e2:=u C.out D
   have e3:val r=10 ^ n:=by rw[f,e1,Int.add_zero,L.out,Int.pow_add,Q.out,Y.out]
   clear f;go_wp2;go_ret2;exact⟨J,r,rfl,o.new,⟨z,e2,e3⟩,by omega,s.trans d⟩
end
end
section
open Go.RowKit Lim
end
section
open Go.RowKit Lim
section
variable {w w':World}{ao:Option Addr}{b o:Nat}{l:List Int}
structure AtB(w:World)(ao:Option Addr)(b o:Nat)(l:List Int):Prop where
 loc:l=[]\/ao=some ⟨b,o,none⟩
 cell:∀ i,i < l.length->w.cell? ⟨b,o + i,none⟩=some (.int .u8 (nth l i))
theorem AtB.lt(k:AtB w ao b o l):l=[]\/b < w.heap.size:=by
 cases l with
 | nil=>exact .inl rfl
 | cons x l=>exact .inr (aJ (k.cell 0 (by simp)))
theorem AtB.keep(h:Below w.heap.size w w')(k:AtB w ao b o l):AtB w' ao b o l :=
 ⟨k.loc,fun i hi=>by
  rcases k.lt with e | e
  ·subst e; simp at hi
  ·rw[h.cell (p:=⟨b,o + i,none⟩) e]; exact k.cell i hi⟩
theorem AtB.wr{n:Nat}(h:Wr b o n w w'){b' o':Nat}(k:AtB w ao b' o' l)(hb:l=[]\/b'≠b):AtB w' ao b' o' l :=
 ⟨k.loc,fun i hi=>by
  rcases hb with e | e
  ·subst e; simp at hi
  ·rw[h.other e]; exact k.cell i hi⟩
theorem AtB.setCell(k : AtB w ao b o l){i:Nat}(hi : i < l.length)(x : Int) : AtB (w.setCell ⟨b, o + i, none⟩ (.int .u8 x)) ao b o (l.set i x) :=
  ⟨by rcases k.loc with e | e
      · subst e; simp at hi
      · exact .inr e, fun j g => by
    rw[List.length_set] at g;have hc := k.cell j g;rw[dA hi];have a := k.cell i hi;simp only[World.cell?, World.setCell, Array.getElem?_modify, if_true] at hc a ⊢
    cases hh : w.heap[b]? with
    | none => rw[hh] at hc; simp at hc
    | some ob =>
      rw[hh] at hc a
      cases ob with
      | cells c e f =>
        simp at hc a ⊢;rw[Array.getElem?_setIfInBounds];by_cases e : j = i
        · subst e
          obtain⟨d, _⟩:= Array.getElem?_eq_some_iff.1 a;simp[d]
        · rw[if_neg (by omega), if_neg e]; exact hc
      | _ => simp at hc⟩
structure CR(w w':World)(v:Value)(l:List Int):Prop where
 is:∃ ao b o c,v=.slice ao l.length c/\l.length<=c/\w.heap.size<=b/\AtB w' ao b o l/\dD w' b o l.length
def bh(l:List Int):Prop:=∀ x∈l,0<=x/\x < 256
theorem bh.nth(h:bh l)(i:Nat):0<=nth l i/\nth l i < 256:=by
 by_cases hi:i < l.length
 ·exact h _ (lh hi)
 ·rw[fR (by omega)]; decide
def bO:List Int->Int
 | []=>0
 | x :: l=>x * 256 ^ l.length + bO l
theorem bM(h:bh l):0<=bO l/\bO l < 256 ^ l.length:=by
 induction l with
 | nil=>simp[bO]
 | cons x l ih =>
  have d:=ih (fun y hy=>h y (List.mem_cons_of_mem _ hy));have b:=h x List.mem_cons_self
  have a:(0:Int) < 256 ^ l.length:=Int.pow_pos (by decide)
  have e:0<=x * 256 ^ l.length:=Int.mul_nonneg b.1 (Int.le_of_lt a)
  have c:x * 256 ^ l.length<=255 * 256 ^ l.length:=Int.mul_le_mul_of_nonneg_right (by omega) (Int.le_of_lt a);rw[bO,List.length_cons,Int.pow_succ]; omega
def IsB(l:List Int)(n:Int):Prop:=bh l/\(l≠[]->nth l 0≠0)/\bO l=n
theorem lX:∀ {a b:List Int},bh a->bh b->a.length=b.length->bO a=bO b->a=b
 | [],[],_,_,_,_=>rfl
 | x :: a,y :: b,ha,hb,hl,hv=>by
  have ha':bh a:=fun z g=>ha z (List.mem_cons_of_mem _ g)
  have f:bh b:=fun z g=>hb z (List.mem_cons_of_mem _ g)
  have d:a.length=b.length:=by simpa using hl
  have i:=bM ha';have j:=bM f;rw[bO,bO,d] at hv;rw[d] at i
  have h:(0:Int) < 256 ^ b.length:=Int.pow_pos (by decide)
  have e:x=y:=by
   rcases Int.lt_trichotomy x y with c | c | c
   ·have:(x + 1) * 256 ^ b.length<=y * 256 ^ b.length:=Int.mul_le_mul_of_nonneg_right (by omega) (Int.le_of_lt h);rw[Int.add_mul] at this; omega
   ·exact c
   ·have:(y + 1) * 256 ^ b.length<=x * 256 ^ b.length:=Int.mul_le_mul_of_nonneg_right (by omega) (Int.le_of_lt h);rw[Int.add_mul] at this; omega
  subst e;rw[lX ha' f d (by omega)]
theorem uU(h:bh l)(a:l≠[])(d:nth l 0≠0):256 ^ (l.length - 1)<=bO l:=by
 cases l with
 | nil=>exact absurd rfl a
 | cons x l =>
  rw[cI] at d;have e:=h x List.mem_cons_self;have f:=bM (l:=l) (fun z b=>h z (List.mem_cons_of_mem _ b))
  have c:(0:Int) < 256 ^ l.length:=Int.pow_pos (by decide);have:1 * 256 ^ l.length<=x * 256 ^ l.length:=Int.mul_le_mul_of_nonneg_right (by omega) (Int.le_of_lt c);rw[bO,List.length_cons,Nat.add_sub_cancel]; omega
theorem gV{a:Nat}(h:a<=b):(256:Int) ^ a<=256 ^ b:=by
 have:(256:Nat) ^ a<=256 ^ b:=Nat.pow_le_pow_right (by decide) h
 have e1:((256 ^ a:Nat):Int)=(256:Int) ^ a:=by rw[Int.natCast_pow]; rfl
 have e2:((256 ^ b:Nat):Int)=(256:Int) ^ b:=by rw[Int.natCast_pow]; rfl
 omega
theorem lM{a b:List Int}{n:Int}(c:IsB a n)(hb:IsB b n):a=b:=by
 apply lX c.1 hb.1
 ·have key:∀ {a b:List Int},IsB a n->IsB b n->¬ a.length < b.length:=by
   intro a b c hb d;have g:=(bM c.1).2;have f:=uU hb.1 (fun e=>by subst e; simp at d) (hb.2.1 (fun e=>by subst e; simp at d));rw[c.2.2] at g;rw[hb.2.2] at f;have:=gV (show a.length<=b.length - 1 by omega);omega
  have g:=key c hb;have f:=key hb c;omega
 ·rw[c.2.2,hb.2.2]
end
end
section
open Go.RowKit Lim
section
variable {l:List Int}{i:Nat}
theorem bpow(k:Nat):(18446744073709551616:Int) ^ k=((2 ^ (64 * k):Nat):Int):=by
 rw[Nat.pow_mul,Int.natCast_pow]; rfl
theorem yE(wl:Words l)(hn:aI l≠0):bitLen (val l).toNat=64 * (aI l - 1) + bitLen (nth l (aI l - 1)).toNat:=by
 have f:=aM wl;have hs:=bF (norm l) (aI l - 1) (by rw[aK]; omega)
 have e:(norm l).drop (aI l - 1)=[nth l (aI l - 1)]:=by
  apply lE
  ·simp[aK]; omega
  ·intro i hi;simp[aK] at hi;have:i=0:=by omega
   subst this;rw[dH,ga,cI]; rfl
 rw[e,eA,cV] at hs;have b:=dz (wl.norm.take (aI l - 1));have d:=aM (wl.norm.take (aI l - 1));rw[List.length_take,aK,Nat.min_eq_left (by omega)] at b;have g:=wl.nth (aI l - 1);have h:=iA hn;generalize nth l (aI l - 1)=x at *;generalize val ((norm l).take (aI l - 1))=y at *;generalize aI l - 1=k at *;rw[bpow] at hs b;obtain⟨x,rfl⟩:=Int.eq_ofNat_of_zero_le g.1;obtain⟨y,rfl⟩:=Int.eq_ofNat_of_zero_le d;obtain⟨v,hv⟩:=Int.eq_ofNat_of_zero_le f;rw[hv] at hs ⊢
 have c:v / 2 ^ (64 * k)=x:=by
  have a:v=y + 2 ^ (64 * k) * x:=by
   have:(v:Int)=((y + 2 ^ (64 * k) * x:Nat):Int):=by rw[hs,Int.natCast_add,Int.natCast_mul]
   exact Int.ofNat.inj this
  rw[a,Nat.add_mul_div_left _ _ (Nat.two_pow_pos _),Nat.div_eq_of_lt (by omega),Nat.zero_add]
 rw[Int.toNat_natCast,Int.toNat_natCast,bitLen_shift v (64 * k) (by rw[c]; omega),c]
theorem rK(ao:Option Addr)(n c b o:Nat)(l:List Int)(w:World)(q:l.length=n)(hc:n<=c)(j:n<=1099511627776)(wl:Words l)(g:At w ao b o l) :
  Calls Tryz.prog 55 #[.slice ao n c] w fun e w'=>e=.returned (.int .i64 (bitLen (val l).toNat))/\Below w.heap.size w w':=by
 have hn:=bB l;have t1:=bj ao n c l w q hc (by omega) g.cells;by_cases f:aI l=0
 ·rw[f] at t1
  have hv:(val l).toNat=0:=by rw[(bZ wl).1 f]; rfl
  rw[hv,show bitLen 0=0 from rfl];go_enter Tryz.func55,Tryz.ntmps55;go_wp2_with fail;refine t1.mono ?_
  rintro e t ⟨rfl,rfl⟩;go_wp2_with fail;go_ret;exact⟨rfl,Below.refl _ _⟩
 ·have m:=yE wl f;have hx:=wl.nth (aI l - 1);have d:=g.cell (aI l - 1) (by omega);have i:=gY (n:=(nth l (aI l - 1)).toNat) (by omega);have t2:=fun s=>DQ (nth l (aI l - 1)) s hx.1 hx.2
  rcases g.loc with e | rfl
  ·subst e; simp[aI] at f
  rw[m];generalize nth l (aI l - 1)=x at *;generalize bitLen x.toNat=L at *;clear m g;obtain⟨k,p⟩:∃ k,aI l=k + 1:=⟨aI l - 1,by omega⟩
  rw[p] at t1 d hn ⊢;rw[Nat.add_sub_cancel] at d ⊢;clear p f
  have r:(k:Int) < (k:Int) + 1:=by omega
  go_enter Tryz.func55,Tryz.ntmps55;go_wp2_with fail;refine t1.mono ?_
  rintro e t ⟨rfl,rfl⟩;clear t1;go_wp2_with fail;refine(t2 _).mono ?_
  rintro e u ⟨rfl,rfl⟩;go_wp2;go_ret;exact⟨j4 (by omega),Below.refl _ _⟩
theorem Aa:IsN [] 0:=⟨Words.nil,rfl,rfl⟩
structure yl(lb:List Int)(m k:Nat)(lz:List Int):Prop where
 len:lz.length=m
 words:Words lz
 val:Lim.val lz=bO (lb.drop (lb.length - k))
theorem oH(h:i < l.length):bO (l.drop i)=nth l i * 256 ^ (l.length - 1 - i) + bO (l.drop (i + 1)):=by
 rw[List.drop_eq_getElem_cons h,bO,bT h,List.length_drop,show l.length - (i + 1)=l.length - 1 - i from by omega]
theorem bh.drop(h:bh l)(k:Nat):bh (l.drop k):=fun x hx=>h x (List.mem_of_mem_drop hx)
theorem BM(h:i < l.length)(x:Int):val (l.set i x)=val l + 18446744073709551616 ^ i * (x - nth l i):=by
 have e1:=bF (l.set i x) i (by simp; omega);have e2:=bF l i (by omega);rw[List.take_set_of_le (Nat.le_refl _),List.drop_set,if_neg (by omega),Nat.sub_self] at e1;rw[List.drop_eq_getElem_cons h,List.set_cons_zero,val] at e1;rw[List.drop_eq_getElem_cons h,val] at e2;rw[e1,e2,bT h]; grind
theorem Cp(wl:Words l)(h:i < l.length){P:Int}(e:val l < 18446744073709551616 ^ i * P):nth l i < P:=by
 have e2:=bF l i (by omega);rw[List.drop_eq_getElem_cons h,val] at e2;have d:=aM (wl.take i);have c:=aM (wl.drop (i + 1));have a:=pow_pos i
 have f:0<=18446744073709551616 ^ i * (18446744073709551616 * val (l.drop (i + 1))):=Int.mul_nonneg (Int.le_of_lt a) (by omega);rw[Int.mul_add] at e2
 have b:18446744073709551616 ^ i * nth l i < 18446744073709551616 ^ i * P:=by rw[bT h]; omega
 exact Int.lt_of_mul_lt_mul_left b (Int.le_of_lt a)
theorem kF(k:Nat):(256:Int) ^ k=18446744073709551616 ^ (k / 8) * 2 ^ (8 * (k % 8)):=by
 have e:(18446744073709551616:Int)=256 ^ 8:=by decide
 have e2:(2:Int) ^ (8 * (k % 8))=256 ^ (k % 8):=by rw[Int.pow_mul]; rfl
 rw[e,e2,<- Int.pow_mul,<- Int.pow_add]; congr 1; omega
theorem Ba{lb lz:List Int}{m k:Nat}(hb:bh lb)(hm:(lb.length + 7) / 8=m)(h:yl lb m k lz)(n:k < lb.length) :
  bits .or .u64 (nth lz (k / 8)) (IntKind.u64.wrap (nth lb (lb.length - 1 - k) * 2 ^ (8 * (k % 8))))=nth lz (k / 8) + nth lb (lb.length - 1 - k) * 2 ^ (8 * (k % 8)) /\
  yl lb m (k + 1) (lz.set (k / 8) (nth lz (k / 8) + nth lb (lb.length - 1 - k) * 2 ^ (8 * (k % 8)))):=by
 have f:=h.len;have hx:=hb.nth (lb.length - 1 - k);have c:=bM (hb.drop (lb.length - k));rw[List.length_drop,show lb.length - (lb.length - k)=k from by omega] at c;have hv:=h.val;have b:=h.words.nth (k / 8);have d:=Cp h.words (i:=k / 8) (by omega) (P:=2 ^ (8 * (k % 8))) (by rw[<- kF,hv]; exact c.2)
 have hS:(0:Int) < 2 ^ (8 * (k % 8)):=Int.pow_pos (by decide)
 have j:(2:Int) ^ (8 * (k % 8)) * 256<=18446744073709551616:=by
  have:(2:Nat) ^ (8 * (k % 8))<=2 ^ 56:=Nat.pow_le_pow_right (by decide) (by omega)
  have e:((2 ^ (8 * (k % 8)):Nat):Int)=(2:Int) ^ (8 * (k % 8)):=by rw[Int.natCast_pow]; rfl
  have e2:(2:Nat) ^ 56=72057594037927936:=by decide
  omega
 have a:0<=nth lb (lb.length - 1 - k) * 2 ^ (8 * (k % 8)):=Int.mul_nonneg hx.1 (Int.le_of_lt hS)
 have g:nth lb (lb.length - 1 - k) * 2 ^ (8 * (k % 8))<=255 * 2 ^ (8 * (k % 8)):=Int.mul_le_mul_of_nonneg_right (by omega) (Int.le_of_lt hS);constructor
 ·rw[IntKind.wrap_u64,Int.emod_eq_of_lt a (by omega)];rw[u64_or _ _ b.1 b.2 a (by omega),Nat.or_comm,<- u64_or _ _ a (by omega) b.1 b.2];rw[qt _ _ (8 * (k % 8)) _ rfl hx.1 (by omega) b.1 d b.2,Int.add_comm]
 ·refine⟨by simp[f],h.words.set _ (by omega) (by omega),?_⟩;rw[BM (by omega),hv,show lb.length - (k + 1)=lb.length - 1 - k from by omega,oH (l:=lb) (i:=lb.length - 1 - k) (by omega),show lb.length - 1 - k + 1=lb.length - k from by omega,show lb.length - 1 - (lb.length - 1 - k)=k from by omega,kF k];grind
theorem Cz(ao:Option Addr)(n c b o:Nat)(lb:List Int)(w:World)(f:lb.length=n)(hn:0 < n)(d:AtB w ao b o lb)(g:nth lb 0=0) :
  Calls Tryz.prog 256 #[.slice ao n c] w fun e w'=>e=.returned (.tuple #[.slice none 0 0,.int .i64 13])/\w'=w:=by
 rcases d.loc with e | rfl
 ·subst e; simp at f; omega
 have hc:=d.cell 0 (by omega);rw[g,Nat.add_zero] at hc;go_enter Tryz.func256,Tryz.ntmps256;go_wp2;go_ret2;exact⟨rfl,rfl⟩
theorem Ax(ao:Option Addr)(n c b o:Nat)(lb:List Int)(w:World)(F:lb.length=n)(Q:n<=1099511627776)(E:bh lb)(A:AtB w ao b o lb)(H:0 < n->nth lb 0≠0) :
  Calls Tryz.prog 256 #[.slice ao n c] w fun e w'=>∃ v r,e=.returned (.tuple #[v,.int .i64 0])/\dF w w' v r/\IsN r (bO lb)/\r.length<=n/\Below w.heap.size w w':=by
 obtain⟨m,hm⟩:∃ m:Nat,((n:Int) + 7) / 8=m:=⟨(n + 7) / 8,by omega⟩
 have hm2:m<=n:=by omega
 have B:lb=[]\/b≠w.heap.size:=by
  rcases A.lt with e | e
  ·exact .inl e
  ·exact .inr (by omega)
 by_cases hn:0 < n
 ·rcases A.loc with e | rfl
  ·subst e; simp at F; omega
  have hc:=A.cell 0 (by omega);rw[Nat.add_zero] at hc
  have u:(nth lb 0 == 0)=false:=beq_eq_false_iff_ne.2 (H hn)
  have t:nth lb 0≠0:=H hn;have HF:=(show Hid _ from t)
  clear t H;go_enter Tryz.func256,Tryz.ntmps256;go_wp2_with (at_make; refine cY rfl _ _ rfl m _ _ rfl rfl (by omega) (by omega) (by omega) ?_; intro R d f M);have p:=A.keep f;clear hc u;go_loopw [22] (fun O wr=>∃ (k:Nat) (l:List Int),k<=n/\O=.int .i64 k/\yl lb m k l/\At wr (some ⟨w.heap.size,0,none⟩) w.heap.size 0 l/\Wr w.heap.size 0 m R wr) (fun O _=>n - (intOf O).toNat)
  case atStart=>exact⟨0,_,Nat.zero_le _,rfl,⟨by simp,eC _,by rw[Nat.sub_zero,List.drop_length,fq fun i=>by simp[nth,List.getElem?_replicate]; split<;>rfl]; rfl⟩,d.at,Wr.refl _ _ _ _⟩
  case round =>
   obtain⟨k,l,hk,rfl,hinv,q,g⟩:=hrel;have hlen:=hinv.len;by_cases V:k < n
   ·obtain⟨i,hi⟩:∃ i:Nat,(k:Int) / 8=i:=⟨k / 8,by omega⟩
    obtain⟨j,hj⟩:∃ j:Nat,(k:Int) % 8=j:=⟨k % 8,by omega⟩
    obtain⟨h,hh⟩:∃ h:Nat,(n:Int) - 1 - k=h:=⟨n - 1 - k,by omega⟩
    have Y:(i:Int) < m:=by omega
    have hh1:(h:Int) < n:=by omega
    have S:j < 8:=by omega
    have u:=q.cell i (by omega);have X:=(p.wr g B).cell h (by omega);have J:=g.free (d.free 0 m) i (by omega);rw[Nat.zero_add] at u J;have C:=Ba E (m:=m) (by omega) hinv (by omega);rw[show k / 8=i from by omega,show k % 8=j from by omega,show lb.length - 1 - k=h from by omega] at C;obtain⟨D,s⟩:=C;have T:=(show Hid _ from s)
    have HA:=(show Hid _ from q)
    have HW:=(show Hid _ from g)
    have hxx:=E.nth h;clear s q g hinv d p E;generalize nth l i=z at *;generalize nth lb h=x at *;go_wp2_with fail;go_region;go_wp2;rw[Nat.mul_comm j 8,D];refine⟨⟨k + 1,_,by omega,by go_num,T.out,?_,?_⟩,by simp[intOf]; omega⟩
    ·have:=(HA.out.setCell (i:=i) (by omega) (z + x * 2 ^ (8 * j))).drew;rwa [Nat.zero_add] at this
    ·exact(HW.out.setCell (by omega) (by omega) _).drew
   ·have L:k=n:=by omega
    subst L;have hv:=hinv.val;rw[<- F,Nat.sub_self,List.drop_zero] at hv;have G:=g.free (d.free 0 m);have W:=f.trans (g.below (Nat.le_refl _));have I:=bM E;have N:=uU E (fun e=>by subst e; simp at F; omega) HF.out
    have y:aI l=l.length:=by
     have h1:=bB l;by_cases c:aI l < l.length
     ·have U:=gN hinv.words;have h3:=gK (show aI l<=m - 1 by omega)
      have h4:(18446744073709551616:Int) ^ (m - 1)<=256 ^ (lb.length - 1):=by
       rw[show (18446744073709551616:Int)=256 ^ 8 from by decide,<- Int.pow_mul];exact gV (by omega)
      rw[hv] at U;omega
     ·omega
    have HI:IsN l (bO lb):=⟨hinv.words,y,hv⟩
    clear hinv d g f p hv I N y;go_wp2;go_ret2;exact⟨_,l,rfl,dF.of hlen.symm (Nat.le_refl _) (Nat.le_refl _) q G,HI,by omega,W⟩
 ·have K:n=0:=by omega
  subst K
  have Z:lb=[]:=List.eq_nil_of_length_eq_zero F;subst Z
  have P:m=0:=by omega
  subst P;clear hm A B;go_enter Tryz.func256,Tryz.ntmps256;go_wp2_with (at_make; refine cY rfl _ _ rfl 0 _ _ rfl rfl (by omega) (by omega) (by omega) ?_; intro R d f M);refine wp_loop_rounds 1 ?_
  rw[rounds_succ];go_wp2;go_ret2;exact⟨_,[],rfl,dF.of rfl (Nat.le_refl _) (Nat.le_refl _) d.at (d.free _ _),Aa,by simp,f⟩
end
end
section
open Go.RowKit Lim
theorem yg {a b:Nat} (h:a<=b):(10:Int) ^ a<=10 ^ b:=by
 have:(10:Nat) ^ a<=10 ^ b:=Nat.pow_le_pow_right (by decide) h
 have e1:((10 ^ a:Nat):Int)=(10:Int) ^ a:=by rw[Int.natCast_pow]; rfl
 have e2:((10 ^ b:Nat):Int)=(10:Int) ^ b:=by rw[Int.natCast_pow]; rfl
 omega
end
section
open Go.RowKit Lim
end
section
open Go.RowKit Lim
section
variable {w w':World}{ao ao':Option Addr}{n c n' c' g:Nat}{x y:Int}{v:Value}{r l:List Int}{fn:Func}{p:Tmp}{tmps:Array Value}
structure aT(w:World)(ao:Option Addr)(n c:Nat)(x:Int):Prop where
 ex:∃ b o l,l.length=n/\n<=c/\Words l/\At w ao b o l/\val l=x
structure eb(w:World)(ao:Option Addr)(n c:Nat)(x:Int):Prop where
 ex:∃ b o l,l.length=n/\n<=c/\IsN l x/\At w ao b o l
theorem eb.a(h:eb w ao n c x):aT w ao n c x:=by
 obtain⟨b,o,l,h1,h2,h3,h4⟩:=h.ex;exact⟨b,o,l,h1,h2,h3.1,h4,h3.2.2⟩
theorem aT.keep(h:aT w ao n c x)(hb:Below w.heap.size w w'):aT w' ao n c x:=by
 obtain⟨b,o,l,h1,h2,h3,h4,h5⟩:=h.ex;exact⟨b,o,l,h1,h2,h3,h4.keep hb,h5⟩
theorem eb.keep(h:eb w ao n c x)(hb:Below w.heap.size w w'):eb w' ao n c x:=by
 obtain⟨b,o,l,h1,h2,h3,h4⟩:=h.ex;exact⟨b,o,l,h1,h2,h3,h4.keep hb⟩
theorem aT.mL(h:aT w ao n c x):0<=x:=by
 obtain⟨b,o,l,h1,h2,h3,h4,h5⟩:=h.ex;rw[<- h5]; exact aM h3
theorem eb.eqv(h:eb w ao n c x)(e:x=y):eb w ao n c y:=e▸h
theorem yK(w:World):eb w none 0 0 0:=⟨0,0,[],rfl,Nat.le_refl _,jE,.inl rfl,fun i hi=>by simp at hi⟩
theorem dF.o(h:dF w w' v r)(hI:IsN r x):∃ a c,v=.slice a r.length c/\eb w' a r.length c x:=by
 obtain⟨ao,b,o,c,e,h1,h2,h3,h4⟩:=h.is;exact⟨ao,c,e,b,o,r,rfl,h1,hI,h3⟩
theorem aj{wa:World}(b:Below w.heap.size w wa)(h:Below wa.heap.size wa w'):Below w.heap.size w w':=b.trans (h.mono b.size)
theorem nMul(h:aT w ao n c x)(A:aT w ao' n' c' y)(hn:n<=1099511627776)(m:n'<=1099511627776) :
  Calls Tryz.prog 24 #[.slice ao n c,.slice ao' n' c'] w fun e w'=>∃ a k d,e=.returned (.slice a k d)/\eb w' a k d (x * y)/\k<=n + n'/\Below w.heap.size w w':=by
 obtain⟨b,o,l,u,q,F,C,rfl⟩:=h.ex;obtain⟨s,B,t,i,j,g,p,rfl⟩:=A.ex;refine(oL ao n c b o ao' n' c' s B l t w u i q j hn m F g C p).mono ?_
 rintro e w' ⟨v,r,rfl,f,z,hlen,E⟩;obtain⟨a,d,rfl,D⟩:=f.o z;exact⟨a,_,d,rfl,D,hlen,E⟩
theorem nCmp(h:aT w ao n c x)(s:aT w ao' n' c' y)(hn:n<=1099511627776)(d:n'<=1099511627776) :
  Calls Tryz.prog 26 #[.slice ao n c,.slice ao' n' c'] w fun e w'=>e=.returned (.int .i64 (sgn x y))/\Below w.heap.size w w':=by
 obtain⟨b,o,l,r,k,t,m,rfl⟩:=h.ex;obtain⟨p,j,q,f,i,a,g,rfl⟩:=s.ex;exact ij ao n c b o ao' n' c' p j l q w r f k i hn d t a m g
theorem nDiv(h:aT w ao n c x)(H:aT w ao' n' c' y)(hn:n<=1099511627776)(t:n'<=1099511627776)(q:y≠0) :
  Calls Tryz.prog 70 #[.slice ao n c,.slice ao' n' c'] w fun e w'=>∃ a k d a' k' d',e=.returned (.tuple #[.slice a k d,.slice a' k' d',.int .i64 0])/\eb w' a k d (x / y)/\eb w' a' k' d' (x % y)/\k<=n/\k'<=n + n'/\Below w.heap.size w w':=by
 obtain⟨b,o,l,G,C,N,K,rfl⟩:=h.ex;obtain⟨E,J,F,i,p,f,z,rfl⟩:=H.ex;refine(uw ao n c b o ao' n' c' E J l F w G i C p hn t N f K z q).mono ?_
 rintro e w' ⟨v,u,r,s,rfl,B,g,I,D,j,A,M⟩;obtain⟨a,d,rfl,L⟩:=B.o I;obtain⟨a',d',rfl,m⟩:=g.o D;exact⟨a,_,d,a',_,d',rfl,L,m,j,A,M⟩
theorem yd(k:aT w ao' n' c' y)(a:n'<=1099511627776)(h:y=0) :
  Calls Tryz.prog 70 #[v,.slice ao' n' c'] w fun e w'=>e=.returned (.tuple #[.slice none 0 0,.slice none 0 0,.int .i64 11])/\w'=w:=by
 obtain⟨i,g,j,c,f,b,d,rfl⟩:=k.ex;exact div_zero v ao' n' c' i g j w c f a b d h
theorem qE{ad:Option Addr}{b f:Nat}{z:Int}(h:aT w ao n c x)(j:aT w ao' n' c' y)(l:aT w ad b f z)(hn:n<=274877906944)(m:n'<=274877906944)(o:b<=274877906944)(i:z=0) :
  Calls Tryz.prog 93 #[.slice ao n c,.slice ao' n' c',.slice ad b f] w fun e w'=>e=.returned (.tuple #[.slice none 0 0,.slice none 0 0,.int .i64 11])/\Below w.heap.size w w':=by
 go_enter Tryz.func93,Tryz.ntmps93;go_wp2_with fail;refine(nMul h j (by omega) (by omega)).mono ?_
 rintro e q ⟨a,k,d,rfl,s,p,g⟩;go_wp2_with fail;refine(yd (l.keep g) (by omega) i).mono ?_
 rintro e r ⟨rfl,rfl⟩;go_wp2;go_ret3;exact⟨rfl,g⟩
theorem nBits(h:aT w ao n c x)(hn:n<=1099511627776) :
  Calls Tryz.prog 55 #[.slice ao n c] w fun e w'=>e=.returned (.int .i64 (bitLen x.toNat))/\Below w.heap.size w w':=by
 obtain⟨b,o,l,f,a,g,d,rfl⟩:=h.ex;exact rK ao n c b o l w f a hn g d
theorem nPow(n:Nat)(hn:n<=4096) :
  Calls Tryz.prog 165 #[.int .i64 n] w fun e w'=>∃ a k d,e=.returned (.tuple #[.slice a k d,.int .i64 0])/\eb w' a k d (10 ^ n)/\k<=n + 2/\Below w.heap.size w w':=by
 refine(vI n w hn).mono ?_
 rintro e w' ⟨v,r,rfl,b,g,hlen,f⟩;obtain⟨a,d,rfl,c⟩:=b.o g;exact⟨a,_,d,rfl,c,hlen,f⟩
theorem qC(x:Int)(hx:0<=x):(bitLen x.toNat=0)<->x=0:=by
 constructor
 ·intro h;by_cases e:x.toNat=0
  ·omega
  ·have:=lQ e; omega
 ·intro h; subst h; rfl
structure Slot(w:World)(g:Nat)(v:Value)(t:TypeId):Prop where
 blk:w.heap[g]? = some (.cells #[v] t (0,0))
theorem Slot.cell{t:TypeId}(h:Slot w g v t):w.cell? ⟨g,0,none⟩=some v:=cell_of_one h.blk
theorem Slot.free{t:TypeId}(h:Slot w g v t):w.frozen? ⟨g,0,none⟩=false:=free_of_one h.blk
theorem Slot.lt{t:TypeId}(h:Slot w g v t):g < w.heap.size:=lt_of_block h.blk
theorem Slot.keep{t:TypeId}(h:Slot w g v t)(hb:Below w.heap.size w w'):Slot w' g v t:=⟨by rw[hb.block g h.lt]; exact h.blk⟩
theorem Slot.put{t:TypeId}(h:Slot w g v t)(u:Value):Slot (w.setCell ⟨g,0,none⟩ u) g u t:=⟨one_setCell h.blk⟩
theorem eH(w:World)(v:Value)(t:TypeId):Slot (w.alloc (.cells #[v] t)) w.heap.size v t:=⟨by
 show (w.heap.push _)[w.heap.size]? = _
 rw[Array.getElem?_push_size]⟩
theorem Slot.alloc{t:TypeId}(h:Slot w g v t)(o:Obj):Slot (w.alloc o) g v t:=h.keep (ae w o)
theorem mK(w:World)(o:Obj)(v:Value)(t:TypeId):Slot ((w.alloc o).alloc (.cells #[v] t)) (w.heap.size + 1) v t:=by
 have:=eH (w.alloc o) v t;rwa [show (w.alloc o).heap.size=w.heap.size + 1 by simp] at this
theorem pG(w:World)(o o':Obj):Below w.heap.size w ((w.alloc o).alloc o'):=aj (ae w o) (ae _ o')
theorem At.put{b o:Nat}(k:At w ao b o l){t:TypeId}(s:Slot w g v t)(hv:∀ x,v≠.int .u64 x)(u:Value):At (w.setCell ⟨g,0,none⟩ u) ao b o l :=
 ⟨k.loc,fun i hi=>by
  have hc:=k.cell i hi;by_cases e:b=g
  ·subst e
   have a:o + i=0->False:=fun c=>by
    rw[c,s.cell] at hc;exact hv _ (Option.some.inj hc)
   have hs:=s.blk;simp only[World.cell?,hs] at hc;have:o + i < 1:=by
    have:=(Array.getElem?_eq_some_iff.1 hc).1;simpa using this
   exact(a (by omega)).elim
  ·rw[World.cell?_of_block (w:=w) (Below.heap_setCell w _ u b e)]; exact hc⟩
theorem eb.put(h:eb w ao n c x){t:TypeId}(s:Slot w g v t)(hv:∀ x,v≠.int .u64 x)(u:Value):eb (w.setCell ⟨g,0,none⟩ u) ao n c x:=by
 obtain⟨b,o,l,h1,h2,h3,h4⟩:=h.ex;exact⟨b,o,l,h1,h2,h3,h4.put s hv u⟩
theorem oR:∀ x,Value.slice ao n c≠.int .u64 x:=fun _ h=>by cases h
theorem rC{W w1:World}(b:Below w.heap.size w W)(h:Below W.heap.size W w1)(hg:w.heap.size<=g)(u:Value):Below w.heap.size w (w1.setCell ⟨g,0,none⟩ u):=(aj b h).setCell hg u
theorem Slot.drew{t:TypeId}(h:Slot w g v t):Slot w.drew g v t:=⟨h.blk⟩
theorem aT.drew(h:aT w ao n c x):aT w.drew ao n c x:=by
 obtain⟨b,o,l,h1,h2,h3,h4,h5⟩:=h.ex;exact⟨b,o,l,h1,h2,h3,h4.drew,h5⟩
theorem yY:(Tryz.prog.info? 32).map (·.size)=some 1:=by kernel_rfl
theorem vQ : ∃ f, Tryz.prog.underlying 32 = some (.struct f) := by
  cases h : Tryz.prog.underlying 32 with
  | none => exact absurd h (by have : (Tryz.prog.underlying 32).isSome = true := by kernel_rfl
                               intro e; rw[e] at this; simp at this)
  | some d =>
    have : (match Tryz.prog.underlying 32 with | some (.struct _) => true | _ => false) = true := by kernel_rfl
    rw[h] at this
    cases d <;> first | exact⟨_, rfl⟩ | simp at this
theorem qW{t:TypeId}(s:Slot w g v t):(loadVar 32 ⟨g,0,none⟩).run Tryz.prog w=.ok (.agg #[v]) w:=by
 obtain⟨f,hu⟩:=vQ;exact run_loadVar_row w g t 32 #[v] (0,0) _ s.blk hu rfl yY
theorem ll(h:fn.results=#[.cell p 32]){t:TypeId}(b:tmps.getD p undef=.pointer (some ⟨g,0,none⟩))(s:Slot w g v t) :
  (results fn tmps).run Tryz.prog w=.ok (.agg #[v]) w:=by
 have a:tmps[p]?.getD undef=.pointer (some ⟨g,0,none⟩):=by simpa using b
 simp[results,h,a,asAddr,qW s]
theorem qU{u:Tmp}(h:fn.results=#[.tmp u,.cell p 32]){x:Value}{t:TypeId}(c:tmps.getD p undef=.pointer (some ⟨g,0,none⟩))(hu:tmps.getD u undef=x)(s:Slot w g v t) :
  (results fn tmps).run Tryz.prog w=.ok (.tuple #[x,.agg #[v]]) w:=by
 have b:tmps[p]?.getD undef=.pointer (some ⟨g,0,none⟩):=by simpa using c
 have a:tmps[u]?.getD undef=x:=by simpa using hu
 simp[results,h,b,a,asAddr,qW s]
end
end
end Go.Proofs.YthfepflplbahkaaGreatDoor
