/- Several texts, joined: Num, Trim, Bits, Mem, Own, Cmp, Len, Div64, DivS, Norm, AddT, Add, TakeT, Sub, DivOne, DivL, Guess, Mul, DivLong, DivM, Scale, Pow, Help, ByteMem, FromB, Digits, Parse, Nm. -/
import Derived.Test.YthfepflplbahkaaGreatDoorChecked
import Derived.WalkKit
import Derived.WalkSpells
import Derived.WalkLawsBesides
import Derived.Laws.Externs
import Derived.Laws.MathBits
import Derived.Laws.CopyOwn
import Derived.Deep.QuietTactic
import Derived.BigQuiet
import Derived.Deep.RegionWith
import Derived.ScopeJumps
import Derived.WalkSmall
import Derived.OneCell
set_option maxRecDepth 100000
set_option maxHeartbeats 8000000
namespace Go.Proofs.YthfepflplbahkaaGreatDoor
section
namespace Lim
section
variable {l a b:List Int}{i k:Nat}{x:Int}
def nth(l:List Int)(i:Nat):Int:=l.getD i 0
def val:List Int->Int
 | []=>0
 | x :: l=>x + 18446744073709551616 * val l
def Words(l:List Int):Prop:=∀ x∈l,0<=x/\x < 18446744073709551616
def aI:List Int->Nat
 | []=>0
 | x :: l=>if aI l=0 then (if x=0 then 0 else 1) else aI l + 1
def norm(l:List Int):List Int:=l.take (aI l)
def IsN(l:List Int)(n:Int):Prop:=Words l/\aI l=l.length/\val l=n
theorem CF(i:Nat):nth [] i=0:=by simp[nth]
theorem cI(x:Int)(l:List Int):nth (x :: l) 0=x:=by simp[nth]
theorem dE(x:Int)(l:List Int)(i:Nat):nth (x :: l) (i + 1)=nth l i:=by simp[nth]
theorem fQ(h:l.length<=i):nth l i=0:=by
 simp[nth,List.getElem?_eq_none h]
theorem bT(h:i < l.length):nth l i=l[i]:=by
 simp[nth,List.getElem?_eq_getElem h]
theorem lh(h:i < l.length):nth l i∈l:=by
 rw[bT h]; exact List.getElem_mem h
theorem Words.nth(h:Words l)(i:Nat):0<=nth l i/\nth l i < 18446744073709551616:=by
 by_cases hi:i < l.length
 ·exact h _ (lh hi)
 ·rw[fQ (by omega)]; decide
theorem Words.nil:Words []:=fun _ h=>by simp at h
theorem Words.cons(h0:0<=x)(h1:x < 18446744073709551616)(h:Words l):Words (x :: l):=by
 intro y hy;rcases List.mem_cons.1 hy with e | e
 ·subst e; exact⟨h0,h1⟩
 ·exact h y e
theorem Words.tail(h:Words (x :: l)):Words l:=fun y hy=>h y (List.mem_cons_of_mem _ hy)
theorem Words.head(h:Words (x :: l)):0<=x/\x < 18446744073709551616:=h x (List.mem_cons_self)
theorem Words.take(h:Words l)(k:Nat):Words (l.take k):=fun x hx=>h x (List.mem_of_mem_take hx)
theorem Words.drop(h:Words l)(k:Nat):Words (l.drop k):=fun x hx=>h x (List.mem_of_mem_drop hx)
theorem Words.append(ha:Words a)(hb:Words b):Words (a ++ b):=by
 intro x hx;rcases List.mem_append.1 hx with e | e
 ·exact ha x e
 ·exact hb x e
theorem dr(h:i < k):nth (l.take k) i=nth l i:=by
 simp[nth,h]
theorem dG(l:List Int)(k i:Nat):nth (l.drop k) i=nth l (k + i):=by
 simp[nth,List.getElem?_drop]
theorem cQ(h:i < a.length):nth (a ++ b) i=nth a i:=by
 simp[nth,List.getElem?_append_left h]
theorem bJ(h:a.length<=i):nth (a ++ b) i=nth b (i - a.length):=by
 simp[nth,List.getElem?_append_right h]
theorem kY(hl:a.length=b.length)(h:∀ i,i < a.length->nth a i=nth b i):a=b:=by
 apply List.ext_getElem hl;intro i h1 h2;have:=h i h1;rwa [bT h1,bT h2] at this
theorem dC(a:k < l.length):nth (l.set k x) i=if i=k then x else nth l i:=by
 simp only[nth,List.getD_eq_getElem?_getD,List.getElem?_set];by_cases h:k=i
 ·subst h; simp[a]
 ·simp[h,show ¬ i=k from fun e=>h e.symm]
theorem Words.set(h:Words l)(k:Nat)(h0:0<=x)(h1:x < 18446744073709551616):Words (l.set k x):=by
 intro y hy;rcases List.mem_or_eq_of_mem_set hy with e | e
 ·exact h y e
 ·subst e; exact⟨h0,h1⟩
theorem dR(h:k < l.length):l.take (k + 1)=l.take k ++ [nth l k]:=by
 rw[bT h,List.take_succ_eq_append_getElem h]
theorem aM(h:Words l):0<=val l:=by
 induction l with
 | nil=>simp[val]
 | cons x l ih=>have:=h.head; have:=ih h.tail; simp only[val]; omega
theorem eb(a b:List Int):val (a ++ b)=val a + 18446744073709551616 ^ a.length * val b:=by
 induction a with
 | nil=>simp[val]
 | cons x a ih=>simp only[List.cons_append,val,ih,List.length_cons,Int.pow_succ]; grind
theorem dy(h:Words l):val l < 18446744073709551616 ^ l.length:=by
 induction l with
 | nil=>simp[val]
 | cons x l ih =>
  have:=h.head; have:=ih h.tail;simp only[val,List.length_cons,Int.pow_succ]; omega
theorem eC(x:Int):val [x]=x:=by simp[val]
theorem dw(h:k < l.length):val (l.take (k + 1))=val (l.take k) + 18446744073709551616 ^ k * nth l k:=by
 rw[dR h,eb,eC,List.length_take,Nat.min_eq_left (by omega)]
theorem bF(l:List Int)(k:Nat)(h:k<=l.length):val l=val (l.take k) + 18446744073709551616 ^ k * val (l.drop k):=by
 conv=>lhs; rw[<- List.take_append_drop k l]
 rw[eb,List.length_take,Nat.min_eq_left h]
theorem bB(l:List Int):aI l<=l.length:=by
 induction l with
 | nil=>simp[aI]
 | cons x l ih=>simp only[aI,List.length_cons]; split<;>(try split)<;>omega
theorem fR:aI l=0<->∀ i,nth l i=0:=by
 induction l with
 | nil=>simp[aI,nth]
 | cons x l ih =>
  simp only[aI];constructor
  ·intro h i;by_cases e:aI l=0
   ·by_cases a:x=0
    ·cases i with
     | zero=>rw[cI,a]
     | succ i=>rw[dE]; exact ih.1 e i
    ·simp[e,a] at h
   ·simp[e] at h
  ·intro h
   have c:x=0:=by have:=h 0; rwa [cI] at this
   have b:aI l=0:=ih.2 fun i=>by have:=h (i + 1); rwa [dE] at this
   simp[b,c]
theorem ji(d:k<=l.length)(b:∀ i,k<=i->nth l i=0)(c:k≠0->nth l (k - 1)≠0):aI l=k:=by
 induction l generalizing k with
 | nil=>simp[aI] at *; omega
 | cons x l ih =>
  cases k with
  | zero =>
   have:aI (x :: l)=0:=fR.2 fun i=>b i (Nat.zero_le _)
   exact this
  | succ k =>
   have e:aI l=k:=ih (by simpa using d) (fun i hi=>by have:=b (i + 1) (by omega); rwa [dE] at this) (fun a=>by
    have:=c (by omega); rw[show k + 1 - 1=(k - 1) + 1 from by omega,dE] at this; exact this)
   simp only[aI,e];by_cases a:k=0
   ·subst a;have:=c (by omega); rw[show (0 + 1 - 1)=0 from rfl,cI] at this;simp[this]
   ·simp[a]
theorem ft(h : aI l ≤ i) : nth l i = 0 := by
  induction l generalizing i with
  | nil => simp[nth]
  | cons x l ih =>
    simp only[aI] at h;by_cases e : aI l = 0
    · simp only[e, if_true] at h
      cases i with
      | zero => by_cases a : x = 0
                · rw[cI, a]
                · simp[a] at h
      | succ i => rw[dE]; exact fR.1 e i
    · simp only[e, if_false] at h
      cases i with
      | zero => omega
      | succ i => rw[dE]; exact ih (by omega)
theorem ig(h:aI l≠0):nth l (aI l - 1)≠0:=by
 induction l with
 | nil=>simp[aI] at h
 | cons x l ih =>
  simp only[aI] at h ⊢;by_cases e:aI l=0
  ·simp only[e,if_true] at h ⊢;by_cases a:x=0
   ·simp[a] at h
   ·simp[a,cI]
  ·simp only[e,if_false] at h ⊢;have:=ih e;rw[show aI l + 1 - 1=(aI l - 1) + 1 from by omega,dE]; exact this
theorem aK(l:List Int):(norm l).length=aI l:=by
 rw[norm,List.length_take,Nat.min_eq_left (bB l)]
theorem ga(l:List Int)(i:Nat):nth (norm l) i=nth l i:=by
 by_cases h:i < aI l
 ·exact dr h
 ·rw[fQ (by rw[aK]; omega),ft (by omega)]
theorem Words.norm(h:Words l):Words (norm l):=h.take _
theorem oD(l:List Int):aI (norm l)=(norm l).length:=by
 rw[aK];apply ji (by rw[aK]; omega)
 ·intro i hi; rw[ga]; exact ft hi
 ·intro h; rw[ga]; exact ig h
theorem fq(h:∀ i,nth l i=0):val l=0:=by
 induction l with
 | nil=>rfl
 | cons x l ih =>
  have h0:=h 0; rw[cI] at h0;rw[val,h0,ih fun i=>by have:=h (i + 1); rwa [dE] at this]; rfl
theorem cV(l:List Int):val (norm l)=val l:=by
 rw[bF l (aI l) (bB l),fq (l:=l.drop (aI l)) fun i=>by rw[dG]; exact ft (by omega)];simp[norm]
theorem cj(h:Words l):IsN (norm l) (val l):=⟨h.norm,oD l,cV l⟩
theorem pT(h:Words l)(hn:aI l≠0):0 < val l:=by
 induction l with
 | nil=>simp[aI] at hn
 | cons x l ih =>
  have hx:=h.head; have hv:=aM h.tail;simp only[val];by_cases e:aI l=0
  ·simp only[aI,e,if_true] at hn;have:x≠0:=by intro a; simp[a] at hn
   omega
  ·have:=ih h.tail e; omega
theorem bX(h:Words l):aI l=0<->val l=0:=by
 constructor
 ·intro e; exact fq (fR.1 e)
 ·intro e;by_cases n:aI l=0
  ·exact n
  ·have:=pT h n; omega
theorem fL(h:Words l)(hn:aI l≠0):18446744073709551616 ^ (aI l - 1)<=val l:=by
 have e:=cV l;have a:=aK l;have hw:=h.norm;have hs:=bF (norm l) (aI l - 1) (by omega)
 have d:(norm l).drop (aI l - 1)=[nth l (aI l - 1)]:=by
  apply kY
  ·simp[a]; omega
  ·intro i hi;simp[a] at hi;have:i=0:=by omega
   subst this;rw[dG,ga,cI]; rfl
 have f:=aM (hw.take (aI l - 1));have hx:=h.nth (aI l - 1);have b:=ig hn
 have c:(0:Int) < 18446744073709551616 ^ (aI l - 1):=Int.pow_pos (by decide);rw[d,eC] at hs;have:18446744073709551616 ^ (aI l - 1) * 1<=18446744073709551616 ^ (aI l - 1) * nth l (aI l - 1):=Int.mul_le_mul_of_nonneg_left (by omega) (Int.le_of_lt c);omega
theorem gJ(h:Words l):val l < 18446744073709551616 ^ aI l:=by
 have:=dy h.norm;rwa [cV,aK] at this
theorem gS{a b:Nat}(h:a<=b):(18446744073709551616:Int) ^ a<=18446744073709551616 ^ b:=by
 obtain⟨d,rfl⟩:=Nat.exists_eq_add_of_le h;rw[Int.pow_add]
 have c:(0:Int) < 18446744073709551616 ^ a:=Int.pow_pos (by decide)
 have e:(0:Int) < 18446744073709551616 ^ d:=Int.pow_pos (by decide);have:(18446744073709551616:Int) ^ a * 1<=18446744073709551616 ^ a * 18446744073709551616 ^ d:=Int.mul_le_mul_of_nonneg_left (by omega) (Int.le_of_lt c);omega
theorem dA(ha:Words a)(hb:Words b)(h:aI a < aI b):val a < val b:=by
 have h1:=gJ ha;have h2:=fL hb (by omega);have:=gS (show aI a<=aI b - 1 by omega);omega
end
end Lim
end
section
open Go.RowKit Lim
def Cells (w:World) (ao:Option Addr) (l:List Int):Prop :=
 l=[]\/∃ b o,ao=some ⟨b,o,none⟩/\∀ i,i < l.length->w.cell? ⟨b,o + i,none⟩=some (.int .u64 (nth l i))
theorem bp (ao:Option Addr) (n c:Nat) (l:List Int) (w:World) (j:l.length=n) (hc:n<=c) (hb:n<=4398046511104) (a:Cells w ao l) :
  Calls Tryz.prog 58 #[.slice ao n c] w fun e w'=>e=.returned (.slice ao (aI l) (aI l))/\w'=w:=by
 go_enter Tryz.func58,Tryz.ntmps58;go_wp2;go_loop [3] (fun t=>∃ k:Nat,k<=n/\t=.int .i64 k/\Hid (∀ i,k<=i->nth l i=0)) (fun t=>(intOf t).toNat)
 case atStart=>exact⟨n,Nat.le_refl _,rfl,fun i hi=>fQ (by omega)⟩
 case round =>
  obtain⟨k,m,rfl,d⟩:=hrel;by_cases g:0 < k
  ·rcases a with e | ⟨b,o,rfl,a⟩
   ·subst e; simp at j; omega
   ·have f:=a (k - 1) (by omega)
    have h:w.cell? ⟨b,o + k - 1,none⟩=some (.int .u64 (nth l (k - 1))):=by rw[<- f]; congr 2; omega
    clear a;go_wp2
    ·go_round
     case rel=>exact⟨k - 1,by omega,by go_num,fun i hi=>by
      by_cases e:i=k - 1
      ·subst e; exact beq_iff_eq.1 (by assumption)
      ·exact d.out i (by omega)⟩
     case measure=>simp[intOf]; omega
    ·go_ret;rw[ji (k:=k) (by omega) d.out (fun _=>beq_eq_false_iff_ne.1 (by assumption))];exact⟨rfl,rfl⟩
  ·go_wp2;go_ret;rw[ji (k:=k) (by omega) d.out (fun _=>by omega)];exact⟨rfl,rfl⟩
end
section
open Go.RowKit Lim
def bor (x y:Int):Int:=if x < y then 1 else 0
theorem qZ (x y:Int) (hx:0<=x) (hy:0<=y) (w:World):(callFunc 90 #[.int .u64 x,.int .u64 y,.int .u64 0]).run Tryz.prog w =
  .ok (.value (.tuple #[.int .u64 ((x + y) % 18446744073709551616),.int .u64 ((x + y) / 18446744073709551616)])) w:=by
 obtain⟨x,rfl⟩:=Int.eq_ofNat_of_zero_le hx;obtain⟨y,rfl⟩:=Int.eq_ofNat_of_zero_le hy;rw[run_callFunc_extern Tryz.func90 (by kernel_rfl) (by kernel_rfl) (by kernel_rfl) (e:=add64Entry) (by kernel_rfl),run_add64 (P:=Tryz.prog) x y 0 (by omega) (by omega) (by omega) (by omega),Int.add_zero];rfl
theorem CU (x y:Int) (hx:0<=x) (w:World):(callFunc 90 #[.int .u64 x,.int .u64 (y % 18446744073709551616),.int .u64 0]).run Tryz.prog w =
  .ok (.value (.tuple #[.int .u64 ((x + y % 18446744073709551616) % 18446744073709551616),.int .u64 ((x + y % 18446744073709551616) / 18446744073709551616)])) w :=
 qZ x _ hx (Int.emod_nonneg _ (by decide)) w
theorem D0 (x y:Int) (hx:0<=x) (b:x < 18446744073709551616) (hy:0<=y) (a:y < 18446744073709551616) (w:World):(callFunc 168 #[.int .u64 x,.int .u64 y,.int .u64 0]).run Tryz.prog w =
  .ok (.value (.tuple #[.int .u64 ((x - y) % 18446744073709551616),.int .u64 (bor x y)])) w:=by
 obtain⟨x,rfl⟩:=Int.eq_ofNat_of_zero_le hx;obtain⟨y,rfl⟩:=Int.eq_ofNat_of_zero_le hy
 have this:(callFunc 168 #[.int .u64 (x:Int),.int .u64 (y:Int),.int .u64 0]).run Tryz.prog w =
   .ok (.value (.tuple #[.int .u64 (((x + 18446744073709551616 - y - 0) % 18446744073709551616:Nat):Int),.int .u64 ((if x < y + 0 then 1 else 0:Nat):Int)])) w:=by kernel_rfl
 rw[this]
 have e1:(((x + 18446744073709551616 - y - 0) % 18446744073709551616:Nat):Int)=((x:Int) - y) % 18446744073709551616:=by omega
 have e2:((if x < y + 0 then 1 else 0:Nat):Int)=bor x y:=by unfold bor; split<;>split<;>omega
 rw[e1,e2]
theorem ni {k k':IntKind} {a b c d:Int} (h:a=b) (h':c=d):Ending.returned (.tuple #[.int k a,.int k' c])=.returned (.tuple #[.int k b,.int k' d]):=by rw[h,h']
theorem rE (z:Int) (h0:0<=z) (h1:z < 18446744073709551616):bits .and .u64 z 4294967295=z % 4294967296:=and_low32 z h0 h1
theorem mul64 (x y:Int) (hx:0<=x) (b:x < 18446744073709551616) (hy:0<=y) (a:y < 18446744073709551616) (w:World) :
  Calls Tryz.prog 89 #[.int .u64 x,.int .u64 y] w fun e w'=>e=.returned (.tuple #[.int .u64 (x * y / 18446744073709551616),.int .u64 (x * y % 18446744073709551616)])/\w'=w:=by
 go_enter Tryz.func89,Tryz.ntmps89;go_wp2;go_ret2;refine⟨ni ?_ ?_,rfl⟩
 ·show IntKind.u64.wrap (IntKind.u64.wrap (IntKind.u64.wrap (x / 4294967296 * (y / 4294967296)) + IntKind.u64.wrap (IntKind.u64.wrap (x / 4294967296 * bits BinOp.and IntKind.u64 y 4294967295) + IntKind.u64.wrap (bits BinOp.and IntKind.u64 x 4294967295 * bits BinOp.and IntKind.u64 y 4294967295) / 4294967296) / 4294967296) + IntKind.u64.wrap (bits BinOp.and IntKind.u64 (IntKind.u64.wrap (IntKind.u64.wrap (x / 4294967296 * bits BinOp.and IntKind.u64 y 4294967295) + IntKind.u64.wrap (bits BinOp.and IntKind.u64 x 4294967295 * bits BinOp.and IntKind.u64 y 4294967295) / 4294967296)) 4294967295 + IntKind.u64.wrap (bits BinOp.and IntKind.u64 x 4294967295 * (y / 4294967296))) / 4294967296)=_
  simp only[IntKind.wrap_u64];rw[rE x hx b,rE y hy a,rE _ (Int.emod_nonneg _ (by decide)) (Int.emod_lt_of_pos _ (by decide))];exact mul64_arith x y hx b hy a
 ·show IntKind.u64.wrap (x * y)=_
  rw[IntKind.wrap_u64]
theorem kX (x y:Int) (hx:0<=x) (b:x < 18446744073709551616) (hy:0<=y) (a:y < 18446744073709551616) (w:World) :
  Calls Tryz.prog 89 #[.int .u64 x,.int .u64 y] w fun e w'=>∃ hi lo:Int,e=.returned (.tuple #[.int .u64 hi,.int .u64 lo])/\0<=hi/\hi<=18446744073709551614/\0<=lo/\lo < 18446744073709551616/\Hid (hi * 18446744073709551616 + lo=x * y)/\w'=w:=by
 refine(mul64 x y hx b hy a w).mono ?_
 rintro e w' ⟨rfl,rfl⟩
 have c:0<=x * y:=Int.mul_nonneg hx hy
 have d:x * y<=18446744073709551615 * 18446744073709551615:=Int.mul_le_mul (by omega) (by omega) hy (by decide);exact⟨_,_,rfl,by omega,by omega,by omega,by omega,by show _=_; omega,rfl⟩
end
section
open Go.RowKit Lim
section
variable {w w1 w':World}{ao ao':Option Addr}{b o n o' n' i k B b':Nat}{l m:List Int}{v:Value}
structure At(w:World)(ao:Option Addr)(b o:Nat)(l:List Int):Prop where
 loc:l=[]\/ao=some ⟨b,o,none⟩
 cell:∀ i,i < l.length->w.cell? ⟨b,o + i,none⟩=some (.int .u64 (nth l i))
theorem At.cells(h:At w ao b o l):Cells w ao l:=by
 rcases h.loc with e | e
 ·exact .inl e
 ·exact .inr ⟨b,o,e,h.cell⟩
def dD(w:World)(b o n:Nat):Prop:=∀ i,i < n->w.frozen? ⟨b,o + i,none⟩=false
structure Wr(b o n:Nat)(w w':World):Prop where
 os:w'.os=w.os
 tape:w'.tape=w.tape
 output:w'.output=w.output
 size:w'.heap.size=w.heap.size
 block:∀ k,k≠b->w'.heap[k]? = w.heap[k]?
 cell:∀ i,(i < o\/o + n<=i)->w'.cell? ⟨b,i,none⟩=w.cell? ⟨b,i,none⟩
 frozen:∀ i,w'.frozen? ⟨b,i,none⟩=w.frozen? ⟨b,i,none⟩
theorem Wr.refl(b o n:Nat)(w:World):Wr b o n w w:=⟨rfl,rfl,rfl,rfl,fun _ _=>rfl,fun _ _=>rfl,fun _=>rfl⟩
theorem Wr.trans{a:World}(h:Wr b o n w w1)(k:Wr b o n w1 a):Wr b o n w a :=
 ⟨k.os.trans h.os,k.tape.trans h.tape,k.output.trans h.output,k.size.trans h.size,fun i hi=>(k.block i hi).trans (h.block i hi),fun i hi=>(k.cell i hi).trans (h.cell i hi),fun i=>(k.frozen i).trans (h.frozen i)⟩
theorem Wr.mono(h:Wr b o n w w')(h1:o'<=o)(h2:o + n<=o' + n'):Wr b o' n' w w' :=
 ⟨h.os,h.tape,h.output,h.size,h.block,fun i hi=>h.cell i (by omega),h.frozen⟩
theorem Wr.setCell(h:Wr b o n w w1)(e:o<=i)(c:i < o + n)(v:Value):Wr b o n w (w1.setCell ⟨b,i,none⟩ v) :=
 h.trans ⟨rfl,rfl,rfl,by simp[World.setCell],fun k a=>Below.heap_setCell _ _ _ _ a,fun j d=>by
   simp only[World.cell?,World.setCell,Array.getElem?_modify,if_true]
   cases hh:w1.heap[b]? with
   | none=>simp
   | some ob =>
    cases ob<;>simp
    rw[Array.getElem?_setIfInBounds,if_neg (by omega)],fun j=>by
   simp only[World.frozen?,World.setCell,Array.getElem?_modify,if_true]
   cases hh:w1.heap[b]? with
   | none=>simp
   | some ob=>cases ob<;>simp⟩
theorem Wr.other(h:Wr b o n w w')(hk:k≠b):w'.cell? ⟨k,i,none⟩=w.cell? ⟨k,i,none⟩:=World.cell?_of_block (w:=w) (h.block k hk)
theorem Wr.below(h:Wr b o n w w')(hB:B<=b):Below B w w' :=
 ⟨h.os,h.tape,h.output,by rw[h.size]; exact Nat.le_refl _,fun k hk=>h.block k (by omega)⟩
theorem Wr.free(h:Wr b o n w w')(k:dD w b' o' n'):dD w' b' o' n':=by
 intro i hi;by_cases e:b'=b
 ·subst e; rw[h.frozen]; exact k i hi
 ·rw[World.frozen?_of_block (w:=w) (h.block b' e)]; exact k i hi
theorem At.wr(h:Wr b o n w w')(k:At w ao b' o' l)(hb:l=[]\/b'≠b):At w' ao b' o' l :=
 ⟨k.loc,fun i hi=>by
  rcases hb with e | e
  ·subst e; simp at hi
  ·rw[h.other e]; exact k.cell i hi⟩
theorem At.below(h:Below B w w')(k:At w ao b o l)(hb:l=[]\/b < B):At w' ao b o l :=
 ⟨k.loc,fun i hi=>by
  rcases hb with e | e
  ·subst e; simp at hi
  ·rw[h.cell (p:=⟨b,o + i,none⟩) e]; exact k.cell i hi⟩
theorem aJ(h:w.cell? ⟨b,o,none⟩=some v):b < w.heap.size:=by
 simp only[World.cell?] at h;by_cases hb:b < w.heap.size
 ·exact hb
 ·rw[Array.getElem?_eq_none (by omega)] at h; simp at h
theorem At.lt(k:At w ao b o l):l=[]\/b < w.heap.size:=by
 cases l with
 | nil=>exact .inl rfl
 | cons x l=>exact .inr (aJ (k.cell 0 (by simp)))
theorem At.keep(h:Below w.heap.size w w')(k:At w ao b o l):At w' ao b o l:=k.below h k.lt
theorem At.setCell(k : At w ao b o l)(hi : i < l.length)(x : Int) : At (w.setCell ⟨b, o + i, none⟩ (.int .u64 x)) ao b o (l.set i x) :=
  ⟨by rcases k.loc with e | e
      · subst e; simp at hi
      · exact .inr e, fun j g => by
    rw[List.length_set] at g;have hc := k.cell j g;rw[dC hi];have a := k.cell i hi;simp only[World.cell?, World.setCell, Array.getElem?_modify, if_true] at hc a ⊢
    cases hh : w.heap[b]? with
    | none => rw[hh] at hc; simp at hc
    | some ob =>
      rw[hh] at hc a
      cases ob with
      | cells c e f =>
        simp at hc a ⊢;rw[Array.getElem?_setIfInBounds];by_cases e : j = i
        · subst e
          obtain⟨d, _⟩:= Array.getElem?_eq_some_iff.1 a;simp[d]
        · rw[if_neg (by omega), if_neg e]; exact hc
      | _ => simp at hc⟩
theorem At.drew(h:At w ao b o l):At w.drew ao b o l:=⟨h.loc,h.cell⟩
theorem dD.drew(h:dD w b o n):dD w.drew b o n:=h
theorem Wr.drew(h:Wr b o n w w'):Wr b o n w w'.drew:=⟨h.os,h.tape,h.output,h.size,h.block,h.cell,h.frozen⟩
theorem At.drewN(h:At w ao b o l)(n:Nat):At (w.drewN n) ao b o l:=⟨h.loc,h.cell⟩
theorem Wr.drewN(h:Wr b o n w w')(k:Nat):Wr b o n w (w'.drewN k):=⟨h.os,h.tape,h.output,h.size,h.block,h.cell,h.frozen⟩
def patch(l:List Int)(k:Nat)(m:List Int):List Int:=l.take k ++ (m ++ l.drop (k + m.length))
theorem e9(h:k + m.length<=l.length):(patch l k m).length=l.length:=by simp[patch]; omega
theorem kH(hl:Words l)(hm:Words m):Words (patch l k m):=(hl.take k).append (hm.append (hl.drop _))
theorem qi(h:k + m.length<=l.length)(hi:i < m.length):nth (patch l k m) (k + i)=nth m i:=by
 have e:(l.take k).length=k:=by simp; omega
 rw[patch,bJ (by omega),e,Nat.add_sub_cancel_left,cQ hi]
theorem nm(h:k + m.length<=l.length)(hi:i < k\/k + m.length<=i):nth (patch l k m) i=nth l i:=by
 have e:(l.take k).length=k:=by simp; omega
 rcases hi with hi | hi
 ·rw[patch,cQ (by omega),dr hi]
 ·rw[patch,bJ (by omega),e,bJ (by omega),dG]; congr 1; omega
theorem nU(h:k + m.length<=l.length):val (patch l k m)=val l + 18446744073709551616 ^ k * (val m - val ((l.drop k).take m.length)):=by
 have e:(l.take k).length=k:=by simp; omega
 have b:=bF l k (by omega);have a:=bF (l.drop k) m.length (by simp; omega);rw[List.drop_drop] at a;rw[patch,eb,eb,e,b,a];grind
theorem At.patch(h : At w ao b o l)(hw : Wr b (o + k) n w w')(hm : At w' ao' b (o + k) m)(hn : m.length = n)(c : k + n ≤ l.length) : At w' ao b o (patch l k m) :=
  ⟨by rcases h.loc with e | e
      · left; subst e; simp at c; simp[Go.Proofs.YthfepflplbahkaaGreatDoor.patch, List.eq_nil_of_length_eq_zero (show m.length = 0 by omega)]
      · exact .inr e, fun i hi => by
    rw[e9 (by omega)] at hi;by_cases a : k ≤ i ∧ i < k + n
    · obtain⟨j, rfl⟩:= Nat.exists_eq_add_of_le a.1
      rw[qi (by omega) (by omega), ← hm.cell j (by omega), Nat.add_assoc]
    · rw[nm (by omega) (by omega), hw.cell _ (by omega)]; exact h.cell i hi⟩
theorem At.fI(h:At w ao b o l)(k n:Nat):At w (some ⟨b,o + k,none⟩) b (o + k) ((l.drop k).take n) :=
 ⟨.inr rfl,fun i hi=>by
  simp only[List.length_take,List.length_drop] at hi;rw[dr (by omega),dG,Nat.add_assoc]; exact h.cell _ (by omega)⟩
theorem dD.fI(h:dD w b o n){m:Nat}(hk:k + m<=n):dD w b (o + k) m:=fun i hi=>by
 rw[Nat.add_assoc]; exact h _ (by omega)
theorem At.sub(k : At w ao b o l)(n : Nat) : At w ao b o (l.take n) :=
  ⟨by rcases k.loc with e | e
      · subst e; exact .inl (by simp)
      · exact .inr e, fun i hi => by
    rw[List.length_take] at hi;rw[dr (by omega)]; exact k.cell i (by omega)⟩
end
end
section
open Go.RowKit Lim
section
variable {w:World}{g:Nat}{l:List Int}{ops:Array Oper}{rest:List Oper}{o:Oper}{a:Act}
theorem gV:(Tryz.prog.info? 22).map (fun i=>(i.zero,i.size,i.bytes))=some (some (.int .u64 0),1,8):=by kernel_rfl
theorem fX:Tryz.prog.underlying 30=some (.slice 22):=by kernel_rfl
def Row(w:World)(g:Nat)(l:List Int):Prop:=w.heap[g]? = some (.cells (l.map (Value.int .u64)).toArray 22 (0,0))
theorem Row.at(h:Row w g l):At w (some ⟨g,0,none⟩) g 0 l :=
 ⟨.inr rfl,fun i hi=>by
  unfold Row at h;simp only[World.cell?,h];simp[bT hi,hi]⟩
theorem Row.free(h:Row w g l)(o n:Nat):dD w g o n:=by
 intro i _;unfold Row at h;simp[World.frozen?,h]
theorem Row.lt(h:Row w g l):g < w.heap.size:=(Array.getElem?_eq_some_iff.1 h).1
structure dH(w w':World)(v:Value)(l:List Int):Prop where
 is:∃ ao b o c,v=.slice ao l.length c/\l.length<=c/\w.heap.size<=b/\At w' ao b o l/\dD w' b o l.length
theorem rC(n:Nat):madeCells (Value.int .u64 0).cells n=((List.replicate n 0).map (Value.int .u64)).toArray:=by
 apply Array.ext
 ·simp[size_madeCells]
 ·intro j a b;simp[madeCells,Value.cells,Nat.mod_one]
theorem cY{Q:Exit->Act->World->Prop}(g:o.guard=none)(l c:Operand)(d:o.op=Op.makeSlice 30 l c)(n:Nat)(L C:Int)(h:a.eval l=.int .i64 L)(hc:a.eval c=.int .i64 C)(hL:L=(n:Int))(hC:C=(n:Int))(hn:n<=17592186044416)(f:∀ w',Row w' w.heap.size (List.replicate n 0)->Below w.heap.size w w'->w'.heap.size=w.heap.size + 1->wpList Tryz.prog ops Q rest (a.put o.dst (.slice (some ⟨w.heap.size,0,none⟩) n n)) w') :
  wpList Tryz.prog ops Q (o :: rest) a w:=by
 obtain⟨i,hi,j,hs,hb⟩:=info_parts gV;refine wpList_plain g fun K e => ?_
 have b:=run_make (P:=Tryz.prog) w 30 22 i (.int .u64 0) fX hi j .i64 .i64 (n:Int) (n:Int) (by omega) (by omega) (by rw[hb]; omega) (by omega);subst hL;subst hC;unfold Oper.wp;simp only[execOp,d,h,hc];simp[b,Result.andThen];refine e _ _ (f _ ?_ ?_ ?_)
 ·show (w.heap.push _)[w.heap.size]? = _
  rw[Array.getElem?_push_size,hs,Nat.mul_one,rC]
 ·exact(Below.refl _ _).alloc (Nat.le_refl _) _
 ·simp
theorem gi{Q:Exit->Act->World->Prop}(p:o.guard=none)(d s:Operand)(B:o.op=.call { callee:=.builtin .copy,args:=#[d,s],argTypes:=#[30,30] })(g dLen dCap sLen sCap:Nat)(sp:Option Addr)(A:a.eval d=.slice (some ⟨g,0,none⟩) dLen dCap)(hs:a.eval s=.slice sp sLen sCap)(lz ls:List Int)(b:Row w g lz)(z:lz.length=dLen)(b' o':Nat)(l:ls.length=sLen)(hle:sLen<=dLen)(q:At w sp b' o' ls)(h:∀ w',Row w' g (ls ++ lz.drop sLen)->Wr g 0 dLen w w'->wpList Tryz.prog ops Q rest (a.put o.dst (goInt sLen)) w'):wpList Tryz.prog ops Q (o :: rest) a w:=by
 obtain⟨i,hi,E,x,hb⟩:=info_parts gV
 have c:(Tryz.prog.info? 22).map (·.size)=some 1:=by rw[hi]; simp[x]
 by_cases t:sLen=0
 ·have C:ls=[]:=List.eq_nil_of_length_eq_zero (by omega);subst C;refine wpList_copy_nothing p d s _ _ B _ fX c _ sp dLen dCap sLen sCap A hs (by subst t; exact Nat.zero_min _) ?_
  have:=h w (by rw[t]; simpa using b) (Wr.refl _ _ _ _);rwa [t] at this
 ·obtain rfl:sp=some ⟨b',o',none⟩:=by
   rcases q.loc with e | e
   ·subst e; simp at l; omega
   ·exact e
  have m:Nat.min sLen dLen=sLen:=Nat.min_eq_left hle
  have hlen:(ls.map (Value.int .u64)).length=sLen:=by simp[l]
  refine wpList_copy_own p d s _ _ B _ fX c g 0 dLen dCap ⟨b',o',none⟩ sLen sCap A hs _ _ b (ls.map (Value.int .u64)) (by rw[m,hlen]) ?_ (by simp[l,z]; omega) (ints_oneCell _ _) ?_
  ·intro j v hv;rw[List.getElem?_map] at hv
   have f:j < ls.length:=by
    rcases Nat.lt_or_ge j ls.length with f | f
    ·exact f
    ·rw[List.getElem?_eq_none f] at hv; simp at hv
   rw[List.getElem?_eq_getElem f] at hv;simp at hv;subst hv;have:=q.cell j f;rw[bT f] at this;rw[<- this];by_cases n:j=0
   ·subst n; exact congrArg w.cell? (by simp[Addr.add])
   ·exact congrArg w.cell? (by simp[Addr.add,n])
  ·rw[hlen]
   have y:Row (w.setRow g (List.take 0 (List.map (Value.int .u64) lz).toArray.toList ++ (List.map (Value.int .u64) ls ++ List.drop (0 + sLen) (List.map (Value.int .u64) lz).toArray.toList)).toArray) g (ls ++ lz.drop sLen):=by
    unfold Row;rw[setRow_heap w g _ _ _ _ b,Nat.zero_add];simp only[List.take_zero,List.nil_append,<- List.map_drop,<- List.map_append]
   refine h _ y ⟨rfl,rfl,rfl,by simp[World.setRow],fun k D=>setRow_other w g k _ D,fun j f => ?_,fun j => ?_⟩
   ·have r:w.heap[g]? = _:=b
    have u:(w.setRow g (List.take 0 (List.map (Value.int .u64) lz).toArray.toList ++ (List.map (Value.int .u64) ls ++ List.drop (0 + sLen) (List.map (Value.int .u64) lz).toArray.toList)).toArray).heap[g]? = _:=y;simp only[World.cell?,r,u];simp;rw[List.getElem?_eq_none (by simp; omega),List.getElem?_eq_none (by omega)];rfl
   ·have r:w.heap[g]? = _:=b
    have u:(w.setRow g (List.take 0 (List.map (Value.int .u64) lz).toArray.toList ++ (List.map (Value.int .u64) ls ++ List.drop (0 + sLen) (List.map (Value.int .u64) lz).toArray.toList)).toArray).heap[g]? = _:=y;simp only[World.frozen?,r,u]
end
end
section
open Go.RowKit Lim
section
variable {x y:Int}{l a b:List Int}
def sgn(x y:Int):Int:=if x < y then -1 else if y < x then 1 else 0
theorem gW(h:x < y):sgn x y = -1:=by simp[sgn,h]
theorem jd(h:y < x):sgn x y=1:=by simp only[sgn]; rw[if_neg (by omega),if_pos h]
theorem tJ(h:x=y):sgn x y=0:=by simp[sgn,h]
theorem gg(l:List Int):val l=nth l 0 + 18446744073709551616 * val l.tail:=by
 cases l with
 | nil=>simp[val,nth]
 | cons x l=>simp[val,nth]
theorem fC(l:List Int)(i:Nat):nth l.tail i=nth l (i + 1):=by
 cases l with
 | nil=>simp[nth]
 | cons x l=>simp[nth]
theorem Lim.Words.tl(h:Words l):Words l.tail:=fun x hx=>h x (List.mem_of_mem_tail hx)
theorem qq:∀ {a b:List Int},(∀ i,nth a i=nth b i)->val a=val b
 | [],b,h=>by rw[fq (l:=b) fun i=>by rw[<- h i,CF]]; rfl
 | x :: a,b,h=>by
  rw[gg (x :: a),gg b,h 0,List.tail_cons,qq (a:=a) (b:=b.tail) fun i=>by rw[fC,<- h (i + 1),dE]]
theorem j8:∀ (h:Nat) {a b:List Int},Words a->Words b->(∀ i,h < i->nth a i=nth b i)->nth a h < nth b h->val a < val b
 | 0,a,b,_,_,he,hl=>by
  rw[gg a,gg b,qq (a:=a.tail) (b:=b.tail) fun i=>by rw[fC,fC]; exact he _ (by omega)];omega
 | h + 1,a,b,ha,hb,he,hl=>by
  have:=j8 h ha.tl hb.tl (fun i hi=>by rw[fC,fC]; exact he _ (by omega)) (by rw[fC,fC]; exact hl);have d:=ha.nth 0; have c:=hb.nth 0;rw[gg a,gg b];omega
theorem sgn_at(e:Words a)(hb:Words b)(h:Nat)(he:∀ i,h < i->nth a i=nth b i)(d:nth a h≠nth b h):sgn (nth a h) (nth b h)=sgn (val a) (val b):=by
 rcases Int.lt_or_gt_of_ne d with c | c
 ·rw[gW c,gW (j8 h e hb he c)]
 ·rw[jd c,jd (j8 h hb e (fun i hi=>(he i hi).symm) c)]
theorem As(e:Words a)(hb:Words b)(c:aI a≠aI b):sgn (aI a) (aI b)=sgn (val a) (val b):=by
 rcases Nat.lt_or_gt_of_ne c with d | d
 ·rw[gW (by omega),gW (dA e hb d)]
 ·rw[jd (by omega),jd (dA hb e d)]
theorem rO(x y:Int)(w:World):Calls Tryz.prog 60 #[.int .i64 x,.int .i64 y] w fun e w'=>e=.returned (.int .i64 (sgn x y))/\w'=w:=by
 rcases Int.lt_trichotomy x y with h | h | h
 ·rw[gW h];go_enter Tryz.func60,Tryz.ntmps60;go_wp2;go_ret;exact⟨rfl,rfl⟩
 ·rw[tJ h]; subst h;go_enter Tryz.func60,Tryz.ntmps60;go_wp2;go_ret;exact⟨rfl,rfl⟩
 ·rw[jd h]
  have a:¬ x < y:=by omega
  go_enter Tryz.func60,Tryz.ntmps60;go_wp2;go_ret;exact⟨rfl,rfl⟩
theorem rj(x y:Int)(w:World):Calls Tryz.prog 61 #[.int .u64 x,.int .u64 y] w fun e w'=>e=.returned (.int .i64 (sgn x y))/\w'=w:=by
 rcases Int.lt_trichotomy x y with h | h | h
 ·rw[gW h];go_enter Tryz.func61,Tryz.ntmps61;go_wp2;go_ret;exact⟨rfl,rfl⟩
 ·rw[tJ h]; subst h;go_enter Tryz.func61,Tryz.ntmps61;go_wp2;go_ret;exact⟨rfl,rfl⟩
 ·rw[jd h]
  have a:¬ x < y:=by omega
  go_enter Tryz.func61,Tryz.ntmps61;go_wp2;go_ret;exact⟨rfl,rfl⟩
theorem kB{k:IntKind}{a b:Int}(h:a=b):Ending.returned (.int k a)=.returned (.int k b):=by rw[h]
theorem ir(ao:Option Addr)(n c b o:Nat)(ao':Option Addr)(n' c' b' o':Nat)(l a:List Int)(w:World)(X:l.length=n)(C:a.length=n')(hc:n<=c)(B:n'<=c')(J:n<=1099511627776)(G:n'<=1099511627776)(wl:Words l)(m:Words a)(u:At w ao b o l)(f:At w ao' b' o' a) :
  Calls Tryz.prog 26 #[.slice ao n c,.slice ao' n' c'] w fun e w'=>e=.returned (.int .i64 (sgn (val l) (val a)))/\Below w.heap.size w w':=by
 have hn:=bB l
 have A:=bB a;have t1:=bp ao n c l w X hc (by omega) u.cells;have t2:=bp ao' n' c' a w C B (by omega) f.cells
 have t:∀ i,aI l<=i->nth l i=0:=fun i hi=>ft hi
 have g:∀ i,aI a<=i->nth a i=0:=fun i hi=>ft hi
 have s:Hid (aI l≠aI a->sgn (aI l) (aI a)=sgn (val l) (val a)):=As wl m
 have M:Hid (∀ i,aI l<=i->nth l i=0):=t
 have q:Hid (∀ i,aI a<=i->nth a i=0):=g;clear t g;generalize aI l=N at *;generalize aI a=P at *;go_enter Tryz.func26,Tryz.ntmps26;go_wp2_with fail;refine t1.mono ?_
 rintro e w1 ⟨rfl,rfl⟩;go_wp2_with fail;refine t2.mono ?_
 rintro e I ⟨rfl,rfl⟩;clear t1 t2;by_cases p:N=P
 ·subst p;go_wp2_with fail;go_loopw [25] (fun E wr=>∃ k:Nat,k<=N/\E=.int .i64 k/\Hid (∀ i,N - k<=i->nth l i=nth a i)/\Below I.heap.size I wr) (fun E _=>N - (intOf E).toNat)
  case atStart=>exact⟨0,Nat.zero_le _,rfl,fun i hi=>by rw[M.out i (by omega),q.out i (by omega)],Below.refl _ _⟩
  case round =>
   obtain⟨k,hk,rfl,D,d⟩:=hrel;by_cases V:k < N
   ·have r:=u.keep d
    have j:=f.keep d;rcases u.loc with e | rfl
    ·subst e; simp at hn; omega
    rcases f.loc with e | rfl
    ·subst e; simp at A; omega
    obtain⟨h,O⟩:∃ h:Nat,N=h + 1 + k:=⟨N - 1 - k,by omega⟩
    have q1:=r.cell h (by omega);have H:=j.cell h (by omega)
    have R:Hid (N=h + 1 + k):=O
    have K:(N:Int) - 1 - k=h:=by omega
    have Q:Hid (∀ i,h < i->nth l i=nth a i):=fun i hi=>D.out i (by omega)
    have T:Hid (nth l h≠nth a h->sgn (nth l h) (nth a h)=sgn (val l) (val a)):=sgn_at wl m h Q.out
    have Z:(h:Int) < N:=by omega
    clear O D M q s u f r j wl m;generalize hx:nth l h=x at *;generalize hy:nth a h=y at *
    have L:Hid (x=y->nth l h=nth a h):=fun e=>hx.trans (e.trans hy.symm)
    clear hx hy;by_cases v:x=y
    ·have U:Hid (nth l h=nth a h):=L.out v;clear L;subst v;go_wp2_with fail;go_quiet (fail);go_wp2;go_roundw
     case rel=>exact⟨k + 1,by omega,by go_num,fun i hi=>by
      by_cases e:i=h
      ·subst e; exact U.out
      ·exact Q.out i (by have:=R.out; omega),below_drewN d _⟩
     case measure=>simp[intOf]; omega
    ·have Y:(x != y)=true:=by rw[bne_iff_ne]; exact v
     go_wp2_with fail;go_quiet (fail);go_wp2_with fail
     have q3:(wr.drewN nq).cell? ⟨b,o + h,none⟩=some (.int .u64 x):=q1
     have q4:(wr.drewN nq).cell? ⟨b',o' + h,none⟩=some (.int .u64 y):=H;have z:=below_drewN d nq;clear q1 H d;generalize wr.drewN nq=W at *;go_quiet ((go_at_call 61; exact Calls.quiet_of_same (rj _ _ _)));go_wp2;go_ret;exact⟨kB (T.out v),below_drewN z _⟩
   ·have F:k=N:=by omega
    subst F;go_wp2;go_ret;rw[tJ (qq fun i=>D.out i (by omega))];exact⟨rfl,d⟩
 ·have S:((N:Int) != (P:Int))=true:=by rw[bne_iff_ne]; omega
  go_wp2_with (go_at_call 60; refine(rO _ _ _).mono ?_; rintro e w' ⟨rfl,rfl⟩);go_ret;exact⟨kB (s.out p),Below.refl _ _⟩
end
end
section
open Go.RowKit Lim
section
variable {n:Nat}
theorem w64(z:Int)(h0:0<=z)(h1:z<=1000):wrap64 z=z:=by
 unfold wrap64; omega
theorem gu(k:Int)(i:Nat)(h0:0<=k)(hk:k<=56)(h:i < 256):wrap64 (k + wrap64 (bitLen i:Int))=k + bitLen i:=by
 have:=bitLen_le8 i h;rw[w64 (bitLen i) (by omega) (by omega),w64 _ (by omega) (by omega)]
theorem iT(x:Int)(b i:Nat)(h:x.toNat / 2 ^ b=i)(hi:i≠0):((bitLen x.toNat:Nat):Int)=b + bitLen i:=by
 rw[bitLen_shift x.toNat b (by rw[h]; exact hi),h]; omega
theorem len64(x:Int)(w:World)(b:0<=x)(a:x < 18446744073709551616) :
  Calls Tryz.prog 139 #[.int .u64 x] w fun e w'=>e=.returned (.int .i64 (bitLen x.toNat))/\w'=w:=by
 by_cases c0:4294967296<=x
 ·by_cases c1:65536<=x / 4294967296
  ·by_cases c2:256<=x / 4294967296 / 65536
   ·go_enter Tryz.func139,Tryz.ntmps139;go_wp2;go_ret;refine⟨kB ?_,rfl⟩;rw[len8tab_get,gu 56 (x / 4294967296 / 65536 / 256).toNat (by decide) (by decide) (by omega),iT x 56 (x / 4294967296 / 65536 / 256).toNat (by rw[show (2:Nat) ^ 56=72057594037927936 from rfl]; omega) (by omega)];rfl
   ·go_enter Tryz.func139,Tryz.ntmps139;go_wp2;go_ret;refine⟨kB ?_,rfl⟩;rw[len8tab_get,gu 48 (x / 4294967296 / 65536).toNat (by decide) (by decide) (by omega),iT x 48 (x / 4294967296 / 65536).toNat (by rw[show (2:Nat) ^ 48=281474976710656 from rfl]; omega) (by omega)];rfl
  ·by_cases c2:256<=x / 4294967296
   ·go_enter Tryz.func139,Tryz.ntmps139;go_wp2;go_ret;refine⟨kB ?_,rfl⟩;rw[len8tab_get,gu 40 (x / 4294967296 / 256).toNat (by decide) (by decide) (by omega),iT x 40 (x / 4294967296 / 256).toNat (by rw[show (2:Nat) ^ 40=1099511627776 from rfl]; omega) (by omega)];rfl
   ·go_enter Tryz.func139,Tryz.ntmps139;go_wp2;go_ret;refine⟨kB ?_,rfl⟩;rw[len8tab_get,gu 32 (x / 4294967296).toNat (by decide) (by decide) (by omega),iT x 32 (x / 4294967296).toNat (by rw[show (2:Nat) ^ 32=4294967296 from rfl]; omega) (by omega)];rfl
 ·by_cases c1:65536<=x
  ·by_cases c2:256<=x / 65536
   ·go_enter Tryz.func139,Tryz.ntmps139;go_wp2;go_ret;refine⟨kB ?_,rfl⟩;rw[len8tab_get,gu 24 (x / 65536 / 256).toNat (by decide) (by decide) (by omega),iT x 24 (x / 65536 / 256).toNat (by rw[show (2:Nat) ^ 24=16777216 from rfl]; omega) (by omega)];rfl
   ·go_enter Tryz.func139,Tryz.ntmps139;go_wp2;go_ret;refine⟨kB ?_,rfl⟩;rw[len8tab_get,gu 16 (x / 65536).toNat (by decide) (by decide) (by omega),iT x 16 (x / 65536).toNat (by rw[show (2:Nat) ^ 16=65536 from rfl]; omega) (by omega)];rfl
  ·by_cases c2:256<=x
   ·go_enter Tryz.func139,Tryz.ntmps139;go_wp2;go_ret;refine⟨kB ?_,rfl⟩;rw[len8tab_get,gu 8 (x / 256).toNat (by decide) (by decide) (by omega),iT x 8 (x / 256).toNat (by rw[show (2:Nat) ^ 8=256 from rfl]; omega) (by omega)];rfl
   ·go_enter Tryz.func139,Tryz.ntmps139;go_wp2;go_ret;refine⟨kB ?_,rfl⟩;rw[len8tab_get];have:=bitLen_le8 x.toNat (by omega);rw[w64 (bitLen x.toNat:Int) (by omega) (by omega),w64 _ (by omega) (by omega)]
theorem lY(h:n≠0):1<=bitLen n:=by unfold bitLen; rw[if_neg h]; omega
theorem gT(h:n < 18446744073709551616):bitLen n<=64:=by
 unfold bitLen;split
 ·omega
 ·have:=(Nat.log2_lt (k:=64) ‹_›).2 (by omega); omega
theorem DI(x:Int)(w:World)(a:0<=x)(b:x < 18446744073709551616) :
  Calls Tryz.prog 87 #[.int .u64 x] w fun e w'=>e=.returned (.int .i64 (64 - bitLen x.toNat))/\w'=w:=by
 have c:=gT (n:=x.toNat) (by omega);have t1:=len64 x w a b;generalize bitLen x.toNat=L at *;go_enter Tryz.func87,Tryz.ntmps87;go_wp2_with fail;refine t1.mono ?_
 rintro e d ⟨rfl,rfl⟩;go_wp2;go_ret;exact⟨rfl,rfl⟩
end
end
section
open Go.RowKit Lim
section
variable {y y1 y0 u a q r:Int}
theorem DK(y:Int)(w:World)(h:0 < y)(d:y < 18446744073709551616) :
  Calls Tryz.prog 87 #[.int .u64 y] w fun e w'=>∃ s:Nat,e=.returned (.int .i64 s)/\s<=63/\Hid (9223372036854775808<=y * 2 ^ s/\y * 2 ^ s < 18446744073709551616)/\w'=w:=by
 refine(DI y w (by omega) d).mono ?_
 rintro e w' ⟨rfl,rfl⟩;have g:=gT (n:=y.toNat) (by omega);have f:=lY (n:=y.toNat) (by omega);have hs:=bitLen_spec y.toNat;generalize bitLen y.toNat=L at *;refine⟨64 - L,kB (by omega),by omega,?_,rfl⟩;have b:=hs.1;have a:=hs.2 (by omega);obtain⟨n,rfl⟩:∃ n:Nat,y=n:=⟨y.toNat,by omega⟩
 rw[Int.toNat_natCast] at b a
 have e1:(2:Nat) ^ L * 2 ^ (64 - L)=18446744073709551616:=by rw[<- Nat.pow_add,show L + (64 - L)=64 from by omega]
 have e2:(2:Nat) ^ (L - 1) * 2 ^ (64 - L)=9223372036854775808:=by rw[<- Nat.pow_add,show L - 1 + (64 - L)=63 from by omega]
 have k1:n * 2 ^ (64 - L) < 2 ^ L * 2 ^ (64 - L):=Nat.mul_lt_mul_of_pos_right b (Nat.two_pow_pos _)
 have k2:2 ^ (L - 1) * 2 ^ (64 - L)<=n * 2 ^ (64 - L):=Nat.mul_le_mul_right _ a;rw[e1] at k1;rw[e2] at k2
 have c:((n * 2 ^ (64 - L):Nat):Int)=(n:Int) * 2 ^ (64 - L):=by rw[Int.natCast_mul,Int.natCast_pow]; rfl
 show _/\_
 rw[<- c];omega
structure eM(y y1 u a q r:Int):Prop where
 eq:q * y1 + r=u
 r0:0<=r
 up:u * 4294967296 + a < (q + 1) * y
 q0:0<=q
 qb:q<=4294967297
theorem eM.start(e:y=y1 * 4294967296 + y0)(g:0<=y0)(j:y0 < 4294967296)(h:2147483648<=y1)(u0:0<=u)(i:u < y)(a0:0<=a)(a1:a < 4294967296) :
  eM y y1 u a (u / y1) (u % y1):=by
 have d:=Int.mul_ediv_add_emod u y1;have f:=Int.emod_nonneg u (show y1≠0 by omega);have c:=Int.emod_lt_of_pos u (show 0 < y1 by omega)
 have b:0<=u / y1:=Int.ediv_nonneg u0 (by omega);generalize u / y1=q at *;generalize u % y1=r at *;refine⟨by rw[Int.mul_comm]; exact d,f,?_,b,?_⟩
 ·have k1:(q + 1) * y=(y1 * q + y1) * 4294967296 + (q + 1) * y0:=by rw[e]; grind
  have k2:0<=(q + 1) * y0:=Int.mul_nonneg (by omega) g;rw[k1]; omega
 ·by_cases hc:q<=4294967297
  ·exact hc
  ·have k:y1 * 4294967298<=y1 * q:=Int.mul_le_mul_of_nonneg_left (by omega) (by omega);omega
theorem eM.big(h:eM y y1 u a q r)(a1:a < 4294967296)(y0:0 < y)(d:u < y)(b:4294967296<=q)(c:0<=y1):eM y y1 u a (q - 1) (r + y1):=by
 have k:y * 4294967296<=y * q:=Int.mul_le_mul_of_nonneg_left b (by omega);have:=h.eq; have:=h.r0; have:=h.qb;refine⟨by rw[Int.sub_mul]; omega,by omega,?_,by omega,by omega⟩;rw[Int.sub_add_cancel,Int.mul_comm q y]; omega
theorem eM.more(h:eM y y1 u a q r)(e:y=y1 * 4294967296 + y0)(u0:0<=u)(a0:0<=a)(f:0<=y1)(hc:4294967296 * r + a < q * y0):eM y y1 u a (q - 1) (r + y1):=by
 have he:=h.eq; have:=h.r0; have:=h.qb; have:=h.q0
 have k:q * y=q * y1 * 4294967296 + q * y0:=by rw[e]; grind
 have b:u * 4294967296 + a < q * y:=by rw[k]; omega
 have d:1<=q:=by
  by_cases c:1<=q
  ·exact c
  ·have:q=0:=by omega
   subst this;simp at b; omega
 refine⟨by rw[Int.sub_mul]; omega,by omega,?_,by omega,by omega⟩;rw[Int.sub_add_cancel]; exact b
structure Dig(y u a q:Int):Prop where
 lo:q * y<=u * 4294967296 + a
 hi:u * 4294967296 + a < (q + 1) * y
 q0:0<=q
 q1:q < 4294967296
theorem eM.dig(h:eM y y1 u a q r)(e:y=y1 * 4294967296 + y0)(b:0 < y)(d:u < y)(a1:a < 4294967296)(hc:q * y0<=4294967296 * r + a):Dig y u a q:=by
 have he:=h.eq
 have k:q * y=q * y1 * 4294967296 + q * y0:=by rw[e]; grind
 have lo:q * y<=u * 4294967296 + a:=by rw[k]; omega
 refine⟨lo,h.up,h.q0,?_⟩;by_cases c:q < 4294967296
 ·exact c
 ·have:4294967296 * y<=q * y:=Int.mul_le_mul_of_nonneg_right (by omega) (by omega);omega
theorem eM.kQ(h:eM y y1 u a q r)(e:y=y1 * 4294967296 + y0)(c:0 < y)(d:u < y)(a0:0<=a)(a1:a < 4294967296)(f:0<=y0)(i:y0 < 4294967296)(b:q<=4294967296)(g:4294967296<=r):Dig y u a q :=
 h.dig e c d a1 (by
  have:q * y0<=4294967296 * y0:=Int.mul_le_mul_of_nonneg_right b f;omega)
theorem Dig.rest(h:Dig y u a q):0<=u * 4294967296 + a - q * y/\u * 4294967296 + a - q * y < y:=by
 have:=h.lo; have h2:=h.hi;rw[Int.add_mul] at h2;omega
theorem ediv64(x S T:Int)(hS:0 < S)(h:S * T=18446744073709551616):x * S / 18446744073709551616=x / T:=by
 rw[<- h,Int.mul_comm S T,Int.mul_ediv_mul_of_pos_left _ _ hS]
theorem qh(a b:Int)(s:Nat)(k:Int)(i:a=k * 2 ^ s)(j:0<=k)(f:a < 18446744073709551616)(c:0<=b)(m:b < 2 ^ s)(g:b < 18446744073709551616):bits .or .u64 a b=a + b:=by
 have l:(0:Int) < 2 ^ s:=Int.pow_pos (by decide)
 have d:0<=a:=by rw[i]; exact Int.mul_nonneg j (Int.le_of_lt l)
 rw[u64_or a b d f c g];obtain⟨k,rfl⟩:=Int.eq_ofNat_of_zero_le j;obtain⟨b,rfl⟩:=Int.eq_ofNat_of_zero_le c
 have e:a.toNat=2 ^ s * k:=by
  have:a=((2 ^ s * k:Nat):Int):=by rw[i,Int.natCast_mul,Int.natCast_pow,Int.mul_comm]; rfl
  rw[this,Int.toNat_natCast]
 have h:b < 2 ^ s:=by
  have:((2 ^ s:Nat):Int)=2 ^ s:=by rw[Int.natCast_pow]; rfl
  omega
 rw[e,Int.toNat_natCast,<- Nat.two_pow_add_eq_or_of_lt h,<- e];omega
theorem Az(hi lo y:Int)(s:Nat)(h:0<=hi)(p:hi < y)(i:0<=lo)(l1:lo < 18446744073709551616)(hs:s<=63)(o:9223372036854775808<=y * 2 ^ s/\y * 2 ^ s < 18446744073709551616) :
  ∃ Y Yh Yl U A A1 A0:Int,IntKind.u64.wrap (y * 2 ^ s)=Y/\Y / 4294967296=Yh/\bits .and .u64 Y 4294967295=Yl/\bits .or .u64 (IntKind.u64.wrap (hi * 2 ^ s)) (lo / 2 ^ (64 - s))=U /\
   IntKind.u64.wrap (lo * 2 ^ s)=A/\A / 4294967296=A1/\bits .and .u64 A 4294967295=A0/\0<=Yl/\Yl < 4294967296/\2147483648<=Yh/\Yh < 4294967296/\0<=U/\U < Y/\Y < 18446744073709551616/\0<=A1/\A1 < 4294967296/\0<=A0/\A0 < 4294967296 /\
   Hid (Y=Yh * 4294967296 + Yl)/\Hid ((U * 4294967296 + A1) * 4294967296 + A0=(hi * 18446744073709551616 + lo) * 2 ^ s/\Y=y * 2 ^ s):=by
 have hS:(0:Int) < 2 ^ s:=Int.pow_pos (by decide)
 have g:(0:Int) < 2 ^ (64 - s):=Int.pow_pos (by decide)
 have d:(2:Int) ^ s * 2 ^ (64 - s)=18446744073709551616:=by rw[<- Int.pow_add,show s + (64 - s)=64 from by omega]; rfl
 have f:(2:Int) ^ s * 1<=2 ^ s * 2 ^ (64 - s):=Int.mul_le_mul_of_nonneg_left (by omega) (Int.le_of_lt hS)
 have e:0<=hi * 2 ^ s:=Int.mul_nonneg h (Int.le_of_lt hS)
 have c:(hi + 1) * 2 ^ s<=y * 2 ^ s:=Int.mul_le_mul_of_nonneg_right (by omega) (Int.le_of_lt hS);rw[Int.add_mul,Int.one_mul] at c
 have j:0<=lo * 2 ^ s:=Int.mul_nonneg i (Int.le_of_lt hS)
 have a:0<=lo / 2 ^ (64 - s):=Int.ediv_nonneg i (Int.le_of_lt g)
 have b:lo / 2 ^ (64 - s) < 2 ^ s:=by
  rw[Int.ediv_lt_iff_lt_mul g,d]; exact l1
 have k:=ediv64 lo (2 ^ s) (2 ^ (64 - s)) hS d
 have m:bits .or .u64 (IntKind.u64.wrap (hi * 2 ^ s)) (lo / 2 ^ (64 - s))=hi * 2 ^ s + lo / 2 ^ (64 - s):=by
  rw[IntKind.wrap_u64,Int.emod_eq_of_lt e (by omega)];exact qh _ _ s hi rfl h (by omega) a b (by omega)
 have l:IntKind.u64.wrap (y * 2 ^ s)=y * 2 ^ s:=by rw[IntKind.wrap_u64]; omega
 have hA:IntKind.u64.wrap (lo * 2 ^ s)=lo * 2 ^ s % 18446744073709551616:=IntKind.wrap_u64 _
 have e3:(hi * 18446744073709551616 + lo) * 2 ^ s=hi * 2 ^ s * 18446744073709551616 + lo * 2 ^ s:=by grind
 rw[m,l,hA];rw[<- k] at a b ⊢;rw[e3];generalize hi * 2 ^ s=H at *;generalize lo * 2 ^ s=n at *;generalize y * 2 ^ s=Y at *;refine⟨Y,_,_,_,_,_,_,rfl,rfl,rE _ (by omega) (by omega),rfl,rfl,rfl,rE _ (by omega) (by omega),by omega,by omega,by omega,by omega,by omega,by omega,by omega,by omega,by omega,by omega,by omega,?_,?_,rfl⟩
 ·show _=_; omega
 ·omega
theorem vN(U A p V:Int)(h:V=U * 4294967296 + A - p)(a:0<=V)(b:V < 18446744073709551616):IntKind.u64.wrap (IntKind.u64.wrap (IntKind.u64.wrap (U * 4294967296) + A) - IntKind.u64.wrap p)=V:=by
 simp only[IntKind.wrap_u64]; omega
theorem xN(u y:Int)(hu:0<=u)(a:u < 18446744073709551616)(hy:0 < y):IntKind.u64.wrap (u - IntKind.u64.wrap (u / y * y))=u % y:=by
 have b:=Int.mul_ediv_add_emod u y;have c:=Int.emod_nonneg u (show y≠0 by omega);have d:=Int.mul_nonneg (Int.ediv_nonneg hu (Int.le_of_lt hy)) (Int.le_of_lt hy);rw[Int.mul_comm] at b;generalize u / y * y=p at *;generalize u % y=r at *;simp only[IntKind.wrap_u64]; omega
theorem iu(Y b c u a:Int)(hy:Y=b * 4294967296 + c)(f:0<=c)(g:c < 4294967296)(d:2147483648<=b)(i:b < 4294967296)(u0:0<=u)(e:u < Y)(h:Y < 18446744073709551616)(a0:0<=a)(a1:a < 4294967296) :
  IntKind.u64.wrap (u - IntKind.u64.wrap (u / b * b))=u % b/\eM Y b u a (u / b) (u % b)/\u % b < 4294967296 :=
 ⟨xN u b u0 (by omega) (by omega),eM.start hy f g d u0 e a0 a1,by have:=Int.emod_lt_of_pos u (show 0 < b by omega); omega⟩
theorem du{Y:Int}(h:Dig Y u a q)(b:Y < 18446744073709551616):∃ V:Int,IntKind.u64.wrap (IntKind.u64.wrap (IntKind.u64.wrap (u * 4294967296) + a) - IntKind.u64.wrap (q * Y))=V/\0<=V/\V < Y/\Hid (V=u * 4294967296 + a - q * Y):=by
 have:=h.rest;exact⟨u * 4294967296 + a - q * Y,vN u a (q * Y) _ rfl this.1 (by omega),this.1,this.2,rfl⟩
theorem fk(hi lo y Y U h d Q V a:Int)(s:Nat)(hy:0 < y)(e:(U * 4294967296 + h) * 4294967296 + d=(hi * 18446744073709551616 + lo) * 2 ^ s)(i:Y=y * 2 ^ s)(j:V=U * 4294967296 + h - Q * Y)(f:Dig Y V d a) :
  Q * 4294967296 + a=(hi * 18446744073709551616 + lo) / y/\(V * 4294967296 + d - a * Y) / 2 ^ s=(hi * 18446744073709551616 + lo) % y:=by
 have hS:(0:Int) < 2 ^ s:=Int.pow_pos (by decide);have g:=f.rest;have l:=f.q0;have k:=f.q1;generalize hN:hi * 18446744073709551616 + lo=N at *
 have key:N * 2 ^ s=(Q * 4294967296 + a) * y * 2 ^ s + (V * 4294967296 + d - a * Y):=by rw[<- e,j,i]; grind
 generalize hR:V * 4294967296 + d - a * Y=R at *
 have hdiv:R=(N - (Q * 4294967296 + a) * y) * 2 ^ s:=by rw[Int.sub_mul]; omega
 generalize hK:Q * 4294967296 + a=K at *;generalize hD:N - K * y=D at *;rw[hdiv] at g;rw[i] at g
 have d0:0<=D:=by
  by_cases c:0<=D
  ·exact c
  ·have:D * 2 ^ s <= -1 * 2 ^ s:=Int.mul_le_mul_of_nonneg_right (by omega) (Int.le_of_lt hS);omega
 have d1:D < y:=Int.lt_of_mul_lt_mul_right g.2 (Int.le_of_lt hS)
 have b:N=y * K + D:=by rw[<- hD,Int.mul_comm y K]; omega
 constructor
 ·have:N / y=K:=by rw[b,Int.add_comm,Int.add_mul_ediv_left _ _ (by omega),Int.ediv_eq_zero_of_lt d0 d1,Int.zero_add]
  omega
 ·rw[hdiv,Int.mul_ediv_cancel _ (by omega),b,Int.add_comm,Int.add_mul_emod_self_left,Int.emod_eq_of_lt d0 d1]
theorem oq(hi lo y:Int)(w:World)(h0:0 < hi)(h1:hi < y)(l0:0<=lo)(l1:lo < 18446744073709551616)(y1:y < 18446744073709551616) :
  Calls Tryz.prog 166 #[.int .u64 hi,.int .u64 lo,.int .u64 y] w fun e w'=>e=.returned (.tuple #[.int .u64 ((hi * 18446744073709551616 + lo) / y),.int .u64 ((hi * 18446744073709551616 + lo) % y)])/\w'=w:=by
 have hb0:(hi == 0)=false:=beq_eq_false_iff_ne.2 (by omega)
 have aa:(y == 0)=false:=beq_eq_false_iff_ne.2 (by omega);go_enter Tryz.func166,Tryz.ntmps166;go_wp2_with fail;refine(DK y _ (by omega) y1).mono ?_
 rintro e w' ⟨s,rfl,hs,HS,rfl⟩;obtain⟨Y,k,H,U,A,o,g,e1,e2,e3,e4,e5,e6,e7,d,j,L,M,u0,W,z,a10,K,S,h,t,u⟩:=Az hi lo y s (by omega) h1 l0 l1 hs HS.out;obtain⟨d2,l,n⟩:=iu Y k H U o t.out d j L M u0 W z a10 K;go_wp2_with fail;clear e1 e2 e3 e4 e5 e6 e7 d2 HS hb0 aa;go_loop [15,16] (fun tq tr=>∃ q r:Int,tq=.int .u64 q/\tr=.int .u64 r/\eM Y k U o q r/\r < 4294967296) (fun tq _=>(intOf tq).toNat)
 case atStart=>exact⟨_,_,rfl,rfl,l,n⟩
 case round =>
  clear l n;obtain⟨q,r,rfl,rfl,f,hr⟩:=hrel;have q0:=f.q0;have qb:=f.qb;have r0:=f.r0;by_cases c1:4294967296<=q
  ·have a:=f.big K (by omega) W c1 (by omega);obtain⟨Q,B⟩:∃ Q,q - 1=Q:=⟨_,rfl⟩
   obtain⟨R,G⟩:∃ R,r + k=R:=⟨_,rfl⟩
   rw[B,G] at a;have I:=a.q0
   have E:Q < q:=by omega
   have P:R < 8589934592:=by omega
   have N:=a.r0;by_cases c2:4294967296<=R
   ·have c:Hid (Dig Y U o Q):=a.kQ t.out (by omega) W (by omega) K d j (by omega) c2;have J:=c.out.q1;obtain⟨V,v1,v2,v3,v⟩:=du c.out z;obtain⟨d2,l,n⟩:=iu Y k H V g t.out d j L M v2 v3 z S h;obtain⟨i,m⟩:∃ i,i=Q:=⟨_,rfl⟩
    have T:0<=i:=by omega
    have X:i < 4294967296:=by omega
    have v:Hid (V=U * 4294967296 + o - i * Y):=by rw[m]; exact v
    go_wp2_with fail;rw[<- m];clear v1 d2 m;go_loop [18,16] (fun tq tr=>∃ q r:Int,tq=.int .u64 q/\tr=.int .u64 r/\eM Y k V g q r/\r < 4294967296) (fun tq _=>(intOf tq).toNat)
    case atStart=>exact⟨_,_,rfl,rfl,l,n⟩
    case round =>
     clear l n c;obtain⟨q,r,rfl,rfl,f,hr⟩:=hrel;have q0:=f.q0;have qb:=f.qb;have r0:=f.r0;by_cases c1:4294967296<=q
     ·have a:=f.big h (by omega) v3 c1 (by omega);obtain⟨Q,B⟩:∃ Q,q - 1=Q:=⟨_,rfl⟩
      obtain⟨R,G⟩:∃ R,r + k=R:=⟨_,rfl⟩
      rw[B,G] at a;have I:=a.q0
      have E:Q < q:=by omega
      have P:R < 8589934592:=by omega
      have N:=a.r0;by_cases c2:4294967296<=R
      ·have c:Hid (Dig Y V g Q):=a.kQ t.out (by omega) v3 (by omega) h d j (by omega) c2;have J:=c.out.q1;obtain⟨Z,z1,z2,z3,x⟩:=du c.out z;go_wp2;go_ret2;have b:=fk hi lo y Y U o g i V Q s (by omega) u.out.1 u.out.2 v.out c.out;exact⟨ni b.1 (by rw[<- b.2,<- x.out]),rfl⟩
      ·have F:Hid (eM Y k V g Q R):=a;clear a f;go_wp2;go_round
       case rel=>exact⟨Q,R,rfl,rfl,F.out,by omega⟩
       case measure=>simp[intOf]; omega
     ·obtain⟨p,D⟩:∃ p,q * H=p:=⟨_,rfl⟩
      have p0:0<=p:=by rw[<- D]; exact Int.mul_nonneg q0 d
      have p1:p < 18446744073709551616:=by
       have:=Int.mul_le_mul (show q<=4294967295 by omega) (show H<=4294967295 by omega) d (by decide);omega
      by_cases O:4294967296 * r + g < p
      ·have a:=f.more t.out (by omega) (by omega) (by omega) (by rw[D]; exact O);obtain⟨Q,B⟩:∃ Q,q - 1=Q:=⟨_,rfl⟩
       obtain⟨R,G⟩:∃ R,r + k=R:=⟨_,rfl⟩
       rw[B,G] at a;have I:=a.q0
       have E:Q < q:=by omega
       have P:R < 8589934592:=by omega
       have N:=a.r0;by_cases c2:4294967296<=R
       ·have c:Hid (Dig Y V g Q):=a.kQ t.out (by omega) v3 (by omega) h d j (by omega) c2;have J:=c.out.q1;obtain⟨Z,z1,z2,z3,x⟩:=du c.out z;go_wp2;go_ret2;have b:=fk hi lo y Y U o g i V Q s (by omega) u.out.1 u.out.2 v.out c.out;exact⟨ni b.1 (by rw[<- b.2,<- x.out]),rfl⟩
       ·have F:Hid (eM Y k V g Q R):=a;clear a f;go_wp2;go_round
        case rel=>exact⟨Q,R,rfl,rfl,F.out,by omega⟩
        case measure=>simp[intOf]; omega
      ·have c:Hid (Dig Y V g q):=f.dig t.out (by omega) v3 h (by rw[D]; omega);have J:=c.out.q1;have I:=c.out.q0;clear f
       have C:∃ Q,Q=q:=⟨_,rfl⟩
       obtain⟨Q,rfl⟩:=C;obtain⟨Z,z1,z2,z3,x⟩:=du c.out z;go_wp2;go_ret2;have b:=fk hi lo y Y U o g i V Q s (by omega) u.out.1 u.out.2 v.out c.out;exact⟨ni b.1 (by rw[<- b.2,<- x.out]),rfl⟩
   ·have F:Hid (eM Y k U o Q R):=a;clear a f;go_wp2;go_round
    case rel=>exact⟨Q,R,rfl,rfl,F.out,by omega⟩
    case measure=>simp[intOf]; omega
  ·obtain⟨p,D⟩:∃ p,q * H=p:=⟨_,rfl⟩
   have p0:0<=p:=by rw[<- D]; exact Int.mul_nonneg q0 d
   have p1:p < 18446744073709551616:=by
    have:=Int.mul_le_mul (show q<=4294967295 by omega) (show H<=4294967295 by omega) d (by decide);omega
   by_cases O:4294967296 * r + o < p
   ·have a:=f.more t.out (by omega) (by omega) (by omega) (by rw[D]; exact O);obtain⟨Q,B⟩:∃ Q,q - 1=Q:=⟨_,rfl⟩
    obtain⟨R,G⟩:∃ R,r + k=R:=⟨_,rfl⟩
    rw[B,G] at a;have I:=a.q0
    have E:Q < q:=by omega
    have P:R < 8589934592:=by omega
    have N:=a.r0;by_cases c2:4294967296<=R
    ·have c:Hid (Dig Y U o Q):=a.kQ t.out (by omega) W (by omega) K d j (by omega) c2;have J:=c.out.q1;obtain⟨V,v1,v2,v3,v⟩:=du c.out z;obtain⟨d2,l,n⟩:=iu Y k H V g t.out d j L M v2 v3 z S h;obtain⟨i,m⟩:∃ i,i=Q:=⟨_,rfl⟩
     have T:0<=i:=by omega
     have X:i < 4294967296:=by omega
     have v:Hid (V=U * 4294967296 + o - i * Y):=by rw[m]; exact v
     go_wp2_with fail;rw[<- m];clear v1 d2 m;go_loop [18,16] (fun tq tr=>∃ q r:Int,tq=.int .u64 q/\tr=.int .u64 r/\eM Y k V g q r/\r < 4294967296) (fun tq _=>(intOf tq).toNat)
     case atStart=>exact⟨_,_,rfl,rfl,l,n⟩
     case round =>
      clear l n c;obtain⟨q,r,rfl,rfl,f,hr⟩:=hrel;have q0:=f.q0;have qb:=f.qb;have r0:=f.r0;by_cases c1:4294967296<=q
      ·have a:=f.big h (by omega) v3 c1 (by omega);obtain⟨Q,B⟩:∃ Q,q - 1=Q:=⟨_,rfl⟩
       obtain⟨R,G⟩:∃ R,r + k=R:=⟨_,rfl⟩
       rw[B,G] at a;have I:=a.q0
       have E:Q < q:=by omega
       have P:R < 8589934592:=by omega
       have N:=a.r0;by_cases c2:4294967296<=R
       ·have c:Hid (Dig Y V g Q):=a.kQ t.out (by omega) v3 (by omega) h d j (by omega) c2;have J:=c.out.q1;obtain⟨Z,z1,z2,z3,x⟩:=du c.out z;go_wp2;go_ret2;have b:=fk hi lo y Y U o g i V Q s (by omega) u.out.1 u.out.2 v.out c.out;exact⟨ni b.1 (by rw[<- b.2,<- x.out]),rfl⟩
       ·have F:Hid (eM Y k V g Q R):=a;clear a f;go_wp2;go_round
        case rel=>exact⟨Q,R,rfl,rfl,F.out,by omega⟩
        case measure=>simp[intOf]; omega
      ·obtain⟨p,D⟩:∃ p,q * H=p:=⟨_,rfl⟩
       have p0:0<=p:=by rw[<- D]; exact Int.mul_nonneg q0 d
       have p1:p < 18446744073709551616:=by
        have:=Int.mul_le_mul (show q<=4294967295 by omega) (show H<=4294967295 by omega) d (by decide);omega
       by_cases O:4294967296 * r + g < p
       ·have a:=f.more t.out (by omega) (by omega) (by omega) (by rw[D]; exact O);obtain⟨Q,B⟩:∃ Q,q - 1=Q:=⟨_,rfl⟩
        obtain⟨R,G⟩:∃ R,r + k=R:=⟨_,rfl⟩
        rw[B,G] at a;have I:=a.q0
        have E:Q < q:=by omega
        have P:R < 8589934592:=by omega
        have N:=a.r0;by_cases c2:4294967296<=R
        ·have c:Hid (Dig Y V g Q):=a.kQ t.out (by omega) v3 (by omega) h d j (by omega) c2;have J:=c.out.q1;obtain⟨Z,z1,z2,z3,x⟩:=du c.out z;go_wp2;go_ret2;have b:=fk hi lo y Y U o g i V Q s (by omega) u.out.1 u.out.2 v.out c.out;exact⟨ni b.1 (by rw[<- b.2,<- x.out]),rfl⟩
        ·have F:Hid (eM Y k V g Q R):=a;clear a f;go_wp2;go_round
         case rel=>exact⟨Q,R,rfl,rfl,F.out,by omega⟩
         case measure=>simp[intOf]; omega
       ·have c:Hid (Dig Y V g q):=f.dig t.out (by omega) v3 h (by rw[D]; omega);have J:=c.out.q1;have I:=c.out.q0;clear f
        have C:∃ Q,Q=q:=⟨_,rfl⟩
        obtain⟨Q,rfl⟩:=C;obtain⟨Z,z1,z2,z3,x⟩:=du c.out z;go_wp2;go_ret2;have b:=fk hi lo y Y U o g i V Q s (by omega) u.out.1 u.out.2 v.out c.out;exact⟨ni b.1 (by rw[<- b.2,<- x.out]),rfl⟩
    ·have F:Hid (eM Y k U o Q R):=a;clear a f;go_wp2;go_round
     case rel=>exact⟨Q,R,rfl,rfl,F.out,by omega⟩
     case measure=>simp[intOf]; omega
   ·have c:Hid (Dig Y U o q):=f.dig t.out (by omega) W K (by rw[D]; omega);have J:=c.out.q1;have I:=c.out.q0;clear f
    have C:∃ Q,Q=q:=⟨_,rfl⟩
    obtain⟨Q,rfl⟩:=C;obtain⟨V,v1,v2,v3,v⟩:=du c.out z;obtain⟨d2,l,n⟩:=iu Y k H V g t.out d j L M v2 v3 z S h;obtain⟨i,m⟩:∃ i,i=Q:=⟨_,rfl⟩
    have T:0<=i:=by omega
    have X:i < 4294967296:=by omega
    have v:Hid (V=U * 4294967296 + o - i * Y):=by rw[m]; exact v
    go_wp2_with fail;rw[<- m];clear v1 d2 m;go_loop [18,16] (fun tq tr=>∃ q r:Int,tq=.int .u64 q/\tr=.int .u64 r/\eM Y k V g q r/\r < 4294967296) (fun tq _=>(intOf tq).toNat)
    case atStart=>exact⟨_,_,rfl,rfl,l,n⟩
    case round =>
     clear l n c;obtain⟨q,r,rfl,rfl,f,hr⟩:=hrel;have q0:=f.q0;have qb:=f.qb;have r0:=f.r0;by_cases c1:4294967296<=q
     ·have a:=f.big h (by omega) v3 c1 (by omega);obtain⟨Q,B⟩:∃ Q,q - 1=Q:=⟨_,rfl⟩
      obtain⟨R,G⟩:∃ R,r + k=R:=⟨_,rfl⟩
      rw[B,G] at a;have I:=a.q0
      have E:Q < q:=by omega
      have P:R < 8589934592:=by omega
      have N:=a.r0;by_cases c2:4294967296<=R
      ·have c:Hid (Dig Y V g Q):=a.kQ t.out (by omega) v3 (by omega) h d j (by omega) c2;have J:=c.out.q1;obtain⟨Z,z1,z2,z3,x⟩:=du c.out z;go_wp2;go_ret2;have b:=fk hi lo y Y U o g i V Q s (by omega) u.out.1 u.out.2 v.out c.out;exact⟨ni b.1 (by rw[<- b.2,<- x.out]),rfl⟩
      ·have F:Hid (eM Y k V g Q R):=a;clear a f;go_wp2;go_round
       case rel=>exact⟨Q,R,rfl,rfl,F.out,by omega⟩
       case measure=>simp[intOf]; omega
     ·obtain⟨p,D⟩:∃ p,q * H=p:=⟨_,rfl⟩
      have p0:0<=p:=by rw[<- D]; exact Int.mul_nonneg q0 d
      have p1:p < 18446744073709551616:=by
       have:=Int.mul_le_mul (show q<=4294967295 by omega) (show H<=4294967295 by omega) d (by decide);omega
      by_cases O:4294967296 * r + g < p
      ·have a:=f.more t.out (by omega) (by omega) (by omega) (by rw[D]; exact O);obtain⟨Q,B⟩:∃ Q,q - 1=Q:=⟨_,rfl⟩
       obtain⟨R,G⟩:∃ R,r + k=R:=⟨_,rfl⟩
       rw[B,G] at a;have I:=a.q0
       have E:Q < q:=by omega
       have P:R < 8589934592:=by omega
       have N:=a.r0;by_cases c2:4294967296<=R
       ·have c:Hid (Dig Y V g Q):=a.kQ t.out (by omega) v3 (by omega) h d j (by omega) c2;have J:=c.out.q1;obtain⟨Z,z1,z2,z3,x⟩:=du c.out z;go_wp2;go_ret2;have b:=fk hi lo y Y U o g i V Q s (by omega) u.out.1 u.out.2 v.out c.out;exact⟨ni b.1 (by rw[<- b.2,<- x.out]),rfl⟩
       ·have F:Hid (eM Y k V g Q R):=a;clear a f;go_wp2;go_round
        case rel=>exact⟨Q,R,rfl,rfl,F.out,by omega⟩
        case measure=>simp[intOf]; omega
      ·have c:Hid (Dig Y V g q):=f.dig t.out (by omega) v3 h (by rw[D]; omega);have J:=c.out.q1;have I:=c.out.q0;clear f
       have C:∃ Q,Q=q:=⟨_,rfl⟩
       obtain⟨Q,rfl⟩:=C;obtain⟨Z,z1,z2,z3,x⟩:=du c.out z;go_wp2;go_ret2;have b:=fk hi lo y Y U o g i V Q s (by omega) u.out.1 u.out.2 v.out c.out;exact⟨ni b.1 (by rw[<- b.2,<- x.out]),rfl⟩
theorem mJ(lo y:Int)(w:World)(hy:0 < y)(b:0<=lo)(l1:lo < 18446744073709551616)(y1:y < 18446744073709551616) :
  Calls Tryz.prog 166 #[.int .u64 0,.int .u64 lo,.int .u64 y] w fun e w'=>e=.returned (.tuple #[.int .u64 (lo / y),.int .u64 (lo % y)])/\∃ n,w'=w.drewN n:=by
 have a:(y == 0)=false:=beq_eq_false_iff_ne.2 (by omega);go_enter Tryz.func166,Tryz.ntmps166;go_wp2_with fail;go_quiet (fail);go_wp2;go_ret2;exact⟨rfl,_,rfl⟩
theorem div64(hi lo y:Int)(w:World)(f:0<=hi)(b:hi < y)(a:0<=lo)(l1:lo < 18446744073709551616)(y1:y < 18446744073709551616) :
  Calls Tryz.prog 166 #[.int .u64 hi,.int .u64 lo,.int .u64 y] w fun e w'=>∃ q r:Int,e=.returned (.tuple #[.int .u64 q,.int .u64 r])/\0<=q/\q < 18446744073709551616/\0<=r/\r < y/\Hid (q * y + r=hi * 18446744073709551616 + lo)/\∃ n,w'=w.drewN n:=by
 have fin:∀ N:Int,0<=N->N < y * 18446744073709551616->0<=N / y/\N / y < 18446744073709551616/\0<=N % y/\N % y < y/\Hid (N / y * y + N % y=N):=by
  intro N n0 d;refine⟨Int.ediv_nonneg n0 (by omega),(Int.ediv_lt_iff_lt_mul (by omega)).2 (by rw[Int.mul_comm]; exact d),Int.emod_nonneg _ (by omega),Int.emod_lt_of_pos _ (by omega),?_⟩
  show _=_
  rw[Int.mul_comm]; exact Int.mul_ediv_add_emod N y
 by_cases c:hi=0
 ·subst c;refine(mJ lo y w (by omega) a l1 y1).mono ?_
  rintro e w' ⟨rfl,hw⟩;obtain⟨f1,f2,f3,f4,f5⟩:=fin lo a (by omega);exact⟨_,_,rfl,f1,f2,f3,f4,by simpa using f5,hw⟩
 ·refine(oq hi lo y w (by omega) b a l1 y1).mono ?_
  rintro e w' ⟨rfl,rfl⟩;obtain⟨f1,f2,f3,f4,f5⟩:=fin (hi * 18446744073709551616 + lo) (by omega) (by omega);exact⟨_,_,rfl,f1,f2,f3,f4,f5,0,rfl⟩
end
end
section
open Go.RowKit Lim
section
variable {l:List Int}{h:Nat}
theorem dW(hl:h < l.length):val (l.drop h)=nth l h + 18446744073709551616 * val (l.drop (h + 1)):=by
 rw[List.drop_eq_getElem_cons hl,val,bT hl]
structure ju(lz:List Int)(d:Int)(h:Nat)(lz1:List Int)(left:Int):Prop where
 len:lz1.length=lz.length
 words:Words lz1
 low:∀ i,i < h->nth lz1 i=nth lz i
 val:Lim.val (lz1.drop h) * d + left=Lim.val (lz.drop h)
theorem ju.step{lz lz1:List Int}{d left q r:Int}(hv:ju lz d (h + 1) lz1 left)(b:h < lz.length)(q0:0<=q)(q1:q < 18446744073709551616)(e:q * d + r=left * 18446744073709551616 + nth lz h):ju lz d h (lz1.set h q) r:=by
 have a:=hv.len;refine⟨by simp[a],hv.words.set h q0 q1,fun i hi=>by rw[dC (by omega),if_neg (by omega)]; exact hv.low i (by omega),?_⟩;rw[dW (by simp; omega),dC (by omega),if_pos rfl,List.drop_set,if_pos (by omega),dW b,<- hv.val];grind
theorem gE(p:Option Addr)(i j a D:Nat)(d:Int)(lz:List Int)(w:World)(o:lz.length=a)(G:a<=2199023255552)(m:a<=D)(d0:0 < d)(d1:d < 18446744073709551616)(x:Words lz)(v:At w p i j lz)(z:dD w i j a) :
  Calls Tryz.prog 113 #[.slice p a D,.int .u64 d] w fun e w'=>∃ (left:Int) (lz':List Int),e=.returned (.int .u64 left)/\0<=left/\left < d/\lz'.length=a/\Words lz'/\At w' p i j lz'/\Wr i j a w w'/\val lz' * d + left=val lz:=by
 go_enter Tryz.func113,Tryz.ntmps113;go_wp2;go_loopw [5,10] (fun tc A wr=>∃ (k:Nat) (c:Int) (b:List Int),k<=a/\A=.int .i64 k/\tc=.int .u64 c/\0<=c/\c < d/\ju lz d (a - k) b c/\At wr p i j b/\Wr i j a w wr) (fun _ A _=>a - (intOf A).toNat)
 case atStart=>exact⟨0,0,lz,Nat.zero_le _,rfl,rfl,by decide,d0,⟨rfl,x,fun _ _=>rfl,by simp[<- o,val]⟩,v,Wr.refl _ _ _ _⟩
 case round =>
  obtain⟨k,c,b,N,rfl,rfl,n,l,hinv,g,f⟩:=hrel;have s:=hinv.len;by_cases L:k < a
  ·rcases v.loc with e | rfl
   ·subst e; simp at o; omega
   obtain⟨h,F⟩:∃ h:Nat,a=h + 1 + k:=⟨a - 1 - k,by omega⟩
   have m:=g.cell h (by omega);have M:=f.free z h (by omega);have u:=x.nth h;rw[hinv.low h (by omega)] at m
   have H:(a:Int) - 1 - k=h:=by omega
   have K:(h:Int) < a:=by omega
   obtain⟨t,C⟩:=u
   have J:Hid (ju lz d (h + 1) b c):=by rw[show h + 1=a - k from by omega]; exact hinv
   have I:Hid (a=h + 1 + k):=F;clear F hinv v x;go_wp2_with (go_at_call 166; refine(div64 _ _ _ _ n l t C d1).mono ?_; rintro e w' ⟨q,r,rfl,q0,q1,r0,r1,B,E,rfl⟩);have hn:=I.out;refine⟨⟨k + 1,r,b.set h q,by omega,by go_num,rfl,r0,r1,by rw[show a - (k + 1)=h from by omega]; exact J.out.step (by omega) q0 q1 B.out,?_,?_⟩,by simp[intOf]; omega⟩
   ·exact(g.setCell (by omega) q).drewN E
   ·exact(f.setCell (by omega) (by omega) _).drewN E
  ·have y:k=a:=by omega
   subst y;go_wp2;go_ret;refine⟨c,b,rfl,n,l,by omega,hinv.words,g,f,?_⟩;have:=hinv.val;rwa [Nat.sub_self,List.drop_zero,List.drop_zero] at this
end
end
section
open Go.RowKit Lim
theorem dH.of {w w':World} {l:List Int} {ao:Option Addr} {n c b o:Nat} (hn:n=l.length) (e:n<=c) (a:w.heap.size<=b) (f:At w' ao b o l) (d:dD w' b o n):dH w w' (.slice ao n c) l:=by
 subst hn; exact⟨ao,b,o,c,rfl,e,a,f,d⟩
theorem jI (ao:Option Addr) (n c b o:Nat) (l:List Int) (w:World) (p:l.length=n) (hc:n<=c) (j:n<=1099511627776) (k:At w ao b o l) :
  Calls Tryz.prog 112 #[.slice ao n c] w fun e w'=>e=.returned (.slice (some ⟨w.heap.size,0,none⟩) (aI l) (aI l))/\Row w' w.heap.size (norm l)/\Below w.heap.size w w':=by
 have hn:=bB l;have t1:=bp ao n c l w p hc (by omega) k.cells;have hs:=k.sub (aI l);have i:=aK l;rw[show l.take (aI l)=norm l from rfl] at hs;generalize aI l=N at *;generalize norm l=L at *;go_enter Tryz.func112,Tryz.ntmps112;go_wp2_with fail;refine t1.mono ?_
 rintro e s ⟨rfl,rfl⟩;clear t1;go_wp2_with (first
  | (at_make; refine cY rfl _ _ rfl N _ _ rfl rfl rfl rfl (by omega) ?_; intro r f a m; have g:=hs.keep a)
  | (refine gi rfl (.tmp 10) (.tmp 11) rfl _ _ _ _ _ _ rfl rfl _ _ f (by simp) _ _ i (Nat.le_refl _) g ?_; intro q d h))
 go_ret;refine⟨rfl,?_,?_⟩
 ·simpa using d
 ·exact a.trans (h.below (Nat.le_refl _))
end
section
open Go.RowKit Lim
section
variable {lz lb lz1:List Int}{m c:Int}{k:Nat}
theorem xP(z x m c hi lo:Int)(e:0<=z/\z < 18446744073709551616)(hc:0<=c/\c < 18446744073709551616)(g:0<=hi)(a:hi<=18446744073709551614)(d:0<=lo)(b:lo < 18446744073709551616)(f:hi * 18446744073709551616 + lo=x * m)(hb:x * m<=340282366920938463426481119284349108225) :
  0<=hi + (lo + c) / 18446744073709551616/\hi + (lo + c) / 18446744073709551616<=18446744073709551615 /\
  0<=hi + (lo + c) / 18446744073709551616 + (z + (lo + c) % 18446744073709551616) / 18446744073709551616 /\
  hi + (lo + c) / 18446744073709551616 + (z + (lo + c) % 18446744073709551616) / 18446744073709551616<=18446744073709551615 /\
  (z + (lo + c) % 18446744073709551616) % 18446744073709551616 + 18446744073709551616 * (hi + (lo + c) / 18446744073709551616 + (z + (lo + c) % 18446744073709551616) / 18446744073709551616)=z + x * m + c:=by
 omega
def dh(lz lb:List Int)(m:Int)(k:Nat)(lz1:List Int)(c:Int):Prop :=
 lz1.length=lz.length/\Words lz1/\(∀ i,k<=i->nth lz1 i=nth lz i)/\val (lz1.take k) + 18446744073709551616 ^ k * c=val (lz.take k) + val (lb.take k) * m
theorem dh.step{a c':Int}(h:dh lz lb m k lz1 c)(n:k < lz.length)(b:0<=a)(d:a < 18446744073709551616)(e:a + 18446744073709551616 * c'=nth lz k + nth lb k * m + c):dh lz lb m (k + 1) (lz1.set k a) c':=by
 obtain⟨f,g,j,o⟩:=h;refine⟨by simp[f],g.set k b d,fun i hi => ?_,?_⟩
 ·rw[dC (by omega),if_neg (by omega)]; exact j i (by omega)
 ·have hb:val (lb.take (k + 1))=val (lb.take k) + 18446744073709551616 ^ k * nth lb k:=by
   by_cases l:k < lb.length
   ·exact dw l
   ·rw[List.take_of_length_le (by omega),List.take_of_length_le (by omega),fQ (by omega)]; simp
  rw[dw (by simp[f]; omega),dw n,hb,List.take_set_of_le (Nat.le_refl _),dC (by omega),if_pos rfl,Int.pow_succ];have:18446744073709551616 ^ k * (a + 18446744073709551616 * c')=18446744073709551616 ^ k * (nth lz k + nth lb k * m + c):=by rw[e]
  grind
theorem dh.done{n:Nat}(hn:lz.length=n)(h:dh lz lb m k lz1 c)(hc:c=0\/lz.length=k)(r:lb.length<=k)(q:k<=n) :
  val lz1=(val lz + val lb * m) % 18446744073709551616 ^ n:=by
 obtain⟨f,d,o,b⟩:=h;rw[List.take_of_length_le (l:=lb) (by omega)] at b;have a:=dy d;have g:=aM d;rw[f,hn] at a;rcases hc with e | e
 ·subst e
  have j:lz1.drop k=lz.drop k:=kY (by simp[f]) fun i hi=>by rw[dG,dG]; exact o _ (by omega)
  have e1:=bF lz1 k (by omega);have e2:=bF lz k (by omega);rw[j] at e1;have:val lz + val lb * m=val lz1:=by rw[e1,e2]; simp only[Int.mul_zero,Int.add_zero] at b; omega
  rw[this];exact(Int.emod_eq_of_lt g a).symm
 ·have p:k=n:=by omega
  subst p;rw[List.take_of_length_le (l:=lz1) (by omega),List.take_of_length_le (l:=lz) (by omega)] at b;rw[<- b,Int.add_mul_emod_self_left];exact(Int.emod_eq_of_lt g a).symm
theorem eh(E : Option Addr)(h i g Z : Nat)(W : Option Addr)(bb ob s Y : Nat)(m : Int)(lz lb : List Int)(w : World)(z : lz.length = g)(I : lb.length = s)(hle : s ≤ g)(X : g ≤ 2199023255552)(p : g ≤ Z)(P : s ≤ Y)(C : 0 ≤ m)(N : m < 18446744073709551616)(G : Words lz)(S : Words lb)(F : At w E h i lz)(n : dD w h i g)(hb : At w W bb ob lb)(t : lb = [] ∨ bb ≠ h) :
    Calls Tryz.prog 59 #[.slice E g Z, .slice W s Y, .int .u64 m] w fun e w' => e = .returned (.tuple #[]) ∧
      ∃ lz', lz'.length = g ∧ Words lz' ∧ At w' E h i lz' ∧ Wr h i g w w' ∧ val lz' = (val lz + val lb * m) % 18446744073709551616 ^ g := by
  go_enter Tryz.func59, Tryz.ntmps59;go_wp2;go_loopw [6, 14] (fun tc y wr => ∃ (k : Nat) (c : Int) (f : List Int), k ≤ s ∧ y = .int .i64 k ∧ tc = .int .u64 c ∧ 0 ≤ c ∧ c < 18446744073709551616 ∧ dh lz lb m k f c ∧ At wr E h i f ∧ Wr h i g w wr) (fun _ y _ => s - (intOf y).toNat)
  case atStart => exact⟨0, 0, lz, Nat.zero_le _, rfl, rfl, by decide, by decide, ⟨rfl, G, fun _ _ => rfl, by simp[val]⟩, F, Wr.refl _ _ _ _⟩
  case round =>
    obtain⟨k, c, f, hk, rfl, rfl, q, u, hinv, b, a⟩:= hrel;have v := hinv.1;by_cases hlt : k < s
    · rcases hb.loc with e | rfl
      · subst e; simp at I; omega
      rcases F.loc with e | rfl
      · subst e; simp at z; omega
      have B := hb.wr a t;have P := B.cell k (by omega);have p := b.cell k (by omega);have V := a.free n k (by omega);have hx := S.nth k;have x := G.nth k;rw[hinv.2.2.1 k (Nat.le_refl _)] at p;obtain⟨Q, R⟩:= hx;obtain⟨r, D⟩:= x
      have A : Hid (dh lz lb m k f c) := hinv
      have M : Hid (At wr (some ⟨h, i, none⟩) h i f) := b
      have T : Hid (Wr h i g w wr) := a;clear hinv b a B F hb n G S t;go_wp2_with (first
        | (go_at_call 89; refine(kX _ _ Q R C N _).mono ?_; rintro e w' ⟨hi, lo, rfl, h1, h2, h3, h4, h5, rfl⟩)
        | simp only[qZ _ _ h3 q]
        | simp only[CU _ _ r])
      have L : nth lb k * m ≤ 340282366920938463426481119284349108225 := by
        have := Int.mul_le_mul (show nth lb k ≤ 18446744073709551615 by omega) (show m ≤ 18446744073709551615 by omega) C (by decide);simpa using this
      obtain⟨s1, s2, s3, s4, H⟩:= xP (nth lz k) (nth lb k) m c hi lo ⟨r, D⟩ ⟨q, u⟩ h1 h2 h3 h4 h5 L;rw[Int.add_emod_emod] at H;rw[IntWalk.u64_in _ ⟨s3, s4⟩];refine⟨⟨k + 1, _, _, by omega, by go_num, rfl, s3, by omega, A.out.step (by omega) (Int.emod_nonneg _ (by decide)) (Int.emod_lt_of_pos _ (by decide)) H, M.out.setCell (by omega) _, T.out.setCell (by omega) (by omega) _⟩, by simp[intOf]; omega⟩
    · have U : k = s := by omega
      subst U
      have A : Hid (dh lz lb m k f c) := hinv;clear hinv;go_wp2;go_loopw [6, 11] (fun tc y wr => ∃ (j : Nat) (c : Int) (f : List Int), k ≤ j ∧ j ≤ g ∧ y = .int .i64 j ∧ tc = .int .u64 c ∧ 0 ≤ c ∧ c < 18446744073709551616 ∧ dh lz lb m j f c ∧ At wr E h i f ∧ Wr h i g w wr) (fun _ y _ => g - (intOf y).toNat)
      case atStart => exact⟨k, c, f, Nat.le_refl _, by omega, rfl, rfl, q, u, A.out, b, a⟩
      case round =>
        clear b a A v q u;obtain⟨j, d, o, hkj, hj, rfl, rfl, K, hd1, hinv, b, a⟩:= hrel;have O := hinv.1;by_cases aa : j < g
        · by_cases hd : d = 0
          · subst hd
            go_wp2;go_end0;refine⟨rfl, o, by omega, hinv.2.1, b, a, ?_⟩;exact dh.done (by omega) hinv (.inl rfl) (by omega) (by omega)
          · rcases F.loc with e | rfl
            · subst e; simp at z; omega
            have p := b.cell j (by omega);have V := a.free n j (by omega);have x := G.nth j;rw[hinv.2.2.1 j (Nat.le_refl _)] at p;obtain⟨r, D⟩:= x
            have hdb : (d != 0) = true := by rw[bne_iff_ne]; exact hd
            have A : Hid (dh lz lb m j o d) := hinv
            have M : Hid (At wr (some ⟨h, i, none⟩) h i o) := b
            have T : Hid (Wr h i g w wr) := a;clear hinv b a F hb n G S t;go_wp2_with (simp only[qZ _ _ r K])
            have H : (nth lz j + d) % 18446744073709551616 + 18446744073709551616 * ((nth lz j + d) / 18446744073709551616) = nth lz j + nth lb j * m + d := by
              rw[fQ (l := lb) (by omega)]; omega
            refine⟨⟨j + 1, _, _, by omega, by omega, by go_num, rfl, by omega, by omega, A.out.step (by omega) (Int.emod_nonneg _ (by decide)) (Int.emod_lt_of_pos _ (by decide)) H, M.out.setCell (by omega) _, T.out.setCell (by omega) (by omega) _⟩, by simp[intOf]; omega⟩
        · have J : j = g := by omega
          subst J;go_wp2;go_end0;refine⟨rfl, o, by omega, hinv.2.1, b, a, ?_⟩;exact dh.done (by omega) hinv (.inr z) (by omega) (by omega)
end
end
section
open Go.RowKit Lim
section
variable {l:List Int}
theorem p7{n:Int}(h:IsN l n):0<=n/\n < 18446744073709551616 ^ l.length:=by
 rw[<- h.2.2]; exact⟨aM h.1,dy h.1⟩
theorem pow_pos(k:Nat):(0:Int) < 18446744073709551616 ^ k:=Int.pow_pos (by decide)
theorem vo{L L' lz:List Int}{x y:Int}(hL:IsN L x)(a:IsN L' y)(hle:L'.length<=L.length)(hw:Words lz)(hv:val lz=(val (L ++ [0]) + val L' * 1) % 18446744073709551616 ^ (L.length + 1)):IsN (norm lz) (x + y):=by
 have f:=p7 hL;have b:=p7 a;have d:=gS hle;have c:=pow_pos L.length
 have e:val (L ++ [0]) + val L' * 1=x + y:=by rw[eb,hL.2.2,a.2.2]; simp[val]
 rw[e,Int.emod_eq_of_lt (by omega) (by rw[Int.pow_succ]; omega)] at hv;rw[<- hv];exact cj hw
theorem eB(n:Nat):Words (List.replicate n 0):=fun x hx=>by rw[List.eq_of_mem_replicate hx]; decide
theorem B9(ao:Option Addr)(n c b o:Nat)(ao':Option Addr)(n' c' b' o':Nat)(l q:List Int)(w:World)(hl:l.length=n)(T:q.length=n')(hc:n<=c)(S:n'<=c')(hbig:n<=1099511627776)(X:n'<=1099511627776)(wl:Words l)(Z:Words q)(Y:At w ao b o l)(J:At w ao' b' o' q) :
  Calls Tryz.prog 23 #[.slice ao n c,.slice ao' n' c'] w fun e w'=>∃ v r,e=.returned v/\dH w w' v r/\IsN r (val l + val q)/\r.length<=n + n' + 1/\Below w.heap.size w w':=by
 have hn:=bB l
 have hn':=bB q;have t1:=bp ao n c l w hl hc (by omega) Y.cells;have t2:=bp ao' n' c' q w T S (by omega) J.cells;have hs:=Y.sub (aI l)
 have B:=J.sub (aI q);have A:=aK l
 have p:=aK q;have P:=cj wl
 have C:=cj Z;rw[show l.take (aI l)=norm l from rfl] at hs;rw[show q.take (aI q)=norm q from rfl] at B;generalize aI l=N at *;generalize aI q=I at *;generalize norm l=L at *;generalize norm q=O at *;clear Y J;go_enter Tryz.func23,Tryz.ntmps23;go_wp2_with fail;refine t1.mono ?_
 rintro e w1 ⟨rfl,rfl⟩;go_wp2_with fail;refine t2.mono ?_
 rintro e D ⟨rfl,rfl⟩;clear t1 t2;by_cases hlt:N < I
 ·have t:L=[]\/b≠D.heap.size:=by
   rcases hs.lt with e | e
   ·exact .inl e
   ·exact .inr (by omega)
  go_wp2_with (first
   | (at_make; refine cY rfl _ _ rfl (I + 1) _ _ rfl rfl (by omega) (by omega) (by omega) ?_; intro w3 m a V; have u:=B.keep a; have y:=hs.keep a)
   | (refine gi rfl (.tmp 23) (.tmp 24) rfl _ _ _ _ _ _ rfl rfl _ _ m (by simp) _ _ p (by omega) u ?_; intro M h f))
  have k:Row M D.heap.size (O ++ [0]):=by
   have:=h; rw[List.drop_replicate,show I + 1 - I=1 from by omega] at this; simpa using this
  have s:=y.wr f t;refine(eh _ D.heap.size 0 _ _ _ b o _ _ 1 (O ++ [0]) L M (by simp[p]) A (by omega) (by omega) (Nat.le_refl _) (Nat.le_refl _) (by decide) (by decide) (C.1.append (eB 1)) P.1 k.at (k.free _ _) s t).mono ?_
  rintro e w5 ⟨rfl,j,F,H,g,d,z⟩
  have U:IsN (norm j) (_ + _):=vo C P (by omega) H (by rw[z,p]);have G:=d.free (k.free 0 (I + 1));have W:=bB j;have E:=aK j;have x:=g.sub (aI j);have Q:=(a.trans (f.below (Nat.le_refl _))).trans (d.below (Nat.le_refl _));rw[show j.take (aI j)=norm j from rfl] at x;have t3:=bp (some ⟨D.heap.size,0,none⟩) (I + 1) (I + 1) j w5 F (Nat.le_refl _) (by omega) g.cells;clear k s y u m h f d a g z;generalize aI j=K at *;generalize norm j=R at *;go_wp2_with fail;refine t3.mono ?_
  rintro e w6 ⟨rfl,rfl⟩;go_wp2;go_ret;exact⟨_,R,rfl,dH.of E.symm (Nat.le_refl _) (Nat.le_refl _) x (fun i hi=>G i (by omega)),by rw[Int.add_comm]; exact U,by omega,Q⟩
 ·have t:O=[]\/b'≠D.heap.size:=by
   rcases B.lt with e | e
   ·exact .inl e
   ·exact .inr (by omega)
  go_wp2_with (first
   | (at_make; refine cY rfl _ _ rfl (N + 1) _ _ rfl rfl (by omega) (by omega) (by omega) ?_; intro w3 m a V; have u:=hs.keep a; have y:=B.keep a)
   | (refine gi rfl (.tmp 23) (.tmp 24) rfl _ _ _ _ _ _ rfl rfl _ _ m (by simp) _ _ A (by omega) u ?_; intro M h f))
  have k:Row M D.heap.size (L ++ [0]):=by
   have:=h; rw[List.drop_replicate,show N + 1 - N=1 from by omega] at this; simpa using this
  have s:=y.wr f t;refine(eh _ D.heap.size 0 _ _ _ b' o' _ _ 1 (L ++ [0]) O M (by simp[A]) p (by omega) (by omega) (Nat.le_refl _) (Nat.le_refl _) (by decide) (by decide) (P.1.append (eB 1)) C.1 k.at (k.free _ _) s t).mono ?_
  rintro e w5 ⟨rfl,j,F,H,g,d,z⟩
  have U:IsN (norm j) (_ + _):=vo P C (by omega) H (by rw[z,A]);have G:=d.free (k.free 0 (N + 1));have W:=bB j;have E:=aK j;have x:=g.sub (aI j);have Q:=(a.trans (f.below (Nat.le_refl _))).trans (d.below (Nat.le_refl _));rw[show j.take (aI j)=norm j from rfl] at x;have t3:=bp (some ⟨D.heap.size,0,none⟩) (N + 1) (N + 1) j w5 F (Nat.le_refl _) (by omega) g.cells;clear k s y u m h f d a g z;generalize aI j=K at *;generalize norm j=R at *;go_wp2_with fail;refine t3.mono ?_
  rintro e w6 ⟨rfl,rfl⟩;go_wp2;go_ret;exact⟨_,R,rfl,dH.of E.symm (Nat.le_refl _) (Nat.le_refl _) x (fun i hi=>G i (by omega)),U,by omega,Q⟩
end
end
section
open Go.RowKit Lim
theorem xm (x y:Int):0<=bor x y/\bor x y<=1:=by unfold bor; split<;>decide
theorem ux (x y:Int) (hx:0<=x/\x < 18446744073709551616) (hy:0<=y/\y < 18446744073709551616):(x - y) % 18446744073709551616=x - y + 18446744073709551616 * bor x y:=by
 unfold bor; split<;>omega
theorem Ch (x y:Int) (hx:0<=x) (a:x < 18446744073709551616) (w:World):(callFunc 168 #[.int .u64 x,.int .u64 (y % 18446744073709551616),.int .u64 0]).run Tryz.prog w =
  .ok (.value (.tuple #[.int .u64 ((x - y % 18446744073709551616) % 18446744073709551616),.int .u64 (bor x (y % 18446744073709551616))])) w :=
 D0 x _ hx a (Int.emod_nonneg _ (by decide)) (Int.emod_lt_of_pos _ (by decide)) w
theorem wH (z x m c hi lo:Int) (a:0<=z/\z < 18446744073709551616) (hc:0<=c/\c < 18446744073709551616) (g:0<=hi) (b:hi<=18446744073709551614) (e:0<=lo) (d:lo < 18446744073709551616) (f:hi * 18446744073709551616 + lo=x * m)
  (hb:x * m<=340282366920938463426481119284349108225) :
  0<=hi + (lo + c) / 18446744073709551616/\hi + (lo + c) / 18446744073709551616<=18446744073709551615 /\
  0<=hi + (lo + c) / 18446744073709551616 + bor z ((lo + c) % 18446744073709551616) /\
  hi + (lo + c) / 18446744073709551616 + bor z ((lo + c) % 18446744073709551616)<=18446744073709551615 /\
  (z - (lo + c) % 18446744073709551616) % 18446744073709551616 + 18446744073709551616 * (-(hi + (lo + c) / 18446744073709551616 + bor z ((lo + c) % 18446744073709551616)))=z + x * -m + -c:=by
 rw[ux z _ a ⟨by omega,by omega⟩,show x * -m = -(x * m) from Int.mul_neg x m];have:=xm z ((lo + c) % 18446744073709551616);unfold bor at *;split<;>omega
theorem dh.fO {lz lb lz1:List Int} {m c:Int} {k n:Nat} (hn:lz.length=n) (h:dh lz lb m k lz1 c) (hc:c=0\/lz.length=k) (p:lb.length<=k) (j:k<=n) :
  val lz1 + 18446744073709551616 ^ n * c=val lz + val lb * m:=by
 obtain⟨g,o,d,a⟩:=h;rw[List.take_of_length_le (l:=lb) (by omega)] at a;rcases hc with e | e
 ·subst e
  have b:lz1.drop k=lz.drop k:=kY (by simp[g]) fun i hi=>by rw[dG,dG]; exact d _ (by omega)
  have e1:=bF lz1 k (by omega);have e2:=bF lz k (by omega);rw[b] at e1;simp only[Int.mul_zero,Int.add_zero] at a ⊢;rw[e1,e2]; omega
 ·have f:k=n:=by omega
  subst f;rw[List.take_of_length_le (l:=lz1) (by omega),List.take_of_length_le (l:=lz) (by omega)] at a;exact a
theorem iJ (C : Option Addr) (h n f cz : Nat) (ab : Option Addr) (bb ob v cb : Nat) (m : Int) (lz lb : List Int) (w : World)
    (x : lz.length = f) (O : lb.length = v) (hle : v ≤ f) (hbig : f ≤ 2199023255552) (s : f ≤ cz) (V : v ≤ cb) (I : 0 ≤ m) (T : m < 18446744073709551616)
    (K : Words lz) (Y : Words lb) (J : At w C h n lz) (r : dD w h n f) (hb : At w ab bb ob lb) (y : lb = [] ∨ bb ≠ h) :
    Calls Tryz.prog 117 #[.slice C f cz, .slice ab v cb, .int .u64 m] w fun e w' => ∃ fO : Int, e = .returned (.int .u64 fO) ∧ 0 ≤ fO ∧ fO < 18446744073709551616 ∧
      ∃ lz', lz'.length = f ∧ Words lz' ∧ At w' C h n lz' ∧ Wr h n f w w' ∧ val lz' = val lz - val lb * m + 18446744073709551616 ^ f * fO := by
  have fin : ∀ (j : Nat) (d : Int) (i : List Int) (wr : World), v ≤ j → j ≤ f → 0 ≤ d → d < 18446744073709551616 → dh lz lb (-m) j i (-d) → At wr C h n i → Wr h n f w wr → (d = 0 ∨ f = j) →
      ∃ fO : Int, Ending.returned (.int .u64 d) = .returned (.int .u64 fO) ∧ 0 ≤ fO ∧ fO < 18446744073709551616 ∧
      ∃ lz', lz'.length = f ∧ Words lz' ∧ At wr C h n lz' ∧ Wr h n f w wr ∧ val lz' = val lz - val lb * m + 18446744073709551616 ^ f * fO := by
    intro j d i wr h1 h2 N Q L h6 h7 h8;refine⟨d, rfl, N, Q, i, by rw[L.1, x], L.2.1, h6, h7, ?_⟩;have := L.fO x (by rcases h8 with e | e
                            · left; omega
                            · right; omega) (by omega) h2
    rw[Int.mul_neg, Int.mul_neg] at this;omega
  have G := (show Hid _ from fin);clear fin;go_enter Tryz.func117, Tryz.ntmps117;go_wp2;go_loopw [7, 15] (fun tc D wr => ∃ (k : Nat) (c : Int) (g : List Int), k ≤ v ∧ D = .int .i64 k ∧ tc = .int .u64 c ∧ 0 ≤ c ∧ c < 18446744073709551616 ∧ dh lz lb (-m) k g (-c) ∧ At wr C h n g ∧ Wr h n f w wr) (fun _ D _ => v - (intOf D).toNat)
  case atStart => exact⟨0, 0, lz, Nat.zero_le _, rfl, rfl, by decide, by decide, ⟨rfl, K, fun _ _ => rfl, by simp[val]⟩, J, Wr.refl _ _ _ _⟩
  case round =>
    obtain⟨k, c, g, hk, rfl, rfl, u, z, hinv, b, a⟩:= hrel;have A := hinv.1;by_cases hlt : k < v
    · rcases hb.loc with e | rfl
      · subst e; simp at O; omega
      rcases J.loc with e | rfl
      · subst e; simp at x; omega
      have H := hb.wr a y;have V := H.cell k (by omega);have s := b.cell k (by omega);have hfr := a.free r k (by omega);have hx := Y.nth k;have B := K.nth k;rw[hinv.2.2.1 k (Nat.le_refl _)] at s;obtain⟨W, X⟩:= hx;obtain⟨p, o⟩:= B
      have E : Hid (dh lz lb (-m) k g (-c)) := hinv
      have S : Hid (At wr (some ⟨h, n, none⟩) h n g) := b
      have Z : Hid (Wr h n f w wr) := a;clear hinv b a H J hb r K Y y;go_wp2_with (first
        | (go_at_call 89; refine(kX _ _ W X I T _).mono ?_; rintro e w' ⟨hi, lo, rfl, h1, h2, N, Q, L, rfl⟩)
        | simp only[qZ _ _ N u]
        | simp only[Ch _ _ p o])
      have R : nth lb k * m ≤ 340282366920938463426481119284349108225 := by
        have := Int.mul_le_mul (show nth lb k ≤ 18446744073709551615 by omega) (show m ≤ 18446744073709551615 by omega) I (by decide);simpa using this
      obtain⟨s1, s2, s3, s4, M⟩:= wH (nth lz k) (nth lb k) m c hi lo ⟨p, o⟩ ⟨u, z⟩ h1 h2 N Q L R;rw[Int.sub_emod_emod] at M;rw[IntWalk.u64_in _ ⟨s3, s4⟩];refine⟨⟨k + 1, _, _, by omega, by go_num, rfl, s3, by omega, E.out.step (by omega) (Int.emod_nonneg _ (by decide)) (Int.emod_lt_of_pos _ (by decide)) M, S.out.setCell (by omega) _, Z.out.setCell (by omega) (by omega) _⟩, by simp[intOf]; omega⟩
    · have aa : k = v := by omega
      subst aa
      have E : Hid (dh lz lb (-m) k g (-c)) := hinv;clear hinv;go_wp2;go_loopw [7, 12] (fun tc D wr => ∃ (j : Nat) (c : Int) (g : List Int), k ≤ j ∧ j ≤ f ∧ D = .int .i64 j ∧ tc = .int .u64 c ∧ 0 ≤ c ∧ c < 18446744073709551616 ∧ dh lz lb (-m) j g (-c) ∧ At wr C h n g ∧ Wr h n f w wr) (fun _ D _ => f - (intOf D).toNat)
      case atStart => exact⟨k, c, g, Nat.le_refl _, by omega, rfl, rfl, u, z, E.out, b, a⟩
      case round =>
        clear b a E A u z;obtain⟨j, d, i, F, hj, rfl, rfl, q, t, hinv, b, a⟩:= hrel;have U := hinv.1;by_cases hlt2 : j < f
        · by_cases hd : d = 0
          · subst hd
            go_wp2;go_ret;exact G.out j 0 i _ F hj q t hinv b a (.inl rfl)
          · rcases J.loc with e | rfl
            · subst e; simp at x; omega
            have s := b.cell j (by omega);have hfr := a.free r j (by omega);have B := K.nth j;rw[hinv.2.2.1 j (Nat.le_refl _)] at s;obtain⟨p, o⟩:= B
            have hdb : (d != 0) = true := by rw[bne_iff_ne]; exact hd
            have E : Hid (dh lz lb (-m) j i (-d)) := hinv
            have S : Hid (At wr (some ⟨h, n, none⟩) h n i) := b
            have Z : Hid (Wr h n f w wr) := a;clear hinv b a J hb r K Y y;go_wp2_with (simp only[D0 _ _ p o q t]);have hbb := xm (nth lz j) d
            have M : (nth lz j - d) % 18446744073709551616 + 18446744073709551616 * -bor (nth lz j) d = nth lz j + nth lb j * -m + -d := by
              rw[fQ (l := lb) (by omega), ux _ _ ⟨p, o⟩ ⟨q, t⟩]; omega
            refine⟨⟨j + 1, _, _, by omega, by omega, by go_num, rfl, by omega, by omega, E.out.step (by omega) (Int.emod_nonneg _ (by decide)) (Int.emod_lt_of_pos _ (by decide)) M, S.out.setCell (by omega) _, Z.out.setCell (by omega) (by omega) _⟩, by simp[intOf]; omega⟩
        · have P : j = f := by omega
          subst P;go_wp2;go_ret;exact G.out j d i _ F hj q t hinv b a (.inr rfl)
end
section
open Go.RowKit Lim
theorem Br {L L' lz:List Int} {x y fO:Int} (hL:IsN L x) (a:IsN L' y) (hle:y<=x) (hw:Words lz) (e:lz.length=L.length) (j:0<=fO)
  (hv:val lz=val L - val L' * 1 + 18446744073709551616 ^ L.length * fO):IsN (norm lz) (x - y):=by
 have i:=p7 hL;have f:=p7 a;have d:=dy hw;have g:=aM hw;have b:=pow_pos L.length;rw[hL.2.2,a.2.2] at hv;rw[e] at d
 have c:fO=0:=by
  by_cases h:0 < fO
  ·have:18446744073709551616 ^ L.length * 1<=18446744073709551616 ^ L.length * fO:=Int.mul_le_mul_of_nonneg_left (by omega) (Int.le_of_lt b);omega
  ·omega
 subst c;have:x - y=val lz:=by rw[hv]; simp
 rw[this];exact cj hw
theorem sub_lt (ao:Option Addr) (n c b o:Nat) (ao':Option Addr) (n' c' b' o':Nat) (l d:List Int) (w:World) (p:l.length=n) (k:d.length=n') (hc:n<=c) (g:n'<=c') (f:n<=1099511627776) (a:n'<=1099511627776)
  (wl:Words l) (m:Words d) (q:At w ao b o l) (i:At w ao' b' o' d) (j:val l < val d) :
  Calls Tryz.prog 72 #[.slice ao n c,.slice ao' n' c'] w fun e w'=>e=.returned (.tuple #[.slice none 0 0,.int .i64 10])/\Below w.heap.size w w':=by
 have t1:=ir ao n c b o ao' n' c' b' o' l d w p k hc g f a wl m q i;rw[gW j] at t1;go_enter Tryz.func72,Tryz.ntmps72;go_wp2_with fail;refine t1.mono ?_
 rintro e r ⟨rfl,h⟩;go_wp2_with fail;go_ret2;exact⟨rfl,h⟩
theorem sub_ge (ao:Option Addr) (n c b o:Nat) (ao':Option Addr) (n' c' b' o':Nat) (l a:List Int) (w:World) (X:l.length=n) (D:a.length=n') (hc:n<=c) (A:n'<=c') (q:n<=1099511627776) (y:n'<=1099511627776)
  (wl:Words l) (z:Words a) (U:At w ao b o l) (x:At w ao' b' o' a) (S:val a<=val l) :
  Calls Tryz.prog 72 #[.slice ao n c,.slice ao' n' c'] w fun e w'=>∃ v r,e=.returned (.tuple #[v,.int .i64 0])/\dH w w' v r/\IsN r (val l - val a)/\r.length<=n/\Below w.heap.size w w':=by
 have t1:=ir ao n c b o ao' n' c' b' o' l a w X D hc A q y wl z U x
 have hs0:0<=sgn (val l) (val a):=by unfold sgn; split<;>(try split)<;>omega
 have hle:aI a<=aI l:=by
  rcases Nat.lt_or_ge (aI l) (aI a) with h | h
  ·have:=dA wl z h; omega
  ·exact h
 generalize hsg:sgn (val l) (val a)=sg at *;clear hsg;go_enter Tryz.func72,Tryz.ntmps72;go_wp2_with fail;refine t1.mono ?_
 rintro e I ⟨rfl,f⟩;have C:=U.keep f
 have k:=x.keep f;clear t1;go_wp2_with fail;refine(jI ao n c b o l I X hc q C).mono ?_
 rintro e w2 ⟨rfl,d,t⟩
 have j:=k.keep t
 have u:=j.sub (aI a)
 have J:norm a=[]\/b'≠I.heap.size:=by
  rcases(k.sub (aI a)).lt with e | e
  ·exact .inl e
  ·exact .inr (by omega)
 rw[show a.take (aI a)=norm a from rfl] at u;have t2:=bp ao' n' c' a w2 D A (by omega) j.cells;have hn:=bB l
 have hn':=bB a;have B:=aK l
 have G:=aK a;have W:=cj wl
 have F:=cj z;clear U x C k j;generalize aI l=N at *;generalize aI a=N' at *;generalize norm l=L at *;generalize norm a=L' at *;go_wp2_with fail;refine t2.mono ?_
 rintro e w3 ⟨rfl,rfl⟩;clear t2;go_wp2_with fail;refine(iJ _ I.heap.size 0 _ _ _ b' o' _ _ 1 L L' w3 B G hle (by omega) (Nat.le_refl _) (Nat.le_refl _) (by decide) (by decide) W.1 F.1 d.at (d.free _ _) u J).mono ?_
 rintro e V ⟨fO,rfl,T,Z,p,O,Q,g,s,H⟩
 have HF:IsN (norm p) (_ - _):=Br W F S Q (by omega) T (by rw[H,B]);have P:=s.free (d.free 0 N);have hz1:=bB p;have M:=aK p;have E:=g.sub (aI p);have m:=f.size
 have Y:Below w.heap.size w V:=(f.trans (t.mono m)).trans (s.below m);rw[show p.take (aI p)=norm p from rfl] at E;have t3:=bp (some ⟨I.heap.size,0,none⟩) N N p V O (Nat.le_refl _) (by omega) g.cells;clear u d s g H f t;generalize aI p=K at *;generalize norm p=R at *;go_wp2_with fail;refine t3.mono ?_
 rintro e w5 ⟨rfl,rfl⟩;go_wp2;go_ret2;exact⟨_,R,rfl,dH.of M.symm (Nat.le_refl _) m E (fun i hi=>P i (by omega)),HF,by omega,Y⟩
end
section
open Go.RowKit Lim
section
variable {w w1:World}{v:Value}{l:List Int}
theorem Row.built(w:World)(l:List Int):Row (w.alloc (.cells (l.map (Value.int .u64)).toArray 22)) w.heap.size l:=by
 show (w.heap.push _)[w.heap.size]? = _
 rw[Array.getElem?_push_size]
theorem Row.built1(w:World)(x:Int):Row (w.alloc (.cells #[.int .u64 x] 22)) w.heap.size [x]:=Row.built w [x]
theorem ae(w:World)(o:Obj):Below w.heap.size w (w.alloc o):=(Below.refl _ _).alloc (Nat.le_refl _) _
theorem xr(x:Int)(w:World)(g:0<=x)(h:x < 18446744073709551616) :
  Calls Tryz.prog 25 #[.int .u64 x] w fun e w'=>∃ v r,e=.returned v/\dH w w' v r/\IsN r x/\r.length<=1/\Below w.heap.size w w':=by
 have b:=Row.built1 w x;have hb:=ae w (.cells #[.int .u64 x] 22)
 have hw:Words [x]:=Words.cons g h Words.nil;have t1:=bp (some ⟨w.heap.size,0,none⟩) 1 1 [x] (w.alloc (.cells #[.int .u64 x] 22)) rfl (by decide) (by decide) b.at.cells;have d:=bB [x];have c:=aK [x];have a:=b.at.sub (aI [x])
 have j:IsN (norm [x]) x:=by have:=cj hw; rwa [eC] at this
 have f:=b.free 0 1;rw[show [x].take (aI [x])=norm [x] from rfl] at a;rw[List.length_singleton] at d;generalize aI [x]=K at *;generalize norm [x]=R at *;clear b;go_enter Tryz.func25,Tryz.ntmps25;go_wp2_with fail;refine t1.mono ?_
 rintro e k ⟨rfl,rfl⟩;go_wp2;go_ret;exact⟨_,R,rfl,dH.of c.symm (Nat.le_refl _) (Nat.le_refl _) a (fun i hi=>f i (by omega)),j,by omega,hb⟩
theorem div_zero(v:Value)(ao':Option Addr)(n' c' b' o':Nat)(a:List Int)(w:World)(f:a.length=n')(b:n'<=c')(d:n'<=1099511627776)(g:Words a)(c:At w ao' b' o' a)(h:val a=0) :
  Calls Tryz.prog 70 #[v,.slice ao' n' c'] w fun e w'=>e=.returned (.tuple #[.slice none 0 0,.slice none 0 0,.int .i64 11])/\w'=w:=by
 have t1:=bp ao' n' c' a w f b (by omega) c.cells;rw[(bX g).2 h] at t1;go_enter Tryz.func70,Tryz.ntmps70;go_wp2_with fail;refine t1.mono ?_
 rintro e i ⟨rfl,rfl⟩;go_wp2_with fail;go_ret3;exact⟨rfl,rfl⟩
def jQ(w w':World)(e:Ending)(x y:Int)(n n':Nat):Prop :=
 ∃ v u r s,e=.returned (.tuple #[v,u,.int .i64 0])/\dH w w' v r/\dH w w' u s/\IsN r (x / y)/\IsN s (x % y)/\r.length<=n/\s.length<=n + n'/\Below w.heap.size w w'
theorem dH.nil(w w':World):dH w w' (.slice none 0 0) []:=⟨none,w.heap.size,0,0,rfl,Nat.le_refl _,Nat.le_refl _,⟨.inl rfl,fun i hi=>by simp at hi⟩,fun i hi=>by simp at hi⟩
theorem jR:IsN [] 0:=⟨Words.nil,rfl,rfl⟩
theorem dH.later{d:World}(h:dH w w1 v l)(hb:Below w1.heap.size w1 d):dH w d v l:=by
 obtain⟨m,b,o,c,e,k,g,f,j⟩:=h;refine⟨m,b,o,c,e,k,g,f.keep hb,fun i hi => ?_⟩;have a:=aJ (f.cell i hi);rw[hb.frozen (p:=⟨b,o + i,none⟩) a]; exact j i hi
theorem dH.mono{w0:World}(h:dH w w1 v l)(hb:w0.heap.size<=w.heap.size):dH w0 w1 v l:=by
 obtain⟨ao,b,o,c,e,h1,h2,h3,h4⟩:=h;exact⟨ao,b,o,c,e,h1,by omega,h3,h4⟩
theorem div_lt(ao:Option Addr)(n c b o:Nat)(ao':Option Addr)(n' c' b' o':Nat)(l a:List Int)(w:World)(v:l.length=n)(s:a.length=n')(hc:n<=c)(p:n'<=c')(f:n<=1099511627776)(t:n'<=1099511627776)(wl:Words l)(m:Words a)(x:At w ao b o l)(k:At w ao' b' o' a)(h:val l < val a) :
  Calls Tryz.prog 70 #[.slice ao n c,.slice ao' n' c'] w fun e w'=>jQ w w' e (val l) (val a) n n':=by
 have u:=aM wl;have hn:=bB l
 have C:=bB a
 have B:aI a≠0:=fun e=>by have:=(bX m).1 e; omega
 have t1:=bp ao' n' c' a w s p (by omega) k.cells
 have j:=k.sub (aI a);rw[show a.take (aI a)=norm a from rfl] at j;have t2:=ir ao n c b o ao' (aI a) (aI a) b' o' l (norm a) w v (aK a) hc (Nat.le_refl _) f (by omega) wl m.norm x j;rw[cV,gW h] at t2;have z:=cj wl;have r:=aK l
 have y:((aI a:Int) == 0)=false:=beq_eq_false_iff_ne.2 (by omega);go_enter Tryz.func70,Tryz.ntmps70;go_wp2_with fail;refine t1.mono ?_
 rintro e E ⟨rfl,rfl⟩;go_wp2_with fail;refine t2.mono ?_
 rintro e A ⟨rfl,g⟩;go_wp2_with fail;refine(jI ao n c b o l A v hc f (x.keep g)).mono ?_
 rintro e D ⟨rfl,d,q⟩;clear t1 t2;go_wp2;go_ret3;have i:=g.size;exact⟨_,_,[],norm l,rfl,dH.nil _ _,dH.of r.symm (Nat.le_refl _) i d.at (d.free _ _),by rw[Int.ediv_eq_zero_of_lt u h]; exact jR,by rw[Int.emod_eq_of_lt u h]; exact z,by simp,by omega,g.trans (q.mono i)⟩
theorem div_one(ao:Option Addr)(n c b o:Nat)(ao':Option Addr)(n' c' b' o':Nat)(l f:List Int)(w:World)(hl:l.length=n)(Y:f.length=n')(hc:n<=c)(V:n'<=c')(v:n<=1099511627776)(ae:n'<=1099511627776)(wl:Words l)(E:Words f)(ha:At w ao b o l)(H:At w ao' b' o' f)(aa:val f<=val l)(h1:aI f=1) :
  Calls Tryz.prog 70 #[.slice ao n c,.slice ao' n' c'] w fun e w'=>jQ w w' e (val l) (val f) n n':=by
 have h0:=aM wl;have hn:=bB l
 have hn':=bB f;have t1:=bp ao' n' c' f w Y V (by omega) H.cells
 have k:=H.sub (aI f);rw[show f.take (aI f)=norm f from rfl] at k;have t2:=ir ao n c b o ao' (aI f) (aI f) b' o' l (norm f) w hl (aK f) hc (Nat.le_refl _) v (by omega) wl E.norm ha k;rw[cV] at t2
 have ad:0<=sgn (val l) (val f):=by unfold sgn; split<;>(try split)<;>omega
 have x:=aK f
 have A:=cj E;rw[h1] at t1 t2 x;generalize hN':norm f=L' at *;obtain⟨d,rfl⟩:=List.length_eq_one_iff.1 x
 have hd:val f=d:=by have:=A.2.2; rw[eC] at this; exact this.symm
 have ab:=A.1 d (by simp)
 have C:0 < d:=by
  have h2:=A.2.1;by_cases c:d=0
  ·subst c; simp[aI] at h2
  ·omega
 rw[hd] at aa t2 ⊢;rw[hd] at ad;generalize sgn (val l) d=sg at *;rcases k.loc with e | rfl
 ·simp at e
 go_enter Tryz.func70,Tryz.ntmps70;go_wp2_with fail;refine t1.mono ?_
 rintro e w1 ⟨rfl,rfl⟩;go_wp2_with fail;refine t2.mono ?_
 rintro e M ⟨rfl,j⟩;go_wp2_with fail;refine(jI ao n c b o l M hl hc v (ha.keep j)).mono ?_
 rintro e w3 ⟨rfl,g,p⟩;have z:=j.size;have hsz3:=p.size;have G:=((k.keep j).keep p).cell 0 (by simp);rw[cI] at G;rw[Nat.add_zero] at G;have U:=wl.norm;have O:=cV l;have X:=aK l;clear t1 t2;generalize aI l=N at *;generalize norm l=L at *;go_wp2_with fail;refine(gE (some ⟨M.heap.size,0,none⟩) M.heap.size 0 N N d L w3 X (by omega) (Nat.le_refl _) C ab.2 U g.at (g.free _ _)).mono ?_
 rintro e w4 ⟨left,h,rfl,D,Z,Q,T,t,m,J⟩;have S:=m.free (g.free 0 N);have hz1:=bB h;have W:=aK h;have F:=t.sub (aI h);have HF:=cj T;have ac:=m.size;have af:=g.lt;rw[show h.take (aI h)=norm h from rfl] at F;have t3:=bp (some ⟨M.heap.size,0,none⟩) N N h w4 Q (Nat.le_refl _) (by omega) t.cells
 have HB:Below w1.heap.size w1 w4:=(j.trans (p.mono z)).trans (m.below z)
 have ev:val h=val l / d/\left=val l % d:=by
  have hh:=Int.ediv_emod_unique (a:=val l) (b:=d) (r:=left) (q:=val h) C;have:=hh.2 ⟨by rw[<- O,<- J,Int.mul_comm]; omega,D,Z⟩;exact⟨this.1.symm,this.2.symm⟩
 rw[ev.1] at HF
 have y:Hid (left=val l % d):=ev.2;clear m g J j p k ev;generalize aI h=K at *;generalize norm h=R at *;go_wp2_with fail;refine t3.mono ?_
 rintro e w5 ⟨rfl,rfl⟩;go_wp2_with fail;refine(xr left w5 D (by omega)).mono ?_
 rintro e w6 ⟨u,s,rfl,B,P,hsl,I⟩;go_wp2;go_ret3;refine⟨_,u,R,s,rfl,(dH.of W.symm (Nat.le_refl _) z F (fun i hi=>S i (by omega))).later I,B.mono (by omega),HF,by rw[<- y.out]; exact P,by omega,by omega,HB.trans (I.mono (by omega))⟩
end
end
section
open Go.RowKit Lim
section
variable {l:List Int}{S T v1:Int}
theorem fN(s:Nat)(hs:s<=63):(0:Int) < 2 ^ s/\(2:Int) ^ s < 18446744073709551616/\(2:Int) ^ s * 2 ^ (64 - s)=18446744073709551616/\(0:Int) < 2 ^ (64 - s):=by
 have a:(0:Int) < 2 ^ s:=Int.pow_pos (by decide)
 have b:(2:Nat) ^ s<=2 ^ 63:=Nat.pow_le_pow_right (by decide) hs
 have e:((2 ^ s:Nat):Int)=(2:Int) ^ s:=by rw[Int.natCast_pow]; rfl
 have e2:(2:Nat) ^ 63=9223372036854775808:=by decide
 refine⟨a,by omega,?_,Int.pow_pos (by decide)⟩;rw[<- Int.pow_add,show s + (64 - s)=64 from by omega]; rfl
theorem nT(ao:Option Addr)(n c b o s:Nat)(l:List Int)(w:World)(B:l.length=n)(hc:n<=c)(A:n<=1099511627776)(hs:s<=63)(wl:Words l)(C:At w ao b o l) :
  Calls Tryz.prog 114 #[.slice ao n c,.int .i64 s] w fun e w'=>∃ lz,e=.returned (.slice (some ⟨w.heap.size,0,none⟩) (n + 1) (n + 1))/\lz.length=n + 1/\Words lz/\At w' (some ⟨w.heap.size,0,none⟩) w.heap.size 0 lz/\dD w' w.heap.size 0 (n + 1)/\w.heap.size < w'.heap.size/\val lz=val l * 2 ^ s/\Below w.heap.size w w':=by
 obtain⟨p1,z,F,I⟩:=fN s hs
 have q:l=[]\/b≠w.heap.size:=by
  rcases C.lt with e | e
  ·exact .inl e
  ·exact .inr (by omega)
 have g:=aM wl;have j:=dy wl
 have x:Hid (0<=val l * 2 ^ s/\val l * 2 ^ s < 18446744073709551616 ^ (n + 1)):=by
  refine⟨Int.mul_nonneg g (Int.le_of_lt p1),?_⟩
  have L:val l * 2 ^ s<=val l * 18446744073709551616:=Int.mul_le_mul_of_nonneg_left (by omega) g;rw[B] at j;rw[Int.pow_succ]; omega
 obtain⟨S,hS⟩:∃ S,(2:Int) ^ s=S:=⟨_,rfl⟩
 rw[hS] at p1 z x ⊢
 have E:IntKind.u64.wrap S=S:=IntWalk.u64_in _ ⟨by omega,by omega⟩;clear F I g j;go_enter Tryz.func114,Tryz.ntmps114;go_wp2_with (at_make; refine cY rfl _ _ rfl (n + 1) _ _ rfl rfl (by omega) (by omega) (by omega) ?_; intro H a f y);have r:=C.keep f;refine(eh _ w.heap.size 0 (n + 1) (n + 1) ao b o n c S (List.replicate (n + 1) 0) l H (by simp) B (by omega) (by omega) (Nat.le_refl _) hc (by omega) z (eB _) wl a.at (a.free _ _) r q).mono ?_
 rintro e G ⟨rfl,lz,t,v,m,d,h⟩;have u:=d.free (a.free 0 (n + 1));have J:=a.lt;have p:=d.size;rw[fq (l:=List.replicate (n + 1) 0) (fun i=>by simp[nth,List.getElem?_replicate]; split<;>rfl),Int.zero_add,Int.emod_eq_of_lt x.out.1 x.out.2] at h;have K:=(show Hid _ from h)
 have D:=f.trans (d.below (Nat.le_refl _))
 have k:w.heap.size < G.heap.size:=by omega
 clear h p y a d f;go_wp2;go_ret;exact⟨lz,rfl,t,v,m,u,k,K.out,D⟩
structure lX(lz:List Int)(S:Int)(h:Nat)(lz1:List Int):Prop where
 len:lz1.length=lz.length
 words:Words lz1
 low:∀ i,i < h->nth lz1 i=nth lz i
 val:Lim.val (lz1.drop h)=Lim.val (lz.drop h) / S
theorem Cu(S T:Int)(h:S * T=18446744073709551616)(k:Nat):val (l.drop k) % S=nth l k % S:=by
 by_cases a:k < l.length
 ·rw[dW a,<- h,Int.mul_assoc,Int.add_mul_emod_self_left]
 ·rw[List.drop_of_length_le (by omega),fQ (by omega)]; rfl
theorem lX.step{lz lz1:List Int}{b:Int}{h:Nat}(hS:0 < S)(a:S * T=18446744073709551616)(hv:lX lz S (h + 1) lz1)(d:h < lz.length)(z0:0<=b)(z1:b < 18446744073709551616)(e:b=nth lz h / S + T * (nth lz (h + 1) % S)):lX lz S h (lz1.set h b):=by
 have c:=hv.len;refine⟨by simp[c],hv.words.set h z0 z1,fun i hi=>by rw[dC (by omega),if_neg (by omega)]; exact hv.low i (by omega),?_⟩;rw[dW (by simp; omega),dC (by omega),if_pos rfl,List.drop_set,if_pos (by omega),hv.val,dW d,e,<- Cu S T a (h + 1)];generalize Lim.val (lz.drop (h + 1))=Y
 have e1:nth lz h + 18446744073709551616 * Y=nth lz h + S * (T * Y):=by rw[<- a]; grind
 rw[e1,Int.add_mul_ediv_left _ _ (by omega)];have e2:=Int.mul_ediv_add_emod Y S
 have e3:T * Y=T * (S * (Y / S) + Y % S):=by rw[e2]
 rw[e3,<- a];grind
theorem zU{x y:Int}(s:Nat)(i:S=2 ^ s)(e:T=2 ^ (64 - s))(hs:s<=63)(hx:0<=x/\x < 18446744073709551616) :
  bits .or .u64 (x / S) (IntKind.u64.wrap (y * T))=x / S + T * (y % S)/\0<=x / S + T * (y % S)/\x / S + T * (y % S) < 18446744073709551616:=by
 obtain⟨p1,h,d,b⟩:=fN s hs;rw[<- i] at p1 h d;rw[<- e] at d b
 have a:0<=x / S:=Int.ediv_nonneg hx.1 (Int.le_of_lt p1)
 have f:x / S < T:=by rw[Int.ediv_lt_iff_lt_mul p1,Int.mul_comm,d]; exact hx.2
 have c:=Int.emod_nonneg y (show S≠0 by omega);have k:=Int.emod_lt_of_pos y p1
 have j:IntKind.u64.wrap (y * T)=y % S * T:=by
  rw[IntKind.wrap_u64,<- d,Int.mul_comm y T,Int.mul_comm S T,Int.mul_emod_mul_of_pos _ _ b,Int.mul_comm]
 have g:0<=y % S * T:=Int.mul_nonneg c (Int.le_of_lt b)
 have l:(y % S + 1) * T<=S * T:=Int.mul_le_mul_of_nonneg_right (by omega) (Int.le_of_lt b);rw[Int.add_mul,Int.one_mul,d] at l
 have m:T<=18446744073709551616:=by
  have:1 * T<=S * T:=Int.mul_le_mul_of_nonneg_right (by omega) (Int.le_of_lt b);omega
 rw[j,Int.mul_comm T];refine⟨?_,by omega,by omega⟩;rw[u64_or _ _ a (by omega) g (by omega),Nat.or_comm,<- u64_or _ _ g (by omega) a (by omega)];rw[qh _ _ (64 - s) (y % S) (by rw[e]) c (by omega) a (by rw[<- e]; exact f) (by omega),Int.add_comm]
theorem wD(l:Option Addr)(f g a v s:Nat)(lz:List Int)(w:World)(t:lz.length=a)(A:a<=2199023255552)(i:a<=v)(hs:s<=63)(n:Words lz)(o:At w l f g lz)(q:dD w f g a) :
  Calls Tryz.prog 116 #[.slice l a v,.int .i64 s] w fun e w'=>e=.returned (.tuple #[])/\∃ lz',lz'.length=a/\Words lz'/\At w' l f g lz'/\Wr f g a w w'/\val lz'=val lz / 2 ^ s:=by
 obtain⟨p1,N,F,O⟩:=fN s hs;go_enter Tryz.func116,Tryz.ntmps116;go_wp2;go_loopw [4,10] (fun tc r wr=>∃ (k:Nat) (b:List Int),k<=a/\r=.int .i64 k/\tc=.int .u64 (nth lz (a - k))/\lX lz (2 ^ s) (a - k) b/\At wr l f g b/\Wr f g a w wr) (fun _ r _=>a - (intOf r).toNat)
 case atStart=>exact⟨0,lz,Nat.zero_le _,rfl,by rw[fQ (by omega)],⟨rfl,n,fun _ _=>rfl,by rw[Nat.sub_zero,List.drop_of_length_le (by omega)]; simp[val]⟩,o,Wr.refl _ _ _ _⟩
 case round =>
  obtain⟨k,b,P,rfl,rfl,hinv,d,c⟩:=hrel;have m:=hinv.len;by_cases K:k < a
  ·rcases o.loc with e | rfl
   ·subst e; simp at t; omega
   obtain⟨h,z⟩:∃ h:Nat,a=h + 1 + k:=⟨a - 1 - k,by omega⟩
   have i:=d.cell h (by omega);have M:=c.free q h (by omega);rw[hinv.low h (by omega)] at i
   have B:(a:Int) - 1 - k=h:=by omega
   have D:(h:Int) < a:=by omega
   have j:a - k=h + 1:=by omega
   rw[j] at hinv ⊢;obtain⟨e1,e2,e3⟩:=zU (y:=nth lz (h + 1)) s rfl rfl hs (n.nth h)
   have H:Hid (lX lz (2 ^ s) h (b.set h (nth lz h / 2 ^ s + 2 ^ (64 - s) * (nth lz (h + 1) % 2 ^ s)))):=hinv.step p1 F (by omega) e2 e3 rfl
   have C:Hid (a=h + 1 + k):=z;have G:=(show Hid _ from d)
   have E:=(show Hid _ from c)
   have L:Hid (nth lz (a - (k + 1))=nth lz h):=by show _=_; rw[show a - (k + 1)=h from by omega]
   have J:Hid (a - (k + 1)=h):=by show _=_; omega
   clear z hinv o n d c j;generalize nth lz h=x at *;generalize nth lz (h + 1)=y at *
   have u:(64:Int) - s=((64 - s:Nat):Int):=by omega
   go_wp2_with fail;go_region;go_wp2;refine⟨⟨k + 1,_,by omega,by go_num,by rw[L.out],by rw[J.out]; exact H.out,?_,?_⟩,by simp[intOf]; omega⟩
   ·exact(G.out.setCell (by omega) _).drew
   ·exact(E.out.setCell (by omega) (by have:=C.out; omega) _).drew
  ·have p:k=a:=by omega
   subst p;have hv:=hinv.val;rw[Nat.sub_self,List.drop_zero,List.drop_zero] at hv;have I:=(show Hid _ from hv)
   clear hv;go_wp2;go_end0;exact⟨rfl,b,by omega,hinv.words,d,c,I.out⟩
def qQ(u v g:Int):Prop:=0<=g/\g < 18446744073709551616/\(g - 1) * v<=u/\u < (g + 1) * v
theorem zt{u v u0 R P:Int}(e:0 < P)(hv:v < (v1 + 1) * P)(c:9223372036854775808<=v1)(hu:u=u0 * 18446744073709551616 * P + R)(d:0<=R)(b:v1<=u0)(a:u < v * 18446744073709551616):qQ u v 18446744073709551615:=by
 refine⟨by decide,by decide,?_,by rw[show (18446744073709551615 + 1:Int)=18446744073709551616 from rfl,Int.mul_comm]; exact a⟩
 have k1:v * 18446744073709551614<=(v1 + 1) * P * 18446744073709551614:=Int.mul_le_mul_of_nonneg_right (by omega) (by decide)
 have k2:v1 * P<=u0 * P:=Int.mul_le_mul_of_nonneg_right b (by omega)
 have k3:9223372036854775808 * P<=v1 * P:=Int.mul_le_mul_of_nonneg_right c (by omega)
 have e1:(v1 + 1) * P * 18446744073709551614=v1 * P * 18446744073709551614 + P * 18446744073709551614:=by grind
 have e2:u0 * 18446744073709551616 * P=u0 * P * 18446744073709551616:=by grind
 rw[show (18446744073709551615 - 1:Int)=18446744073709551614 from rfl,Int.mul_comm];omega
theorem tK{u v v2 a g rest hi Q:Int}(E:0 < Q)(e:v1 * 18446744073709551616 * Q + v2 * Q<=v)(hv:v < v1 * 18446744073709551616 * Q + (v2 + 1) * Q)(t:9223372036854775808<=v1)(o:0<=v2)(z:v2 < 18446744073709551616)(m:a * (18446744073709551616 * Q)<=u)(hu:u < (a + 1) * (18446744073709551616 * Q))(b:0<=g)(k:g < 18446744073709551616)(l:0<=rest)(x:rest < v1)(he:g * v1 + rest=a)(lo:Int)(j:0<=lo)(s:lo < 18446744073709551616)(hm:hi * 18446744073709551616 + lo=g * v2) :
  (rest < hi->qQ u v (g - 1))/\(hi<=rest->qQ u v g):=by
 have q:0<=g * v2:=Int.mul_nonneg b o
 have i:g * v2<=g * 18446744073709551615:=Int.mul_le_mul_of_nonneg_left (by omega) b
 have h:0<=hi:=by omega
 have f:hi<=18446744073709551615:=by omega
 obtain⟨X,hX⟩:∃ X,18446744073709551616 * Q=X:=⟨_,rfl⟩
 have w:0 < X:=by omega
 have m1:g * (v1 * 18446744073709551616 * Q + v2 * Q)<=g * v:=Int.mul_le_mul_of_nonneg_left e b
 have m2:g * v<=g * (v1 * 18446744073709551616 * Q + (v2 + 1) * Q):=Int.mul_le_mul_of_nonneg_left (by omega) b
 have e1:g * (v1 * 18446744073709551616 * Q + v2 * Q)=a * X - rest * X + hi * X + lo * Q:=by
  rw[<- hX,<- he];have:g * (v2 * Q)=(hi * 18446744073709551616 + lo) * Q:=by rw[hm]; grind
  grind
 have e2:g * (v1 * 18446744073709551616 * Q + (v2 + 1) * Q)=a * X - rest * X + hi * X + lo * Q + g * Q:=by
  have:g * (v1 * 18446744073709551616 * Q + (v2 + 1) * Q)=g * (v1 * 18446744073709551616 * Q + v2 * Q) + g * Q:=by grind
  rw[this,e1]
 rw[e1] at m1;rw[e2] at m2
 have e3:v1 * 18446744073709551616 * Q=v1 * X:=by rw[<- hX]; grind
 rw[e3] at e;rw[hX] at m hu;rw[Int.add_mul,Int.one_mul] at hu
 have k1:9223372036854775808 * X<=v1 * X:=Int.mul_le_mul_of_nonneg_right t (by omega)
 have k2:(rest + 1) * X<=v1 * X:=Int.mul_le_mul_of_nonneg_right (by omega) (by omega)
 have k3:lo * Q<=18446744073709551615 * Q:=Int.mul_le_mul_of_nonneg_right (by omega) (by omega)
 have r:0<=lo * Q:=Int.mul_nonneg j (by omega)
 have k4:g * Q<=18446744073709551615 * Q:=Int.mul_le_mul_of_nonneg_right (by omega) (by omega)
 have C:0<=v2 * Q:=Int.mul_nonneg o (by omega)
 have B:0<=hi * X:=Int.mul_nonneg h (by omega)
 have F:0<=rest * X:=Int.mul_nonneg l (by omega)
 have D:hi * X<=18446744073709551615 * X:=Int.mul_le_mul_of_nonneg_right f (by omega);rw[Int.add_mul,Int.one_mul] at k2;constructor
 ·intro A
  have n:(rest + 1) * X<=hi * X:=Int.mul_le_mul_of_nonneg_right (by omega) (by omega);rw[Int.add_mul,Int.one_mul] at n
  have p:1<=g:=by
   by_cases c:1<=g
   ·exact c
   ·have:g=0:=by omega
    subst this; simp at hm; omega
  have d:hi<=18446744073709551614:=by omega
  have y:hi * X<=18446744073709551614 * X:=Int.mul_le_mul_of_nonneg_right d (by omega);refine⟨by omega,by omega,?_,?_⟩
  ·rw[show (g - 1 - 1) * v=g * v - 2 * v from by grind];omega
  ·rw[show (g - 1 + 1) * v=g * v from by grind];omega
 ·intro hle
  have n:hi * X<=rest * X:=Int.mul_le_mul_of_nonneg_right hle (by omega);refine⟨b,k,?_,?_⟩
  ·rw[Int.sub_mul,Int.one_mul]; omega
  ·rw[Int.add_mul,Int.one_mul]; omega
end
end
section
open Go.RowKit Lim
section
variable {f:FuncId}{args:Array Value}{w:World}{n:Nat}{v:Value}{l:List Int}
theorem rr(hi lo y:Int)(w:World)(d:0<=hi)(b:hi < y)(a:0<=lo)(l1:lo < 18446744073709551616)(y1:y < 18446744073709551616) :
  Calls Tryz.prog 166 #[.int .u64 hi,.int .u64 lo,.int .u64 y] w fun e w'=>e=.returned (.tuple #[.int .u64 ((hi * 18446744073709551616 + lo) / y),.int .u64 ((hi * 18446744073709551616 + lo) % y)])/\∃ n,w'=w.drewN n:=by
 by_cases c:hi=0
 ·subst c;refine(mJ lo y w (by omega) a l1 y1).mono ?_
  rintro e w' ⟨rfl,hw⟩;exact⟨by simp,hw⟩
 ·refine(oq hi lo y w (by omega) b a l1 y1).mono ?_
  rintro e w' ⟨rfl,rfl⟩;exact⟨rfl,0,rfl⟩
theorem nE{P:Program}(h:Calls P f args (w.drewN n) fun e w'=>e=.returned v/\∃ m,w'=(w.drewN n).drewN m):Calls P f args (w.drewN n) fun e w''=>e=.returned v/\∃ m,w''=w.drewN m :=
 h.mono fun _ _ ⟨he,m,hm⟩=>⟨he,n + m,by rw[hm,World.drewN_drewN]⟩
theorem top2(wl:Words l)(hn:l.length=n + 2):(nth l (n + 1) * 18446744073709551616 + nth l n) * 18446744073709551616 ^ n<=val l/\val l < (nth l (n + 1) * 18446744073709551616 + nth l n + 1) * 18446744073709551616 ^ n:=by
 have e1:=bF l n (by omega);have b:=aM (wl.take n);have a:=dy (wl.take n);rw[List.length_take,Nat.min_eq_left (by omega)] at a;rw[dW (by omega),dW (by omega),List.drop_of_length_le (show l.length<=n + 1 + 1 by omega)] at e1
 have e2:(18446744073709551616:Int) ^ n * (nth l n + 18446744073709551616 * (nth l (n + 1) + 18446744073709551616 * val []))=(nth l (n + 1) * 18446744073709551616 + nth l n) * 18446744073709551616 ^ n:=by
  rw[show val []=0 from rfl]; grind
 rw[e2] at e1;rw[Int.add_mul (nth l (n + 1) * 18446744073709551616 + nth l n) 1];omega
theorem vK(au:Option Addr)(cu J S:Nat)(av:Option Addr)(k cv bv B:Nat)(lu d:List Int)(w:World)(p:lu.length=k + 3)(r:d.length=k + 2)(Z:k<=1099511627776)(wu:Words lu)(A:Words d)(hu:At w au J S lu)(hv:At w av bv B d)(i:9223372036854775808<=nth d (k + 1))(t:val lu < val d * 18446744073709551616) :
  Calls Tryz.prog 167 #[.slice au (k + 3) cu,.slice av (k + 2) cv] w fun e w'=>∃ g:Int,e=.returned (.int .u64 g)/\qQ (val lu) (val d) g/\Below w.heap.size w w':=by
 obtain⟨h,l⟩:=top2 A r;obtain⟨c,f⟩:=top2 (n:=k + 1) wu p;have c0:=hu.cell (k + 2) (by omega);have c1:=hu.cell (k + 1) (by omega);have d1:=hv.cell (k + 1) (by omega);have d2:=hv.cell k (by omega);have b0:=wu.nth (k + 2);have E:=wu.nth (k + 1);have e1:=A.nth (k + 1);have e2:=A.nth k;have F:=pow_pos k;have D:=pow_pos (k + 1);rcases hu.loc with e | rfl
 ·subst e; simp at p
 rcases hv.loc with e | rfl
 ·subst e; simp at r
 rw[show k + 1 + 1=k + 2 from rfl] at c f;have C:=(show Hid _ from t)
 clear hu hv wu A t p r;obtain⟨N,z⟩:∃ N,k + 2=N:=⟨_,rfl⟩
 obtain⟨m,hm⟩:∃ m,k + 1=m:=⟨_,rfl⟩
 have hN1:(N:Int) - 1=m:=by omega
 have hN2:(N:Int) - 2=k:=by omega
 have hmN:(m:Int) < N:=by omega
 have hkN:(k:Int) < N:=by omega
 have Y:(m:Int) < (N:Int) + 1:=by omega
 have hNN1:(N:Int) < (N:Int) + 1:=by omega
 have hNb:N<=1099511627778:=by omega
 have X:m<=N:=by omega
 have hmlt:m < N + 1:=by omega
 have hmi:(m:Int)<=N:=by omega
 have hwm:IntKind.i64.wrap (m:Int)=m:=by rw[IntKind.wrap_i64]; omega
 have hwk:IntKind.i64.wrap (k:Int)=k:=by rw[IntKind.wrap_i64]; omega
 generalize nth lu (k + 2)=u0 at *;generalize nth lu (k + 1)=b at *;generalize nth d (k + 1)=v1 at *;generalize nth d k=v2 at *;generalize val lu=U at *;generalize val d=V at *;by_cases L:v1<=u0
 ·have HN:Hid (qQ U V 18446744073709551615):=by
   refine zt (v1:=v1) (u0:=u0) (P:=18446744073709551616 ^ (k + 1)) (R:=U - u0 * 18446744073709551616 * 18446744073709551616 ^ (k + 1)) D ?_ i (by omega) ?_ L C.out
   ·rw[Int.pow_succ];have:(v1 * 18446744073709551616 + v2 + 1) * 18446744073709551616 ^ k<=(v1 * 18446744073709551616 + 18446744073709551616) * 18446744073709551616 ^ k:=Int.mul_le_mul_of_nonneg_right (by omega) (by omega)
    have e:(v1 * 18446744073709551616 + 18446744073709551616) * 18446744073709551616 ^ k=(v1 + 1) * (18446744073709551616 ^ k * 18446744073709551616):=by grind
    omega
   ·have:0<=b * 18446744073709551616 ^ (k + 1):=Int.mul_nonneg E.1 (by omega);rw[Int.add_mul] at c;omega
  rw[show k + 3=N + 1 from by omega,z] at *;rw[hm] at c1 d1;clear c f h l F D z hm;go_enter Tryz.func167,Tryz.ntmps167;go_wp2_with fail;go_quiet (fail);go_wp2;go_ret;exact⟨_,rfl,HN.out,below_drewN (Below.refl _ _) _⟩
 ·have y:∀ g rest hi lo:Int,0<=g->g < 18446744073709551616->0<=rest->rest < v1->g * v1 + rest=u0 * 18446744073709551616 + b->0<=lo->lo < 18446744073709551616->hi * 18446744073709551616 + lo=g * v2->(rest < hi->qQ U V (g - 1))/\(hi<=rest->qQ U V g):=by
   intro g rest hi lo h1 h2 h3 h4 h5 h6 h7 h8;refine tK (Q:=18446744073709551616 ^ k) F ?_ ?_ i e2.1 e2.2 ?_ ?_ h1 h2 h3 h4 h5 lo h6 h7 h8
   ·rw[Int.add_mul] at h; exact h
   ·have e:(v1 * 18446744073709551616 + v2 + 1) * 18446744073709551616 ^ k=v1 * 18446744073709551616 * 18446744073709551616 ^ k + (v2 + 1) * 18446744073709551616 ^ k:=by grind
    rw[<- e]; exact l
   ·rw[Int.mul_comm 18446744073709551616,<- Int.pow_succ]; exact c
   ·rw[Int.mul_comm 18446744073709551616,<- Int.pow_succ]; exact f
  have o:=(show Hid _ from y)
  have q:=Int.mul_ediv_add_emod (u0 * 18446744073709551616 + b) v1;have T:=Int.emod_nonneg (u0 * 18446744073709551616 + b) (show v1≠0 by omega);have O:=Int.emod_lt_of_pos (u0 * 18446744073709551616 + b) (show 0 < v1 by omega)
  have v:0<=(u0 * 18446744073709551616 + b) / v1:=Int.ediv_nonneg (by omega) (by omega)
  have u:(u0 * 18446744073709551616 + b) / v1 < 18446744073709551616:=by
   rw[Int.ediv_lt_iff_lt_mul (by omega)];have:(u0 + 1) * 18446744073709551616<=v1 * 18446744073709551616:=Int.mul_le_mul_of_nonneg_right (by omega) (by decide);omega
  have tD:=fun wx:World=>rr u0 b v1 wx b0.1 (by omega) E.1 E.2 e1.2
  generalize hg:(u0 * 18446744073709551616 + b) / v1=g at *;generalize hr:(u0 * 18446744073709551616 + b) % v1=rest at *;rw[Int.mul_comm] at q;have I:=(show Hid _ from q)
  rw[show k + 3=N + 1 from by omega,z] at *;rw[hm] at c1 d1;clear y q hg hr c f h l F D z hm
  have hge':u0 < v1:=by omega
  go_enter Tryz.func167,Tryz.ntmps167;go_wp2_with fail;go_quiet (fail)
  have H:(w.drewN nq).cell? ⟨J,S + N,none⟩=some (.int .u64 u0):=c0
  have G:(w.drewN nq).cell? ⟨J,S + m,none⟩=some (.int .u64 b):=c1
  have M:(w.drewN nq).cell? ⟨bv,B + m,none⟩=some (.int .u64 v1):=d1
  have x:(w.drewN nq).cell? ⟨bv,B + k,none⟩=some (.int .u64 v2):=d2;have s:=below_drewN (Below.refl w.heap.size w) nq;clear c0 c1 d1 d2;generalize w.drewN nq=W1 at *;go_wp2_with fail;go_quiet ((go_at_call 166; exact nE (tD _)))
  have W:(W1.drewN nq).cell? ⟨bv,B + k,none⟩=some (.int .u64 v2):=x;have j:=below_drewN s nq;clear H G M x s tD;generalize W1.drewN nq=W2 at *;go_wp2_with fail;refine(kX g v2 v u e2.1 e2.2 _).mono ?_
  rintro e w3 ⟨hi,lo,rfl,i1,i2,i3,i4,i5,rfl⟩;have a:=o.out g rest hi lo v u T O I.out i3 i4 i5.out;by_cases hc:rest < hi
  ·have K:=(show Hid _ from a.1 hc)
   have hg2:0<=g - 1:=(a.1 hc).1;clear a o;go_wp2;go_ret;exact⟨_,rfl,K.out,j⟩
  ·have K:=(show Hid _ from a.2 (by omega))
   clear a o;go_wp2;go_ret;exact⟨_,rfl,K.out,j⟩
end
end
section
open Go.RowKit Lim
section
variable {L L' lz:List Int}{k:Nat}
theorem xB(hL:Words L)(a:Words L')(c:Words lz)(n:k < L.length)(l:lz.length=L.length + L'.length)(hv:val lz=val (L.take k) * val L') :
  0<=val ((lz.drop k).take (L'.length + 1)) + val L' * nth L k/\val ((lz.drop k).take (L'.length + 1)) + val L' * nth L k < 18446744073709551616 ^ (L'.length + 1):=by
 have f:=dy (hL.take k);have g:=dy a;have h:=aM (hL.take k);have b:=aM a;have m:=aM (c.take k);have j:=aM ((c.drop k).take (L'.length + 1));have h7:=aM ((c.drop k).drop (L'.length + 1));have h8:=hL.nth k;rw[List.length_take,Nat.min_eq_left (by omega)] at f;have e1:=bF lz k (by omega);have e2:=bF (lz.drop k) (L'.length + 1) (by simp; omega);have d:=pow_pos k;have i:=pow_pos L'.length;have e:=pow_pos (L'.length + 1)
 have m1:val (L.take k) * val L'<=18446744073709551616 ^ k * val L':=Int.mul_le_mul_of_nonneg_right (by omega) b
 have m2:(18446744073709551616:Int) ^ k * val (lz.drop k)<=18446744073709551616 ^ k * val L':=by omega
 have m3:val (lz.drop k)<=val L':=Int.le_of_mul_le_mul_left m2 d
 have m4:0<=18446744073709551616 ^ (L'.length + 1) * val ((lz.drop k).drop (L'.length + 1)):=Int.mul_nonneg (Int.le_of_lt e) h7
 have m5:val L' * nth L k<=val L' * 18446744073709551615:=Int.mul_le_mul_of_nonneg_left (by omega) b
 have m6:0<=val L' * nth L k:=Int.mul_nonneg b h8.1;refine⟨by omega,?_⟩;rw[Int.pow_succ];omega
structure kz(L L' lz:List Int)(k:Nat):Prop where
 len:lz.length=L.length + L'.length
 words:Words lz
 val:Lim.val lz=Lim.val (L.take k) * Lim.val L'
theorem kz.step{lw:List Int}(hL:Words L)(c:Words L')(d:k < L.length)(h:kz L L' lz k)(hw:Words lw)(b:lw.length=L'.length + 1)(hv:Lim.val lw=(Lim.val ((lz.drop k).take (L'.length + 1)) + Lim.val L' * nth L k) % 18446744073709551616 ^ (L'.length + 1)):kz L L' (patch lz k lw) (k + 1):=by
 have a:=xB hL c h.words d h.len h.val;rw[Int.emod_eq_of_lt a.1 a.2] at hv;have e:=h.len;refine⟨by rw[e9 (by omega)]; exact h.len,kH h.words hw,?_⟩;rw[nU (by omega),b,hv,h.val,dw d];grind
theorem qk(ao:Option Addr)(n c b o:Nat)(ao':Option Addr)(n' c' b' o':Nat)(l h:List Int)(w:World)(hl:l.length=n)(ab:h.length=n')(hc:n<=c)(Z:n'<=c')(hbig:n<=1099511627776)(hbig':n'<=1099511627776)(wl:Words l)(X:Words h)(W:At w ao b o l)(F:At w ao' b' o' h) :
  Calls Tryz.prog 24 #[.slice ao n c,.slice ao' n' c'] w fun e w'=>∃ v r,e=.returned v/\dH w w' v r/\IsN r (val l * val h)/\r.length<=n + n'/\Below w.heap.size w w':=by
 have hn:=bB l
 have hn':=bB h;have t1:=bp ao n c l w hl hc (by omega) W.cells;have t2:=bp ao' n' c' h w ab Z (by omega) F.cells;have hs:=W.sub (aI l)
 have y:=F.sub (aI h);have J:=aK l
 have p:=aK h;have U:=cj wl
 have G:=cj X;rw[show l.take (aI l)=norm l from rfl] at hs;rw[show h.take (aI h)=norm h from rfl] at y;generalize aI l=N at *;generalize aI h=a at *;generalize norm l=L at *;generalize norm h=M at *
 have t:L=[]\/b≠w.heap.size:=by
  rcases hs.lt with e | e
  ·exact .inl e
  ·exact .inr (by omega)
 have I:M=[]\/b'≠w.heap.size:=by
  rcases y.lt with e | e
  ·exact .inl e
  ·exact .inr (by omega)
 clear W F;go_enter Tryz.func24,Tryz.ntmps24;go_wp2_with fail;refine t1.mono ?_
 rintro e w1 ⟨rfl,rfl⟩;go_wp2_with fail;refine t2.mono ?_
 rintro e u ⟨rfl,rfl⟩;clear t1 t2;go_wp2_with (at_make; refine cY rfl _ _ rfl (N + a) _ _ rfl rfl (by omega) (by omega) (by omega) ?_; intro w3 q g hsz);have D:=hs.keep g;have Q:=y.keep g;have z:=q.at
 have C:=q.free 0 (N + a);clear hs y q;go_loopw [22] (fun ti wr=>∃ (k:Nat) (d:List Int),k<=N/\ti=.int .i64 k/\kz L M d k/\At wr (some ⟨u.heap.size,0,none⟩) u.heap.size 0 d/\Wr u.heap.size 0 (N + a) w3 wr) (fun ti _=>N - (intOf ti).toNat)
 case atStart=>exact⟨0,_,Nat.zero_le _,rfl,⟨by simp[J,p],eB _,by simp[val,fq (l:=List.replicate (N + a) 0) fun i=>by simp[nth,List.getElem?_replicate]; split<;>rfl]⟩,z,Wr.refl _ _ _ _⟩
 case round =>
  clear z;obtain⟨k,d,hk,rfl,hinv,j,f⟩:=hrel;by_cases hlt:k < N
  ·have hlen:=hinv.len;rcases D.loc with e | rfl
   ·subst e; simp at J; omega
   have t:=t;have hcx:=(D.wr f t).cell k (by omega)
   have B:=Q.wr f I;have hx:=U.1.nth k;have H:=(f.free C).fI (k:=k) (m:=a + 1) (by omega);have s:=(j.drew).fI k (a + 1);rw[Nat.zero_add] at s H
   have hkn:k + a + 1 - k=a + 1:=by omega
   have E:=eh (some ⟨u.heap.size,k,none⟩) u.heap.size k (a + 1) (a + 1) ao' b' o' a a (nth L k) ((d.drop k).take (a + 1)) M wr.drew (by simp; omega) p (by omega) (by omega) (Nat.le_refl _) (Nat.le_refl _) hx.1 hx.2 ((hinv.words.drop k).take _) G.1 s H.drew B.drew I
   have HX:Hid (∀ lw,Words lw->lw.length=a + 1->val lw=(val ((d.drop k).take (a + 1)) + val M * nth L k) % 18446744073709551616 ^ (a + 1)->kz L M (patch d k lw) (k + 1)):=by
    intro lw h1 h2 h3;rw[<- p] at h2 h3;exact kz.step U.1 G.1 (by omega) hinv h1 h2 h3
   have HA:Hid (At wr.drew (some ⟨u.heap.size,0,none⟩) u.heap.size 0 d):=j.drew
   have HW:Hid (Wr u.heap.size 0 (N + a) w3 wr.drew):=f.drew;clear H s B hinv f j;generalize nth L k=x at *;go_wp2_with fail;go_region_with (go_at_call 59; refine E.mono ?_; rintro e w5 ⟨rfl,lw,Y,hww,O,A,V⟩)
   all_goals go_wp2
   all_goals exact⟨⟨k + 1,patch d k lw,by omega,by go_num,HX.out lw hww Y V,HA.out.patch (k:=k) (n:=a + 1) (by rw[Nat.zero_add]; exact A) (by rw[Nat.zero_add]; exact O) (by omega) (by omega),HW.out.trans (A.mono (by omega) (by omega))⟩,by simp[intOf]; omega⟩
  ·have hkN:k=N:=by omega
   subst hkN;have hv:=hinv.val;have hlen:=hinv.len;have T:=hinv.words;rw[List.take_of_length_le (by omega),U.2.2,G.2.2] at hv;have S:=f.free C;have hz1:=bB d;have aa:=aK d;have P:=j.sub (aI d)
   have HF:IsN (norm d) (val l * val h):=by rw[<- hv]; exact cj T
   have HB:=g.trans (f.below (Nat.le_refl _));rw[show d.take (aI d)=norm d from rfl] at P;have t3:=bp (some ⟨u.heap.size,0,none⟩) (k + a) (k + a) d wr (by omega) (Nat.le_refl _) (by omega) j.cells;clear D Q j f g hinv hv;generalize aI d=K at *;generalize norm d=R at *;go_wp2_with fail;refine t3.mono ?_
   rintro e w6 ⟨rfl,rfl⟩;go_wp2;go_ret;exact⟨_,R,rfl,dH.of aa.symm (Nat.le_refl _) (Nat.le_refl _) P (fun i hi=>S i (by omega)),HF,by omega,HB⟩
end
end
section
open Go.RowKit Lim
section
variable {lu lq lu1:List Int}{V:Int}{q0 k a n:Nat}{w:World}
structure kS(lu:List Int)(V:Int)(q0 k m:Nat)(lq lu1:List Int):Prop where
 Bo:lq.length=q0
 CR:lu1.length=q0 + (k + 2)
 wq:Words lq
 wu:Words lu1
 eq:val lu=18446744073709551616 ^ m * val (lq.drop m) * V + val lu1
 lt:val lu1 < V * 18446744073709551616 ^ m
theorem kS.fI(h:kS lu V q0 k (a + 1) lq lu1)(o:a < q0)(i:V < 18446744073709551616 ^ (k + 2)) :
  val lu1=val (lu1.take a) + 18446744073709551616 ^ a * val ((lu1.drop a).take (k + 3))/\val ((lu1.drop a).take (k + 3)) < V * 18446744073709551616:=by
 have j:=h.CR;have e1:=bF lu1 a (by omega);have e2:=bF (lu1.drop a) (k + 3) (by simp; omega);have l:=aM (h.wu.take a);have m:=aM ((h.wu.drop a).take (k + 3));have g:=aM ((h.wu.drop a).drop (k + 3));have e:=h.lt;have b:=pow_pos a
 have f:val ((lu1.drop a).drop (k + 3))=0:=by
  by_cases c:val ((lu1.drop a).drop (k + 3))=0
  ·exact c
  ·have k1:18446744073709551616 ^ (k + 3) * 1<=18446744073709551616 ^ (k + 3) * val ((lu1.drop a).drop (k + 3)):=Int.mul_le_mul_of_nonneg_left (by omega) (Int.le_of_lt (pow_pos _))
   have k2:18446744073709551616 ^ a * 18446744073709551616 ^ (k + 3)<=18446744073709551616 ^ a * val (lu1.drop a):=Int.mul_le_mul_of_nonneg_left (by omega) (Int.le_of_lt b)
   have k3:(V + 1) * 18446744073709551616 ^ (a + 1)<=18446744073709551616 ^ (k + 2) * 18446744073709551616 ^ (a + 1):=Int.mul_le_mul_of_nonneg_right (by omega) (Int.le_of_lt (pow_pos _));rw[Int.add_mul] at k3
   have k4:(18446744073709551616:Int) ^ (k + 2) * 18446744073709551616 ^ (a + 1)=18446744073709551616 ^ a * 18446744073709551616 ^ (k + 3):=by rw[<- Int.pow_add,<- Int.pow_add]; congr 1; omega
   have n:=pow_pos (a + 1);omega
 rw[f,Int.mul_zero,Int.add_zero] at e2;rw[e2] at e1;refine⟨e1,?_⟩
 have d:18446744073709551616 ^ a * val ((lu1.drop a).take (k + 3)) < 18446744073709551616 ^ a * (V * 18446744073709551616):=by
  have:18446744073709551616 ^ a * (V * 18446744073709551616)=V * 18446744073709551616 ^ (a + 1):=by rw[Int.pow_succ]; grind
  omega
 exact Int.lt_of_mul_lt_mul_left d (Int.le_of_lt b)
theorem kS.step{d:Int}{nw:List Int}(h:kS lu V q0 k (a + 1) lq lu1)(n:a < q0)(i:V < 18446744073709551616 ^ (k + 2))(d0:0<=d)(d1:d < 18446744073709551616)(wn:Words nw)(hn:nw.length=k + 3)(e:val nw=val ((lu1.drop a).take (k + 3)) - d * V)(e1:val nw < V):kS lu V q0 k a (lq.set a d) (patch lu1 a nw):=by
 have hw:=h.fI n i;have j:=h.CR;have c:=h.Bo;have b:=nU (l:=lu1) (m:=nw) (k:=a) (by omega);have g:=dy (h.wu.take a);rw[List.length_take,Nat.min_eq_left (by omega)] at g;have f:=pow_pos a;refine⟨by simp[c],by rw[e9 (by omega)]; exact j,h.wq.set a d0 d1,kH h.wu wn,?_,?_⟩
 ·rw[h.eq,dW (l:=lq.set a d) (by simp; omega),dC (by omega),if_pos rfl,List.drop_set,if_pos (by omega),b,hn,e,Int.pow_succ];grind
 ·have k1:18446744073709551616 ^ a * (val nw + 1)<=18446744073709551616 ^ a * V:=Int.mul_le_mul_of_nonneg_left (by omega) (Int.le_of_lt f);rw[b,hn,Int.mul_sub,Int.mul_comm V];rw[Int.mul_add] at k1;omega
theorem Dx{U g o Z:Int}{x:Int}(hn:qQ U V g)(f:V < 18446744073709551616 ^ n)(hx:x=U - V * g + 18446744073709551616 ^ n * o)(x1:x < 18446744073709551616 ^ n)(p:0<=U)(m:0<=o) :
  (o=0->x=U - g * V/\x < V)/\(o≠0->Z=(x + V * 1) % 18446744073709551616 ^ n->1<=g/\Z=U - (g - 1) * V/\Z < V):=by
 obtain⟨g0,g1,l,i⟩:=hn;rw[Int.sub_mul] at l;rw[Int.add_mul] at i;rw[Int.mul_comm V g] at hx;have b:=pow_pos n;constructor
 ·intro h; subst h; omega
 ·intro h k
  have k1:18446744073709551616 ^ n * 1<=18446744073709551616 ^ n * o:=Int.mul_le_mul_of_nonneg_left (by omega) (Int.le_of_lt b)
  have a:o=1:=by
   by_cases c:2<=o
   ·have k2:18446744073709551616 ^ n * 2<=18446744073709551616 ^ n * o:=Int.mul_le_mul_of_nonneg_left c (Int.le_of_lt b);omega
   ·omega
  subst a
  have d:U - g * V < 0:=by omega
  have j:1<=g:=by
   by_cases c:1<=g
   ·exact c
   ·have:g=0:=by omega
    subst this; omega
  have e:x + V * 1=(U - (g - 1) * V) + 18446744073709551616 ^ n * 1:=by rw[hx,Int.sub_mul]; omega
  rw[e,Int.add_mul_emod_self_left,Int.sub_mul,Int.emod_eq_of_lt (by omega) (by omega)] at k;rw[Int.sub_mul];exact⟨j,by omega,by omega⟩
theorem jj{P:Program}{a:Act}{Q:Exit->Act->World->Prop}{c rest:Code}(l:Nat)(J:Act->World->Prop)(μ:Act->World->Nat)(hf:findLabel c l=some (Code.skip.seq rest))(first:(∀ a w,J a w->rest.wp P (Exit.jump l J Q) a w)->c.wp P (Exit.jump l J Q) a w)(pass:∀ a w,J a w->rest.wp P (Exit.jump l (fun a' w'=>J a' w'/\μ a' w' < μ a w) Q) a w):(Code.scope c).wp P Q a w :=
 wp_scope_jumps l J μ hf (first fun a w b=>wp_mono (pass a w b) fun e a' w' h=>by
  cases e with
  | goto l'=>exact⟨h.1,h.2.1⟩
  | _=>exact h) fun a w b=>wp_seq (wp_skip (pass a w b))
theorem rp{l m a:List Int}(h:k + m.length<=l.length)(hm:a.length=m.length):patch (patch l k m) k a=patch l k a:=by
 have e:(l.take k).length=k:=by simp; omega
 unfold patch;rw[List.take_left' e,hm,<- List.append_assoc (l.take k) m,List.drop_left' (by simp; omega)]
theorem dD.below{B:Nat}{w':World}(h:Below B w w'){b o:Nat}(k:dD w b o n)(hb:b < B):dD w' b o n:=fun i hi=>by
 rw[World.frozen?_of_block (w:=w) (h.block b hb)]; exact k i hi
theorem lU(r y cu:Nat)(av:Option Addr)(k q0 cv bv ov:Nat)(lu H:List Int)(w:World)(ac:lu.length=q0 + (k + 2))(R:H.length=k + 2)(hbig:k<=1099511627776)(hbigq:q0<=1099511627776)(hcu:q0 + (k + 2)<=cu)(hcv:k + 2<=cv)(wu:Words lu)(wv:Words H)(hu:At w (some ⟨r,y,none⟩) r y lu)(hfu:dD w r y (q0 + (k + 2)))(hv:At w av bv ov H)(aa:bv≠r)(htop:9223372036854775808<=nth H (k + 1))(hval:val lu < val H * 18446744073709551616 ^ q0) :
  Calls Tryz.prog 115 #[.slice (some ⟨r,y,none⟩) (q0 + (k + 2)) cu,.slice av (k + 2) cv] w fun e w'=>∃ lq lr:List Int,e=.returned (.slice (some ⟨w.heap.size,0,none⟩) q0 q0)/\kS lu (val H) q0 k 0 lq lr/\At w' (some ⟨w.heap.size,0,none⟩) w.heap.size 0 lq/\dD w' w.heap.size 0 q0/\At w' (some ⟨r,y,none⟩) r y lr/\dD w' r y (q0 + (k + 2))/\Below r w w':=by
 go_enter Tryz.func115,Tryz.ntmps115;go_wp2;refine jj 0 (fun a' w'=>∃ (m:Nat) (lq u:List Int) (u8 u9 u10 u11 u12 u13 u14 u15 u16 u17 u18 u19 u20 u21 u22 u23 u24 u25 u26 u27 u28 u29 u30 u31 u32 u33 u34 u35 u36 u37 u38 u39 u40 u41 u42 u43 u44 u45 u46 u47 u48 u49 u50 u51 u52 u53 u54:Value),a'={ tmps:=#[.slice (some ⟨r,y,none⟩) (q0 + (k + 2)) cu,.slice av (k + 2) cv,undef,undef,.slice none 0 0,.int .i64 ((k:Int) + 2),.int .i64 (m:Int),.slice (some ⟨w.heap.size,0,none⟩) q0 q0,u8,u9,u10,u11,u12,u13,u14,u15,u16,u17,u18,u19,u20,u21,u22,u23,u24,u25,u26,u27,u28,u29,u30,u31,u32,u33,u34,u35,u36,u37,u38,u39,u40,u41,u42,u43,u44,u45,u46,u47,u48,u49,u50,u51,u52,u53,u54],defers:=[] }/\m<=q0/\kS lu (val H) q0 k m lq u/\At w' (some ⟨w.heap.size,0,none⟩) w.heap.size 0 lq/\dD w' w.heap.size 0 q0/\At w' (some ⟨r,y,none⟩) r y u/\dD w' r y (q0 + (k + 2))/\At w' av bv ov H/\w.heap.size < w'.heap.size/\Below r w w') (fun a' _=>(intOf (a'.tmps.getD 6 undef)).toNat) rfl ?_ ?_
 ·intro hpass;go_wp2_with (at_make; refine cY rfl _ _ rfl q0 _ _ rfl rfl (by omega) (by omega) (by omega) ?_; intro w1 an f hsz);go_step3
  have S:r < w.heap.size:=by
   rcases hu.lt with e | e
   ·subst e; simp at ac
   ·exact e
  have hI:kS lu (val H) q0 k q0 (List.replicate q0 0) lu:=⟨by simp,ac,eB _,wu,by simp[val],hval⟩
  rename_i K hK;refine hK _ _ (hpass _ _ ⟨q0,List.replicate q0 0,lu,_,_,_,_,_,_,_,_,_,_,_,_,_,_,_,_,_,_,_,_,_,_,_,_,_,_,_,_,_,_,_,_,_,_,_,_,_,_,_,_,_,_,_,_,_,_,_,rfl,Nat.le_refl _,hI,an.at,an.free 0 q0,hu.keep f,dD.below f hfu S,hv.keep f,by omega,f.mono (Nat.le_of_lt S)⟩)
 ·rintro a' wr ⟨m,lq,u,u8,u9,u10,u11,u12,u13,u14,u15,u16,u17,u18,u19,u20,u21,u22,u23,u24,u25,u26,u27,u28,u29,u30,u31,u32,u33,u34,u35,u36,u37,u38,u39,u40,u41,u42,u43,u44,u45,u46,u47,u48,u49,u50,u51,u52,u53,u54,rfl,hm,hinv,hq,aq,Y,E,az,af,ap⟩;by_cases hm0:m=0
  ·subst hm0;go_wp2;rw[show ∀ J Q b w,Exit.jump 0 J Q .ret b w=Q .ret b w from fun _ _ _ _=>rfl];go_ret;exact⟨lq,u,rfl,hinv,hq,aq,Y,E,ap⟩
  ·obtain⟨a,rfl⟩:∃ a,m=a + 1:=⟨m - 1,by omega⟩
   have x:=hinv.Bo;have t:=hinv.CR
   have hk1:a + (k + 2) + 1 - a=k + 3:=by omega
   have aB:=dy wv;rw[R] at aB;obtain⟨v,hW2⟩:=hinv.fI (by omega) aB;have ai:=Y.fI a (k + 3);have hfwin:=E.fI (k:=a) (m:=k + 3) (by omega)
   have q:((u.drop a).take (k + 3)).length=k + 3:=by simp; omega
   have h:Words ((u.drop a).take (k + 3)):=(hinv.wu.drop a).take (k + 3);have P:=fun wx hx hy=>vK (some ⟨r,y + a,none⟩) (k + 3) r (y + a) av k cv bv ov ((u.drop a).take (k + 3)) H wx q R (by omega) h wv hx hy htop hW2
   have c:=fun d nw=>hinv.step (d:=d) (nw:=nw) (by omega) aB
   have HH:=(show Hid _ from And.intro v (And.intro q (And.intro h (And.intro x (And.intro t c)))))
   clear hinv v q h x t c
   have e1:((a:Nat):Int) + 1 - 1=a:=by omega
   generalize hL:(u.drop a).take (k + 3)=L at *;go_wp2_with fail;rw[hk1];refine(P _ ai az).mono ?_
   rintro e w2 ⟨g,rfl,C,f⟩;obtain⟨v,q,h,x,t,c⟩:=HH.out
   have hsz2:w.heap.size < w2.heap.size:=Nat.lt_of_lt_of_le af f.size
   have S:r < wr.heap.size:=by
    rcases Y.lt with e | e
    ·subst e; simp at t
    ·exact e
   have HB2:=(show Hid _ from ap.trans (f.mono (Nat.le_of_lt S)))
   clear ap;have aA:=hq.keep f;have M:=dD.below f aq af;have hu2:=Y.keep f;have am:=dD.below f E S;have hv2:=az.keep f;have hc:=aA.cell a (by omega);have hf:=M a (by omega);rw[Nat.zero_add] at hc hf;clear P ai;have hg0:=C.1;have hg1:=C.2.1;clear v q h x t c hq aq Y E az;go_wp2_with fail
   have X:r≠w.heap.size:=by
    rcases hu.lt with e | e
    ·subst e; simp at ac
    ·omega
   have ao:r<=w.heap.size:=by
    rcases hu.lt with e | e
    ·subst e; simp at ac
    ·omega
   have hbv:bv≠w.heap.size:=by
    rcases hv.lt with e | e
    ·subst e; simp at R
    ·omega
   obtain⟨v,q,h,x,t,c⟩:=HH.out
   have s:Wr w.heap.size 0 q0 w2 (w2.setCell ⟨w.heap.size,a,none⟩ (.int .u64 g)):=(Wr.refl _ _ _ _).setCell (by omega) (by omega) _;have ar:=aA.setCell (i:=a) (by omega) g;rw[Nat.zero_add] at ar;generalize w2.setCell ⟨w.heap.size,a,none⟩ (.int .u64 g)=w3 at *;have ad:=s.free M;have U:=s.free am;have aw:=hu2.wr s (.inr X);have hv3:=hv2.wr s (.inr hbv)
   have hsz3:w.heap.size < w3.heap.size:=by rw[s.size]; exact hsz2
   have B:=aw.fI a (k + 3);rw[hL] at B;have G:=U.fI (k:=a) (m:=k + 3) (by omega);refine(iJ (some ⟨r,y + a,none⟩) r (y + a) (k + 3) (k + 3) av bv ov (k + 2) cv g L H w3 q R (by omega) (by omega) (Nat.le_refl _) hcv hg0 hg1 h wv B G hv3 (.inr aa)).mono ?_
   rintro e w4 ⟨fO,rfl,ho0,ho1,nw,V,ay,ag,o,A⟩;have HB4:=(show Hid _ from(HB2.out.trans (s.below ao)).trans (o.below (Nat.le_refl _)))
   have D:=o.free ad;have O:=o.free U;have ab:=ar.wr o (.inr (Ne.symm X));have au:=hv3.wr o (.inr aa);have hu4:=aw.patch o ag V (by omega)
   have aj:w.heap.size < w4.heap.size:=by rw[o.size]; exact hsz3
   have hP:=e9 (l:=u) (m:=nw) (k:=a) (by omega)
   have hVB3:val H < 18446744073709551616 ^ (k + 3):=by
    have:=pow_pos (k + 2);rw[Int.pow_succ _ (k + 2)]; omega
   have I:=dy ay;rw[V] at I;have z:=fun Z=>Dx (Z:=Z) (n:=k + 3) C hVB3 A I (aM h) ho0
   clear s M am hu2 hv2 aA ad U aw hv3 B G o ar;by_cases ho:fO=0
   ·subst ho;have hx:=(z 0).1 rfl;have hJ:=c g nw hg0 hg1 ay V hx.1 hx.2;have HJ:=(show Hid _ from hJ)
    clear hJ hx z c HH v q h x t A I hP;go_wp2_with fail;go_step3;refine And.intro (Eq.refl 0) (And.intro ?_ ?_)
    ·exact⟨a,lq.set a g,patch u a nw,_,_,_,_,_,_,_,_,_,_,_,_,_,_,_,_,_,_,_,_,_,_,_,_,_,_,_,_,_,_,_,_,_,_,_,_,_,_,_,_,_,_,_,_,_,_,_,rfl,by omega,HJ.out,ab,D,hu4,O,au,aj,HB4.out⟩
    ·simp[intOf]
   ·have hg1':1<=g:=((z ((val nw + val H * 1) % 18446744073709551616 ^ (k + 3))).2 ho rfl).1;have W:=ab.cell a (by simp; omega);have ae:=D a (by omega);rw[Nat.zero_add] at W ae;rw[dC (by omega),if_pos rfl] at W;have HN:=(show Hid _ from And.intro z (And.intro c (And.intro x (And.intro t (And.intro v (And.intro q (And.intro h (And.intro hP V))))))))
    clear z c HH v q h x t A I hP
    have hgw:IntKind.u64.wrap (g - 1)=g - 1:=by rw[IntKind.wrap_u64]; omega
    have hob:(fO == 0)=false:=by simpa using ho
    go_wp2_with fail;obtain⟨z,c,x,t,v,q,h,hP,hnl'⟩:=HN.out
    have j:Wr w.heap.size 0 q0 w4 (w4.setCell ⟨w.heap.size,a,none⟩ (.int .u64 (g - 1))):=(Wr.refl _ _ _ _).setCell (by omega) (by omega) _;have aC:=ab.setCell (i:=a) (by simp; omega) (g - 1);rw[Nat.zero_add,List.set_set] at aC;generalize w4.setCell ⟨w.heap.size,a,none⟩ (.int .u64 (g - 1))=w5 at *;have al:=j.free D;have T:=j.free O;have hu5:=hu4.wr j (.inr X);have ax:=au.wr j (.inr hbv);have ak:=ag.wr j (.inr X)
    have hsz5:w.heap.size < w5.heap.size:=by rw[j.size]; exact aj
    have F:=T.fI (k:=a) (m:=k + 3) (by omega);refine(eh (some ⟨r,y + a,none⟩) r (y + a) (k + 3) (k + 3) av bv ov (k + 2) cv 1 nw H w5 V R (by omega) (by omega) (Nat.le_refl _) hcv (by omega) (by omega) ay wv ak F ax (.inr aa)).mono ?_
    rintro e w6 ⟨rfl,n2,ah,hnw6,hat6,p,N⟩;have HB6:=(show Hid _ from(HB4.out.trans (j.below ao)).trans (p.below (Nat.le_refl _)))
    have hfq6:=p.free al;have hfu6:=p.free T;have hq6:=aC.wr p (.inr (Ne.symm X));have hv6:=ax.wr p (.inr aa);have hu6:=hu5.patch p hat6 ah (by omega);rw[rp (by omega) (by omega)] at hu6
    have hsz6:w.heap.size < w6.heap.size:=by rw[p.size]; exact hsz5
    have hx:=(z (val n2)).2 ho N;have HJ:=(show Hid _ from c (g - 1) n2 (by omega) (by omega) hnw6 ah hx.2.1 hx.2.2)
    clear hx z c HN v q h x t hP j aC al T hu5 ax ak F p ab D hu4 au O N W ae;go_wp2_with fail;go_step3;refine And.intro (Eq.refl 0) (And.intro ?_ ?_)
    ·exact⟨a,lq.set a (g - 1),patch u a n2,_,_,_,_,_,_,_,_,_,_,_,_,_,_,_,_,_,_,_,_,_,_,_,_,_,_,_,_,_,_,_,_,_,_,_,_,_,_,_,_,_,_,_,_,_,_,_,rfl,by omega,HJ.out,hq6,hfq6,hu6,hfu6,hv6,hsz6,HB6.out⟩
    ·simp[intOf]
end
end
section
open Go.RowKit Lim
section
variable {l L:List Int}{k s:Nat}
theorem Dy(wl:Words l){n:Nat}(hn:l.length=n + 1):nth l n * 18446744073709551616 ^ n<=val l/\val l < (nth l n + 1) * 18446744073709551616 ^ n:=by
 have e1:=bF l n (by omega);have b:=aM (wl.take n);have a:=dy (wl.take n);rw[List.length_take,Nat.min_eq_left (by omega)] at a;rw[dW (by omega),List.drop_of_length_le (show l.length<=n + 1 by omega)] at e1
 have e2:(18446744073709551616:Int) ^ n * (nth l n + 18446744073709551616 * val [])=nth l n * 18446744073709551616 ^ n:=by
  rw[show val []=0 from rfl]; grind
 rw[e2] at e1;rw[Int.add_mul (nth l n) 1];omega
theorem fh{a b p:Int}(hp:0 < p)(h:a * p < b * p):a < b:=Int.lt_of_mul_lt_mul_right h (Int.le_of_lt hp)
theorem tQ{a:List Int}(l:Words L)(hL:L.length=k + 2)(f:Words a)(hv:a.length=k + 3)(hs:s<=63)(e:val a=val L * 2 ^ s)(b0:9223372036854775808<=nth L (k + 1) * 2 ^ s)(g:nth L (k + 1) * 2 ^ s < 18446744073709551616):aI a=k + 2/\9223372036854775808<=nth a (k + 1):=by
 obtain⟨t1,t2⟩:=Dy (n:=k + 1) l hL;obtain⟨q,m⟩:=Dy (n:=k + 2) f hv
 have b:(0:Int) < 2 ^ s:=Int.pow_pos (by decide);have c:=pow_pos (k + 1);have hC:=pow_pos (k + 2)
 have c1:(nth L (k + 1) + 1) * 2 ^ s<=18446744073709551616:=by
  have j:(18446744073709551616:Int)=2 ^ (64 - s) * 2 ^ s:=by rw[<- Int.pow_add,show 64 - s + s=64 by omega]; rfl
  rw[j] at g ⊢;have:=fh b g;exact Int.mul_le_mul_of_nonneg_right (by omega) (Int.le_of_lt b)
 have c2:val a < 1 * 18446744073709551616 ^ (k + 2):=by
  have k1:val L * 2 ^ s < (nth L (k + 1) + 1) * 18446744073709551616 ^ (k + 1) * 2 ^ s:=Int.mul_lt_mul_of_pos_right t2 b
  have k2:(nth L (k + 1) + 1) * 2 ^ s * 18446744073709551616 ^ (k + 1)<=18446744073709551616 * 18446744073709551616 ^ (k + 1):=Int.mul_le_mul_of_nonneg_right c1 (Int.le_of_lt c);rw[Int.mul_right_comm] at k1;rw[Int.pow_succ _ (k + 1),Int.mul_comm _ 18446744073709551616];omega
 have p:nth a (k + 2) < 1:=fh hC (by omega)
 have h:nth a (k + 2)=0:=by have:=f.nth (k + 2); omega
 have e1:=bF a (k + 2) (by omega);rw[dW (by omega),List.drop_of_length_le (show a.length<=k + 2 + 1 by omega),h,show val []=0 from rfl] at e1;obtain⟨v1,v2⟩:=Dy (n:=k + 1) (f.take (k + 2)) (by simp; omega);rw[dr (by omega)] at v1 v2
 have o:9223372036854775808 * 18446744073709551616 ^ (k + 1)<=val a:=by
  have k1:nth L (k + 1) * 18446744073709551616 ^ (k + 1) * 2 ^ s<=val L * 2 ^ s:=Int.mul_le_mul_of_nonneg_right t1 (Int.le_of_lt b)
  have k2:9223372036854775808 * 18446744073709551616 ^ (k + 1)<=nth L (k + 1) * 2 ^ s * 18446744073709551616 ^ (k + 1):=Int.mul_le_mul_of_nonneg_right b0 (Int.le_of_lt c);rw[Int.mul_right_comm] at k1;omega
 have r:9223372036854775808 < nth a (k + 1) + 1:=fh c (by omega);refine⟨ji (by omega) ?_ ?_,by omega⟩
 ·intro i hi;by_cases d:i=k + 2
  ·subst d; exact h
  ·simp[nth,List.getElem?_eq_none (show a.length<=i by omega)]
 ·intro _;rw[show k + 2 - 1=k + 1 from rfl]; omega
theorem Cs{N:Nat}(wl:Words l)(e:l.length=N)(d:Words L)(hL:L.length=k + 2)(f:1<=nth L (k + 1))(h:k + 2<=N) :
  val l * 2 ^ s < val L * 2 ^ s * 18446744073709551616 ^ (N + 1 - (k + 2)):=by
 obtain⟨t1,t2⟩:=Dy (n:=k + 1) d hL
 have c:(0:Int) < 2 ^ s:=Int.pow_pos (by decide);have b:=pow_pos (k + 1);have g:=pow_pos (N + 1 - (k + 2));have a:=dy wl;rw[e] at a
 have k1:1 * 18446744073709551616 ^ (k + 1)<=nth L (k + 1) * 18446744073709551616 ^ (k + 1):=Int.mul_le_mul_of_nonneg_right f (Int.le_of_lt b)
 have k2:18446744073709551616 ^ (k + 1) * 18446744073709551616 ^ (N + 1 - (k + 2))<=val L * 18446744073709551616 ^ (N + 1 - (k + 2)):=Int.mul_le_mul_of_nonneg_right (by omega) (Int.le_of_lt g);rw[<- Int.pow_add,show k + 1 + (N + 1 - (k + 2))=N by omega] at k2;rw[Int.mul_right_comm];exact Int.mul_lt_mul_of_pos_right (by omega) c
theorem yJ{x V Q R P:Int}(g:0 < P)(h:0 < V)(e:x * P=Q * (V * P) + R)(r0:0<=R)(r1:R < V * P):Q=x / V/\R / P=x % V:=by
 have c:R=(x - Q * V) * P:=by rw[Int.sub_mul,e,Int.mul_assoc]; omega
 have f:R / P=x - Q * V:=by rw[c,Int.mul_ediv_cancel _ (by omega)]
 have i:0<=x - Q * V:=by rw[<- f]; exact Int.ediv_nonneg r0 (Int.le_of_lt g)
 have j:x - Q * V < V:=fh g (by rw[<- c]; exact r1);have d:=(Int.ediv_emod_unique (a:=x) (b:=V) (r:=x - Q * V) (q:=Q) h).2 ⟨by rw[Int.mul_comm V]; omega,i,j⟩;exact⟨d.1.symm,by rw[f]; exact d.2.symm⟩
theorem AE(ao:Option Addr)(n c b o:Nat)(ao':Option Addr)(n' c' b' o':Nat)(l a:List Int)(w:World)(hl:l.length=n)(hl':a.length=n')(hc:n<=c)(hc':n'<=c')(hbig:n<=1099511627776)(hbig':n'<=1099511627776)(wl:Words l)(t:Words a)(ha:At w ao b o l)(ha':At w ao' b' o' a)(hge:val a<=val l)(h2:2<=aI a) :
  Calls Tryz.prog 70 #[.slice ao n c,.slice ao' n' c'] w fun e w'=>jQ w w' e (val l) (val a) n n':=by
 have h0:=aM wl;have hn:=bB l
 have hn':=bB a
 have hNN:aI a<=aI l:=by
  by_cases c:aI l < aI a
  ·have:=dA wl t c; omega
  ·omega
 have t1:=bp ao' n' c' a w hl' hc' (by omega) ha'.cells
 have x:=ha'.sub (aI a);rw[show a.take (aI a)=norm a from rfl] at x;have t2:=ir ao n c b o ao' (aI a) (aI a) b' o' l (norm a) w hl (aK a) hc (Nat.le_refl _) (by omega) (by omega) wl t.norm ha x;rw[cV] at t2
 have hs0:0<=sgn (val l) (val a):=by unfold sgn; split<;>(try split)<;>omega
 have d:=aK a
 have D:=t.norm
 have f:=cV a
 have S:nth (norm a) (aI a - 1)≠0:=by rw[ga]; exact ig (by omega)
 generalize norm a=L' at *;generalize q:aI a=p at *;obtain⟨m,hm⟩:∃ m,p=m + 1:=⟨p - 1,by omega⟩
 rw[show p - 1=m by omega] at S
 have hmi:(p:Int) - 1=m:=by omega
 have hmN:m < p:=by omega
 have hmN':(m:Int) < p:=by omega
 have hty:=D.nth m;rcases x.loc with e | rfl
 ·subst e; simp at d; omega
 generalize sgn (val l) (val a)=sg at *;have H1:=(show Hid _ from And.intro f (And.intro hm (And.intro d (And.intro hge (And.intro hl q)))))
 clear f hm d q;go_enter Tryz.func70,Tryz.ntmps70;go_wp2_with fail;refine t1.mono ?_
 rintro e w1 ⟨rfl,rfl⟩;go_wp2_with fail;refine t2.mono ?_
 rintro e w2 ⟨rfl,j⟩;have hcy:=(x.keep j).cell m (by rw[H1.out.2.2.1]; exact hmN);clear t1 t2;go_wp2_with fail;refine(DK (nth L' m) w2 (by omega) hty.2).mono ?_
 rintro e w3 ⟨s,rfl,hs,HS,rfl⟩;have ta:=bp ao n c l w3 hl hc (by omega) (ha.keep j).cells;have Z:=(ha.keep j).sub (aI l);rw[show l.take (aI l)=norm l from rfl] at Z;have K:=aK l;have Y:=wl.norm;have HV:=(show Hid _ from cV l)
 rw[hl] at hn;generalize norm l=L at *;generalize aI l=N at *;clear hcy;go_wp2_with fail;refine ta.mono ?_
 rintro e w4 ⟨rfl,rfl⟩;clear ta;go_wp2_with fail;refine(nT ao N N b o s L w4 K (Nat.le_refl _) (by omega) hs Y Z).mono ?_
 rintro e w5 ⟨lu,rfl,ag,hwu,ad,hfu,ac,P,I⟩;have hs5:=(x.keep j).keep I;have HU:=(show Hid _ from And.intro ag (And.intro P K))
 clear ag P K;go_wp2_with fail;refine(nT (some ⟨b',o',none⟩) p p b' o' s L' w5 H1.out.2.2.1 (Nat.le_refl _) (by omega) hs D hs5).mono ?_
 rintro e w6 ⟨J,rfl,hlv,hwv,G,hfv,hszv,B,C⟩;obtain⟨k,hk⟩:∃ k,k + 2=p:=⟨p - 2,by omega⟩
 obtain⟨q0,u⟩:∃ q0,q0 + (k + 2)=N + 1:=⟨N + 1 - (k + 2),by omega⟩
 obtain⟨f,hm,d,hge',aa,q⟩:=H1.out
 have hmk:m=k + 1:=by omega
 have A:=tQ (k:=k) D (by omega) hwv (by omega) hs B (by rw[<- hmk]; exact HS.out.1) (by rw[<- hmk]; exact HS.out.2);have M:=Cs (s:=s) (N:=N) (k:=k) (l:=L) (L:=L') Y HU.out.2.2 D (by omega) (by rw[<- hmk]; omega) (by omega);rw[<- HU.out.2.1,<- B,show N + 1 - (k + 2)=q0 by omega] at M;have tv:=bp (some ⟨w5.heap.size,0,none⟩) (p + 1) (p + 1) J w6 hlv (Nat.le_refl _) (by omega) G.cells;rw[A.1,hk] at tv;have T:=G.sub (aI J);rw[show J.take (aI J)=norm J from rfl] at T;have v:=aK J;rw[A.1] at v;have O:=lU w4.heap.size 0 (N + 1) (some ⟨w5.heap.size,0,none⟩) k q0 p w5.heap.size 0 lu (norm J) w6 (by rw[u]; exact HU.out.1) v (by omega) (by omega) (by omega) (by omega) hwu hwv.norm (ad.keep C) (by rw[u]; exact dD.below C hfu ac) T (by omega) (by rw[ga]; exact A.2) (by rw[cV]; exact M);rw[u,hk,cV] at O;have HK:=(show Hid _ from And.intro hk (And.intro u (And.intro B hmk)))
 have hq0n:q0<=N:=by omega
 clear f hm d q hk u hmk A M v B aa;go_wp2_with fail;refine tv.mono ?_
 rintro e w7 ⟨rfl,rfl⟩;clear tv;go_wp2_with fail;refine O.mono ?_
 rintro e w8 ⟨lq,lr,rfl,z,R,hfq,af,hfr,hbd⟩;clear O
 have y:lr.length=N + 1:=by rw[z.CR]; exact HK.out.2.1
 have W:=(show Hid _ from z)
 have H:=z.wu;clear z;go_wp2_with fail;refine(wD (some ⟨w4.heap.size,0,none⟩) w4.heap.size 0 (N + 1) (N + 1) s lr w8 y (by omega) (Nat.le_refl _) hs H af hfr).mono ?_
 rintro e w9 ⟨rfl,V,r,hwz,F,h,E⟩;have Q:=R.wr h (.inr (by omega));have ae:=h.free hfq;have X:=h.free hfr;have tq:=bp (some ⟨w7.heap.size,0,none⟩) q0 q0 lq w9 W.out.Bo (Nat.le_refl _) (by omega) Q.cells;have tr:=bp (some ⟨w4.heap.size,0,none⟩) (N + 1) (N + 1) V w9 r (Nat.le_refl _) (by omega) F.cells;have hz1:=bB V;have hz2:=bB lq;rw[W.out.Bo] at hz2;rw[r] at hz1;have HX:=(show Hid _ from And.intro y (And.intro r E))
 clear y r E;go_wp2_with fail;refine tq.mono ?_
 rintro e w10 ⟨rfl,rfl⟩;go_wp2_with fail;refine tr.mono ?_
 rintro e w11 ⟨rfl,rfl⟩;clear tq tr;go_wp2;go_ret3;have hsq:=Q.sub (aI lq);have hsz:=F.sub (aI V);have g:=j.size;have hsz5:=I.size;have hsz7:=C.size
 have HB:Below w1.heap.size w1 w11:=(((j.trans (I.mono g)).trans (C.mono (by omega))).trans (hbd.mono g)).trans (h.below g);obtain⟨f,hm,d,hge',aa,q⟩:=H1.out;obtain⟨y,r,E⟩:=HX.out;have he:=W.out.eq;have ab:=W.out.lt;rw[HU.out.2.1,HV.out,HK.out.2.2.1,f,Int.pow_zero,Int.one_mul,List.drop_zero] at he;rw[HK.out.2.2.1,f,Int.pow_zero,Int.mul_one] at ab
 have hV:0 < val a:=by
  have:val a≠0:=fun e=>by have:=(bX t).2 e; omega
  have:=aM t;omega
 have U:=yJ (fN s hs).1 hV he (aM H) ab;have i1:=cj W.out.wq;have i2:=cj hwz;rw[U.1] at i1;rw[E,U.2] at i2;exact⟨_,_,norm lq,norm V,rfl,dH.of (aK lq).symm (Nat.le_refl _) (by omega) hsq (fun i hi=>ae i (by omega)),dH.of (aK V).symm (Nat.le_refl _) g hsz (fun i hi=>X i (by omega)),i1,i2,by rw[aK]; omega,by rw[aK]; omega,HB⟩
theorem uj(ao:Option Addr)(n c b o:Nat)(ao':Option Addr)(n' c' b' o':Nat)(l d:List Int)(w:World)(m:l.length=n)(j:d.length=n')(hc:n<=c)(h:n'<=c')(f:n<=1099511627776)(a:n'<=1099511627776)(wl:Words l)(g:Words d)(p:At w ao b o l)(i:At w ao' b' o' d)(k:val d≠0) :
  Calls Tryz.prog 70 #[.slice ao n c,.slice ao' n' c'] w fun e w'=>jQ w w' e (val l) (val d) n n':=by
 by_cases r:val l < val d
 ·exact div_lt ao n c b o ao' n' c' b' o' l d w m j hc h f a wl g p i r
 ·have s:aI d≠0:=fun e=>k ((bX g).1 e)
  by_cases q:aI d=1
  ·exact div_one ao n c b o ao' n' c' b' o' l d w m j hc h f a wl g p i (by omega) q
  ·exact AE ao n c b o ao' n' c' b' o' l d w m j hc h f a wl g p i (by omega) (by omega)
theorem sk(ao:Option Addr)(n c b o:Nat)(ao':Option Addr)(n' c' b' o':Nat)(ad:Option Addr)(f D I L:Nat)(l i g:List Int)(w:World)(W:l.length=n)(y:i.length=n')(x:g.length=f)(hc:n<=c)(t:n'<=c')(B:f<=D)(J:n<=274877906944)(F:n'<=274877906944)(z:f<=274877906944)(wl:Words l)(H:Words i)(wd:Words g)(X:At w ao b o l)(C:At w ao' b' o' i)(G:At w ad I L g)(p:val g≠0) :
  Calls Tryz.prog 93 #[.slice ao n c,.slice ao' n' c',.slice ad f D] w fun e w'=>jQ w w' e (val l * val i) (val g) (n + n') f:=by
 go_enter Tryz.func93,Tryz.ntmps93;go_wp2_with fail;refine(qk ao n c b o ao' n' c' b' o' l i w W y hc t (by omega) (by omega) wl H X C).mono ?_
 rintro e R ⟨v,r,rfl,j,K,hlen,a⟩;obtain⟨Q,O,or',T,rfl,E,U,h,_⟩:=j.is;have k:=G.keep a;have d:=a.size;have t2:=uj Q r.length T O or' ad f D I L r g R rfl x E B (by omega) (by omega) K.1 wd h k p;rw[K.2.2] at t2;go_wp2_with fail;refine t2.mono ?_
 rintro e Y ⟨q,u,P,M,rfl,S,hu,s,m,V,N,A⟩;go_wp2;go_ret3;exact⟨q,u,P,M,rfl,S.mono d,hu.mono d,s,m,by omega,by omega,a.trans (A.mono d)⟩
end
end
section
open Go.RowKit Lim
section
variable {w:World}{B:Nat}{v:Value}{l l1:List Int}{c m c0:Int}
def ep(w:World)(B:Nat)(v:Value)(l:List Int):Prop:=w.ownsRow B 22 1 v l.length (l.map (Value.int .u64))
theorem ep.open(h:ep w B v l):∃ ao c,v=.slice ao l.length c/\l.length<=c/\c<=maxLen/\∃ g,(l=[]\/ao=some ⟨g,0,none⟩)/\B<=g/\At w ao g 0 l/\dD w g 0 l.length:=by
 obtain⟨_,a⟩:=h;rcases a with⟨rfl,h0⟩ | ⟨g,cap,cur,rfl,hB,hh,hle,hmx,hsz,htk⟩
 ·have e:l=[]:=List.eq_nil_of_length_eq_zero h0;subst e;exact⟨none,0,rfl,Nat.le_refl _,by decide,B,.inl rfl,Nat.le_refl _,⟨.inl rfl,fun i hi=>by simp at hi⟩,fun i hi=>by simp at hi⟩
 ·refine⟨some ⟨g,0,none⟩,cap,rfl,hle,hmx,g,.inr rfl,hB,⟨.inr rfl,fun i hi => ?_⟩,fun i hi => ?_⟩
  ·have e:cur.toList[i]? = some (.int .u64 (nth l i)):=by
    have b:(cur.toList.take (l.length * 1))[i]? = some (.int .u64 (nth l i)):=by
     rw[htk,List.getElem?_map,List.getElem?_eq_getElem hi,bT hi]; rfl
    rwa [Nat.mul_one,List.getElem?_take_of_lt hi] at b
   simp only[World.cell?,hh];simpa using e
  ·simp[World.frozen?,hh]
theorem ep.setCell(h:ep w B v l){c g:Nat}(hv:v=.slice (some ⟨g,0,none⟩) l.length c){i:Nat}(hi:i < l.length)(x:Int):ep (w.setCell ⟨g,0 + i,none⟩ (.int .u64 x)) B v (l.set i x):=by
 obtain⟨_,a⟩:=h;refine⟨by simp,?_⟩;rcases a with⟨rfl,h0⟩ | ⟨g',cap,cur,rfl,hB,hh,hle,hmx,hsz,htk⟩
 ·omega
 ·simp only[Value.slice.injEq,Option.some.injEq,Addr.mk.injEq,and_true,true_and] at hv;obtain⟨rfl,rfl⟩:=hv;right;refine⟨g',cap,cur.setIfInBounds i (.int .u64 x),by simp,hB,?_,by simpa using hle,hmx,by simpa using hsz,?_⟩
  ·simp only[World.setCell,Array.getElem?_modify,if_true,hh,Nat.zero_add];simp
  ·rw[List.length_set,Nat.mul_one] at *;rw[Array.toList_setIfInBounds,List.map_set,<- htk,List.take_set]
theorem ep.new{w':World}(h:ep w' w.heap.size v l):dH w w' v l:=by
 obtain⟨ao,c,rfl,hc,_,g,_,hg,hat,hf⟩:=h.open;exact⟨ao,g,0,c,rfl,hc,hg,hat,hf⟩
structure mQ(l:List Int)(m c0:Int)(k:Nat)(l1:List Int)(c:Int):Prop where
 len:l1.length=l.length
 words:Words l1
 high:∀ i,k<=i->nth l1 i=nth l i
 val:Lim.val (l1.take k) + 18446744073709551616 ^ k * c=Lim.val (l.take k) * m + c0
theorem mQ.step{a c':Int}{k:Nat}(h:mQ l m c0 k l1 c)(g:k < l.length)(b:0<=a)(d:a < 18446744073709551616)(e:a + 18446744073709551616 * c'=nth l k * m + c):mQ l m c0 (k + 1) (l1.set k a) c':=by
 have f:=h.len;refine⟨by simp[f],h.words.set k b d,fun i hi=>by rw[dC (by omega),if_neg (by omega)]; exact h.high i (by omega),?_⟩;have j:=h.val;rw[dw (by simp[f]; omega),dw g,List.take_set_of_le (Nat.le_refl _),dC (by omega),if_pos rfl,Int.pow_succ];have:18446744073709551616 ^ k * (a + 18446744073709551616 * c')=18446744073709551616 ^ k * (nth l k * m + c):=by rw[e]
 grind
theorem oA(n:Nat)(w:World)(hn:n<=19):Calls Tryz.prog 161 #[.int .i64 n] w fun e w'=>e=.returned (.int .u64 (10 ^ n))/\w'=w:=by
 go_enter Tryz.func161,Tryz.ntmps161;go_wp2;go_loop [3,5] (fun f c=>∃ (k:Nat) (p:Int),k<=n/\c=.int .i64 k/\f=.int .u64 p/\Hid (p=10 ^ k)) (fun _ c=>n - (intOf c).toNat)
 case atStart=>exact⟨0,1,Nat.zero_le _,rfl,rfl,rfl⟩
 case round =>
  obtain⟨k,p,i,rfl,rfl,a⟩:=hrel;by_cases d:k < n
  ·have h:(1:Int)<=p:=by rw[a.out]; exact Int.pow_pos (by decide)
   have g:p<=1000000000000000000:=by
    rw[a.out];have:(10:Nat) ^ k<=10 ^ 18:=Nat.pow_le_pow_right (by decide) (by omega)
    have e:((10 ^ k:Nat):Int)=(10:Int) ^ k:=by rw[Int.natCast_pow]; rfl
    rw[<- e]; omega
   go_wp2;go_round
   case rel=>exact⟨k + 1,p * 10,by omega,by go_num,rfl,by show _=_; rw[Int.pow_succ,<- a.out]⟩
   case measure=>simp[intOf]; omega
  ·have b:k=n:=by omega
   subst b;go_wp2;go_ret;exact⟨kB a.out,rfl⟩
theorem vC(hc:c≠0):aI (l ++ [c])=(l ++ [c]).length:=by
 apply ji (Nat.le_refl _)
 ·intro i hi; exact fQ hi
 ·intro _; rw[List.length_append,List.length_singleton,Nat.add_sub_cancel,bJ (Nat.le_refl _),Nat.sub_self,cI]; exact hc
theorem rY{r:List Int}(wl:Words l)(wr:Words r)(hlen:r.length=l.length)(hv:val r=val l * m + c)(hm:0 < m)(hc:0<=c)(hn:aI l=l.length):aI r=r.length:=by
 have f:=bB r;by_cases g:l.length=0
 ·omega
 have d:=fL wl (by omega);have h:=gJ wr;have a:=aM wl
 have e:val l * 1<=val l * m:=Int.mul_le_mul_of_nonneg_left (by omega) a;by_cases b:aI r < r.length
 ·have:=gS (show aI r<=aI l - 1 by omega);omega
 ·omega
theorem mQ.fin(h:mQ l m c0 l.length l1 c):Lim.val (l1 ++ [c])=Lim.val l * m + c0:=by
 have a:=h.val;rw[List.take_of_length_le (by rw[h.len]; exact Nat.le_refl _),List.take_of_length_le (Nat.le_refl _)] at a;rw[eb,eC,h.len]; exact a
theorem nQ(B:Nat)(v:Value)(l:List Int)(m c0:Int)(w:World)(hB:B<=w.heap.size)(a:ep w B v l)(y:l.length<=1099511627776)(wl:Words l)(z:0<=m)(O:m < 18446744073709551616)(C:0<=c0)(J:c0 < 18446744073709551616) :
  Calls Tryz.prog 206 #[v,.int .u64 m,.int .u64 c0] w fun e w'=>∃ v' r,e=.returned v'/\ep w' B v' r/\Words r/\val r=val l * m + c0/\r.length<=l.length + 1/\(aI l=l.length->0 < m->aI r=r.length)/\Below B w w':=by
 obtain⟨i0,hi,T,N,S⟩:=info_parts gV;obtain⟨Z,cap,rfl,G,aa,g,o,hBg,_,_⟩:=a.open
 have M:∃ n,n=l.length:=⟨_,rfl⟩
 obtain⟨n,hn⟩:=M
 have X:n<=l.length:=by omega
 have hn2:l.length<=n:=by omega
 have s:Hid (n=l.length):=hn;rw[<- hn] at a y G ⊢;clear hn;go_enter Tryz.func206,Tryz.ntmps206;go_wp2;go_loopw [2,13] (fun tc W wr=>∃ (k:Nat) (c:Int) (l1:List Int),k<=n/\W=.int .i64 k/\tc=.int .u64 c/\0<=c/\c < 18446744073709551616/\mQ l m c0 k l1 c/\ep wr B (.slice Z n cap) l1/\Below B w wr) (fun _ W _=>n - (intOf W).toNat)
 case atStart=>exact⟨0,c0,l,Nat.zero_le _,rfl,rfl,C,J,⟨rfl,wl,fun _ _=>rfl,by simp[val]⟩,a,Below.refl _ _⟩
 case round =>
  clear a;obtain⟨k,c,l1,hk,rfl,rfl,j,E,hinv,a,b⟩:=hrel;have f:=hinv.len;by_cases hlt:k < n
  ·rcases o with e | rfl
   ·subst e; simp at X; omega
   obtain⟨ao',c',e',_,_,P,h,x,D,I⟩:=a.open;simp only[Value.slice.injEq] at e';obtain⟨rfl,e1,rfl⟩:=e'
   have K:P=g:=by
    rcases h with e | e
    ·subst e; simp at e1; omega
    ·simpa using e.symm
   subst K;have A:=D.cell k (by omega);have L:=I k (by omega);rw[Nat.zero_add] at A L;rw[hinv.high k (Nat.le_refl _)] at A;obtain⟨Q,R⟩:=wl.nth k
   have HI:Hid (mQ l m c0 k l1 c):=hinv
   have HM:Hid (ep wr B (.slice (some ⟨P,0,none⟩) n cap) l1):=a
   have HB:Hid (Below B w wr):=b
   have HE:Hid (n=l1.length):=e1;clear hinv a b D I h e1 wl;go_wp2_with (first
    | (go_at_call 89; refine(kX _ _ Q R z O _).mono ?_; rintro e w' ⟨U,lo,rfl,h1,h2,h3,h4,h5,rfl⟩)
    | simp only[qZ _ _ h3 j])
   have hxm:nth l k * m<=340282366920938463426481119284349108225:=by
    have:=Int.mul_le_mul (show nth l k<=18446744073709551615 by omega) (show m<=18446744073709551615 by omega) z (by decide);simpa using this
   have h5':=h5.out
   have e5:(lo + c) % 18446744073709551616 + 18446744073709551616 * (U + (lo + c) / 18446744073709551616)=nth l k * m + c:=by omega
   have Y:=HM.out.setCell (c:=cap) (g:=P) (by rw[<- HE.out]) (i:=k) (by omega) ((lo + c) % 18446744073709551616);rw[Nat.zero_add] at Y;go_roundw
   case rel=>exact⟨k + 1,_,_,by omega,by go_num,rfl,by omega,by omega,HI.out.step (by omega) (Int.emod_nonneg _ (by decide)) (Int.emod_lt_of_pos _ (by decide)) e5,Y,HB.out.setCell x _⟩
   case measure=>simp[intOf]; omega
  ·have V:k=n:=by omega
   subst V
   have HF:Hid (val (l1 ++ [c])=val l * m + c0):=by rw[s.out] at hinv; exact hinv.fin
   have q:=hinv.words;by_cases hc:c=0
   ·subst hc;go_wp2;go_ret
    have F:val l1=val l * m + c0:=by rw[<- HF.out,eb]; simp[val]
    refine⟨_,l1,rfl,a,q,F,by omega,fun h1 h2=>rY wl q (by omega) F h2 C (by omega),b⟩
   ·have hcb:(c != 0)=true:=by rw[bne_iff_ne]; exact hc
    have H:wr.ownsRow B 22 1 (.slice Z k cap) k (l1.map (Value.int .u64)):=by have:=a; unfold ep at this; rwa [f,<- s.out] at this
    have hsz:=b.size;go_wp2_with (at_builtin; refine wpList_append_own _ rfl _ _ 30 rfl B 22 i0 (.int .u64 0) 1 8 fX hi T N S rfl (by decide) _ _ _ rfl (H.alloc _) ⟨wr.heap.size,0,none⟩ 1 1 [.int .u64 c] rfl rfl ?c1 ?c2 ?c3 ?c4 ?c5 ?_)
    case c1=>exact cell_one_new _ _ _
    case c2=>intro u hu; simp at hu; subst hu; rfl
    case c3=>unfold maxLen; omega
    case c4=>omega
    case c5=>simp; omega
    intro v' w1 t p _;go_wp2;go_ret
    have hM:ep w1 B v' (l1 ++ [c]):=by
     unfold ep;rw[List.length_append,f,<- s.out,List.map_append]; exact t
    refine⟨_,l1 ++ [c],rfl,hM,q.append (Words.cons j E Words.nil),HF.out,by simp; omega,fun _ _=>vC hc,?_⟩;exact(b.alloc (by omega) _).grown p (by simp; omega) (by
     intro g1 d;rcases o with e | rfl
     ·subst e;rcases a.2 with⟨e2,_⟩ | ⟨g2,cap2,cur2,e2,hB2,_⟩
      ·rw[e2] at d; simp[Value.ownBlock] at d
      ·rw[e2] at d; simp[Value.ownBlock] at d; omega
     ·simp[Value.ownBlock] at d; omega)
end
end
section
open Go.RowKit Lim
section
variable {w:World}{l:List Int}{ops:Array Oper}{rest:List Oper}
theorem ep.cell{B g n c:Nat}(h:ep w B (.slice (some ⟨g,0,none⟩) n c) l){i:Nat}(hi:i < l.length):w.cell? ⟨g,i,none⟩=some (.int .u64 (nth l i))/\w.frozen? ⟨g,i,none⟩=false:=by
 obtain⟨p,o,e,_,_,m,a,_,d,b⟩:=h.open;simp only[Value.slice.injEq] at e;obtain⟨rfl,_,_⟩:=e
 have k:m=g:=by
  rcases a with e | e
  ·subst e; simp at hi
  ·simpa using e.symm
 subst k;have j:=d.cell i hi;have f:=b i hi;rw[Nat.zero_add] at j f;exact⟨j,f⟩
theorem vU{o:Oper}{a:Act}{Q:Exit->Act->World->Prop}(h:o.guard=none)(l c:Operand)(d:o.op=Op.makeSlice 30 l c)(n m:Nat)(L C:Int)(j:a.eval l=.int .i64 L)(hc:a.eval c=.int .i64 C)(hL:L=(n:Int))(hC:C=(m:Int))(e:n<=m)(hn:m<=17592186044416)(g:∀ w',ep w' w.heap.size (.slice (some ⟨w.heap.size,0,none⟩) n m) (List.replicate n 0)->Below w.heap.size w w'->w'.heap.size=w.heap.size + 1->wpList Tryz.prog ops Q rest (a.put o.dst (.slice (some ⟨w.heap.size,0,none⟩) n m)) w') :
  wpList Tryz.prog ops Q (o :: rest) a w:=by
 obtain⟨i,hi,k,hs,hb⟩:=info_parts gV;refine wpList_plain h fun K f => ?_
 have b:=run_make (P:=Tryz.prog) w 30 22 i (.int .u64 0) fX hi k .i64 .i64 (n:Int) (m:Int) (by omega) (by omega) (by rw[hb]; omega) (by omega);subst hL;subst hC;unfold Oper.wp;simp only[execOp,d,j,hc];simp[b,Result.andThen];refine f _ _ (g _ ⟨by simp,.inr ⟨w.heap.size,m,((List.replicate m 0).map (Value.int .u64)).toArray,by simp,Nat.le_refl _,?_,by simpa using e,by unfold maxLen; omega,by simp,?_⟩⟩ ?_ ?_)
 ·show (w.heap.push _)[w.heap.size]? = _
  rw[Array.getElem?_push_size,hs,Nat.mul_one,rC]
 ·simp; omega
 ·exact(Below.refl _ _).alloc (Nat.le_refl _) _
 ·simp
theorem vW(n:Nat)(w:World)(hn:n<=4096) :
  Calls Tryz.prog 165 #[.int .i64 n] w fun e w'=>∃ v r,e=.returned (.tuple #[v,.int .i64 0])/\dH w w' v r/\IsN r (10 ^ n)/\r.length<=n + 2/\Below w.heap.size w w':=by
 obtain⟨q,O⟩:∃ q:Nat,q=n / 19:=⟨_,rfl⟩
 obtain⟨t,N⟩:∃ t:Nat,t=n % 19:=⟨_,rfl⟩
 have U:(n:Int) / 19=q:=by omega
 have S:(n:Int) % 19=t:=by omega
 have J:t < 19:=by omega
 have I:Hid (n=19 * q + t):=by show _=_; omega
 have Q:q<=n:=by omega
 clear O N
 have T:decide ((n:Int) < 0)=false:=by simp
 have K:decide (4096 < (n:Int))=false:=by simp; omega
 go_enter Tryz.func165,Tryz.ntmps165;go_wp2_with (at_make; refine vU rfl _ _ rfl 1 (q + 1) _ _ rfl rfl rfl (by omega) (by omega) (by omega) ?_; intro Y a h d; have D:=a.cell (i:=0) (by simp); obtain⟨G,F⟩:=D);have u:=a.setCell (c:=q + 1) (g:=w.heap.size) rfl (i:=0) (by simp) 1;rw[show (List.replicate 1 (0:Int)).set 0 1=[1] from rfl,Nat.add_zero] at u;have C:=h.setCell (p:=⟨w.heap.size,0,none⟩) (Nat.le_refl _) (.int .u64 1);clear a h G F;go_loopw [4,19] (fun V E wr=>∃ (k:Nat) (l:List Int),k<=q/\E=.int .i64 k/\ep wr w.heap.size V l/\Words l/\Hid (aI l=l.length)/\Hid (val l=10 ^ (19 * k))/\l.length<=k + 1/\Below w.heap.size w wr) (fun _ E _=>q - (intOf E).toNat)
 case atStart=>exact⟨0,[1],Nat.zero_le _,rfl,u,Words.cons (by decide) (by decide) Words.nil,rfl,rfl,by simp,C⟩
 case round =>
  clear u C d;obtain⟨k,l,Z,rfl,hm,wl,z,hv,hlen,o⟩:=hrel;have d:=o.size;by_cases P:k < q
  ·go_wp2_with (go_at_call 206; refine(nQ w.heap.size _ l 10000000000000000000 0 _ d hm (by omega) wl (by decide) (by decide) (by decide) (by decide)).mono ?_; rintro e W ⟨H,r,rfl,m,j,f,s,x,b⟩);have e1:=hv.out;have e2:=x z.out (by decide);go_roundw
   case rel=>exact⟨k + 1,r,by omega,by go_num,m,j,e2,by show _=_; rw[f,e1,Int.add_zero,show 19 * (k + 1)=19 * k + 19 from by omega,Int.pow_add]; rfl,by omega,o.trans b⟩
   case measure=>simp[intOf]; omega
  ·have A:k=q:=by omega
   have M:Hid (k=q):=A;clear A
   have B:(0:Int) < 10 ^ t:=Int.pow_pos (by decide)
   have y:(10:Int) ^ t < 18446744073709551616:=by
    have:(10:Nat) ^ t<=10 ^ 18:=Nat.pow_le_pow_right (by decide) (by omega)
    have e:((10 ^ t:Nat):Int)=(10:Int) ^ t:=by rw[Int.natCast_pow]; rfl
    have e2:(10:Nat) ^ 18=1000000000000000000:=by decide
    omega
   have L:=oA t wr (by omega);generalize hp:(10:Int) ^ t=p at *
   have R:Hid ((10:Int) ^ t=p):=hp;clear hp;go_wp2_with fail;refine L.mono ?_
   rintro e X ⟨rfl,rfl⟩;go_wp2_with fail;refine(nQ w.heap.size _ l p 0 _ d hm (by omega) wl (by omega) y (by decide) (by decide)).mono ?_
   rintro e W ⟨H,r,rfl,m,j,f,s,x,b⟩;have e1:=hv.out;have e2:=x z.out B
   have e3:val r=10 ^ n:=by rw[f,e1,Int.add_zero,I.out,Int.pow_add,R.out,M.out]
   clear f;go_wp2;go_ret2;exact⟨H,r,rfl,m.new,⟨j,e2,e3⟩,by omega,o.trans b⟩
end
end
section
open Go.RowKit Lim
end
section
open Go.RowKit Lim
section
variable {w w':World}{ao:Option Addr}{b o:Nat}{l:List Int}
structure AtB(w:World)(ao:Option Addr)(b o:Nat)(l:List Int):Prop where
 loc:l=[]\/ao=some ⟨b,o,none⟩
 cell:∀ i,i < l.length->w.cell? ⟨b,o + i,none⟩=some (.int .u8 (nth l i))
theorem AtB.lt(k:AtB w ao b o l):l=[]\/b < w.heap.size:=by
 cases l with
 | nil=>exact .inl rfl
 | cons x l=>exact .inr (aJ (k.cell 0 (by simp)))
theorem AtB.keep(h:Below w.heap.size w w')(k:AtB w ao b o l):AtB w' ao b o l :=
 ⟨k.loc,fun i hi=>by
  rcases k.lt with e | e
  ·subst e; simp at hi
  ·rw[h.cell (p:=⟨b,o + i,none⟩) e]; exact k.cell i hi⟩
theorem AtB.wr{n:Nat}(h:Wr b o n w w'){b' o':Nat}(k:AtB w ao b' o' l)(hb:l=[]\/b'≠b):AtB w' ao b' o' l :=
 ⟨k.loc,fun i hi=>by
  rcases hb with e | e
  ·subst e; simp at hi
  ·rw[h.other e]; exact k.cell i hi⟩
theorem AtB.setCell(k : AtB w ao b o l){i:Nat}(hi : i < l.length)(x : Int) : AtB (w.setCell ⟨b, o + i, none⟩ (.int .u8 x)) ao b o (l.set i x) :=
  ⟨by rcases k.loc with e | e
      · subst e; simp at hi
      · exact .inr e, fun j g => by
    rw[List.length_set] at g;have hc := k.cell j g;rw[dC hi];have a := k.cell i hi;simp only[World.cell?, World.setCell, Array.getElem?_modify, if_true] at hc a ⊢
    cases hh : w.heap[b]? with
    | none => rw[hh] at hc; simp at hc
    | some ob =>
      rw[hh] at hc a
      cases ob with
      | cells c e f =>
        simp at hc a ⊢;rw[Array.getElem?_setIfInBounds];by_cases e : j = i
        · subst e
          obtain⟨d, _⟩:= Array.getElem?_eq_some_iff.1 a;simp[d]
        · rw[if_neg (by omega), if_neg e]; exact hc
      | _ => simp at hc⟩
structure De(w w':World)(v:Value)(l:List Int):Prop where
 is:∃ ao b o c,v=.slice ao l.length c/\l.length<=c/\w.heap.size<=b/\AtB w' ao b o l/\dD w' b o l.length
def bh(l:List Int):Prop:=∀ x∈l,0<=x/\x < 256
theorem bh.nth(h:bh l)(i:Nat):0<=nth l i/\nth l i < 256:=by
 by_cases hi:i < l.length
 ·exact h _ (lh hi)
 ·rw[fQ (by omega)]; decide
def bO:List Int->Int
 | []=>0
 | x :: l=>x * 256 ^ l.length + bO l
theorem bM(h:bh l):0<=bO l/\bO l < 256 ^ l.length:=by
 induction l with
 | nil=>simp[bO]
 | cons x l ih =>
  have d:=ih (fun y hy=>h y (List.mem_cons_of_mem _ hy));have b:=h x List.mem_cons_self
  have a:(0:Int) < 256 ^ l.length:=Int.pow_pos (by decide)
  have e:0<=x * 256 ^ l.length:=Int.mul_nonneg b.1 (Int.le_of_lt a)
  have c:x * 256 ^ l.length<=255 * 256 ^ l.length:=Int.mul_le_mul_of_nonneg_right (by omega) (Int.le_of_lt a);rw[bO,List.length_cons,Int.pow_succ]; omega
def IsB(l:List Int)(n:Int):Prop:=bh l/\(l≠[]->nth l 0≠0)/\bO l=n
theorem lQ:∀ {a b:List Int},bh a->bh b->a.length=b.length->bO a=bO b->a=b
 | [],[],_,_,_,_=>rfl
 | x :: a,y :: b,ha,hb,hl,hv=>by
  have ha':bh a:=fun z g=>ha z (List.mem_cons_of_mem _ g)
  have f:bh b:=fun z g=>hb z (List.mem_cons_of_mem _ g)
  have d:a.length=b.length:=by simpa using hl
  have i:=bM ha';have j:=bM f;rw[bO,bO,d] at hv;rw[d] at i
  have h:(0:Int) < 256 ^ b.length:=Int.pow_pos (by decide)
  have e:x=y:=by
   rcases Int.lt_trichotomy x y with c | c | c
   ·have:(x + 1) * 256 ^ b.length<=y * 256 ^ b.length:=Int.mul_le_mul_of_nonneg_right (by omega) (Int.le_of_lt h);rw[Int.add_mul] at this; omega
   ·exact c
   ·have:(y + 1) * 256 ^ b.length<=x * 256 ^ b.length:=Int.mul_le_mul_of_nonneg_right (by omega) (Int.le_of_lt h);rw[Int.add_mul] at this; omega
  subst e;rw[lQ ha' f d (by omega)]
theorem uH(h:bh l)(c:l≠[])(d:nth l 0≠0):256 ^ (l.length - 1)<=bO l:=by
 cases l with
 | nil=>exact absurd rfl c
 | cons x l =>
  rw[cI] at d;have e:=h x List.mem_cons_self;have f:=bM (l:=l) (fun z b=>h z (List.mem_cons_of_mem _ b))
  have a:(0:Int) < 256 ^ l.length:=Int.pow_pos (by decide);have:1 * 256 ^ l.length<=x * 256 ^ l.length:=Int.mul_le_mul_of_nonneg_right (by omega) (Int.le_of_lt a);rw[bO,List.length_cons,Nat.add_sub_cancel]; omega
theorem gK{a:Nat}(h:a<=b):(256:Int) ^ a<=256 ^ b:=by
 have:(256:Nat) ^ a<=256 ^ b:=Nat.pow_le_pow_right (by decide) h
 have e1:((256 ^ a:Nat):Int)=(256:Int) ^ a:=by rw[Int.natCast_pow]; rfl
 have e2:((256 ^ b:Nat):Int)=(256:Int) ^ b:=by rw[Int.natCast_pow]; rfl
 omega
theorem lT{a b:List Int}{n:Int}(c:IsB a n)(hb:IsB b n):a=b:=by
 apply lQ c.1 hb.1
 ·have key:∀ {a b:List Int},IsB a n->IsB b n->¬ a.length < b.length:=by
   intro a b c hb d;have g:=(bM c.1).2;have f:=uH hb.1 (fun e=>by subst e; simp at d) (hb.2.1 (fun e=>by subst e; simp at d));rw[c.2.2] at g;rw[hb.2.2] at f;have:=gK (show a.length<=b.length - 1 by omega);omega
  have g:=key c hb;have f:=key hb c;omega
 ·rw[c.2.2,hb.2.2]
end
end
section
open Go.RowKit Lim
section
variable {l:List Int}{i:Nat}
theorem bpow(k:Nat):(18446744073709551616:Int) ^ k=((2 ^ (64 * k):Nat):Int):=by
 rw[Nat.pow_mul,Int.natCast_pow]; rfl
theorem yd(wl:Words l)(hn:aI l≠0):bitLen (val l).toNat=64 * (aI l - 1) + bitLen (nth l (aI l - 1)).toNat:=by
 have g:=aM wl;have hs:=bF (norm l) (aI l - 1) (by rw[aK]; omega)
 have e:(norm l).drop (aI l - 1)=[nth l (aI l - 1)]:=by
  apply kY
  ·simp[aK]; omega
  ·intro i hi;simp[aK] at hi;have:i=0:=by omega
   subst this;rw[dG,ga,cI]; rfl
 rw[e,eC,cV] at hs;have c:=dy (wl.norm.take (aI l - 1));have d:=aM (wl.norm.take (aI l - 1));rw[List.length_take,aK,Nat.min_eq_left (by omega)] at c;have f:=wl.nth (aI l - 1);have h:=ig hn;generalize nth l (aI l - 1)=x at *;generalize val ((norm l).take (aI l - 1))=y at *;generalize aI l - 1=k at *;rw[bpow] at hs c;obtain⟨x,rfl⟩:=Int.eq_ofNat_of_zero_le f.1;obtain⟨y,rfl⟩:=Int.eq_ofNat_of_zero_le d;obtain⟨v,hv⟩:=Int.eq_ofNat_of_zero_le g;rw[hv] at hs ⊢
 have b:v / 2 ^ (64 * k)=x:=by
  have a:v=y + 2 ^ (64 * k) * x:=by
   have:(v:Int)=((y + 2 ^ (64 * k) * x:Nat):Int):=by rw[hs,Int.natCast_add,Int.natCast_mul]
   exact Int.ofNat.inj this
  rw[a,Nat.add_mul_div_left _ _ (Nat.two_pow_pos _),Nat.div_eq_of_lt (by omega),Nat.zero_add]
 rw[Int.toNat_natCast,Int.toNat_natCast,bitLen_shift v (64 * k) (by rw[b]; omega),b]
theorem rh(ao:Option Addr)(n c b o:Nat)(l:List Int)(w:World)(q:l.length=n)(hc:n<=c)(h:n<=1099511627776)(wl:Words l)(f:At w ao b o l) :
  Calls Tryz.prog 55 #[.slice ao n c] w fun e w'=>e=.returned (.int .i64 (bitLen (val l).toNat))/\Below w.heap.size w w':=by
 have hn:=bB l;have t1:=bp ao n c l w q hc (by omega) f.cells;by_cases d:aI l=0
 ·rw[d] at t1
  have hv:(val l).toNat=0:=by rw[(bX wl).1 d]; rfl
  rw[hv,show bitLen 0=0 from rfl];go_enter Tryz.func55,Tryz.ntmps55;go_wp2_with fail;refine t1.mono ?_
  rintro e p ⟨rfl,rfl⟩;go_wp2_with fail;go_ret;exact⟨rfl,Below.refl _ _⟩
 ·have g:=yd wl d;have hx:=wl.nth (aI l - 1);have a:=f.cell (aI l - 1) (by omega);have i:=gT (n:=(nth l (aI l - 1)).toNat) (by omega);have t2:=fun r=>DI (nth l (aI l - 1)) r hx.1 hx.2
  rcases f.loc with e | rfl
  ·subst e; simp[aI] at d
  rw[g];generalize nth l (aI l - 1)=x at *;generalize bitLen x.toNat=L at *;clear g f;obtain⟨k,j⟩:∃ k,aI l=k + 1:=⟨aI l - 1,by omega⟩
  rw[j] at t1 a hn ⊢;rw[Nat.add_sub_cancel] at a ⊢;clear j d
  have m:(k:Int) < (k:Int) + 1:=by omega
  go_enter Tryz.func55,Tryz.ntmps55;go_wp2_with fail;refine t1.mono ?_
  rintro e p ⟨rfl,rfl⟩;clear t1;go_wp2_with fail;refine(t2 _).mono ?_
  rintro e s ⟨rfl,rfl⟩;go_wp2;go_ret;exact⟨kB (by omega),Below.refl _ _⟩
theorem zI:IsN [] 0:=⟨Words.nil,rfl,rfl⟩
structure yO(lb:List Int)(m k:Nat)(lz:List Int):Prop where
 len:lz.length=m
 words:Words lz
 val:Lim.val lz=bO (lb.drop (lb.length - k))
theorem ow(h:i < l.length):bO (l.drop i)=nth l i * 256 ^ (l.length - 1 - i) + bO (l.drop (i + 1)):=by
 rw[List.drop_eq_getElem_cons h,bO,bT h,List.length_drop,show l.length - (i + 1)=l.length - 1 - i from by omega]
theorem bh.drop(h:bh l)(k:Nat):bh (l.drop k):=fun x hx=>h x (List.mem_of_mem_drop hx)
theorem Dw(h:i < l.length)(x:Int):val (l.set i x)=val l + 18446744073709551616 ^ i * (x - nth l i):=by
 have e1:=bF (l.set i x) i (by simp; omega);have e2:=bF l i (by omega);rw[List.take_set_of_le (Nat.le_refl _),List.drop_set,if_neg (by omega),Nat.sub_self] at e1;rw[List.drop_eq_getElem_cons h,List.set_cons_zero,val] at e1;rw[List.drop_eq_getElem_cons h,val] at e2;rw[e1,e2,bT h]; grind
theorem BJ(wl:Words l)(h:i < l.length){P:Int}(e:val l < 18446744073709551616 ^ i * P):nth l i < P:=by
 have e2:=bF l i (by omega);rw[List.drop_eq_getElem_cons h,val] at e2;have d:=aM (wl.take i);have c:=aM (wl.drop (i + 1));have a:=pow_pos i
 have f:0<=18446744073709551616 ^ i * (18446744073709551616 * val (l.drop (i + 1))):=Int.mul_nonneg (Int.le_of_lt a) (by omega);rw[Int.mul_add] at e2
 have b:18446744073709551616 ^ i * nth l i < 18446744073709551616 ^ i * P:=by rw[bT h]; omega
 exact Int.lt_of_mul_lt_mul_left b (Int.le_of_lt a)
theorem j7(k:Nat):(256:Int) ^ k=18446744073709551616 ^ (k / 8) * 2 ^ (8 * (k % 8)):=by
 have e:(18446744073709551616:Int)=256 ^ 8:=by decide
 have e2:(2:Int) ^ (8 * (k % 8))=256 ^ (k % 8):=by rw[Int.pow_mul]; rfl
 rw[e,e2,<- Int.pow_mul,<- Int.pow_add]; congr 1; omega
theorem Dm{lb lz:List Int}{m k:Nat}(hb:bh lb)(hm:(lb.length + 7) / 8=m)(h:yO lb m k lz)(n:k < lb.length) :
  bits .or .u64 (nth lz (k / 8)) (IntKind.u64.wrap (nth lb (lb.length - 1 - k) * 2 ^ (8 * (k % 8))))=nth lz (k / 8) + nth lb (lb.length - 1 - k) * 2 ^ (8 * (k % 8)) /\
  yO lb m (k + 1) (lz.set (k / 8) (nth lz (k / 8) + nth lb (lb.length - 1 - k) * 2 ^ (8 * (k % 8)))):=by
 have g:=h.len;have hx:=hb.nth (lb.length - 1 - k);have c:=bM (hb.drop (lb.length - k));rw[List.length_drop,show lb.length - (lb.length - k)=k from by omega] at c;have hv:=h.val;have b:=h.words.nth (k / 8);have d:=BJ h.words (i:=k / 8) (by omega) (P:=2 ^ (8 * (k % 8))) (by rw[<- j7,hv]; exact c.2)
 have hS:(0:Int) < 2 ^ (8 * (k % 8)):=Int.pow_pos (by decide)
 have j:(2:Int) ^ (8 * (k % 8)) * 256<=18446744073709551616:=by
  have:(2:Nat) ^ (8 * (k % 8))<=2 ^ 56:=Nat.pow_le_pow_right (by decide) (by omega)
  have e:((2 ^ (8 * (k % 8)):Nat):Int)=(2:Int) ^ (8 * (k % 8)):=by rw[Int.natCast_pow]; rfl
  have e2:(2:Nat) ^ 56=72057594037927936:=by decide
  omega
 have a:0<=nth lb (lb.length - 1 - k) * 2 ^ (8 * (k % 8)):=Int.mul_nonneg hx.1 (Int.le_of_lt hS)
 have f:nth lb (lb.length - 1 - k) * 2 ^ (8 * (k % 8))<=255 * 2 ^ (8 * (k % 8)):=Int.mul_le_mul_of_nonneg_right (by omega) (Int.le_of_lt hS);constructor
 ·rw[IntKind.wrap_u64,Int.emod_eq_of_lt a (by omega)];rw[u64_or _ _ b.1 b.2 a (by omega),Nat.or_comm,<- u64_or _ _ a (by omega) b.1 b.2];rw[qh _ _ (8 * (k % 8)) _ rfl hx.1 (by omega) b.1 d b.2,Int.add_comm]
 ·refine⟨by simp[g],h.words.set _ (by omega) (by omega),?_⟩;rw[Dw (by omega),hv,show lb.length - (k + 1)=lb.length - 1 - k from by omega,ow (l:=lb) (i:=lb.length - 1 - k) (by omega),show lb.length - 1 - k + 1=lb.length - k from by omega,show lb.length - 1 - (lb.length - 1 - k)=k from by omega,j7 k];grind
theorem CB(ao:Option Addr)(n c b o:Nat)(lb:List Int)(w:World)(d:lb.length=n)(hn:0 < n)(a:AtB w ao b o lb)(f:nth lb 0=0) :
  Calls Tryz.prog 256 #[.slice ao n c] w fun e w'=>e=.returned (.tuple #[.slice none 0 0,.int .i64 13])/\w'=w:=by
 rcases a.loc with e | rfl
 ·subst e; simp at d; omega
 have hc:=a.cell 0 (by omega);rw[f,Nat.add_zero] at hc;go_enter Tryz.func256,Tryz.ntmps256;go_wp2;go_ret2;exact⟨rfl,rfl⟩
theorem Ay(ao:Option Addr)(n c b o:Nat)(lb:List Int)(w:World)(E:lb.length=n)(P:n<=1099511627776)(C:bh lb)(A:AtB w ao b o lb)(K:0 < n->nth lb 0≠0) :
  Calls Tryz.prog 256 #[.slice ao n c] w fun e w'=>∃ v r,e=.returned (.tuple #[v,.int .i64 0])/\dH w w' v r/\IsN r (bO lb)/\r.length<=n/\Below w.heap.size w w':=by
 obtain⟨m,hm⟩:∃ m:Nat,((n:Int) + 7) / 8=m:=⟨(n + 7) / 8,by omega⟩
 have X:m<=n:=by omega
 have u:lb=[]\/b≠w.heap.size:=by
  rcases A.lt with e | e
  ·exact .inl e
  ·exact .inr (by omega)
 by_cases hn:0 < n
 ·rcases A.loc with e | rfl
  ·subst e; simp at E; omega
  have hc:=A.cell 0 (by omega);rw[Nat.add_zero] at hc
  have t:(nth lb 0 == 0)=false:=beq_eq_false_iff_ne.2 (K hn)
  have s:nth lb 0≠0:=K hn;have HF:=(show Hid _ from s)
  clear s K;go_enter Tryz.func256,Tryz.ntmps256;go_wp2_with (at_make; refine cY rfl _ _ rfl m _ _ rfl rfl (by omega) (by omega) (by omega) ?_; intro Q a d H);have l:=A.keep d;clear hc t;go_loopw [22] (fun M wr=>∃ (k:Nat) (g:List Int),k<=n/\M=.int .i64 k/\yO lb m k g/\At wr (some ⟨w.heap.size,0,none⟩) w.heap.size 0 g/\Wr w.heap.size 0 m Q wr) (fun M _=>n - (intOf M).toNat)
  case atStart=>exact⟨0,_,Nat.zero_le _,rfl,⟨by simp,eB _,by rw[Nat.sub_zero,List.drop_length,fq fun i=>by simp[nth,List.getElem?_replicate]; split<;>rfl]; rfl⟩,a.at,Wr.refl _ _ _ _⟩
  case round =>
   obtain⟨k,g,hk,rfl,hinv,p,f⟩:=hrel;have hlen:=hinv.len;by_cases Y:k < n
   ·obtain⟨i,hi⟩:∃ i:Nat,(k:Int) / 8=i:=⟨k / 8,by omega⟩
    obtain⟨j,hj⟩:∃ j:Nat,(k:Int) % 8=j:=⟨k % 8,by omega⟩
    obtain⟨h,hh⟩:∃ h:Nat,(n:Int) - 1 - k=h:=⟨n - 1 - k,by omega⟩
    have hi1:(i:Int) < m:=by omega
    have S:(h:Int) < n:=by omega
    have Z:j < 8:=by omega
    have t:=p.cell i (by omega);have aa:=(l.wr f u).cell h (by omega);have O:=f.free (a.free 0 m) i (by omega);rw[Nat.zero_add] at t O;have D:=Dm C (m:=m) (by omega) hinv (by omega);rw[show k / 8=i from by omega,show k % 8=j from by omega,show lb.length - 1 - k=h from by omega] at D;obtain⟨B,q⟩:=D;have W:=(show Hid _ from q)
    have V:=(show Hid _ from p)
    have HW:=(show Hid _ from f)
    have ab:=C.nth h;clear q p f hinv a l C;generalize nth g i=z at *;generalize nth lb h=x at *;go_wp2_with fail;go_region;go_wp2;rw[Nat.mul_comm j 8,B];refine⟨⟨k + 1,_,by omega,by go_num,W.out,?_,?_⟩,by simp[intOf]; omega⟩
    ·have:=(V.out.setCell (i:=i) (by omega) (z + x * 2 ^ (8 * j))).drew;rwa [Nat.zero_add] at this
    ·exact(HW.out.setCell (by omega) (by omega) _).drew
   ·have L:k=n:=by omega
    subst L;have hv:=hinv.val;rw[<- E,Nat.sub_self,List.drop_zero] at hv;have F:=f.free (a.free 0 m);have R:=d.trans (f.below (Nat.le_refl _));have J:=bM C;have N:=uH C (fun e=>by subst e; simp at E; omega) HF.out
    have y:aI g=g.length:=by
     have h1:=bB g;by_cases c:aI g < g.length
     ·have h2:=gJ hinv.words;have h3:=gS (show aI g<=m - 1 by omega)
      have h4:(18446744073709551616:Int) ^ (m - 1)<=256 ^ (lb.length - 1):=by
       rw[show (18446744073709551616:Int)=256 ^ 8 from by decide,<- Int.pow_mul];exact gK (by omega)
      rw[hv] at h2;omega
     ·omega
    have T:IsN g (bO lb):=⟨hinv.words,y,hv⟩
    clear hinv a f d l hv J N y;go_wp2;go_ret2;exact⟨_,g,rfl,dH.of hlen.symm (Nat.le_refl _) (Nat.le_refl _) p F,T,by omega,R⟩
 ·have G:n=0:=by omega
  subst G
  have U:lb=[]:=List.eq_nil_of_length_eq_zero E;subst U
  have I:m=0:=by omega
  subst I;clear hm A u;go_enter Tryz.func256,Tryz.ntmps256;go_wp2_with (at_make; refine cY rfl _ _ rfl 0 _ _ rfl rfl (by omega) (by omega) (by omega) ?_; intro Q a d H);refine wp_loop_rounds 1 ?_
  rw[rounds_succ];go_wp2;go_ret2;exact⟨_,[],rfl,dH.of rfl (Nat.le_refl _) (Nat.le_refl _) a.at (a.free _ _),zI,by simp,d⟩
end
end
section
open Go.RowKit Lim
theorem yZ {a b:Nat} (h:a<=b):(10:Int) ^ a<=10 ^ b:=by
 have:(10:Nat) ^ a<=10 ^ b:=Nat.pow_le_pow_right (by decide) h
 have e1:((10 ^ a:Nat):Int)=(10:Int) ^ a:=by rw[Int.natCast_pow]; rfl
 have e2:((10 ^ b:Nat):Int)=(10:Int) ^ b:=by rw[Int.natCast_pow]; rfl
 omega
end
section
open Go.RowKit Lim
end
section
open Go.RowKit Lim
section
variable {w w':World}{ao ao':Option Addr}{n c n' c' g:Nat}{x y:Int}{v:Value}{r l:List Int}{fn:Func}{p:Tmp}{tmps:Array Value}
structure aQ(w:World)(ao:Option Addr)(n c:Nat)(x:Int):Prop where
 ex:∃ b o l,l.length=n/\n<=c/\Words l/\At w ao b o l/\val l=x
structure ec(w:World)(ao:Option Addr)(n c:Nat)(x:Int):Prop where
 ex:∃ b o l,l.length=n/\n<=c/\IsN l x/\At w ao b o l
theorem ec.a(h:ec w ao n c x):aQ w ao n c x:=by
 obtain⟨b,o,l,h1,h2,h3,h4⟩:=h.ex;exact⟨b,o,l,h1,h2,h3.1,h4,h3.2.2⟩
theorem aQ.keep(h:aQ w ao n c x)(hb:Below w.heap.size w w'):aQ w' ao n c x:=by
 obtain⟨b,o,l,h1,h2,h3,h4,h5⟩:=h.ex;exact⟨b,o,l,h1,h2,h3,h4.keep hb,h5⟩
theorem ec.keep(h:ec w ao n c x)(hb:Below w.heap.size w w'):ec w' ao n c x:=by
 obtain⟨b,o,l,h1,h2,h3,h4⟩:=h.ex;exact⟨b,o,l,h1,h2,h3,h4.keep hb⟩
theorem aQ.my(h:aQ w ao n c x):0<=x:=by
 obtain⟨b,o,l,h1,h2,h3,h4,h5⟩:=h.ex;rw[<- h5]; exact aM h3
theorem ec.eqv(h:ec w ao n c x)(e:x=y):ec w ao n c y:=e▸h
theorem yT(w:World):ec w none 0 0 0:=⟨0,0,[],rfl,Nat.le_refl _,jR,.inl rfl,fun i hi=>by simp at hi⟩
theorem dH.o(h:dH w w' v r)(hI:IsN r x):∃ a c,v=.slice a r.length c/\ec w' a r.length c x:=by
 obtain⟨ao,b,o,c,e,h1,h2,h3,h4⟩:=h.is;exact⟨ao,c,e,b,o,r,rfl,h1,hI,h3⟩
theorem aj{wa:World}(b:Below w.heap.size w wa)(h:Below wa.heap.size wa w'):Below w.heap.size w w':=b.trans (h.mono b.size)
theorem nMul(h:aQ w ao n c x)(t:aQ w ao' n' c' y)(hn:n<=1099511627776)(p:n'<=1099511627776) :
  Calls Tryz.prog 24 #[.slice ao n c,.slice ao' n' c'] w fun e w'=>∃ a k d,e=.returned (.slice a k d)/\ec w' a k d (x * y)/\k<=n + n'/\Below w.heap.size w w':=by
 obtain⟨b,o,l,E,q,A,B,rfl⟩:=h.ex;obtain⟨C,D,u,f,m,i,g,rfl⟩:=t.ex;refine(qk ao n c b o ao' n' c' C D l u w E f q m hn p A i B g).mono ?_
 rintro e w' ⟨v,r,rfl,j,z,hlen,s⟩;obtain⟨a,d,rfl,F⟩:=j.o z;exact⟨a,_,d,rfl,F,hlen,s⟩
theorem nCmp(h:aQ w ao n c x)(p:aQ w ao' n' c' y)(hn:n<=1099511627776)(g:n'<=1099511627776) :
  Calls Tryz.prog 26 #[.slice ao n c,.slice ao' n' c'] w fun e w'=>e=.returned (.int .i64 (sgn x y))/\Below w.heap.size w w':=by
 obtain⟨b,o,l,s,j,t,k,rfl⟩:=h.ex;obtain⟨m,q,r,a,f,i,d,rfl⟩:=p.ex;exact ir ao n c b o ao' n' c' m q l r w s a j f hn g t i k d
theorem nDiv(h:aQ w ao n c x)(E:aQ w ao' n' c' y)(hn:n<=1099511627776)(A:n'<=1099511627776)(j:y≠0) :
  Calls Tryz.prog 70 #[.slice ao n c,.slice ao' n' c'] w fun e w'=>∃ a k d a' k' d',e=.returned (.tuple #[.slice a k d,.slice a' k' d',.int .i64 0])/\ec w' a k d (x / y)/\ec w' a' k' d' (x % y)/\k<=n/\k'<=n + n'/\Below w.heap.size w w':=by
 obtain⟨b,o,l,M,C,I,J,rfl⟩:=h.ex;obtain⟨K,L,F,f,z,q,g,rfl⟩:=E.ex;refine(uj ao n c b o ao' n' c' K L l F w M f C z hn A I q J g j).mono ?_
 rintro e w' ⟨v,u,r,s,rfl,t,B,H,G,m,i,D⟩;obtain⟨a,d,rfl,N⟩:=t.o H;obtain⟨a',d',rfl,p⟩:=B.o G;exact⟨a,_,d,a',_,d',rfl,N,p,m,i,D⟩
theorem xG(h:aQ w ao' n' c' y)(d:n'<=1099511627776)(j:y=0) :
  Calls Tryz.prog 70 #[v,.slice ao' n' c'] w fun e w'=>e=.returned (.tuple #[.slice none 0 0,.slice none 0 0,.int .i64 11])/\w'=w:=by
 obtain⟨g,i,k,a,c,f,b,rfl⟩:=h.ex;exact div_zero v ao' n' c' g i k w a c d f b j
theorem rL{ad:Option Addr}{b g:Nat}{z:Int}(h:aQ w ao n c x)(i:aQ w ao' n' c' y)(j:aQ w ad b g z)(hn:n<=274877906944)(o:n'<=274877906944)(l:b<=274877906944)(m:z=0) :
  Calls Tryz.prog 93 #[.slice ao n c,.slice ao' n' c',.slice ad b g] w fun e w'=>e=.returned (.tuple #[.slice none 0 0,.slice none 0 0,.int .i64 11])/\Below w.heap.size w w':=by
 go_enter Tryz.func93,Tryz.ntmps93;go_wp2_with fail;refine(nMul h i (by omega) (by omega)).mono ?_
 rintro e q ⟨a,k,d,rfl,r,s,f⟩;go_wp2_with fail;refine(xG (j.keep f) (by omega) m).mono ?_
 rintro e p ⟨rfl,rfl⟩;go_wp2;go_ret3;exact⟨rfl,f⟩
theorem nBits(h:aQ w ao n c x)(hn:n<=1099511627776) :
  Calls Tryz.prog 55 #[.slice ao n c] w fun e w'=>e=.returned (.int .i64 (bitLen x.toNat))/\Below w.heap.size w w':=by
 obtain⟨b,o,l,f,a,g,d,rfl⟩:=h.ex;exact rh ao n c b o l w f a hn g d
theorem nPow(n:Nat)(hn:n<=4096) :
  Calls Tryz.prog 165 #[.int .i64 n] w fun e w'=>∃ a k d,e=.returned (.tuple #[.slice a k d,.int .i64 0])/\ec w' a k d (10 ^ n)/\k<=n + 2/\Below w.heap.size w w':=by
 refine(vW n w hn).mono ?_
 rintro e w' ⟨v,r,rfl,b,g,hlen,c⟩;obtain⟨a,d,rfl,f⟩:=b.o g;exact⟨a,_,d,rfl,f,hlen,c⟩
theorem rR(x:Int)(hx:0<=x):(bitLen x.toNat=0)<->x=0:=by
 constructor
 ·intro h;by_cases e:x.toNat=0
  ·omega
  ·have:=lY e; omega
 ·intro h; subst h; rfl
structure Slot(w:World)(g:Nat)(v:Value)(t:TypeId):Prop where
 blk:w.heap[g]? = some (.cells #[v] t (0,0))
theorem Slot.cell{t:TypeId}(h:Slot w g v t):w.cell? ⟨g,0,none⟩=some v:=cell_of_one h.blk
theorem Slot.free{t:TypeId}(h:Slot w g v t):w.frozen? ⟨g,0,none⟩=false:=free_of_one h.blk
theorem Slot.lt{t:TypeId}(h:Slot w g v t):g < w.heap.size:=lt_of_block h.blk
theorem Slot.keep{t:TypeId}(h:Slot w g v t)(hb:Below w.heap.size w w'):Slot w' g v t:=⟨by rw[hb.block g h.lt]; exact h.blk⟩
theorem Slot.put{t:TypeId}(h:Slot w g v t)(u:Value):Slot (w.setCell ⟨g,0,none⟩ u) g u t:=⟨one_setCell h.blk⟩
theorem eH(w:World)(v:Value)(t:TypeId):Slot (w.alloc (.cells #[v] t)) w.heap.size v t:=⟨by
 show (w.heap.push _)[w.heap.size]? = _
 rw[Array.getElem?_push_size]⟩
theorem Slot.alloc{t:TypeId}(h:Slot w g v t)(o:Obj):Slot (w.alloc o) g v t:=h.keep (ae w o)
theorem mz(w:World)(o:Obj)(v:Value)(t:TypeId):Slot ((w.alloc o).alloc (.cells #[v] t)) (w.heap.size + 1) v t:=by
 have:=eH (w.alloc o) v t;rwa [show (w.alloc o).heap.size=w.heap.size + 1 by simp] at this
theorem oK(w:World)(o o':Obj):Below w.heap.size w ((w.alloc o).alloc o'):=aj (ae w o) (ae _ o')
theorem At.put{b o:Nat}(k:At w ao b o l){t:TypeId}(s:Slot w g v t)(hv:∀ x,v≠.int .u64 x)(u:Value):At (w.setCell ⟨g,0,none⟩ u) ao b o l :=
 ⟨k.loc,fun i hi=>by
  have hc:=k.cell i hi;by_cases e:b=g
  ·subst e
   have c:o + i=0->False:=fun a=>by
    rw[a,s.cell] at hc;exact hv _ (Option.some.inj hc)
   have hs:=s.blk;simp only[World.cell?,hs] at hc;have:o + i < 1:=by
    have:=(Array.getElem?_eq_some_iff.1 hc).1;simpa using this
   exact(c (by omega)).elim
  ·rw[World.cell?_of_block (w:=w) (Below.heap_setCell w _ u b e)]; exact hc⟩
theorem ec.put(h:ec w ao n c x){t:TypeId}(s:Slot w g v t)(hv:∀ x,v≠.int .u64 x)(u:Value):ec (w.setCell ⟨g,0,none⟩ u) ao n c x:=by
 obtain⟨b,o,l,h1,h2,h3,h4⟩:=h.ex;exact⟨b,o,l,h1,h2,h3,h4.put s hv u⟩
theorem pW:∀ x,Value.slice ao n c≠.int .u64 x:=fun _ h=>by cases h
theorem rD{W w1:World}(b:Below w.heap.size w W)(h:Below W.heap.size W w1)(hg:w.heap.size<=g)(u:Value):Below w.heap.size w (w1.setCell ⟨g,0,none⟩ u):=(aj b h).setCell hg u
theorem Slot.drew{t:TypeId}(h:Slot w g v t):Slot w.drew g v t:=⟨h.blk⟩
theorem aQ.drew(h:aQ w ao n c x):aQ w.drew ao n c x:=by
 obtain⟨b,o,l,h1,h2,h3,h4,h5⟩:=h.ex;exact⟨b,o,l,h1,h2,h3,h4.drew,h5⟩
theorem yk:(Tryz.prog.info? 32).map (·.size)=some 1:=by kernel_rfl
theorem wT : ∃ f, Tryz.prog.underlying 32 = some (.struct f) := by
  cases h : Tryz.prog.underlying 32 with
  | none => exact absurd h (by have : (Tryz.prog.underlying 32).isSome = true := by kernel_rfl
                               intro e; rw[e] at this; simp at this)
  | some d =>
    have : (match Tryz.prog.underlying 32 with | some (.struct _) => true | _ => false) = true := by kernel_rfl
    rw[h] at this
    cases d <;> first | exact⟨_, rfl⟩ | simp at this
theorem qI{t:TypeId}(s:Slot w g v t):(loadVar 32 ⟨g,0,none⟩).run Tryz.prog w=.ok (.agg #[v]) w:=by
 obtain⟨f,hu⟩:=wT;exact run_loadVar_row w g t 32 #[v] (0,0) _ s.blk hu rfl yk
theorem lB(h:fn.results=#[.cell p 32]){t:TypeId}(b:tmps.getD p undef=.pointer (some ⟨g,0,none⟩))(s:Slot w g v t) :
  (results fn tmps).run Tryz.prog w=.ok (.agg #[v]) w:=by
 have a:tmps[p]?.getD undef=.pointer (some ⟨g,0,none⟩):=by simpa using b
 simp[results,h,a,asAddr,qI s]
theorem qu{u:Tmp}(h:fn.results=#[.tmp u,.cell p 32]){x:Value}{t:TypeId}(c:tmps.getD p undef=.pointer (some ⟨g,0,none⟩))(hu:tmps.getD u undef=x)(s:Slot w g v t) :
  (results fn tmps).run Tryz.prog w=.ok (.tuple #[x,.agg #[v]]) w:=by
 have b:tmps[p]?.getD undef=.pointer (some ⟨g,0,none⟩):=by simpa using c
 have a:tmps[u]?.getD undef=x:=by simpa using hu
 simp[results,h,b,a,asAddr,qI s]
end
end
end Go.Proofs.YthfepflplbahkaaGreatDoor
