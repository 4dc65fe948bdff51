/- Several texts, joined: Num, Trim, Bits, Mem, Own, Cmp, Len, Div64, DivS, Norm, AddT, Add, TakeT, Sub, DivOne, DivL, Guess, Mul, DivLong, DivM, Scale, Pow, Help, ByteMem, FromB, Digits, Parse, Nm. -/
import Derived.Test.YthfepflplbahkaaGreatDoorChecked
import Derived.WalkKit
import Derived.WalkSpells
import Derived.WalkLawsBesides
import Derived.Laws.Externs
import Derived.Laws.MathBits
import Derived.Laws.CopyOwn
import Derived.Deep.QuietTactic
import Derived.BigQuiet
import Derived.Deep.RegionWith
import Derived.ScopeJumps
import Derived.WalkSmall
import Derived.OneCell
set_option maxRecDepth 100000
set_option maxHeartbeats 8000000
namespace Go.Proofs.YthfepflplbahkaaGreatDoor
section
namespace Lim
section
variable {l a b:List Int}{i k:Nat}{x:Int}
def nth(l:List Int)(i:Nat):Int:=l.getD i 0
def val:List Int->Int
 | []=>0
 | x :: l=>x + 18446744073709551616 * val l
def Words(l:List Int):Prop:=∀ x∈l,0<=x/\x < 18446744073709551616
def aE:List Int->Nat
 | []=>0
 | x :: l=>if aE l=0 then (if x=0 then 0 else 1) else aE l + 1
def norm(l:List Int):List Int:=l.take (aE l)
def IsN(l:List Int)(n:Int):Prop:=Words l/\aE l=l.length/\val l=n
theorem Dw(i:Nat):nth [] i=0:=by simp[nth]
theorem cE(x:Int)(l:List Int):nth (x :: l) 0=x:=by simp[nth]
theorem dC(x:Int)(l:List Int)(i:Nat):nth (x :: l) (i + 1)=nth l i:=by simp[nth]
theorem fN(h:l.length<=i):nth l i=0:=by
 simp[nth,List.getElem?_eq_none h]
theorem bS(h:i < l.length):nth l i=l[i]:=by
 simp[nth,List.getElem?_eq_getElem h]
theorem lg(h:i < l.length):nth l i∈l:=by
 rw[bS h]; exact List.getElem_mem h
theorem Words.nth(h:Words l)(i:Nat):0<=nth l i/\nth l i < 18446744073709551616:=by
 by_cases hi:i < l.length
 ·exact h _ (lg hi)
 ·rw[fN (by omega)]; decide
theorem Words.nil:Words []:=fun _ h=>by simp at h
theorem Words.cons(h0:0<=x)(h1:x < 18446744073709551616)(h:Words l):Words (x :: l):=by
 intro y hy;rcases List.mem_cons.1 hy with e | e
 ·subst e; exact⟨h0,h1⟩
 ·exact h y e
theorem Words.tail(h:Words (x :: l)):Words l:=fun y hy=>h y (List.mem_cons_of_mem _ hy)
theorem Words.head(h:Words (x :: l)):0<=x/\x < 18446744073709551616:=h x (List.mem_cons_self)
theorem Words.take(h:Words l)(k:Nat):Words (l.take k):=fun x hx=>h x (List.mem_of_mem_take hx)
theorem Words.drop(h:Words l)(k:Nat):Words (l.drop k):=fun x hx=>h x (List.mem_of_mem_drop hx)
theorem Words.append(ha:Words a)(hb:Words b):Words (a ++ b):=by
 intro x hx;rcases List.mem_append.1 hx with e | e
 ·exact ha x e
 ·exact hb x e
theorem dr(h:i < k):nth (l.take k) i=nth l i:=by
 simp[nth,h]
theorem dD(l:List Int)(k i:Nat):nth (l.drop k) i=nth l (k + i):=by
 simp[nth,List.getElem?_drop]
theorem cO(h:i < a.length):nth (a ++ b) i=nth a i:=by
 simp[nth,List.getElem?_append_left h]
theorem bI(h:a.length<=i):nth (a ++ b) i=nth b (i - a.length):=by
 simp[nth,List.getElem?_append_right h]
theorem lD(hl:a.length=b.length)(h:∀ i,i < a.length->nth a i=nth b i):a=b:=by
 apply List.ext_getElem hl;intro i h1 h2;have:=h i h1;rwa [bS h1,bS h2] at this
theorem dy(a:k < l.length):nth (l.set k x) i=if i=k then x else nth l i:=by
 simp only[nth,List.getD_eq_getElem?_getD,List.getElem?_set];by_cases h:k=i
 ·subst h; simp[a]
 ·simp[h,show ¬ i=k from fun e=>h e.symm]
theorem Words.set(h:Words l)(k:Nat)(h0:0<=x)(h1:x < 18446744073709551616):Words (l.set k x):=by
 intro y hy;rcases List.mem_or_eq_of_mem_set hy with e | e
 ·exact h y e
 ·subst e; exact⟨h0,h1⟩
theorem dQ(h:k < l.length):l.take (k + 1)=l.take k ++ [nth l k]:=by
 rw[bS h,List.take_succ_eq_append_getElem h]
theorem aL(h:Words l):0<=val l:=by
 induction l with
 | nil=>simp[val]
 | cons x l ih=>have:=h.head; have:=ih h.tail; simp only[val]; omega
theorem ea(a b:List Int):val (a ++ b)=val a + 18446744073709551616 ^ a.length * val b:=by
 induction a with
 | nil=>simp[val]
 | cons x a ih=>simp only[List.cons_append,val,ih,List.length_cons,Int.pow_succ]; grind
theorem dx(h:Words l):val l < 18446744073709551616 ^ l.length:=by
 induction l with
 | nil=>simp[val]
 | cons x l ih =>
  have:=h.head; have:=ih h.tail;simp only[val,List.length_cons,Int.pow_succ]; omega
theorem eC(x:Int):val [x]=x:=by simp[val]
theorem du(h:k < l.length):val (l.take (k + 1))=val (l.take k) + 18446744073709551616 ^ k * nth l k:=by
 rw[dQ h,ea,eC,List.length_take,Nat.min_eq_left (by omega)]
theorem bE(l:List Int)(k:Nat)(h:k<=l.length):val l=val (l.take k) + 18446744073709551616 ^ k * val (l.drop k):=by
 conv=>lhs; rw[<- List.take_append_drop k l]
 rw[ea,List.length_take,Nat.min_eq_left h]
theorem bp(l:List Int):aE l<=l.length:=by
 induction l with
 | nil=>simp[aE]
 | cons x l ih=>simp only[aE,List.length_cons]; split<;>(try split)<;>omega
theorem fO:aE l=0<->∀ i,nth l i=0:=by
 induction l with
 | nil=>simp[aE,nth]
 | cons x l ih =>
  simp only[aE];constructor
  ·intro h i;by_cases e:aE l=0
   ·by_cases a:x=0
    ·cases i with
     | zero=>rw[cE,a]
     | succ i=>rw[dC]; exact ih.1 e i
    ·simp[e,a] at h
   ·simp[e] at h
  ·intro h
   have b:x=0:=by have:=h 0; rwa [cE] at this
   have c:aE l=0:=ih.2 fun i=>by have:=h (i + 1); rwa [dC] at this
   simp[c,b]
theorem jO(d:k<=l.length)(b:∀ i,k<=i->nth l i=0)(c:k≠0->nth l (k - 1)≠0):aE l=k:=by
 induction l generalizing k with
 | nil=>simp[aE] at *; omega
 | cons x l ih =>
  cases k with
  | zero =>
   have:aE (x :: l)=0:=fO.2 fun i=>b i (Nat.zero_le _)
   exact this
  | succ k =>
   have e:aE l=k:=ih (by simpa using d) (fun i hi=>by have:=b (i + 1) (by omega); rwa [dC] at this) (fun a=>by
    have:=c (by omega); rw[show k + 1 - 1=(k - 1) + 1 from by omega,dC] at this; exact this)
   simp only[aE,e];by_cases a:k=0
   ·subst a;have:=c (by omega); rw[show (0 + 1 - 1)=0 from rfl,cE] at this;simp[this]
   ·simp[a]
theorem fI(h : aE l ≤ i) : nth l i = 0 := by
  induction l generalizing i with
  | nil => simp[nth]
  | cons x l ih =>
    simp only[aE] at h;by_cases e : aE l = 0
    · simp only[e, if_true] at h
      cases i with
      | zero => by_cases a : x = 0
                · rw[cE, a]
                · simp[a] at h
      | succ i => rw[dC]; exact fO.1 e i
    · simp only[e, if_false] at h
      cases i with
      | zero => omega
      | succ i => rw[dC]; exact ih (by omega)
theorem ir(h:aE l≠0):nth l (aE l - 1)≠0:=by
 induction l with
 | nil=>simp[aE] at h
 | cons x l ih =>
  simp only[aE] at h ⊢;by_cases e:aE l=0
  ·simp only[e,if_true] at h ⊢;by_cases a:x=0
   ·simp[a] at h
   ·simp[a,cE]
  ·simp only[e,if_false] at h ⊢;have:=ih e;rw[show aE l + 1 - 1=(aE l - 1) + 1 from by omega,dC]; exact this
theorem aJ(l:List Int):(norm l).length=aE l:=by
 rw[norm,List.length_take,Nat.min_eq_left (bp l)]
theorem fY(l:List Int)(i:Nat):nth (norm l) i=nth l i:=by
 by_cases h:i < aE l
 ·exact dr h
 ·rw[fN (by rw[aJ]; omega),fI (by omega)]
theorem Words.norm(h:Words l):Words (norm l):=h.take _
theorem nT(l:List Int):aE (norm l)=(norm l).length:=by
 rw[aJ];apply jO (by rw[aJ]; omega)
 ·intro i hi; rw[fY]; exact fI hi
 ·intro h; rw[fY]; exact ir h
theorem fk(h:∀ i,nth l i=0):val l=0:=by
 induction l with
 | nil=>rfl
 | cons x l ih =>
  have h0:=h 0; rw[cE] at h0;rw[val,h0,ih fun i=>by have:=h (i + 1); rwa [dC] at this]; rfl
theorem cV(l:List Int):val (norm l)=val l:=by
 rw[bE l (aE l) (bp l),fk (l:=l.drop (aE l)) fun i=>by rw[dD]; exact fI (by omega)];simp[norm]
theorem b8(h:Words l):IsN (norm l) (val l):=⟨h.norm,nT l,cV l⟩
theorem pR(h:Words l)(hn:aE l≠0):0 < val l:=by
 induction l with
 | nil=>simp[aE] at hn
 | cons x l ih =>
  have hx:=h.head; have b:=aL h.tail;simp only[val];by_cases e:aE l=0
  ·simp only[aE,e,if_true] at hn;have:x≠0:=by intro a; simp[a] at hn
   omega
  ·have:=ih h.tail e; omega
theorem bW(h:Words l):aE l=0<->val l=0:=by
 constructor
 ·intro e; exact fk (fO.1 e)
 ·intro e;by_cases n:aE l=0
  ·exact n
  ·have:=pR h n; omega
theorem fC(h:Words l)(hn:aE l≠0):18446744073709551616 ^ (aE l - 1)<=val l:=by
 have e:=cV l;have a:=aJ l;have hw:=h.norm;have hs:=bE (norm l) (aE l - 1) (by omega)
 have b:(norm l).drop (aE l - 1)=[nth l (aE l - 1)]:=by
  apply lD
  ·simp[a]; omega
  ·intro i hi;simp[a] at hi;have:i=0:=by omega
   subst this;rw[dD,fY,cE]; rfl
 have f:=aL (hw.take (aE l - 1));have hx:=h.nth (aE l - 1);have c:=ir hn
 have d:(0:Int) < 18446744073709551616 ^ (aE l - 1):=Int.pow_pos (by decide);rw[b,eC] at hs;have:18446744073709551616 ^ (aE l - 1) * 1<=18446744073709551616 ^ (aE l - 1) * nth l (aE l - 1):=Int.mul_le_mul_of_nonneg_left (by omega) (Int.le_of_lt d);omega
theorem gQ(h:Words l):val l < 18446744073709551616 ^ aE l:=by
 have:=dx h.norm;rwa [cV,aJ] at this
theorem gR{a b:Nat}(h:a<=b):(18446744073709551616:Int) ^ a<=18446744073709551616 ^ b:=by
 obtain⟨d,rfl⟩:=Nat.exists_eq_add_of_le h;rw[Int.pow_add]
 have c:(0:Int) < 18446744073709551616 ^ a:=Int.pow_pos (by decide)
 have e:(0:Int) < 18446744073709551616 ^ d:=Int.pow_pos (by decide);have:(18446744073709551616:Int) ^ a * 1<=18446744073709551616 ^ a * 18446744073709551616 ^ d:=Int.mul_le_mul_of_nonneg_left (by omega) (Int.le_of_lt c);omega
theorem dA(ha:Words a)(hb:Words b)(h:aE a < aE b):val a < val b:=by
 have h1:=gQ ha;have h2:=fC hb (by omega);have:=gR (show aE a<=aE b - 1 by omega);omega
end
end Lim
end
section
open Go.RowKit Lim
def Cells (w:World) (ao:Option Addr) (l:List Int):Prop :=
 l=[]\/∃ b o,ao=some ⟨b,o,none⟩/\∀ i,i < l.length->w.cell? ⟨b,o + i,none⟩=some (.int .u64 (nth l i))
theorem bh (ao:Option Addr) (n c:Nat) (l:List Int) (w:World) (m:l.length=n) (hc:n<=c) (hb:n<=4398046511104) (j:Cells w ao l) :
  Calls Tryz.prog 58 #[.slice ao n c] w fun e w'=>e=.returned (.slice ao (aE l) (aE l))/\w'=w:=by
 go_enter Tryz.func58,Tryz.ntmps58;go_wp2;go_loop [3] (fun t=>∃ k:Nat,k<=n/\t=.int .i64 k/\Hid (∀ i,k<=i->nth l i=0)) (fun t=>(intOf t).toNat)
 case atStart=>exact⟨n,Nat.le_refl _,rfl,fun i hi=>fN (by omega)⟩
 case round =>
  obtain⟨k,h,rfl,a⟩:=hrel;by_cases f:0 < k
  ·rcases j with e | ⟨b,o,rfl,j⟩
   ·subst e; simp at m; omega
   ·have d:=j (k - 1) (by omega)
    have g:w.cell? ⟨b,o + k - 1,none⟩=some (.int .u64 (nth l (k - 1))):=by rw[<- d]; congr 2; omega
    clear j;go_wp2
    ·go_round
     case rel=>exact⟨k - 1,by omega,by go_num,fun i hi=>by
      by_cases e:i=k - 1
      ·subst e; exact beq_iff_eq.1 (by assumption)
      ·exact a.out i (by omega)⟩
     case measure=>simp[intOf]; omega
    ·go_ret;rw[jO (k:=k) (by omega) a.out (fun _=>beq_eq_false_iff_ne.1 (by assumption))];exact⟨rfl,rfl⟩
  ·go_wp2;go_ret;rw[jO (k:=k) (by omega) a.out (fun _=>by omega)];exact⟨rfl,rfl⟩
end
section
open Go.RowKit Lim
def bor (x y:Int):Int:=if x < y then 1 else 0
theorem rP (x y:Int) (hx:0<=x) (hy:0<=y) (w:World):(callFunc 90 #[.int .u64 x,.int .u64 y,.int .u64 0]).run Tryz.prog w =
  .ok (.value (.tuple #[.int .u64 ((x + y) % 18446744073709551616),.int .u64 ((x + y) / 18446744073709551616)])) w:=by
 obtain⟨x,rfl⟩:=Int.eq_ofNat_of_zero_le hx;obtain⟨y,rfl⟩:=Int.eq_ofNat_of_zero_le hy;rw[run_callFunc_extern Tryz.func90 (by kernel_rfl) (by kernel_rfl) (by kernel_rfl) (e:=add64Entry) (by kernel_rfl),run_add64 (P:=Tryz.prog) x y 0 (by omega) (by omega) (by omega) (by omega),Int.add_zero];rfl
theorem Bw (x y:Int) (hx:0<=x) (w:World):(callFunc 90 #[.int .u64 x,.int .u64 (y % 18446744073709551616),.int .u64 0]).run Tryz.prog w =
  .ok (.value (.tuple #[.int .u64 ((x + y % 18446744073709551616) % 18446744073709551616),.int .u64 ((x + y % 18446744073709551616) / 18446744073709551616)])) w :=
 rP x _ hx (Int.emod_nonneg _ (by decide)) w
theorem D5 (x y:Int) (hx:0<=x) (b:x < 18446744073709551616) (hy:0<=y) (a:y < 18446744073709551616) (w:World):(callFunc 168 #[.int .u64 x,.int .u64 y,.int .u64 0]).run Tryz.prog w =
  .ok (.value (.tuple #[.int .u64 ((x - y) % 18446744073709551616),.int .u64 (bor x y)])) w:=by
 obtain⟨x,rfl⟩:=Int.eq_ofNat_of_zero_le hx;obtain⟨y,rfl⟩:=Int.eq_ofNat_of_zero_le hy
 have this:(callFunc 168 #[.int .u64 (x:Int),.int .u64 (y:Int),.int .u64 0]).run Tryz.prog w =
   .ok (.value (.tuple #[.int .u64 (((x + 18446744073709551616 - y - 0) % 18446744073709551616:Nat):Int),.int .u64 ((if x < y + 0 then 1 else 0:Nat):Int)])) w:=by kernel_rfl
 rw[this]
 have e1:(((x + 18446744073709551616 - y - 0) % 18446744073709551616:Nat):Int)=((x:Int) - y) % 18446744073709551616:=by omega
 have e2:((if x < y + 0 then 1 else 0:Nat):Int)=bor x y:=by unfold bor; split<;>split<;>omega
 rw[e1,e2]
theorem nA {k k':IntKind} {a b c d:Int} (h:a=b) (h':c=d):Ending.returned (.tuple #[.int k a,.int k' c])=.returned (.tuple #[.int k b,.int k' d]):=by rw[h,h']
theorem rY (z:Int) (h0:0<=z) (h1:z < 18446744073709551616):bits .and .u64 z 4294967295=z % 4294967296:=and_low32 z h0 h1
theorem mul64 (x y:Int) (hx:0<=x) (b:x < 18446744073709551616) (hy:0<=y) (a:y < 18446744073709551616) (w:World) :
  Calls Tryz.prog 89 #[.int .u64 x,.int .u64 y] w fun e w'=>e=.returned (.tuple #[.int .u64 (x * y / 18446744073709551616),.int .u64 (x * y % 18446744073709551616)])/\w'=w:=by
 go_enter Tryz.func89,Tryz.ntmps89;go_wp2;go_ret2;refine⟨nA ?_ ?_,rfl⟩
 ·show IntKind.u64.wrap (IntKind.u64.wrap (IntKind.u64.wrap (x / 4294967296 * (y / 4294967296)) + IntKind.u64.wrap (IntKind.u64.wrap (x / 4294967296 * bits BinOp.and IntKind.u64 y 4294967295) + IntKind.u64.wrap (bits BinOp.and IntKind.u64 x 4294967295 * bits BinOp.and IntKind.u64 y 4294967295) / 4294967296) / 4294967296) + IntKind.u64.wrap (bits BinOp.and IntKind.u64 (IntKind.u64.wrap (IntKind.u64.wrap (x / 4294967296 * bits BinOp.and IntKind.u64 y 4294967295) + IntKind.u64.wrap (bits BinOp.and IntKind.u64 x 4294967295 * bits BinOp.and IntKind.u64 y 4294967295) / 4294967296)) 4294967295 + IntKind.u64.wrap (bits BinOp.and IntKind.u64 x 4294967295 * (y / 4294967296))) / 4294967296)=_
  simp only[IntKind.wrap_u64];rw[rY x hx b,rY y hy a,rY _ (Int.emod_nonneg _ (by decide)) (Int.emod_lt_of_pos _ (by decide))];exact mul64_arith x y hx b hy a
 ·show IntKind.u64.wrap (x * y)=_
  rw[IntKind.wrap_u64]
theorem lA (x y:Int) (hx:0<=x) (d:x < 18446744073709551616) (hy:0<=y) (c:y < 18446744073709551616) (w:World) :
  Calls Tryz.prog 89 #[.int .u64 x,.int .u64 y] w fun e w'=>∃ hi lo:Int,e=.returned (.tuple #[.int .u64 hi,.int .u64 lo])/\0<=hi/\hi<=18446744073709551614/\0<=lo/\lo < 18446744073709551616/\Hid (hi * 18446744073709551616 + lo=x * y)/\w'=w:=by
 refine(mul64 x y hx d hy c w).mono ?_
 rintro e w' ⟨rfl,rfl⟩
 have a:0<=x * y:=Int.mul_nonneg hx hy
 have b:x * y<=18446744073709551615 * 18446744073709551615:=Int.mul_le_mul (by omega) (by omega) hy (by decide);exact⟨_,_,rfl,by omega,by omega,by omega,by omega,by show _=_; omega,rfl⟩
end
section
open Go.RowKit Lim
section
variable {w w1 w':World}{ao ao':Option Addr}{b o n o' n' i k B b':Nat}{l m:List Int}{v:Value}
structure At(w:World)(ao:Option Addr)(b o:Nat)(l:List Int):Prop where
 loc:l=[]\/ao=some ⟨b,o,none⟩
 cell:∀ i,i < l.length->w.cell? ⟨b,o + i,none⟩=some (.int .u64 (nth l i))
theorem At.cells(h:At w ao b o l):Cells w ao l:=by
 rcases h.loc with e | e
 ·exact .inl e
 ·exact .inr ⟨b,o,e,h.cell⟩
def dB(w:World)(b o n:Nat):Prop:=∀ i,i < n->w.frozen? ⟨b,o + i,none⟩=false
structure Wr(b o n:Nat)(w w':World):Prop where
 os:w'.os=w.os
 tape:w'.tape=w.tape
 output:w'.output=w.output
 size:w'.heap.size=w.heap.size
 block:∀ k,k≠b->w'.heap[k]? = w.heap[k]?
 cell:∀ i,(i < o\/o + n<=i)->w'.cell? ⟨b,i,none⟩=w.cell? ⟨b,i,none⟩
 frozen:∀ i,w'.frozen? ⟨b,i,none⟩=w.frozen? ⟨b,i,none⟩
theorem Wr.refl(b o n:Nat)(w:World):Wr b o n w w:=⟨rfl,rfl,rfl,rfl,fun _ _=>rfl,fun _ _=>rfl,fun _=>rfl⟩
theorem Wr.trans{a:World}(h:Wr b o n w w1)(k:Wr b o n w1 a):Wr b o n w a :=
 ⟨k.os.trans h.os,k.tape.trans h.tape,k.output.trans h.output,k.size.trans h.size,fun i hi=>(k.block i hi).trans (h.block i hi),fun i hi=>(k.cell i hi).trans (h.cell i hi),fun i=>(k.frozen i).trans (h.frozen i)⟩
theorem Wr.mono(h:Wr b o n w w')(h1:o'<=o)(h2:o + n<=o' + n'):Wr b o' n' w w' :=
 ⟨h.os,h.tape,h.output,h.size,h.block,fun i hi=>h.cell i (by omega),h.frozen⟩
theorem Wr.setCell(h:Wr b o n w w1)(c:o<=i)(e:i < o + n)(v:Value):Wr b o n w (w1.setCell ⟨b,i,none⟩ v) :=
 h.trans ⟨rfl,rfl,rfl,by simp[World.setCell],fun k a=>Below.heap_setCell _ _ _ _ a,fun j d=>by
   simp only[World.cell?,World.setCell,Array.getElem?_modify,if_true]
   cases hh:w1.heap[b]? with
   | none=>simp
   | some ob =>
    cases ob<;>simp
    rw[Array.getElem?_setIfInBounds,if_neg (by omega)],fun j=>by
   simp only[World.frozen?,World.setCell,Array.getElem?_modify,if_true]
   cases hh:w1.heap[b]? with
   | none=>simp
   | some ob=>cases ob<;>simp⟩
theorem Wr.other(h:Wr b o n w w')(hk:k≠b):w'.cell? ⟨k,i,none⟩=w.cell? ⟨k,i,none⟩:=World.cell?_of_block (w:=w) (h.block k hk)
theorem Wr.below(h:Wr b o n w w')(hB:B<=b):Below B w w' :=
 ⟨h.os,h.tape,h.output,by rw[h.size]; exact Nat.le_refl _,fun k hk=>h.block k (by omega)⟩
theorem Wr.free(h:Wr b o n w w')(k:dB w b' o' n'):dB w' b' o' n':=by
 intro i hi;by_cases e:b'=b
 ·subst e; rw[h.frozen]; exact k i hi
 ·rw[World.frozen?_of_block (w:=w) (h.block b' e)]; exact k i hi
theorem At.wr(h:Wr b o n w w')(k:At w ao b' o' l)(hb:l=[]\/b'≠b):At w' ao b' o' l :=
 ⟨k.loc,fun i hi=>by
  rcases hb with e | e
  ·subst e; simp at hi
  ·rw[h.other e]; exact k.cell i hi⟩
theorem At.below(h:Below B w w')(k:At w ao b o l)(hb:l=[]\/b < B):At w' ao b o l :=
 ⟨k.loc,fun i hi=>by
  rcases hb with e | e
  ·subst e; simp at hi
  ·rw[h.cell (p:=⟨b,o + i,none⟩) e]; exact k.cell i hi⟩
theorem aI(h:w.cell? ⟨b,o,none⟩=some v):b < w.heap.size:=by
 simp only[World.cell?] at h;by_cases hb:b < w.heap.size
 ·exact hb
 ·rw[Array.getElem?_eq_none (by omega)] at h; simp at h
theorem At.lt(k:At w ao b o l):l=[]\/b < w.heap.size:=by
 cases l with
 | nil=>exact .inl rfl
 | cons x l=>exact .inr (aI (k.cell 0 (by simp)))
theorem At.keep(h:Below w.heap.size w w')(k:At w ao b o l):At w' ao b o l:=k.below h k.lt
theorem At.setCell(k : At w ao b o l)(hi : i < l.length)(x : Int) : At (w.setCell ⟨b, o + i, none⟩ (.int .u64 x)) ao b o (l.set i x) :=
  ⟨by rcases k.loc with e | e
      · subst e; simp at hi
      · exact .inr e, fun j g => by
    rw[List.length_set] at g;have hc := k.cell j g;rw[dy hi];have a := k.cell i hi;simp only[World.cell?, World.setCell, Array.getElem?_modify, if_true] at hc a ⊢
    cases hh : w.heap[b]? with
    | none => rw[hh] at hc; simp at hc
    | some ob =>
      rw[hh] at hc a
      cases ob with
      | cells c e f =>
        simp at hc a ⊢;rw[Array.getElem?_setIfInBounds];by_cases e : j = i
        · subst e
          obtain⟨d, _⟩:= Array.getElem?_eq_some_iff.1 a;simp[d]
        · rw[if_neg (by omega), if_neg e]; exact hc
      | _ => simp at hc⟩
theorem At.drew(h:At w ao b o l):At w.drew ao b o l:=⟨h.loc,h.cell⟩
theorem dB.drew(h:dB w b o n):dB w.drew b o n:=h
theorem Wr.drew(h:Wr b o n w w'):Wr b o n w w'.drew:=⟨h.os,h.tape,h.output,h.size,h.block,h.cell,h.frozen⟩
theorem At.drewN(h:At w ao b o l)(n:Nat):At (w.drewN n) ao b o l:=⟨h.loc,h.cell⟩
theorem Wr.drewN(h:Wr b o n w w')(k:Nat):Wr b o n w (w'.drewN k):=⟨h.os,h.tape,h.output,h.size,h.block,h.cell,h.frozen⟩
def patch(l:List Int)(k:Nat)(m:List Int):List Int:=l.take k ++ (m ++ l.drop (k + m.length))
theorem fh(h:k + m.length<=l.length):(patch l k m).length=l.length:=by simp[patch]; omega
theorem kI(hl:Words l)(hm:Words m):Words (patch l k m):=(hl.take k).append (hm.append (hl.drop _))
theorem p7(h:k + m.length<=l.length)(hi:i < m.length):nth (patch l k m) (k + i)=nth m i:=by
 have e:(l.take k).length=k:=by simp; omega
 rw[patch,bI (by omega),e,Nat.add_sub_cancel_left,cO hi]
theorem nC(h:k + m.length<=l.length)(hi:i < k\/k + m.length<=i):nth (patch l k m) i=nth l i:=by
 have e:(l.take k).length=k:=by simp; omega
 rcases hi with hi | hi
 ·rw[patch,cO (by omega),dr hi]
 ·rw[patch,bI (by omega),e,bI (by omega),dD]; congr 1; omega
theorem oH(h:k + m.length<=l.length):val (patch l k m)=val l + 18446744073709551616 ^ k * (val m - val ((l.drop k).take m.length)):=by
 have e:(l.take k).length=k:=by simp; omega
 have b:=bE l k (by omega);have a:=bE (l.drop k) m.length (by simp; omega);rw[List.drop_drop] at a;rw[patch,ea,ea,e,b,a];grind
theorem At.patch(h : At w ao b o l)(hw : Wr b (o + k) n w w')(hm : At w' ao' b (o + k) m)(hn : m.length = n)(c : k + n ≤ l.length) : At w' ao b o (patch l k m) :=
  ⟨by rcases h.loc with e | e
      · left; subst e; simp at c; simp[Go.Proofs.YthfepflplbahkaaGreatDoor.patch, List.eq_nil_of_length_eq_zero (show m.length = 0 by omega)]
      · exact .inr e, fun i hi => by
    rw[fh (by omega)] at hi;by_cases a : k ≤ i ∧ i < k + n
    · obtain⟨j, rfl⟩:= Nat.exists_eq_add_of_le a.1
      rw[p7 (by omega) (by omega), ← hm.cell j (by omega), Nat.add_assoc]
    · rw[nC (by omega) (by omega), hw.cell _ (by omega)]; exact h.cell i hi⟩
theorem At.fE(h:At w ao b o l)(k n:Nat):At w (some ⟨b,o + k,none⟩) b (o + k) ((l.drop k).take n) :=
 ⟨.inr rfl,fun i hi=>by
  simp only[List.length_take,List.length_drop] at hi;rw[dr (by omega),dD,Nat.add_assoc]; exact h.cell _ (by omega)⟩
theorem dB.fE(h:dB w b o n){m:Nat}(hk:k + m<=n):dB w b (o + k) m:=fun i hi=>by
 rw[Nat.add_assoc]; exact h _ (by omega)
theorem At.sub(k : At w ao b o l)(n : Nat) : At w ao b o (l.take n) :=
  ⟨by rcases k.loc with e | e
      · subst e; exact .inl (by simp)
      · exact .inr e, fun i hi => by
    rw[List.length_take] at hi;rw[dr (by omega)]; exact k.cell i (by omega)⟩
end
end
section
open Go.RowKit Lim
section
variable {w:World}{g:Nat}{l:List Int}{ops:Array Oper}{rest:List Oper}{o:Oper}{a:Act}
theorem gT:(Tryz.prog.info? 22).map (fun i=>(i.zero,i.size,i.bytes))=some (some (.int .u64 0),1,8):=by kernel_rfl
theorem fW:Tryz.prog.underlying 30=some (.slice 22):=by kernel_rfl
def Row(w:World)(g:Nat)(l:List Int):Prop:=w.heap[g]? = some (.cells (l.map (Value.int .u64)).toArray 22 (0,0))
theorem Row.at(h:Row w g l):At w (some ⟨g,0,none⟩) g 0 l :=
 ⟨.inr rfl,fun i hi=>by
  unfold Row at h;simp only[World.cell?,h];simp[bS hi,hi]⟩
theorem Row.free(h:Row w g l)(o n:Nat):dB w g o n:=by
 intro i _;unfold Row at h;simp[World.frozen?,h]
theorem Row.lt(h:Row w g l):g < w.heap.size:=(Array.getElem?_eq_some_iff.1 h).1
structure dF(w w':World)(v:Value)(l:List Int):Prop where
 is:∃ ao b o c,v=.slice ao l.length c/\l.length<=c/\w.heap.size<=b/\At w' ao b o l/\dB w' b o l.length
theorem rW(n:Nat):madeCells (Value.int .u64 0).cells n=((List.replicate n 0).map (Value.int .u64)).toArray:=by
 apply Array.ext
 ·simp[size_madeCells]
 ·intro j a b;simp[madeCells,Value.cells,Nat.mod_one]
theorem cU{Q:Exit->Act->World->Prop}(j:o.guard=none)(l c:Operand)(f:o.op=Op.makeSlice 30 l c)(n:Nat)(L C:Int)(h:a.eval l=.int .i64 L)(hc:a.eval c=.int .i64 C)(hL:L=(n:Int))(hC:C=(n:Int))(hn:n<=17592186044416)(g:∀ w',Row w' w.heap.size (List.replicate n 0)->Below w.heap.size w w'->w'.heap.size=w.heap.size + 1->wpList Tryz.prog ops Q rest (a.put o.dst (.slice (some ⟨w.heap.size,0,none⟩) n n)) w') :
  wpList Tryz.prog ops Q (o :: rest) a w:=by
 obtain⟨i,hi,e,hs,hb⟩:=info_parts gT;refine wpList_plain j fun K d => ?_
 have b:=run_make (P:=Tryz.prog) w 30 22 i (.int .u64 0) fW hi e .i64 .i64 (n:Int) (n:Int) (by omega) (by omega) (by rw[hb]; omega) (by omega);subst hL;subst hC;unfold Oper.wp;simp only[execOp,f,h,hc];simp[b,Result.andThen];refine d _ _ (g _ ?_ ?_ ?_)
 ·show (w.heap.push _)[w.heap.size]? = _
  rw[Array.getElem?_push_size,hs,Nat.mul_one,rW]
 ·exact(Below.refl _ _).alloc (Nat.le_refl _) _
 ·simp
theorem gk{Q:Exit->Act->World->Prop}(B:o.guard=none)(d s:Operand)(E:o.op=.call { callee:=.builtin .copy,args:=#[d,s],argTypes:=#[30,30] })(g dLen dCap sLen sCap:Nat)(sp:Option Addr)(F:a.eval d=.slice (some ⟨g,0,none⟩) dLen dCap)(hs:a.eval s=.slice sp sLen sCap)(lz ls:List Int)(z:Row w g lz)(D:lz.length=dLen)(b' o':Nat)(A:ls.length=sLen)(hle:sLen<=dLen)(C:At w sp b' o' ls)(h:∀ w',Row w' g (ls ++ lz.drop sLen)->Wr g 0 dLen w w'->wpList Tryz.prog ops Q rest (a.put o.dst (goInt sLen)) w'):wpList Tryz.prog ops Q (o :: rest) a w:=by
 obtain⟨i,hi,y,n,hb⟩:=info_parts gT
 have b:(Tryz.prog.info? 22).map (·.size)=some 1:=by rw[hi]; simp[n]
 by_cases p:sLen=0
 ·have u:ls=[]:=List.eq_nil_of_length_eq_zero (by omega);subst u;refine wpList_copy_nothing B d s _ _ E _ fW b _ sp dLen dCap sLen sCap F hs (by subst p; exact Nat.zero_min _) ?_
  have:=h w (by rw[p]; simpa using z) (Wr.refl _ _ _ _);rwa [p] at this
 ·obtain rfl:sp=some ⟨b',o',none⟩:=by
   rcases C.loc with e | e
   ·subst e; simp at A; omega
   ·exact e
  have l:Nat.min sLen dLen=sLen:=Nat.min_eq_left hle
  have hlen:(ls.map (Value.int .u64)).length=sLen:=by simp[A]
  refine wpList_copy_own B d s _ _ E _ fW b g 0 dLen dCap ⟨b',o',none⟩ sLen sCap F hs _ _ z (ls.map (Value.int .u64)) (by rw[l,hlen]) ?_ (by simp[A,D]; omega) (ints_oneCell _ _) ?_
  ·intro j v f;rw[List.getElem?_map] at f
   have c:j < ls.length:=by
    rcases Nat.lt_or_ge j ls.length with c | c
    ·exact c
    ·rw[List.getElem?_eq_none c] at f; simp at f
   rw[List.getElem?_eq_getElem c] at f;simp at f;subst f;have:=C.cell j c;rw[bS c] at this;rw[<- this];by_cases m:j=0
   ·subst m; exact congrArg w.cell? (by simp[Addr.add])
   ·exact congrArg w.cell? (by simp[Addr.add,m])
  ·rw[hlen]
   have q:Row (w.setRow g (List.take 0 (List.map (Value.int .u64) lz).toArray.toList ++ (List.map (Value.int .u64) ls ++ List.drop (0 + sLen) (List.map (Value.int .u64) lz).toArray.toList)).toArray) g (ls ++ lz.drop sLen):=by
    unfold Row;rw[setRow_heap w g _ _ _ _ z,Nat.zero_add];simp only[List.take_zero,List.nil_append,<- List.map_drop,<- List.map_append]
   refine h _ q ⟨rfl,rfl,rfl,by simp[World.setRow],fun k x=>setRow_other w g k _ x,fun j c => ?_,fun j => ?_⟩
   ·have r:w.heap[g]? = _:=z
    have t:(w.setRow g (List.take 0 (List.map (Value.int .u64) lz).toArray.toList ++ (List.map (Value.int .u64) ls ++ List.drop (0 + sLen) (List.map (Value.int .u64) lz).toArray.toList)).toArray).heap[g]? = _:=q;simp only[World.cell?,r,t];simp;rw[List.getElem?_eq_none (by simp; omega),List.getElem?_eq_none (by omega)];rfl
   ·have r:w.heap[g]? = _:=z
    have t:(w.setRow g (List.take 0 (List.map (Value.int .u64) lz).toArray.toList ++ (List.map (Value.int .u64) ls ++ List.drop (0 + sLen) (List.map (Value.int .u64) lz).toArray.toList)).toArray).heap[g]? = _:=q;simp only[World.frozen?,r,t]
end
end
section
open Go.RowKit Lim
section
variable {x y:Int}{l a b:List Int}
def sgn(x y:Int):Int:=if x < y then -1 else if y < x then 1 else 0
theorem gX(h:x < y):sgn x y = -1:=by simp[sgn,h]
theorem ky(h:y < x):sgn x y=1:=by simp only[sgn]; rw[if_neg (by omega),if_pos h]
theorem sW(h:x=y):sgn x y=0:=by simp[sgn,h]
theorem fZ(l:List Int):val l=nth l 0 + 18446744073709551616 * val l.tail:=by
 cases l with
 | nil=>simp[val,nth]
 | cons x l=>simp[val,nth]
theorem fK(l:List Int)(i:Nat):nth l.tail i=nth l (i + 1):=by
 cases l with
 | nil=>simp[nth]
 | cons x l=>simp[nth]
theorem Lim.Words.tl(h:Words l):Words l.tail:=fun x hx=>h x (List.mem_of_mem_tail hx)
theorem pr:∀ {a b:List Int},(∀ i,nth a i=nth b i)->val a=val b
 | [],b,h=>by rw[fk (l:=b) fun i=>by rw[<- h i,Dw]]; rfl
 | x :: a,b,h=>by
  rw[fZ (x :: a),fZ b,h 0,List.tail_cons,pr (a:=a) (b:=b.tail) fun i=>by rw[fK,<- h (i + 1),dC]]
theorem jR:∀ (h:Nat) {a b:List Int},Words a->Words b->(∀ i,h < i->nth a i=nth b i)->nth a h < nth b h->val a < val b
 | 0,a,b,_,_,he,hl=>by
  rw[fZ a,fZ b,pr (a:=a.tail) (b:=b.tail) fun i=>by rw[fK,fK]; exact he _ (by omega)];omega
 | h + 1,a,b,ha,hb,he,hl=>by
  have:=jR h ha.tl hb.tl (fun i hi=>by rw[fK,fK]; exact he _ (by omega)) (by rw[fK,fK]; exact hl);have c:=ha.nth 0; have d:=hb.nth 0;rw[fZ a,fZ b];omega
theorem sgn_at(e:Words a)(hb:Words b)(h:Nat)(he:∀ i,h < i->nth a i=nth b i)(d:nth a h≠nth b h):sgn (nth a h) (nth b h)=sgn (val a) (val b):=by
 rcases Int.lt_or_gt_of_ne d with c | c
 ·rw[gX c,gX (jR h e hb he c)]
 ·rw[ky c,ky (jR h hb e (fun i hi=>(he i hi).symm) c)]
theorem yd(e:Words a)(hb:Words b)(c:aE a≠aE b):sgn (aE a) (aE b)=sgn (val a) (val b):=by
 rcases Nat.lt_or_gt_of_ne c with d | d
 ·rw[gX (by omega),gX (dA e hb d)]
 ·rw[ky (by omega),ky (dA hb e d)]
theorem rM(x y:Int)(w:World):Calls Tryz.prog 60 #[.int .i64 x,.int .i64 y] w fun e w'=>e=.returned (.int .i64 (sgn x y))/\w'=w:=by
 rcases Int.lt_trichotomy x y with h | h | h
 ·rw[gX h];go_enter Tryz.func60,Tryz.ntmps60;go_wp2;go_ret;exact⟨rfl,rfl⟩
 ·rw[sW h]; subst h;go_enter Tryz.func60,Tryz.ntmps60;go_wp2;go_ret;exact⟨rfl,rfl⟩
 ·rw[ky h]
  have a:¬ x < y:=by omega
  go_enter Tryz.func60,Tryz.ntmps60;go_wp2;go_ret;exact⟨rfl,rfl⟩
theorem qQ(x y:Int)(w:World):Calls Tryz.prog 61 #[.int .u64 x,.int .u64 y] w fun e w'=>e=.returned (.int .i64 (sgn x y))/\w'=w:=by
 rcases Int.lt_trichotomy x y with h | h | h
 ·rw[gX h];go_enter Tryz.func61,Tryz.ntmps61;go_wp2;go_ret;exact⟨rfl,rfl⟩
 ·rw[sW h]; subst h;go_enter Tryz.func61,Tryz.ntmps61;go_wp2;go_ret;exact⟨rfl,rfl⟩
 ·rw[ky h]
  have a:¬ x < y:=by omega
  go_enter Tryz.func61,Tryz.ntmps61;go_wp2;go_ret;exact⟨rfl,rfl⟩
theorem ki{k:IntKind}{a b:Int}(h:a=b):Ending.returned (.int k a)=.returned (.int k b):=by rw[h]
theorem iq(ao:Option Addr)(n c b o:Nat)(ao':Option Addr)(n' c' b' o':Nat)(l Z:List Int)(w:World)(hl:l.length=n)(hl':Z.length=n')(hc:n<=c)(hc':n'<=c')(hbig:n<=1099511627776)(hbig':n'<=1099511627776)(wl:Words l)(ab:Words Z)(ha:At w ao b o l)(aa:At w ao' b' o' Z) :
  Calls Tryz.prog 26 #[.slice ao n c,.slice ao' n' c'] w fun e w'=>e=.returned (.int .i64 (sgn (val l) (val Z)))/\Below w.heap.size w w':=by
 have hn:=bp l
 have t:=bp Z;have t1:=bh ao n c l w hl hc (by omega) ha.cells;have t2:=bh ao' n' c' Z w hl' hc' (by omega) aa.cells
 have j:∀ i,d l<=i->nth l i=0:=fun i hi=>fI hi
 have f:∀ i,d Z<=i->nth Z i=0:=fun i hi=>fI hi
 have m:Hid (d l≠d Z->sgn (d l) (d Z)=sgn (val l) (val Z)):=yd wl ab
 have C:Hid (∀ i,d l<=i->nth l i=0):=j
 have p:Hid (∀ i,d Z<=i->nth Z i=0):=f;clear j f;generalize d l=N at *;generalize d Z=D at *;go_enter Tryz.func26,Tryz.ntmps26;go_wp2_with fail;refine t1.mono ?_
 rintro e T ⟨rfl,rfl⟩;go_wp2_with fail;refine t2.mono ?_
 rintro e E ⟨rfl,rfl⟩;clear t1 t2;by_cases q:N=D
 ·subst q;go_wp2_with fail;go_loopw [25] (fun u wr=>∃ k:Nat,k<=N/\u=.int .i64 k/\Hid (∀ i,N - k<=i->nth l i=nth Z i)/\Below E.heap.size E wr) (fun u _=>N - (intOf u).toNat)
  case atStart=>exact⟨0,Nat.zero_le _,rfl,fun i hi=>by rw[C.out i (by omega),p.out i (by omega)],Below.refl _ _⟩
  case round =>
   obtain⟨k,U,rfl,v,a⟩:=hrel;by_cases K:k < N
   ·have r:=ha.keep a
    have g:=aa.keep a;rcases ha.loc with e | rfl
    ·subst e; simp at hn; omega
    rcases aa.loc with e | rfl
    ·subst e; simp at t; omega
    obtain⟨h,F⟩:∃ h:Nat,N=h + 1 + k:=⟨N - 1 - k,by omega⟩
    have q1:=r.cell h (by omega);have G:=g.cell h (by omega)
    have L:Hid (N=h + 1 + k):=F
    have H:(N:Int) - 1 - k=h:=by omega
    have I:Hid (∀ i,h < i->nth l i=nth Z i):=fun i hi=>v.out i (by omega)
    have M:Hid (nth l h≠nth Z h->sgn (nth l h) (nth Z h)=sgn (val l) (val Z)):=sgn_at wl ab h I.out
    have O:(h:Int) < N:=by omega
    clear F v C p m ha aa r g wl ab;generalize hx:nth l h=x at *;generalize hy:nth Z h=y at *
    have J:Hid (x=y->nth l h=nth Z h):=fun e=>hx.trans (e.trans hy.symm)
    clear hx hy;by_cases s:x=y
    ·have P:Hid (nth l h=nth Z h):=J.out s;clear J;subst s;go_wp2_with fail;go_quiet (fail);go_wp2;go_roundw
     case rel=>exact⟨k + 1,by omega,by go_num,fun i hi=>by
      by_cases e:i=h
      ·subst e; exact P.out
      ·exact I.out i (by have:=L.out; omega),below_drewN a _⟩
     case measure=>simp[intOf]; omega
    ·have Q:(x != y)=true:=by rw[bne_iff_ne]; exact s
     go_wp2_with fail;go_quiet (fail);go_wp2_with fail
     have V:(wr.drewN z).cell? ⟨b,o + h,none⟩=some (.int .u64 x):=q1
     have X:(wr.drewN z).cell? ⟨b',o' + h,none⟩=some (.int .u64 y):=G;have A:=below_drewN a z;clear q1 G a;generalize wr.drewN z=W at *;go_quiet ((go_at_call 61; exact Calls.quiet_of_same (Y _ _ _)));go_wp2;go_ret;exact⟨R (M.out s),below_drewN A _⟩
   ·have B:k=N:=by omega
    subst B;go_wp2;go_ret;rw[sW (pr fun i=>v.out i (by omega))];exact⟨rfl,a⟩
 ·have S:((N:Int) != (D:Int))=true:=by rw[bne_iff_ne]; omega
  go_wp2_with (go_at_call 60; refine(rM _ _ _).mono ?_; rintro e w' ⟨rfl,rfl⟩);go_ret;exact⟨R (m.out q),Below.refl _ _⟩
end
end
section
open Go.RowKit Lim
section
variable {n:Nat}
theorem w64(z:Int)(h0:0<=z)(h1:z<=1000):wrap64 z=z:=by
 unfold wrap64; omega
theorem gh(k:Int)(i:Nat)(h0:0<=k)(hk:k<=56)(h:i < 256):wrap64 (k + wrap64 (bitLen i:Int))=k + bitLen i:=by
 have:=bitLen_le8 i h;rw[w64 (bitLen i) (by omega) (by omega),w64 _ (by omega) (by omega)]
theorem iV(x:Int)(b i:Nat)(h:x.toNat / 2 ^ b=i)(hi:i≠0):((bitLen x.toNat:Nat):Int)=b + bitLen i:=by
 rw[bitLen_shift x.toNat b (by rw[h]; exact hi),h]; omega
theorem len64(x:Int)(w:World)(b:0<=x)(c:x < 18446744073709551616) :
  Calls Tryz.prog 139 #[.int .u64 x] w fun e w'=>e=.returned (.int .i64 (bitLen x.toNat))/\w'=w:=by
 by_cases c0:4294967296<=x
 ·by_cases c1:65536<=x / 4294967296
  ·by_cases a:256<=x / 4294967296 / 65536
   ·go_enter Tryz.func139,Tryz.ntmps139;go_wp2;go_ret;refine⟨ki ?_,rfl⟩;rw[len8tab_get,gh 56 (x / 4294967296 / 65536 / 256).toNat (by decide) (by decide) (by omega),iV x 56 (x / 4294967296 / 65536 / 256).toNat (by rw[show (2:Nat) ^ 56=72057594037927936 from rfl]; omega) (by omega)];rfl
   ·go_enter Tryz.func139,Tryz.ntmps139;go_wp2;go_ret;refine⟨ki ?_,rfl⟩;rw[len8tab_get,gh 48 (x / 4294967296 / 65536).toNat (by decide) (by decide) (by omega),iV x 48 (x / 4294967296 / 65536).toNat (by rw[show (2:Nat) ^ 48=281474976710656 from rfl]; omega) (by omega)];rfl
  ·by_cases a:256<=x / 4294967296
   ·go_enter Tryz.func139,Tryz.ntmps139;go_wp2;go_ret;refine⟨ki ?_,rfl⟩;rw[len8tab_get,gh 40 (x / 4294967296 / 256).toNat (by decide) (by decide) (by omega),iV x 40 (x / 4294967296 / 256).toNat (by rw[show (2:Nat) ^ 40=1099511627776 from rfl]; omega) (by omega)];rfl
   ·go_enter Tryz.func139,Tryz.ntmps139;go_wp2;go_ret;refine⟨ki ?_,rfl⟩;rw[len8tab_get,gh 32 (x / 4294967296).toNat (by decide) (by decide) (by omega),iV x 32 (x / 4294967296).toNat (by rw[show (2:Nat) ^ 32=4294967296 from rfl]; omega) (by omega)];rfl
 ·by_cases c1:65536<=x
  ·by_cases a:256<=x / 65536
   ·go_enter Tryz.func139,Tryz.ntmps139;go_wp2;go_ret;refine⟨ki ?_,rfl⟩;rw[len8tab_get,gh 24 (x / 65536 / 256).toNat (by decide) (by decide) (by omega),iV x 24 (x / 65536 / 256).toNat (by rw[show (2:Nat) ^ 24=16777216 from rfl]; omega) (by omega)];rfl
   ·go_enter Tryz.func139,Tryz.ntmps139;go_wp2;go_ret;refine⟨ki ?_,rfl⟩;rw[len8tab_get,gh 16 (x / 65536).toNat (by decide) (by decide) (by omega),iV x 16 (x / 65536).toNat (by rw[show (2:Nat) ^ 16=65536 from rfl]; omega) (by omega)];rfl
  ·by_cases a:256<=x
   ·go_enter Tryz.func139,Tryz.ntmps139;go_wp2;go_ret;refine⟨ki ?_,rfl⟩;rw[len8tab_get,gh 8 (x / 256).toNat (by decide) (by decide) (by omega),iV x 8 (x / 256).toNat (by rw[show (2:Nat) ^ 8=256 from rfl]; omega) (by omega)];rfl
   ·go_enter Tryz.func139,Tryz.ntmps139;go_wp2;go_ret;refine⟨ki ?_,rfl⟩;rw[len8tab_get];have:=bitLen_le8 x.toNat (by omega);rw[w64 (bitLen x.toNat:Int) (by omega) (by omega),w64 _ (by omega) (by omega)]
theorem mM(h:n≠0):1<=bitLen n:=by unfold bitLen; rw[if_neg h]; omega
theorem gW(h:n < 18446744073709551616):bitLen n<=64:=by
 unfold bitLen;split
 ·omega
 ·have:=(Nat.log2_lt (k:=64) ‹_›).2 (by omega); omega
theorem Ea(x:Int)(w:World)(a:0<=x)(b:x < 18446744073709551616) :
  Calls Tryz.prog 87 #[.int .u64 x] w fun e w'=>e=.returned (.int .i64 (64 - bitLen x.toNat))/\w'=w:=by
 have c:=gW (n:=x.toNat) (by omega);have t1:=len64 x w a b;generalize bitLen x.toNat=L at *;go_enter Tryz.func87,Tryz.ntmps87;go_wp2_with fail;refine t1.mono ?_
 rintro e d ⟨rfl,rfl⟩;go_wp2;go_ret;exact⟨rfl,rfl⟩
end
end
section
open Go.RowKit Lim
section
variable {y y1 y0 u a q r:Int}
theorem DS(y:Int)(w:World)(i:0 < y)(h:y < 18446744073709551616) :
  Calls Tryz.prog 87 #[.int .u64 y] w fun e w'=>∃ s:Nat,e=.returned (.int .i64 s)/\s<=63/\Hid (9223372036854775808<=y * 2 ^ s/\y * 2 ^ s < 18446744073709551616)/\w'=w:=by
 refine(Ea y w (by omega) h).mono ?_
 rintro e w' ⟨rfl,rfl⟩;have d:=gW (n:=y.toNat) (by omega);have f:=mM (n:=y.toNat) (by omega);have hs:=bitLen_spec y.toNat;generalize bitLen y.toNat=L at *;refine⟨64 - L,g (by omega),by omega,?_,rfl⟩;have a:=hs.1;have b:=hs.2 (by omega);obtain⟨n,rfl⟩:∃ n:Nat,y=n:=⟨y.toNat,by omega⟩
 rw[Int.toNat_natCast] at a b
 have e1:(2:Nat) ^ L * 2 ^ (64 - L)=18446744073709551616:=by rw[<- Nat.pow_add,show L + (64 - L)=64 from by omega]
 have e2:(2:Nat) ^ (L - 1) * 2 ^ (64 - L)=9223372036854775808:=by rw[<- Nat.pow_add,show L - 1 + (64 - L)=63 from by omega]
 have k1:n * 2 ^ (64 - L) < 2 ^ L * 2 ^ (64 - L):=Nat.mul_lt_mul_of_pos_right a (Nat.two_pow_pos _)
 have k2:2 ^ (L - 1) * 2 ^ (64 - L)<=n * 2 ^ (64 - L):=Nat.mul_le_mul_right _ b;rw[e1] at k1;rw[e2] at k2
 have c:((n * 2 ^ (64 - L):Nat):Int)=(n:Int) * 2 ^ (64 - L):=by rw[Int.natCast_mul,Int.natCast_pow]; rfl
 show _/\_
 rw[<- c];omega
structure eK(y y1 u a q r:Int):Prop where
 eq:q * y1 + r=u
 r0:0<=r
 up:u * 4294967296 + a < (q + 1) * y
 q0:0<=q
 qb:q<=4294967297
theorem eK.start(e:y=y1 * 4294967296 + y0)(g:0<=y0)(i:y0 < 4294967296)(h:2147483648<=y1)(u0:0<=u)(j:u < y)(a0:0<=a)(a1:a < 4294967296) :
  eK y y1 u a (u / y1) (u % y1):=by
 have c:=Int.mul_ediv_add_emod u y1;have d:=Int.emod_nonneg u (show y1≠0 by omega);have f:=Int.emod_lt_of_pos u (show 0 < y1 by omega)
 have b:0<=u / y1:=Int.ediv_nonneg u0 (by omega);generalize u / y1=q at *;generalize u % y1=r at *;refine⟨by rw[Int.mul_comm]; exact c,d,?_,b,?_⟩
 ·have k1:(q + 1) * y=(y1 * q + y1) * 4294967296 + (q + 1) * y0:=by rw[e]; grind
  have k2:0<=(q + 1) * y0:=Int.mul_nonneg (by omega) g;rw[k1]; omega
 ·by_cases hc:q<=4294967297
  ·exact hc
  ·have k:y1 * 4294967298<=y1 * q:=Int.mul_le_mul_of_nonneg_left (by omega) (by omega);omega
theorem eK.big(h:eK y y1 u a q r)(a1:a < 4294967296)(y0:0 < y)(c:u < y)(b:4294967296<=q)(d:0<=y1):eK y y1 u a (q - 1) (r + y1):=by
 have k:y * 4294967296<=y * q:=Int.mul_le_mul_of_nonneg_left b (by omega);have:=h.eq; have:=h.r0; have:=h.qb;refine⟨by rw[Int.sub_mul]; omega,by omega,?_,by omega,by omega⟩;rw[Int.sub_add_cancel,Int.mul_comm q y]; omega
theorem eK.more(h:eK y y1 u a q r)(e:y=y1 * 4294967296 + y0)(u0:0<=u)(a0:0<=a)(f:0<=y1)(hc:4294967296 * r + a < q * y0):eK y y1 u a (q - 1) (r + y1):=by
 have he:=h.eq; have:=h.r0; have:=h.qb; have:=h.q0
 have k:q * y=q * y1 * 4294967296 + q * y0:=by rw[e]; grind
 have b:u * 4294967296 + a < q * y:=by rw[k]; omega
 have d:1<=q:=by
  by_cases c:1<=q
  ·exact c
  ·have:q=0:=by omega
   subst this;simp at b; omega
 refine⟨by rw[Int.sub_mul]; omega,by omega,?_,by omega,by omega⟩;rw[Int.sub_add_cancel]; exact b
structure Dig(y u a q:Int):Prop where
 lo:q * y<=u * 4294967296 + a
 hi:u * 4294967296 + a < (q + 1) * y
 q0:0<=q
 q1:q < 4294967296
theorem eK.dig(h:eK y y1 u a q r)(e:y=y1 * 4294967296 + y0)(b:0 < y)(d:u < y)(a1:a < 4294967296)(hc:q * y0<=4294967296 * r + a):Dig y u a q:=by
 have he:=h.eq
 have k:q * y=q * y1 * 4294967296 + q * y0:=by rw[e]; grind
 have lo:q * y<=u * 4294967296 + a:=by rw[k]; omega
 refine⟨lo,h.up,h.q0,?_⟩;by_cases c:q < 4294967296
 ·exact c
 ·have:4294967296 * y<=q * y:=Int.mul_le_mul_of_nonneg_right (by omega) (by omega);omega
theorem eK.kJ(h:eK y y1 u a q r)(e:y=y1 * 4294967296 + y0)(b:0 < y)(d:u < y)(a0:0<=a)(a1:a < 4294967296)(c:0<=y0)(i:y0 < 4294967296)(f:q<=4294967296)(g:4294967296<=r):Dig y u a q :=
 h.dig e b d a1 (by
  have:q * y0<=4294967296 * y0:=Int.mul_le_mul_of_nonneg_right f c;omega)
theorem Dig.rest(h:Dig y u a q):0<=u * 4294967296 + a - q * y/\u * 4294967296 + a - q * y < y:=by
 have:=h.lo; have h2:=h.hi;rw[Int.add_mul] at h2;omega
theorem ediv64(x S T:Int)(hS:0 < S)(h:S * T=18446744073709551616):x * S / 18446744073709551616=x / T:=by
 rw[<- h,Int.mul_comm S T,Int.mul_ediv_mul_of_pos_left _ _ hS]
theorem pX(a b:Int)(s:Nat)(k:Int)(l:a=k * 2 ^ s)(j:0<=k)(i:a < 18446744073709551616)(g:0<=b)(m:b < 2 ^ s)(h:b < 18446744073709551616):bits .or .u64 a b=a + b:=by
 have f:(0:Int) < 2 ^ s:=Int.pow_pos (by decide)
 have c:0<=a:=by rw[l]; exact Int.mul_nonneg j (Int.le_of_lt f)
 rw[u64_or a b c i g h];obtain⟨k,rfl⟩:=Int.eq_ofNat_of_zero_le j;obtain⟨b,rfl⟩:=Int.eq_ofNat_of_zero_le g
 have e:a.toNat=2 ^ s * k:=by
  have:a=((2 ^ s * k:Nat):Int):=by rw[l,Int.natCast_mul,Int.natCast_pow,Int.mul_comm]; rfl
  rw[this,Int.toNat_natCast]
 have d:b < 2 ^ s:=by
  have:((2 ^ s:Nat):Int)=2 ^ s:=by rw[Int.natCast_pow]; rfl
  omega
 rw[e,Int.toNat_natCast,<- Nat.two_pow_add_eq_or_of_lt d,<- e];omega
theorem xO(hi lo y:Int)(s:Nat)(m:0<=hi)(o:hi < y)(n:0<=lo)(l1:lo < 18446744073709551616)(hs:s<=63)(p:9223372036854775808<=y * 2 ^ s/\y * 2 ^ s < 18446744073709551616) :
  ∃ Y Yh Yl U A A1 A0:Int,IntKind.u64.wrap (y * 2 ^ s)=Y/\Y / 4294967296=Yh/\bits .and .u64 Y 4294967295=Yl/\bits .or .u64 (IntKind.u64.wrap (hi * 2 ^ s)) (lo / 2 ^ (64 - s))=U /\
   IntKind.u64.wrap (lo * 2 ^ s)=A/\A / 4294967296=A1/\bits .and .u64 A 4294967295=A0/\0<=Yl/\Yl < 4294967296/\2147483648<=Yh/\Yh < 4294967296/\0<=U/\U < Y/\Y < 18446744073709551616/\0<=A1/\A1 < 4294967296/\0<=A0/\A0 < 4294967296 /\
   Hid (Y=Yh * 4294967296 + Yl)/\Hid ((U * 4294967296 + A1) * 4294967296 + A0=(hi * 18446744073709551616 + lo) * 2 ^ s/\Y=y * 2 ^ s):=by
 have hS:(0:Int) < 2 ^ s:=Int.pow_pos (by decide)
 have f:(0:Int) < 2 ^ (64 - s):=Int.pow_pos (by decide)
 have c:(2:Int) ^ s * 2 ^ (64 - s)=18446744073709551616:=by rw[<- Int.pow_add,show s + (64 - s)=64 from by omega]; rfl
 have g:(2:Int) ^ s * 1<=2 ^ s * 2 ^ (64 - s):=Int.mul_le_mul_of_nonneg_left (by omega) (Int.le_of_lt hS)
 have e:0<=hi * 2 ^ s:=Int.mul_nonneg m (Int.le_of_lt hS)
 have d:(hi + 1) * 2 ^ s<=y * 2 ^ s:=Int.mul_le_mul_of_nonneg_right (by omega) (Int.le_of_lt hS);rw[Int.add_mul,Int.one_mul] at d
 have h:0<=lo * 2 ^ s:=Int.mul_nonneg n (Int.le_of_lt hS)
 have a:0<=lo / 2 ^ (64 - s):=Int.ediv_nonneg n (Int.le_of_lt f)
 have b:lo / 2 ^ (64 - s) < 2 ^ s:=by
  rw[Int.ediv_lt_iff_lt_mul f,c]; exact l1
 have i:=ediv64 lo (2 ^ s) (2 ^ (64 - s)) hS c
 have j:bits .or .u64 (IntKind.u64.wrap (hi * 2 ^ s)) (lo / 2 ^ (64 - s))=hi * 2 ^ s + lo / 2 ^ (64 - s):=by
  rw[IntKind.wrap_u64,Int.emod_eq_of_lt e (by omega)];exact pX _ _ s hi rfl m (by omega) a b (by omega)
 have k:IntKind.u64.wrap (y * 2 ^ s)=y * 2 ^ s:=by rw[IntKind.wrap_u64]; omega
 have hA:IntKind.u64.wrap (lo * 2 ^ s)=lo * 2 ^ s % 18446744073709551616:=IntKind.wrap_u64 _
 have e3:(hi * 18446744073709551616 + lo) * 2 ^ s=hi * 2 ^ s * 18446744073709551616 + lo * 2 ^ s:=by grind
 rw[j,k,hA];rw[<- i] at a b ⊢;rw[e3];generalize hi * 2 ^ s=H at *;generalize lo * 2 ^ s=l at *;generalize y * 2 ^ s=Y at *;refine⟨Y,_,_,_,_,_,_,rfl,rfl,rY _ (by omega) (by omega),rfl,rfl,rfl,rY _ (by omega) (by omega),by omega,by omega,by omega,by omega,by omega,by omega,by omega,by omega,by omega,by omega,by omega,?_,?_,rfl⟩
 ·show _=_; omega
 ·omega
theorem xb(U A p V:Int)(h:V=U * 4294967296 + A - p)(a:0<=V)(b:V < 18446744073709551616):IntKind.u64.wrap (IntKind.u64.wrap (IntKind.u64.wrap (U * 4294967296) + A) - IntKind.u64.wrap p)=V:=by
 simp only[IntKind.wrap_u64]; omega
theorem yO(u y:Int)(hu:0<=u)(b:u < 18446744073709551616)(hy:0 < y):IntKind.u64.wrap (u - IntKind.u64.wrap (u / y * y))=u % y:=by
 have a:=Int.mul_ediv_add_emod u y;have d:=Int.emod_nonneg u (show y≠0 by omega);have c:=Int.mul_nonneg (Int.ediv_nonneg hu (Int.le_of_lt hy)) (Int.le_of_lt hy);rw[Int.mul_comm] at a;generalize u / y * y=p at *;generalize u % y=r at *;simp only[IntKind.wrap_u64]; omega
theorem ia(Y b c u a:Int)(hy:Y=b * 4294967296 + c)(d:0<=c)(e:c < 4294967296)(g:2147483648<=b)(h:b < 4294967296)(u0:0<=u)(f:u < Y)(i:Y < 18446744073709551616)(a0:0<=a)(a1:a < 4294967296) :
  IntKind.u64.wrap (u - IntKind.u64.wrap (u / b * b))=u % b/\eK Y b u a (u / b) (u % b)/\u % b < 4294967296 :=
 ⟨yO u b u0 (by omega) (by omega),eK.start hy d e g u0 f a0 a1,by have:=Int.emod_lt_of_pos u (show 0 < b by omega); omega⟩
theorem dt{Y:Int}(h:Dig Y u a q)(b:Y < 18446744073709551616):∃ V:Int,IntKind.u64.wrap (IntKind.u64.wrap (IntKind.u64.wrap (u * 4294967296) + a) - IntKind.u64.wrap (q * Y))=V/\0<=V/\V < Y/\Hid (V=u * 4294967296 + a - q * Y):=by
 have:=h.rest;exact⟨u * 4294967296 + a - q * Y,xb u a (q * Y) _ rfl this.1 (by omega),this.1,this.2,rfl⟩
theorem fe(hi lo y Y U o l Q V k:Int)(s:Nat)(hy:0 < y)(e:(U * 4294967296 + o) * 4294967296 + l=(hi * 18446744073709551616 + lo) * 2 ^ s)(n:Y=y * 2 ^ s)(p:V=U * 4294967296 + o - Q * Y)(m:Dig Y V l k) :
  Q * 4294967296 + k=(hi * 18446744073709551616 + lo) / y/\(V * 4294967296 + l - k * Y) / 2 ^ s=(hi * 18446744073709551616 + lo) % y:=by
 have hS:(0:Int) < 2 ^ s:=Int.pow_pos (by decide);have b:=m.rest;have f:=m.q0;have g:=m.q1;generalize h:hi * 18446744073709551616 + lo=N at *
 have key:N * 2 ^ s=(Q * 4294967296 + k) * y * 2 ^ s + (V * 4294967296 + l - k * Y):=by rw[<- e,p,n]; grind
 generalize i:V * 4294967296 + l - k * Y=R at *
 have hdiv:R=(N - (Q * 4294967296 + k) * y) * 2 ^ s:=by rw[Int.sub_mul]; omega
 generalize j:Q * 4294967296 + k=K at *;generalize d:N - K * y=D at *;rw[hdiv] at b;rw[n] at b
 have d0:0<=D:=by
  by_cases c:0<=D
  ·exact c
  ·have:D * 2 ^ s <= -1 * 2 ^ s:=Int.mul_le_mul_of_nonneg_right (by omega) (Int.le_of_lt hS);omega
 have d1:D < y:=Int.lt_of_mul_lt_mul_right b.2 (Int.le_of_lt hS)
 have a:N=y * K + D:=by rw[<- d,Int.mul_comm y K]; omega
 constructor
 ·have:N / y=K:=by rw[a,Int.add_comm,Int.add_mul_ediv_left _ _ (by omega),Int.ediv_eq_zero_of_lt d0 d1,Int.zero_add]
  omega
 ·rw[hdiv,Int.mul_ediv_cancel _ (by omega),a,Int.add_comm,Int.add_mul_emod_self_left,Int.emod_eq_of_lt d0 d1]
theorem nQ(hi lo y:Int)(w:World)(h0:0 < hi)(h1:hi < y)(l0:0<=lo)(l1:lo < 18446744073709551616)(y1:y < 18446744073709551616) :
  Calls Tryz.prog 166 #[.int .u64 hi,.int .u64 lo,.int .u64 y] w fun e w'=>e=.returned (.tuple #[.int .u64 ((hi * 18446744073709551616 + lo) / y),.int .u64 ((hi * 18446744073709551616 + lo) % y)])/\w'=w:=by
 have hb0:(hi == 0)=false:=beq_eq_false_iff_ne.2 (by omega)
 have hb1:(y == 0)=false:=beq_eq_false_iff_ne.2 (by omega);go_enter Tryz.func166,Tryz.ntmps166;go_wp2_with fail;refine(DS y _ (by omega) y1).mono ?_
 rintro e w' ⟨s,rfl,hs,HS,rfl⟩;obtain⟨Y,k,J,U,A,o,g,e1,e2,e3,e4,e5,e6,e7,d,j,N,O,u0,u1,z,a10,K,P,h,t,u⟩:=xO hi lo y s (by omega) h1 l0 l1 hs HS.out;obtain⟨d2,l,m⟩:=ia Y k J U o t.out d j N O u0 u1 z a10 K;go_wp2_with fail;clear e1 e2 e3 e4 e5 e6 e7 d2 HS hb0 hb1;go_loop [15,16] (fun B S=>∃ q r:Int,B=.int .u64 q/\S=.int .u64 r/\eK Y k U o q r/\r < 4294967296) (fun B _=>(intOf B).toNat)
 case atStart=>exact⟨_,_,rfl,rfl,l,m⟩
 case round =>
  clear l m;obtain⟨q,r,rfl,rfl,f,hr⟩:=hrel;have q0:=f.q0;have qb:=f.qb;have r0:=f.r0;by_cases c1:4294967296<=q
  ·have a:=f.big K (by omega) u1 c1 (by omega);obtain⟨Q,C⟩:∃ Q,q - 1=Q:=⟨_,rfl⟩
   obtain⟨R,D⟩:∃ R,r + k=R:=⟨_,rfl⟩
   rw[C,D] at a;have L:=a.q0
   have E:Q < q:=by omega
   have T:R < 8589934592:=by omega
   have W:=a.r0;by_cases F:4294967296<=R
   ·have c:Hid (Dig Y U o Q):=a.kJ t.out (by omega) u1 (by omega) K d j (by omega) F;have M:=c.out.q1;obtain⟨V,v1,v2,v3,v⟩:=dt c.out z;obtain⟨d2,l,m⟩:=ia Y k J V g t.out d j N O v2 v3 z P h;obtain⟨i,n⟩:∃ i,i=Q:=⟨_,rfl⟩
    have QQ0:0<=i:=by omega
    have aa:i < 4294967296:=by omega
    have v:Hid (V=U * 4294967296 + o - i * Y):=by rw[n]; exact v
    go_wp2_with fail;rw[<- n];clear v1 d2 n;go_loop [18,16] (fun B S=>∃ q r:Int,B=.int .u64 q/\S=.int .u64 r/\eK Y k V g q r/\r < 4294967296) (fun B _=>(intOf B).toNat)
    case atStart=>exact⟨_,_,rfl,rfl,l,m⟩
    case round =>
     clear l m c;obtain⟨q,r,rfl,rfl,f,hr⟩:=hrel;have q0:=f.q0;have qb:=f.qb;have r0:=f.r0;by_cases c1:4294967296<=q
     ·have a:=f.big h (by omega) v3 c1 (by omega);obtain⟨Q,C⟩:∃ Q,q - 1=Q:=⟨_,rfl⟩
      obtain⟨R,D⟩:∃ R,r + k=R:=⟨_,rfl⟩
      rw[C,D] at a;have L:=a.q0
      have E:Q < q:=by omega
      have T:R < 8589934592:=by omega
      have W:=a.r0;by_cases F:4294967296<=R
      ·have c:Hid (Dig Y V g Q):=a.kJ t.out (by omega) v3 (by omega) h d j (by omega) F;have M:=c.out.q1;obtain⟨Z,z1,z2,z3,x⟩:=dt c.out z;go_wp2;go_ret2;have b:=fe hi lo y Y U o g i V Q s (by omega) u.out.1 u.out.2 v.out c.out;exact⟨nA b.1 (by rw[<- b.2,<- x.out]),rfl⟩
      ·have G:Hid (eK Y k V g Q R):=a;clear a f;go_wp2;go_round
       case rel=>exact⟨Q,R,rfl,rfl,G.out,by omega⟩
       case measure=>simp[intOf]; omega
     ·obtain⟨p,H⟩:∃ p,q * J=p:=⟨_,rfl⟩
      have p0:0<=p:=by rw[<- H]; exact Int.mul_nonneg q0 d
      have p1:p < 18446744073709551616:=by
       have:=Int.mul_le_mul (show q<=4294967295 by omega) (show J<=4294967295 by omega) d (by decide);omega
      by_cases X:4294967296 * r + g < p
      ·have a:=f.more t.out (by omega) (by omega) (by omega) (by rw[H]; exact X);obtain⟨Q,C⟩:∃ Q,q - 1=Q:=⟨_,rfl⟩
       obtain⟨R,D⟩:∃ R,r + k=R:=⟨_,rfl⟩
       rw[C,D] at a;have L:=a.q0
       have E:Q < q:=by omega
       have T:R < 8589934592:=by omega
       have W:=a.r0;by_cases F:4294967296<=R
       ·have c:Hid (Dig Y V g Q):=a.kJ t.out (by omega) v3 (by omega) h d j (by omega) F;have M:=c.out.q1;obtain⟨Z,z1,z2,z3,x⟩:=dt c.out z;go_wp2;go_ret2;have b:=fe hi lo y Y U o g i V Q s (by omega) u.out.1 u.out.2 v.out c.out;exact⟨nA b.1 (by rw[<- b.2,<- x.out]),rfl⟩
       ·have G:Hid (eK Y k V g Q R):=a;clear a f;go_wp2;go_round
        case rel=>exact⟨Q,R,rfl,rfl,G.out,by omega⟩
        case measure=>simp[intOf]; omega
      ·have c:Hid (Dig Y V g q):=f.dig t.out (by omega) v3 h (by rw[H]; omega);have M:=c.out.q1;have L:=c.out.q0;clear f
       have I:∃ Q,Q=q:=⟨_,rfl⟩
       obtain⟨Q,rfl⟩:=I;obtain⟨Z,z1,z2,z3,x⟩:=dt c.out z;go_wp2;go_ret2;have b:=fe hi lo y Y U o g i V Q s (by omega) u.out.1 u.out.2 v.out c.out;exact⟨nA b.1 (by rw[<- b.2,<- x.out]),rfl⟩
   ·have G:Hid (eK Y k U o Q R):=a;clear a f;go_wp2;go_round
    case rel=>exact⟨Q,R,rfl,rfl,G.out,by omega⟩
    case measure=>simp[intOf]; omega
  ·obtain⟨p,H⟩:∃ p,q * J=p:=⟨_,rfl⟩
   have p0:0<=p:=by rw[<- H]; exact Int.mul_nonneg q0 d
   have p1:p < 18446744073709551616:=by
    have:=Int.mul_le_mul (show q<=4294967295 by omega) (show J<=4294967295 by omega) d (by decide);omega
   by_cases X:4294967296 * r + o < p
   ·have a:=f.more t.out (by omega) (by omega) (by omega) (by rw[H]; exact X);obtain⟨Q,C⟩:∃ Q,q - 1=Q:=⟨_,rfl⟩
    obtain⟨R,D⟩:∃ R,r + k=R:=⟨_,rfl⟩
    rw[C,D] at a;have L:=a.q0
    have E:Q < q:=by omega
    have T:R < 8589934592:=by omega
    have W:=a.r0;by_cases F:4294967296<=R
    ·have c:Hid (Dig Y U o Q):=a.kJ t.out (by omega) u1 (by omega) K d j (by omega) F;have M:=c.out.q1;obtain⟨V,v1,v2,v3,v⟩:=dt c.out z;obtain⟨d2,l,m⟩:=ia Y k J V g t.out d j N O v2 v3 z P h;obtain⟨i,n⟩:∃ i,i=Q:=⟨_,rfl⟩
     have QQ0:0<=i:=by omega
     have aa:i < 4294967296:=by omega
     have v:Hid (V=U * 4294967296 + o - i * Y):=by rw[n]; exact v
     go_wp2_with fail;rw[<- n];clear v1 d2 n;go_loop [18,16] (fun B S=>∃ q r:Int,B=.int .u64 q/\S=.int .u64 r/\eK Y k V g q r/\r < 4294967296) (fun B _=>(intOf B).toNat)
     case atStart=>exact⟨_,_,rfl,rfl,l,m⟩
     case round =>
      clear l m c;obtain⟨q,r,rfl,rfl,f,hr⟩:=hrel;have q0:=f.q0;have qb:=f.qb;have r0:=f.r0;by_cases c1:4294967296<=q
      ·have a:=f.big h (by omega) v3 c1 (by omega);obtain⟨Q,C⟩:∃ Q,q - 1=Q:=⟨_,rfl⟩
       obtain⟨R,D⟩:∃ R,r + k=R:=⟨_,rfl⟩
       rw[C,D] at a;have L:=a.q0
       have E:Q < q:=by omega
       have T:R < 8589934592:=by omega
       have W:=a.r0;by_cases F:4294967296<=R
       ·have c:Hid (Dig Y V g Q):=a.kJ t.out (by omega) v3 (by omega) h d j (by omega) F;have M:=c.out.q1;obtain⟨Z,z1,z2,z3,x⟩:=dt c.out z;go_wp2;go_ret2;have b:=fe hi lo y Y U o g i V Q s (by omega) u.out.1 u.out.2 v.out c.out;exact⟨nA b.1 (by rw[<- b.2,<- x.out]),rfl⟩
       ·have G:Hid (eK Y k V g Q R):=a;clear a f;go_wp2;go_round
        case rel=>exact⟨Q,R,rfl,rfl,G.out,by omega⟩
        case measure=>simp[intOf]; omega
      ·obtain⟨p,H⟩:∃ p,q * J=p:=⟨_,rfl⟩
       have p0:0<=p:=by rw[<- H]; exact Int.mul_nonneg q0 d
       have p1:p < 18446744073709551616:=by
        have:=Int.mul_le_mul (show q<=4294967295 by omega) (show J<=4294967295 by omega) d (by decide);omega
       by_cases X:4294967296 * r + g < p
       ·have a:=f.more t.out (by omega) (by omega) (by omega) (by rw[H]; exact X);obtain⟨Q,C⟩:∃ Q,q - 1=Q:=⟨_,rfl⟩
        obtain⟨R,D⟩:∃ R,r + k=R:=⟨_,rfl⟩
        rw[C,D] at a;have L:=a.q0
        have E:Q < q:=by omega
        have T:R < 8589934592:=by omega
        have W:=a.r0;by_cases F:4294967296<=R
        ·have c:Hid (Dig Y V g Q):=a.kJ t.out (by omega) v3 (by omega) h d j (by omega) F;have M:=c.out.q1;obtain⟨Z,z1,z2,z3,x⟩:=dt c.out z;go_wp2;go_ret2;have b:=fe hi lo y Y U o g i V Q s (by omega) u.out.1 u.out.2 v.out c.out;exact⟨nA b.1 (by rw[<- b.2,<- x.out]),rfl⟩
        ·have G:Hid (eK Y k V g Q R):=a;clear a f;go_wp2;go_round
         case rel=>exact⟨Q,R,rfl,rfl,G.out,by omega⟩
         case measure=>simp[intOf]; omega
       ·have c:Hid (Dig Y V g q):=f.dig t.out (by omega) v3 h (by rw[H]; omega);have M:=c.out.q1;have L:=c.out.q0;clear f
        have I:∃ Q,Q=q:=⟨_,rfl⟩
        obtain⟨Q,rfl⟩:=I;obtain⟨Z,z1,z2,z3,x⟩:=dt c.out z;go_wp2;go_ret2;have b:=fe hi lo y Y U o g i V Q s (by omega) u.out.1 u.out.2 v.out c.out;exact⟨nA b.1 (by rw[<- b.2,<- x.out]),rfl⟩
    ·have G:Hid (eK Y k U o Q R):=a;clear a f;go_wp2;go_round
     case rel=>exact⟨Q,R,rfl,rfl,G.out,by omega⟩
     case measure=>simp[intOf]; omega
   ·have c:Hid (Dig Y U o q):=f.dig t.out (by omega) u1 K (by rw[H]; omega);have M:=c.out.q1;have L:=c.out.q0;clear f
    have I:∃ Q,Q=q:=⟨_,rfl⟩
    obtain⟨Q,rfl⟩:=I;obtain⟨V,v1,v2,v3,v⟩:=dt c.out z;obtain⟨d2,l,m⟩:=ia Y k J V g t.out d j N O v2 v3 z P h;obtain⟨i,n⟩:∃ i,i=Q:=⟨_,rfl⟩
    have QQ0:0<=i:=by omega
    have aa:i < 4294967296:=by omega
    have v:Hid (V=U * 4294967296 + o - i * Y):=by rw[n]; exact v
    go_wp2_with fail;rw[<- n];clear v1 d2 n;go_loop [18,16] (fun B S=>∃ q r:Int,B=.int .u64 q/\S=.int .u64 r/\eK Y k V g q r/\r < 4294967296) (fun B _=>(intOf B).toNat)
    case atStart=>exact⟨_,_,rfl,rfl,l,m⟩
    case round =>
     clear l m c;obtain⟨q,r,rfl,rfl,f,hr⟩:=hrel;have q0:=f.q0;have qb:=f.qb;have r0:=f.r0;by_cases c1:4294967296<=q
     ·have a:=f.big h (by omega) v3 c1 (by omega);obtain⟨Q,C⟩:∃ Q,q - 1=Q:=⟨_,rfl⟩
      obtain⟨R,D⟩:∃ R,r + k=R:=⟨_,rfl⟩
      rw[C,D] at a;have L:=a.q0
      have E:Q < q:=by omega
      have T:R < 8589934592:=by omega
      have W:=a.r0;by_cases F:4294967296<=R
      ·have c:Hid (Dig Y V g Q):=a.kJ t.out (by omega) v3 (by omega) h d j (by omega) F;have M:=c.out.q1;obtain⟨Z,z1,z2,z3,x⟩:=dt c.out z;go_wp2;go_ret2;have b:=fe hi lo y Y U o g i V Q s (by omega) u.out.1 u.out.2 v.out c.out;exact⟨nA b.1 (by rw[<- b.2,<- x.out]),rfl⟩
      ·have G:Hid (eK Y k V g Q R):=a;clear a f;go_wp2;go_round
       case rel=>exact⟨Q,R,rfl,rfl,G.out,by omega⟩
       case measure=>simp[intOf]; omega
     ·obtain⟨p,H⟩:∃ p,q * J=p:=⟨_,rfl⟩
      have p0:0<=p:=by rw[<- H]; exact Int.mul_nonneg q0 d
      have p1:p < 18446744073709551616:=by
       have:=Int.mul_le_mul (show q<=4294967295 by omega) (show J<=4294967295 by omega) d (by decide);omega
      by_cases X:4294967296 * r + g < p
      ·have a:=f.more t.out (by omega) (by omega) (by omega) (by rw[H]; exact X);obtain⟨Q,C⟩:∃ Q,q - 1=Q:=⟨_,rfl⟩
       obtain⟨R,D⟩:∃ R,r + k=R:=⟨_,rfl⟩
       rw[C,D] at a;have L:=a.q0
       have E:Q < q:=by omega
       have T:R < 8589934592:=by omega
       have W:=a.r0;by_cases F:4294967296<=R
       ·have c:Hid (Dig Y V g Q):=a.kJ t.out (by omega) v3 (by omega) h d j (by omega) F;have M:=c.out.q1;obtain⟨Z,z1,z2,z3,x⟩:=dt c.out z;go_wp2;go_ret2;have b:=fe hi lo y Y U o g i V Q s (by omega) u.out.1 u.out.2 v.out c.out;exact⟨nA b.1 (by rw[<- b.2,<- x.out]),rfl⟩
       ·have G:Hid (eK Y k V g Q R):=a;clear a f;go_wp2;go_round
        case rel=>exact⟨Q,R,rfl,rfl,G.out,by omega⟩
        case measure=>simp[intOf]; omega
      ·have c:Hid (Dig Y V g q):=f.dig t.out (by omega) v3 h (by rw[H]; omega);have M:=c.out.q1;have L:=c.out.q0;clear f
       have I:∃ Q,Q=q:=⟨_,rfl⟩
       obtain⟨Q,rfl⟩:=I;obtain⟨Z,z1,z2,z3,x⟩:=dt c.out z;go_wp2;go_ret2;have b:=fe hi lo y Y U o g i V Q s (by omega) u.out.1 u.out.2 v.out c.out;exact⟨nA b.1 (by rw[<- b.2,<- x.out]),rfl⟩
theorem lY(lo y:Int)(w:World)(hy:0 < y)(b:0<=lo)(l1:lo < 18446744073709551616)(y1:y < 18446744073709551616) :
  Calls Tryz.prog 166 #[.int .u64 0,.int .u64 lo,.int .u64 y] w fun e w'=>e=.returned (.tuple #[.int .u64 (lo / y),.int .u64 (lo % y)])/\∃ n,w'=w.drewN n:=by
 have a:(y == 0)=false:=beq_eq_false_iff_ne.2 (by omega);go_enter Tryz.func166,Tryz.ntmps166;go_wp2_with fail;go_quiet (fail);go_wp2;go_ret2;exact⟨rfl,_,rfl⟩
theorem div64(hi lo y:Int)(w:World)(f:0<=hi)(d:hi < y)(b:0<=lo)(l1:lo < 18446744073709551616)(y1:y < 18446744073709551616) :
  Calls Tryz.prog 166 #[.int .u64 hi,.int .u64 lo,.int .u64 y] w fun e w'=>∃ q r:Int,e=.returned (.tuple #[.int .u64 q,.int .u64 r])/\0<=q/\q < 18446744073709551616/\0<=r/\r < y/\Hid (q * y + r=hi * 18446744073709551616 + lo)/\∃ n,w'=w.drewN n:=by
 have fin:∀ N:Int,0<=N->N < y * 18446744073709551616->0<=N / y/\N / y < 18446744073709551616/\0<=N % y/\N % y < y/\Hid (N / y * y + N % y=N):=by
  intro N n0 a;refine⟨Int.ediv_nonneg n0 (by omega),(Int.ediv_lt_iff_lt_mul (by omega)).2 (by rw[Int.mul_comm]; exact a),Int.emod_nonneg _ (by omega),Int.emod_lt_of_pos _ (by omega),?_⟩
  show _=_
  rw[Int.mul_comm]; exact Int.mul_ediv_add_emod N y
 by_cases c:hi=0
 ·subst c;refine(lY lo y w (by omega) b l1 y1).mono ?_
  rintro e w' ⟨rfl,hw⟩;obtain⟨f1,f2,f3,f4,f5⟩:=fin lo b (by omega);exact⟨_,_,rfl,f1,f2,f3,f4,by simpa using f5,hw⟩
 ·refine(nQ hi lo y w (by omega) d b l1 y1).mono ?_
  rintro e w' ⟨rfl,rfl⟩;obtain⟨f1,f2,f3,f4,f5⟩:=fin (hi * 18446744073709551616 + lo) (by omega) (by omega);exact⟨_,_,rfl,f1,f2,f3,f4,f5,0,rfl⟩
end
end
section
open Go.RowKit Lim
section
variable {l:List Int}{h:Nat}
theorem dU(hl:h < l.length):val (l.drop h)=nth l h + 18446744073709551616 * val (l.drop (h + 1)):=by
 rw[List.drop_eq_getElem_cons hl,val,bS hl]
structure jw(lz:List Int)(d:Int)(h:Nat)(lz1:List Int)(left:Int):Prop where
 len:lz1.length=lz.length
 words:Words lz1
 low:∀ i,i < h->nth lz1 i=nth lz i
 val:Lim.val (lz1.drop h) * d + left=Lim.val (lz.drop h)
theorem jw.step{lz lz1:List Int}{d left q r:Int}(a:jw lz d (h + 1) lz1 left)(c:h < lz.length)(q0:0<=q)(q1:q < 18446744073709551616)(e:q * d + r=left * 18446744073709551616 + nth lz h):jw lz d h (lz1.set h q) r:=by
 have b:=a.len;refine⟨by simp[b],a.words.set h q0 q1,fun i hi=>by rw[dy (by omega),if_neg (by omega)]; exact a.low i (by omega),?_⟩;rw[dU (by simp; omega),dy (by omega),if_pos rfl,List.drop_set,if_pos (by omega),dU c,<- a.val];grind
theorem gE(J:Option Addr)(G F E O:Nat)(d:Int)(lz:List Int)(w:World)(H:lz.length=E)(N:E<=2199023255552)(I:E<=O)(d0:0 < d)(d1:d < 18446744073709551616)(M:Words lz)(K:At w J G F lz)(L:dB w G F E) :
  Calls Tryz.prog 113 #[.slice J E O,.int .u64 d] w fun e w'=>∃ (left:Int) (lz':List Int),e=.returned (.int .u64 left)/\0<=left/\left < d/\lz'.length=E/\Words lz'/\At w' J G F lz'/\Wr G F E w w'/\val lz' * d + left=val lz:=by
 go_enter Tryz.func113,Tryz.ntmps113;go_wp2;go_loopw [5,10] (fun x j wr=>∃ (k:Nat) (c:Int) (a:List Int),k<=E/\j=.int .i64 k/\x=.int .u64 c/\0<=c/\c < d/\jw lz d (E - k) a c/\At wr J G F a/\Wr G F E w wr) (fun _ j _=>E - (intOf j).toNat)
 case atStart=>exact⟨0,0,lz,Nat.zero_le _,rfl,rfl,by decide,d0,⟨rfl,M,fun _ _=>rfl,by simp[<- H,val]⟩,K,Wr.refl _ _ _ _⟩
 case round =>
  obtain⟨k,c,a,D,rfl,rfl,g,i,hinv,b,f⟩:=hrel;have l:=hinv.len;by_cases y:k < E
  ·rcases K.loc with e | rfl
   ·subst e; simp at H; omega
   obtain⟨h,t⟩:∃ h:Nat,E=h + 1 + k:=⟨E - 1 - k,by omega⟩
   have I:=b.cell h (by omega);have z:=f.free L h (by omega);have m:=M.nth h;rw[hinv.low h (by omega)] at I
   have u:(E:Int) - 1 - k=h:=by omega
   have A:(h:Int) < E:=by omega
   obtain⟨n,o⟩:=m
   have B:Hid (jw lz d (h + 1) a c):=by rw[show h + 1=E - k from by omega]; exact hinv
   have C:Hid (E=h + 1 + k):=t;clear t hinv K M;go_wp2_with (go_at_call 166; refine(div64 _ _ _ _ g i n o d1).mono ?_; rintro e w' ⟨q,r,rfl,q0,q1,r0,r1,p,v,rfl⟩);have hn:=C.out;refine⟨⟨k + 1,r,a.set h q,by omega,by go_num,rfl,r0,r1,by rw[show E - (k + 1)=h from by omega]; exact B.out.step (by omega) q0 q1 p.out,?_,?_⟩,by simp[intOf]; omega⟩
   ·exact(b.setCell (by omega) q).drewN v
   ·exact(f.setCell (by omega) (by omega) _).drewN v
  ·have s:k=E:=by omega
   subst s;go_wp2;go_ret;refine⟨c,a,rfl,g,i,by omega,hinv.words,b,f,?_⟩;have:=hinv.val;rwa [Nat.sub_self,List.drop_zero,List.drop_zero] at this
end
end
section
open Go.RowKit Lim
theorem dF.of {w w':World} {l:List Int} {ao:Option Addr} {n c b o:Nat} (hn:n=l.length) (d:n<=c) (f:w.heap.size<=b) (a:At w' ao b o l) (e:dB w' b o n):dF w w' (.slice ao n c) l:=by
 subst hn; exact⟨ao,b,o,c,rfl,d,f,a,e⟩
theorem jM (ao:Option Addr) (n c b o:Nat) (l:List Int) (w:World) (u:l.length=n) (hc:n<=c) (s:n<=1099511627776) (t:At w ao b o l) :
  Calls Tryz.prog 112 #[.slice ao n c] w fun e w'=>e=.returned (.slice (some ⟨w.heap.size,0,none⟩) (aE l) (aE l))/\Row w' w.heap.size (norm l)/\Below w.heap.size w w':=by
 have hn:=bp l;have t1:=bh ao n c l w u hc (by omega) t.cells;have hs:=t.sub (aE l);have g:=aJ l;rw[show l.take (aE l)=norm l from rfl] at hs;generalize aE l=N at *;generalize norm l=L at *;go_enter Tryz.func112,Tryz.ntmps112;go_wp2_with fail;refine t1.mono ?_
 rintro e k ⟨rfl,rfl⟩;clear t1;go_wp2_with (first
  | (at_make; refine m rfl _ _ rfl N _ _ rfl rfl rfl rfl (by omega) ?_; intro p f a j; have h:=hs.keep a)
  | (refine q rfl (.tmp 10) (.tmp 11) rfl _ _ _ _ _ _ rfl rfl _ _ f (by simp) _ _ g (Nat.le_refl _) h ?_; intro r d i))
 go_ret;refine⟨rfl,?_,?_⟩
 ·simpa using d
 ·exact a.trans (i.below (Nat.le_refl _))
end
section
open Go.RowKit Lim
section
variable {lz lb lz1:List Int}{m c:Int}{k:Nat}
theorem ze(z x m c hi lo:Int)(b:0<=z/\z < 18446744073709551616)(hc:0<=c/\c < 18446744073709551616)(d:0<=hi)(g:hi<=18446744073709551614)(a:0<=lo)(f:lo < 18446744073709551616)(e:hi * 18446744073709551616 + lo=x * m)(hb:x * m<=340282366920938463426481119284349108225) :
  0<=hi + (lo + c) / 18446744073709551616/\hi + (lo + c) / 18446744073709551616<=18446744073709551615 /\
  0<=hi + (lo + c) / 18446744073709551616 + (z + (lo + c) % 18446744073709551616) / 18446744073709551616 /\
  hi + (lo + c) / 18446744073709551616 + (z + (lo + c) % 18446744073709551616) / 18446744073709551616<=18446744073709551615 /\
  (z + (lo + c) % 18446744073709551616) % 18446744073709551616 + 18446744073709551616 * (hi + (lo + c) / 18446744073709551616 + (z + (lo + c) % 18446744073709551616) / 18446744073709551616)=z + x * m + c:=by
 omega
def dh(lz lb:List Int)(m:Int)(k:Nat)(lz1:List Int)(c:Int):Prop :=
 lz1.length=lz.length/\Words lz1/\(∀ i,k<=i->nth lz1 i=nth lz i)/\val (lz1.take k) + 18446744073709551616 ^ k * c=val (lz.take k) + val (lb.take k) * m
theorem dh.step{j c':Int}(h:dh lz lb m k lz1 c)(o:k < lz.length)(n:0<=j)(l:j < 18446744073709551616)(e:j + 18446744073709551616 * c'=nth lz k + nth lb k * m + c):dh lz lb m (k + 1) (lz1.set k j) c':=by
 obtain⟨a,b,d,g⟩:=h;refine⟨by simp[a],b.set k n l,fun i hi => ?_,?_⟩
 ·rw[dy (by omega),if_neg (by omega)]; exact d i (by omega)
 ·have hb:val (lb.take (k + 1))=val (lb.take k) + 18446744073709551616 ^ k * nth lb k:=by
   by_cases f:k < lb.length
   ·exact du f
   ·rw[List.take_of_length_le (by omega),List.take_of_length_le (by omega),fN (by omega)]; simp
  rw[du (by simp[a]; omega),du o,hb,List.take_set_of_le (Nat.le_refl _),dy (by omega),if_pos rfl,Int.pow_succ];have:18446744073709551616 ^ k * (j + 18446744073709551616 * c')=18446744073709551616 ^ k * (nth lz k + nth lb k * m + c):=by rw[e]
  grind
theorem dh.done{n:Nat}(hn:lz.length=n)(h:dh lz lb m k lz1 c)(hc:c=0\/lz.length=k)(r:lb.length<=k)(q:k<=n) :
  val lz1=(val lz + val lb * m) % 18446744073709551616 ^ n:=by
 obtain⟨d,f,j,b⟩:=h;rw[List.take_of_length_le (l:=lb) (by omega)] at b;have a:=dx f;have g:=aL f;rw[d,hn] at a;rcases hc with e | e
 ·subst e
  have o:lz1.drop k=lz.drop k:=lD (by simp[d]) fun i hi=>by rw[dD,dD]; exact j _ (by omega)
  have e1:=bE lz1 k (by omega);have e2:=bE lz k (by omega);rw[o] at e1;have:val lz + val lb * m=val lz1:=by rw[e1,e2]; simp only[Int.mul_zero,Int.add_zero] at b; omega
  rw[this];exact(Int.emod_eq_of_lt g a).symm
 ·have p:k=n:=by omega
  subst p;rw[List.take_of_length_le (l:=lz1) (by omega),List.take_of_length_le (l:=lz) (by omega)] at b;rw[<- b,Int.add_mul_emod_self_left];exact(Int.emod_eq_of_lt g a).symm
theorem ep(az : Option Addr)(V W U cz : Nat)(ab : Option Addr)(bb ob Z cb : Nat)(m : Int)(lz lb : List Int)(w : World)(ac : lz.length = U)(hnb : lb.length = Z)(hle : Z ≤ U)(hbig : U ≤ 2199023255552)(X : U ≤ cz)(hcb : Z ≤ cb)(hm0 : 0 ≤ m)(hm1 : m < 18446744073709551616)(wz : Words lz)(wb : Words lb)(hz : At w az V W lz)(Y : dB w V W U)(hb : At w ab bb ob lb)(aa : lb = [] ∨ bb ≠ V) :
    Calls Tryz.prog 59 #[.slice az U cz, .slice ab Z cb, .int .u64 m] w fun e w' => e = .returned (.tuple #[]) ∧
      ∃ lz', lz'.length = U ∧ Words lz' ∧ At w' az V W lz' ∧ Wr V W U w w' ∧ val lz' = (val lz + val lb * m) % 18446744073709551616 ^ U := by
  go_enter Tryz.func59, Tryz.ntmps59;go_wp2;go_loopw [6, 14] (fun v n wr => ∃ (k : Nat) (c : Int) (f : List Int), k ≤ Z ∧ n = .int .i64 k ∧ v = .int .u64 c ∧ 0 ≤ c ∧ c < 18446744073709551616 ∧ dh lz lb m k f c ∧ At wr az V W f ∧ Wr V W U w wr) (fun _ n _ => Z - (intOf n).toNat)
  case atStart => exact⟨0, 0, lz, Nat.zero_le _, rfl, rfl, by decide, by decide, ⟨rfl, wz, fun _ _ => rfl, by simp[val]⟩, hz, Wr.refl _ _ _ _⟩
  case round =>
    obtain⟨k, c, f, S, rfl, rfl, g, o, hinv, b, a⟩:= hrel;have p := hinv.1;by_cases K : k < Z
    · rcases hb.loc with e | rfl
      · subst e; simp at hnb; omega
      rcases hz.loc with e | rfl
      · subst e; simp at ac; omega
      have s := hb.wr a aa;have hcb := s.cell k (by omega);have X := b.cell k (by omega);have x := a.free Y k (by omega);have hx := wb.nth k;have q := wz.nth k;rw[hinv.2.2.1 k (Nat.le_refl _)] at X;obtain⟨y, z⟩:= hx;obtain⟨h, t⟩:= q
      have r : Hid (dh lz lb m k f c) := hinv
      have A : Hid (At wr (some ⟨V, W, none⟩) V W f) := b
      have B : Hid (Wr V W U w wr) := a;clear hinv b a s hz hb Y wz wb aa;go_wp2_with (first
        | (go_at_call 89; refine(lA _ _ y z hm0 hm1 _).mono ?_; rintro e w' ⟨hi, lo, rfl, L, M, H, N, O, rfl⟩)
        | simp only[rP _ _ H g]
        | simp only[Bw _ _ h])
      have C : nth lb k * m ≤ 340282366920938463426481119284349108225 := by
        have := Int.mul_le_mul (show nth lb k ≤ 18446744073709551615 by omega) (show m ≤ 18446744073709551615 by omega) hm0 (by decide);simpa using this
      obtain⟨s1, s2, s3, s4, u⟩:= ze (nth lz k) (nth lb k) m c hi lo ⟨h, t⟩ ⟨g, o⟩ L M H N O C;rw[Int.add_emod_emod] at u;rw[IntWalk.u64_in _ ⟨s3, s4⟩];refine⟨⟨k + 1, _, _, by omega, by go_num, rfl, s3, by omega, r.out.step (by omega) (Int.emod_nonneg _ (by decide)) (Int.emod_lt_of_pos _ (by decide)) u, A.out.setCell (by omega) _, B.out.setCell (by omega) (by omega) _⟩, by simp[intOf]; omega⟩
    · have D : k = Z := by omega
      subst D
      have r : Hid (dh lz lb m k f c) := hinv;clear hinv;go_wp2;go_loopw [6, 11] (fun v n wr => ∃ (j : Nat) (c : Int) (f : List Int), k ≤ j ∧ j ≤ U ∧ n = .int .i64 j ∧ v = .int .u64 c ∧ 0 ≤ c ∧ c < 18446744073709551616 ∧ dh lz lb m j f c ∧ At wr az V W f ∧ Wr V W U w wr) (fun _ n _ => U - (intOf n).toNat)
      case atStart => exact⟨k, c, f, Nat.le_refl _, by omega, rfl, rfl, g, o, r.out, b, a⟩
      case round =>
        clear b a r p g o;obtain⟨j, d, i, P, T, rfl, rfl, E, Q, hinv, b, a⟩:= hrel;have F := hinv.1;by_cases I : j < U
        · by_cases J : d = 0
          · subst J
            go_wp2;go_end0;refine⟨rfl, i, by omega, hinv.2.1, b, a, ?_⟩;exact dh.done (by omega) hinv (.inl rfl) (by omega) (by omega)
          · rcases hz.loc with e | rfl
            · subst e; simp at ac; omega
            have X := b.cell j (by omega);have x := a.free Y j (by omega);have q := wz.nth j;rw[hinv.2.2.1 j (Nat.le_refl _)] at X;obtain⟨h, t⟩:= q
            have R : (d != 0) = true := by rw[bne_iff_ne]; exact J
            have r : Hid (dh lz lb m j i d) := hinv
            have A : Hid (At wr (some ⟨V, W, none⟩) V W i) := b
            have B : Hid (Wr V W U w wr) := a;clear hinv b a hz hb Y wz wb aa;go_wp2_with (simp only[rP _ _ h E])
            have u : (nth lz j + d) % 18446744073709551616 + 18446744073709551616 * ((nth lz j + d) / 18446744073709551616) = nth lz j + nth lb j * m + d := by
              rw[fN (l := lb) (by omega)]; omega
            refine⟨⟨j + 1, _, _, by omega, by omega, by go_num, rfl, by omega, by omega, r.out.step (by omega) (Int.emod_nonneg _ (by decide)) (Int.emod_lt_of_pos _ (by decide)) u, A.out.setCell (by omega) _, B.out.setCell (by omega) (by omega) _⟩, by simp[intOf]; omega⟩
        · have G : j = U := by omega
          subst G;go_wp2;go_end0;refine⟨rfl, i, by omega, hinv.2.1, b, a, ?_⟩;exact dh.done (by omega) hinv (.inr ac) (by omega) (by omega)
end
end
section
open Go.RowKit Lim
section
variable {l:List Int}
theorem o6{n:Int}(h:IsN l n):0<=n/\n < 18446744073709551616 ^ l.length:=by
 rw[<- h.2.2]; exact⟨aL h.1,dx h.1⟩
theorem pow_pos(k:Nat):(0:Int) < 18446744073709551616 ^ k:=Int.pow_pos (by decide)
theorem vE{L L' lz:List Int}{x y:Int}(hL:IsN L x)(a:IsN L' y)(hle:L'.length<=L.length)(hw:Words lz)(b:val lz=(val (L ++ [0]) + val L' * 1) % 18446744073709551616 ^ (L.length + 1)):IsN (norm lz) (x + y):=by
 have g:=o6 hL;have d:=o6 a;have c:=gR hle;have f:=pow_pos L.length
 have e:val (L ++ [0]) + val L' * 1=x + y:=by rw[ea,hL.2.2,a.2.2]; simp[val]
 rw[e,Int.emod_eq_of_lt (by omega) (by rw[Int.pow_succ]; omega)] at b;rw[<- b];exact b8 hw
theorem ey(n:Nat):Words (List.replicate n 0):=fun x hx=>by rw[List.eq_of_mem_replicate hx]; decide
theorem Ct(ao:Option Addr)(n c b o:Nat)(ao':Option Addr)(n' c' b' o':Nat)(l l':List Int)(w:World)(hl:l.length=n)(hl':l'.length=n')(hc:n<=c)(hc':n'<=c')(hbig:n<=1099511627776)(hbig':n'<=1099511627776)(wl:Words l)(wl':Words l')(ha:At w ao b o l)(ha':At w ao' b' o' l') :
  Calls Tryz.prog 23 #[.slice ao n c,.slice ao' n' c'] w fun e w'=>∃ v r,e=.returned v/\dF w w' v r/\IsN r (val l + val l')/\r.length<=n + n' + 1/\Below w.heap.size w w':=by
 have hn:=bp l
 have V:=bp l';have t1:=bh ao n c l w hl hc (by omega) ha.cells;have t2:=bh ao' n' c' l' w hl' hc' (by omega) ha'.cells;have hs:=ha.sub (q l)
 have A:=ha'.sub (q l');have B:=aJ l
 have p:=aJ l';have M:=b8 wl
 have C:=b8 wl';rw[show l.take (q l)=norm l from rfl] at hs;rw[show l'.take (q l')=norm l' from rfl] at A;generalize q l=N at *;generalize q l'=E at *;generalize norm l=L at *;generalize norm l'=O at *;clear ha ha';go_enter Tryz.func23,Tryz.ntmps23;go_wp2_with fail;refine t1.mono ?_
 rintro e Z ⟨rfl,rfl⟩;go_wp2_with fail;refine t2.mono ?_
 rintro e D ⟨rfl,rfl⟩;clear t1 t2;by_cases W:N < E
 ·have s:L=[]\/b≠D.heap.size:=by
   rcases hs.lt with e | e
   ·exact .inl e
   ·exact .inr (by omega)
  go_wp2_with (first
   | (at_make; refine cU rfl _ _ rfl (E + 1) _ _ rfl rfl (by omega) (by omega) (by omega) ?_; intro X m a P; have t:=A.keep a; have u:=hs.keep a)
   | (refine gk rfl (.tmp 23) (.tmp 24) rfl _ _ _ _ _ _ rfl rfl _ _ m (by simp) _ _ p (by omega) t ?_; intro J d f))
  have k:Row J D.heap.size (O ++ [0]):=by
   have:=d; rw[List.drop_replicate,show E + 1 - E=1 from by omega] at this; simpa using this
  have x:=u.wr f s;refine(ep _ D.heap.size 0 _ _ _ b o _ _ 1 (O ++ [0]) L J (by simp[p]) B (by omega) (by omega) (Nat.le_refl _) (Nat.le_refl _) (by decide) (by decide) (C.1.append (ey 1)) M.1 k.at (k.free _ _) x s).mono ?_
  rintro e Q ⟨rfl,j,F,G,g,h,y⟩
  have S:IsN (norm j) (_ + _):=vE C M (by omega) G (by rw[y,p]);have H:=h.free (k.free 0 (E + 1));have T:=bp j;have I:=aJ j;have z:=g.sub (q j);have U:=(a.trans (f.below (Nat.le_refl _))).trans (h.below (Nat.le_refl _));rw[show j.take (q j)=norm j from rfl] at z;have t3:=bh (some ⟨D.heap.size,0,none⟩) (E + 1) (E + 1) j Q F (Nat.le_refl _) (by omega) g.cells;clear k x u t m d f h a g y;generalize q j=K at *;generalize norm j=R at *;go_wp2_with fail;refine t3.mono ?_
  rintro e Y ⟨rfl,rfl⟩;go_wp2;go_ret;exact⟨_,R,rfl,dF.of I.symm (Nat.le_refl _) (Nat.le_refl _) z (fun i hi=>H i (by omega)),by rw[Int.add_comm]; exact S,by omega,U⟩
 ·have s:O=[]\/b'≠D.heap.size:=by
   rcases A.lt with e | e
   ·exact .inl e
   ·exact .inr (by omega)
  go_wp2_with (first
   | (at_make; refine cU rfl _ _ rfl (N + 1) _ _ rfl rfl (by omega) (by omega) (by omega) ?_; intro X m a P; have t:=hs.keep a; have u:=A.keep a)
   | (refine gk rfl (.tmp 23) (.tmp 24) rfl _ _ _ _ _ _ rfl rfl _ _ m (by simp) _ _ B (by omega) t ?_; intro J d f))
  have k:Row J D.heap.size (L ++ [0]):=by
   have:=d; rw[List.drop_replicate,show N + 1 - N=1 from by omega] at this; simpa using this
  have x:=u.wr f s;refine(ep _ D.heap.size 0 _ _ _ b' o' _ _ 1 (L ++ [0]) O J (by simp[B]) p (by omega) (by omega) (Nat.le_refl _) (Nat.le_refl _) (by decide) (by decide) (M.1.append (ey 1)) C.1 k.at (k.free _ _) x s).mono ?_
  rintro e Q ⟨rfl,j,F,G,g,h,y⟩
  have S:IsN (norm j) (_ + _):=vE M C (by omega) G (by rw[y,B]);have H:=h.free (k.free 0 (N + 1));have T:=bp j;have I:=aJ j;have z:=g.sub (q j);have U:=(a.trans (f.below (Nat.le_refl _))).trans (h.below (Nat.le_refl _));rw[show j.take (q j)=norm j from rfl] at z;have t3:=bh (some ⟨D.heap.size,0,none⟩) (N + 1) (N + 1) j Q F (Nat.le_refl _) (by omega) g.cells;clear k x u t m d f h a g y;generalize q j=K at *;generalize norm j=R at *;go_wp2_with fail;refine t3.mono ?_
  rintro e Y ⟨rfl,rfl⟩;go_wp2;go_ret;exact⟨_,R,rfl,dF.of I.symm (Nat.le_refl _) (Nat.le_refl _) z (fun i hi=>H i (by omega)),S,by omega,U⟩
end
end
section
open Go.RowKit Lim
theorem yu (x y:Int):0<=bor x y/\bor x y<=1:=by unfold bor; split<;>decide
theorem uy (x y:Int) (hx:0<=x/\x < 18446744073709551616) (hy:0<=y/\y < 18446744073709551616):(x - y) % 18446744073709551616=x - y + 18446744073709551616 * bor x y:=by
 unfold bor; split<;>omega
theorem Cb (x y:Int) (hx:0<=x) (a:x < 18446744073709551616) (w:World):(callFunc 168 #[.int .u64 x,.int .u64 (y % 18446744073709551616),.int .u64 0]).run Tryz.prog w =
  .ok (.value (.tuple #[.int .u64 ((x - y % 18446744073709551616) % 18446744073709551616),.int .u64 (bor x (y % 18446744073709551616))])) w :=
 D5 x _ hx a (Int.emod_nonneg _ (by decide)) (Int.emod_lt_of_pos _ (by decide)) w
theorem vY (z x m c hi lo:Int) (a:0<=z/\z < 18446744073709551616) (hc:0<=c/\c < 18446744073709551616) (d:0<=hi) (g:hi<=18446744073709551614) (b:0<=lo) (f:lo < 18446744073709551616) (e:hi * 18446744073709551616 + lo=x * m)
  (hb:x * m<=340282366920938463426481119284349108225) :
  0<=hi + (lo + c) / 18446744073709551616/\hi + (lo + c) / 18446744073709551616<=18446744073709551615 /\
  0<=hi + (lo + c) / 18446744073709551616 + bor z ((lo + c) % 18446744073709551616) /\
  hi + (lo + c) / 18446744073709551616 + bor z ((lo + c) % 18446744073709551616)<=18446744073709551615 /\
  (z - (lo + c) % 18446744073709551616) % 18446744073709551616 + 18446744073709551616 * (-(hi + (lo + c) / 18446744073709551616 + bor z ((lo + c) % 18446744073709551616)))=z + x * -m + -c:=by
 rw[uy z _ a ⟨by omega,by omega⟩,show x * -m = -(x * m) from Int.mul_neg x m];have:=yu z ((lo + c) % 18446744073709551616);unfold bor at *;split<;>omega
theorem dh.fP {lz lb lz1:List Int} {m c:Int} {k n:Nat} (hn:lz.length=n) (h:dh lz lb m k lz1 c) (hc:c=0\/lz.length=k) (p:lb.length<=k) (o:k<=n) :
  val lz1 + 18446744073709551616 ^ n * c=val lz + val lb * m:=by
 obtain⟨b,j,d,a⟩:=h;rw[List.take_of_length_le (l:=lb) (by omega)] at a;rcases hc with e | e
 ·subst e
  have f:lz1.drop k=lz.drop k:=lD (by simp[b]) fun i hi=>by rw[dD,dD]; exact d _ (by omega)
  have e1:=bE lz1 k (by omega);have e2:=bE lz k (by omega);rw[f] at e1;simp only[Int.mul_zero,Int.add_zero] at a ⊢;rw[e1,e2]; omega
 ·have g:k=n:=by omega
  subst g;rw[List.take_of_length_le (l:=lz1) (by omega),List.take_of_length_le (l:=lz) (by omega)] at a;exact a
theorem iJ (az : Option Addr) (Y Z X cz : Nat) (ab : Option Addr) (bb ob nb cb : Nat) (m : Int) (lz lb : List Int) (w : World)
    (hnz : lz.length = X) (hnb : lb.length = nb) (hle : nb ≤ X) (hbig : X ≤ 2199023255552) (aa : X ≤ cz) (hcb : nb ≤ cb) (hm0 : 0 ≤ m) (hm1 : m < 18446744073709551616)
    (wz : Words lz) (wb : Words lb) (hz : At w az Y Z lz) (ac : dB w Y Z X) (hb : At w ab bb ob lb) (hne : lb = [] ∨ bb ≠ Y) :
    Calls Tryz.prog 117 #[.slice az X cz, .slice ab nb cb, .int .u64 m] w fun e w' => ∃ fP : Int, e = .returned (.int .u64 fP) ∧ 0 ≤ fP ∧ fP < 18446744073709551616 ∧
      ∃ lz', lz'.length = X ∧ Words lz' ∧ At w' az Y Z lz' ∧ Wr Y Z X w w' ∧ val lz' = val lz - val lb * m + 18446744073709551616 ^ X * fP := by
  have fin : ∀ (j : Nat) (d : Int) (g : List Int) (wr : World), nb ≤ j → j ≤ X → 0 ≤ d → d < 18446744073709551616 → dh lz lb (-m) j g (-d) → At wr az Y Z g → Wr Y Z X w wr → (d = 0 ∨ X = j) →
      ∃ fP : Int, Ending.returned (.int .u64 d) = .returned (.int .u64 fP) ∧ 0 ≤ fP ∧ fP < 18446744073709551616 ∧
      ∃ lz', lz'.length = X ∧ Words lz' ∧ At wr az Y Z lz' ∧ Wr Y Z X w wr ∧ val lz' = val lz - val lb * m + 18446744073709551616 ^ X * fP := by
    intro j d g wr O C A D v S h7 h8;refine⟨d, rfl, A, D, g, by rw[v.1, hnz], v.2.1, S, h7, ?_⟩;have := v.fP hnz (by rcases h8 with e | e
                            · left; omega
                            · right; omega) (by omega) C
    rw[Int.mul_neg, Int.mul_neg] at this;omega
  have x := (show Hid _ from fin);clear fin;go_enter Tryz.func117, Tryz.ntmps117;go_wp2;go_loopw [7, 15] (fun E q wr => ∃ (k : Nat) (c : Int) (f : List Int), k ≤ nb ∧ q = .int .i64 k ∧ E = .int .u64 c ∧ 0 ≤ c ∧ c < 18446744073709551616 ∧ dh lz lb (-m) k f (-c) ∧ At wr az Y Z f ∧ Wr Y Z X w wr) (fun _ q _ => nb - (intOf q).toNat)
  case atStart => exact⟨0, 0, lz, Nat.zero_le _, rfl, rfl, by decide, by decide, ⟨rfl, wz, fun _ _ => rfl, by simp[val]⟩, hz, Wr.refl _ _ _ _⟩
  case round =>
    obtain⟨k, c, f, W, rfl, rfl, n, r, hinv, b, a⟩:= hrel;have s := hinv.1;by_cases T : k < nb
    · rcases hb.loc with e | rfl
      · subst e; simp at hnb; omega
      rcases hz.loc with e | rfl
      · subst e; simp at hnz; omega
      have y := hb.wr a hne;have hcb := y.cell k (by omega);have aa := b.cell k (by omega);have F := a.free ac k (by omega);have hx := wb.nth k;have t := wz.nth k;rw[hinv.2.2.1 k (Nat.le_refl _)] at aa;obtain⟨G, H⟩:= hx;obtain⟨h, i⟩:= t
      have u : Hid (dh lz lb (-m) k f (-c)) := hinv
      have I : Hid (At wr (some ⟨Y, Z, none⟩) Y Z f) := b
      have J : Hid (Wr Y Z X w wr) := a;clear hinv b a y hz hb ac wz wb hne;go_wp2_with (first
        | (go_at_call 89; refine(lA _ _ G H hm0 hm1 _).mono ?_; rintro e w' ⟨hi, lo, rfl, O, C, A, D, v, rfl⟩)
        | simp only[rP _ _ A n]
        | simp only[Cb _ _ h i])
      have K : nth lb k * m ≤ 340282366920938463426481119284349108225 := by
        have := Int.mul_le_mul (show nth lb k ≤ 18446744073709551615 by omega) (show m ≤ 18446744073709551615 by omega) hm0 (by decide);simpa using this
      obtain⟨s1, s2, s3, s4, B⟩:= vY (nth lz k) (nth lb k) m c hi lo ⟨h, i⟩ ⟨n, r⟩ O C A D v K;rw[Int.sub_emod_emod] at B;rw[IntWalk.u64_in _ ⟨s3, s4⟩];refine⟨⟨k + 1, _, _, by omega, by go_num, rfl, s3, by omega, u.out.step (by omega) (Int.emod_nonneg _ (by decide)) (Int.emod_lt_of_pos _ (by decide)) B, I.out.setCell (by omega) _, J.out.setCell (by omega) (by omega) _⟩, by simp[intOf]; omega⟩
    · have L : k = nb := by omega
      subst L
      have u : Hid (dh lz lb (-m) k f (-c)) := hinv;clear hinv;go_wp2;go_loopw [7, 12] (fun E q wr => ∃ (j : Nat) (c : Int) (f : List Int), k ≤ j ∧ j ≤ X ∧ q = .int .i64 j ∧ E = .int .u64 c ∧ 0 ≤ c ∧ c < 18446744073709551616 ∧ dh lz lb (-m) j f (-c) ∧ At wr az Y Z f ∧ Wr Y Z X w wr) (fun _ q _ => X - (intOf q).toNat)
      case atStart => exact⟨k, c, f, Nat.le_refl _, by omega, rfl, rfl, n, r, u.out, b, a⟩
      case round =>
        clear b a u s n r;obtain⟨j, d, g, z, P, rfl, rfl, o, p, hinv, b, a⟩:= hrel;have M := hinv.1;by_cases Q : j < X
        · by_cases R : d = 0
          · subst R
            go_wp2;go_ret;exact x.out j 0 g _ z P o p hinv b a (.inl rfl)
          · rcases hz.loc with e | rfl
            · subst e; simp at hnz; omega
            have aa := b.cell j (by omega);have F := a.free ac j (by omega);have t := wz.nth j;rw[hinv.2.2.1 j (Nat.le_refl _)] at aa;obtain⟨h, i⟩:= t
            have U : (d != 0) = true := by rw[bne_iff_ne]; exact R
            have u : Hid (dh lz lb (-m) j g (-d)) := hinv
            have I : Hid (At wr (some ⟨Y, Z, none⟩) Y Z g) := b
            have J : Hid (Wr Y Z X w wr) := a;clear hinv b a hz hb ac wz wb hne;go_wp2_with (simp only[D5 _ _ h i o p]);have V := yu (nth lz j) d
            have B : (nth lz j - d) % 18446744073709551616 + 18446744073709551616 * -bor (nth lz j) d = nth lz j + nth lb j * -m + -d := by
              rw[fN (l := lb) (by omega), uy _ _ ⟨h, i⟩ ⟨o, p⟩]; omega
            refine⟨⟨j + 1, _, _, by omega, by omega, by go_num, rfl, by omega, by omega, u.out.step (by omega) (Int.emod_nonneg _ (by decide)) (Int.emod_lt_of_pos _ (by decide)) B, I.out.setCell (by omega) _, J.out.setCell (by omega) (by omega) _⟩, by simp[intOf]; omega⟩
        · have N : j = X := by omega
          subst N;go_wp2;go_ret;exact x.out j d g _ z P o p hinv b a (.inr rfl)
end
section
open Go.RowKit Lim
theorem BV {L L' lz:List Int} {x y fP:Int} (hL:IsN L x) (g:IsN L' y) (hle:y<=x) (hw:Words lz) (j:lz.length=L.length) (k:0<=fP)
  (i:val lz=val L - val L' * 1 + 18446744073709551616 ^ L.length * fP):IsN (norm lz) (x - y):=by
 have d:=o6 hL;have e:=o6 g;have a:=dx hw;have f:=aL hw;have b:=pow_pos L.length;rw[hL.2.2,g.2.2] at i;rw[j] at a
 have c:fP=0:=by
  by_cases h:0 < fP
  ·have:18446744073709551616 ^ L.length * 1<=18446744073709551616 ^ L.length * fP:=Int.mul_le_mul_of_nonneg_left (by omega) (Int.le_of_lt b);omega
  ·omega
 subst c;have:x - y=val lz:=by rw[i]; simp
 rw[this];exact b8 hw
theorem sub_lt (ao:Option Addr) (n c b o:Nat) (ao':Option Addr) (n' c' b' o':Nat) (l h:List Int) (w:World) (r:l.length=n) (m:h.length=n') (hc:n<=c) (j:n'<=c') (g:n<=1099511627776) (f:n'<=1099511627776)
  (wl:Words l) (p:Words h) (q:At w ao b o l) (k:At w ao' b' o' h) (i:val l < val h) :
  Calls Tryz.prog 72 #[.slice ao n c,.slice ao' n' c'] w fun e w'=>e=.returned (.tuple #[.slice none 0 0,.int .i64 10])/\Below w.heap.size w w':=by
 have t1:=iq ao n c b o ao' n' c' b' o' l h w r m hc j g f wl p q k;rw[gX i] at t1;go_enter Tryz.func72,Tryz.ntmps72;go_wp2_with fail;refine t1.mono ?_
 rintro e d ⟨rfl,a⟩;go_wp2_with fail;go_ret2;exact⟨rfl,a⟩
theorem sub_ge (ao:Option Addr) (n c b o:Nat) (ao':Option Addr) (n' c' b' o':Nat) (l l':List Int) (w:World) (hl:l.length=n) (hl':l'.length=n') (hc:n<=c) (hc':n'<=c') (hbig:n<=1099511627776) (hbig':n'<=1099511627776)
  (wl:Words l) (wl':Words l') (ha:At w ao b o l) (ha':At w ao' b' o' l') (hge:val l'<=val l) :
  Calls Tryz.prog 72 #[.slice ao n c,.slice ao' n' c'] w fun e w'=>∃ v r,e=.returned (.tuple #[v,.int .i64 0])/\dF w w' v r/\IsN r (val l - val l')/\r.length<=n/\Below w.heap.size w w':=by
 have t1:=iq ao n c b o ao' n' c' b' o' l l' w hl hl' hc hc' hbig hbig' wl wl' ha ha'
 have P:0<=sgn (val l) (val l'):=by unfold sgn; split<;>(try split)<;>omega
 have hle:d l'<=d l:=by
  rcases Nat.lt_or_ge (d l) (d l') with h | h
  ·have:=dA wl wl' h; omega
  ·exact h
 generalize D:sgn (val l) (val l')=sg at *;clear D;go_enter Tryz.func72,Tryz.ntmps72;go_wp2_with fail;refine t1.mono ?_
 rintro e C ⟨rfl,f⟩;have u:=ha.keep f
 have g:=ha'.keep f;clear t1;go_wp2_with fail;refine(jM ao n c b o l C hl hc hbig u).mono ?_
 rintro e Q ⟨rfl,a,q⟩
 have j:=g.keep q
 have s:=j.sub (d l')
 have E:norm l'=[]\/b'≠C.heap.size:=by
  rcases(g.sub (d l')).lt with e | e
  ·exact .inl e
  ·exact .inr (by omega)
 rw[show l'.take (d l')=norm l' from rfl] at s;have t2:=bh ao' n' c' l' Q hl' hc' (by omega) j.cells;have hn:=bp l
 have S:=bp l';have x:=aJ l
 have y:=aJ l';have M:=b8 wl
 have z:=b8 wl';clear ha ha' u g j;generalize d l=N at *;generalize d l'=Z at *;generalize norm l=L at *;generalize norm l'=T at *;go_wp2_with fail;refine t2.mono ?_
 rintro e U ⟨rfl,rfl⟩;clear t2;go_wp2_with fail;refine(iJ _ C.heap.size 0 _ _ _ b' o' _ _ 1 L T U x y hle (by omega) (Nat.le_refl _) (Nat.le_refl _) (by decide) (by decide) M.1 z.1 a.at (a.free _ _) s E).mono ?_
 rintro e O ⟨fP,rfl,F,V,p,G,H,k,t,A⟩
 have W:IsN (norm p) (_ - _):=BV M z hge H (by omega) F (by rw[A,x]);have I:=t.free (a.free 0 N);have X:=bp p;have J:=aJ p;have B:=k.sub (d p);have m:=f.size
 have Y:Below w.heap.size w O:=(f.trans (q.mono m)).trans (t.below m);rw[show p.take (d p)=norm p from rfl] at B;have t3:=bh (some ⟨C.heap.size,0,none⟩) N N p O G (Nat.le_refl _) (by omega) k.cells;clear s a t k A f q;generalize d p=K at *;generalize norm p=R at *;go_wp2_with fail;refine t3.mono ?_
 rintro e w5 ⟨rfl,rfl⟩;go_wp2;go_ret2;exact⟨_,R,rfl,dF.of J.symm (Nat.le_refl _) m B (fun i hi=>I i (by omega)),W,by omega,Y⟩
end
section
open Go.RowKit Lim
section
variable {w w1:World}{v:Value}{l:List Int}
theorem Row.built(w:World)(l:List Int):Row (w.alloc (.cells (l.map (Value.int .u64)).toArray 22)) w.heap.size l:=by
 show (w.heap.push _)[w.heap.size]? = _
 rw[Array.getElem?_push_size]
theorem Row.built1(w:World)(x:Int):Row (w.alloc (.cells #[.int .u64 x] 22)) w.heap.size [x]:=Row.built w [x]
theorem ae(w:World)(o:Obj):Below w.heap.size w (w.alloc o):=(Below.refl _ _).alloc (Nat.le_refl _) _
theorem zt(x:Int)(w:World)(k:0<=x)(l:x < 18446744073709551616) :
  Calls Tryz.prog 25 #[.int .u64 x] w fun e w'=>∃ v r,e=.returned v/\dF w w' v r/\IsN r x/\r.length<=1/\Below w.heap.size w w':=by
 have b:=Row.built1 w x;have hb:=ae w (.cells #[.int .u64 x] 22)
 have hw:Words [x]:=Words.cons k l Words.nil;have t1:=bh (some ⟨w.heap.size,0,none⟩) 1 1 [x] (w.alloc (.cells #[.int .u64 x] 22)) rfl (by decide) (by decide) b.at.cells;have c:=bp [x];have d:=aJ [x];have a:=b.at.sub (g [x])
 have h:IsN (norm [x]) x:=by have:=b8 hw; rwa [eC] at this
 have f:=b.free 0 1;rw[show [x].take (g [x])=norm [x] from rfl] at a;rw[List.length_singleton] at c;generalize g [x]=K at *;generalize norm [x]=R at *;clear b;go_enter Tryz.func25,Tryz.ntmps25;go_wp2_with fail;refine t1.mono ?_
 rintro e j ⟨rfl,rfl⟩;go_wp2;go_ret;exact⟨_,R,rfl,dF.of d.symm (Nat.le_refl _) (Nat.le_refl _) a (fun i hi=>f i (by omega)),h,by omega,hb⟩
theorem div_zero(v:Value)(ao':Option Addr)(n' c' b' o':Nat)(a:List Int)(w:World)(f:a.length=n')(c:n'<=c')(b:n'<=1099511627776)(g:Words a)(d:At w ao' b' o' a)(h:val a=0) :
  Calls Tryz.prog 70 #[v,.slice ao' n' c'] w fun e w'=>e=.returned (.tuple #[.slice none 0 0,.slice none 0 0,.int .i64 11])/\w'=w:=by
 have t1:=bh ao' n' c' a w f c (by omega) d.cells;rw[(bW g).2 h] at t1;go_enter Tryz.func70,Tryz.ntmps70;go_wp2_with fail;refine t1.mono ?_
 rintro e i ⟨rfl,rfl⟩;go_wp2_with fail;go_ret3;exact⟨rfl,rfl⟩
def jF(w w':World)(e:Ending)(x y:Int)(n n':Nat):Prop :=
 ∃ v u r s,e=.returned (.tuple #[v,u,.int .i64 0])/\dF w w' v r/\dF w w' u s/\IsN r (x / y)/\IsN s (x % y)/\r.length<=n/\s.length<=n + n'/\Below w.heap.size w w'
theorem dF.nil(w w':World):dF w w' (.slice none 0 0) []:=⟨none,w.heap.size,0,0,rfl,Nat.le_refl _,Nat.le_refl _,⟨.inl rfl,fun i hi=>by simp at hi⟩,fun i hi=>by simp at hi⟩
theorem jz:IsN [] 0:=⟨Words.nil,rfl,rfl⟩
theorem dF.later{f:World}(h:dF w w1 v l)(hb:Below w1.heap.size w1 f):dF w f v l:=by
 obtain⟨j,b,o,c,e,g,m,d,k⟩:=h;refine⟨j,b,o,c,e,g,m,d.keep hb,fun i hi => ?_⟩;have a:=aI (d.cell i hi);rw[hb.frozen (p:=⟨b,o + i,none⟩) a]; exact k i hi
theorem dF.mono{w0:World}(h:dF w w1 v l)(hb:w0.heap.size<=w.heap.size):dF w0 w1 v l:=by
 obtain⟨ao,b,o,c,e,h1,h2,h3,h4⟩:=h;exact⟨ao,b,o,c,e,h1,by omega,h3,h4⟩
theorem div_lt(ao:Option Addr)(n c b o:Nat)(ao':Option Addr)(n' c' b' o':Nat)(l u:List Int)(w:World)(E:l.length=n)(C:u.length=n')(hc:n<=c)(B:n'<=c')(v:n<=1099511627776)(A:n'<=1099511627776)(wl:Words l)(z:Words u)(D:At w ao b o l)(y:At w ao' b' o' u)(x:val l < val u) :
  Calls Tryz.prog 70 #[.slice ao n c,.slice ao' n' c'] w fun e w'=>jF w w' e (val l) (val u) n n':=by
 have j:=aL wl;have hn:=bp l
 have k:=bp u
 have m:aE u≠0:=fun e=>by have:=(bW z).1 e; omega
 have t1:=bh ao' n' c' u w C B (by omega) y.cells
 have f:=y.sub (aE u);rw[show u.take (aE u)=norm u from rfl] at f;have t2:=iq ao n c b o ao' (aE u) (aE u) b' o' l (norm u) w E (aJ u) hc (Nat.le_refl _) v (by omega) wl z.norm D f;rw[cV,gX x] at t2;have p:=b8 wl;have h:=aJ l
 have q:((aE u:Int) == 0)=false:=beq_eq_false_iff_ne.2 (by omega);go_enter Tryz.func70,Tryz.ntmps70;go_wp2_with fail;refine t1.mono ?_
 rintro e s ⟨rfl,rfl⟩;go_wp2_with fail;refine t2.mono ?_
 rintro e r ⟨rfl,d⟩;go_wp2_with fail;refine(jM ao n c b o l r E hc v (D.keep d)).mono ?_
 rintro e t ⟨rfl,a,i⟩;clear t1 t2;go_wp2;go_ret3;have g:=d.size;exact⟨_,_,[],norm l,rfl,dF.nil _ _,dF.of h.symm (Nat.le_refl _) g a.at (a.free _ _),by rw[Int.ediv_eq_zero_of_lt j x]; exact jz,by rw[Int.emod_eq_of_lt j x]; exact p,by simp,by omega,d.trans (i.mono g)⟩
theorem div_one(ao:Option Addr)(n c b o:Nat)(ao':Option Addr)(n' c' b' o':Nat)(l l':List Int)(w:World)(hl:l.length=n)(hl':l'.length=n')(hc:n<=c)(hc':n'<=c')(hbig:n<=1099511627776)(hbig':n'<=1099511627776)(wl:Words l)(wl':Words l')(ha:At w ao b o l)(ha':At w ao' b' o' l')(hge:val l'<=val l)(h1:aE l'=1) :
  Calls Tryz.prog 70 #[.slice ao n c,.slice ao' n' c'] w fun e w'=>jF w w' e (val l) (val l') n n':=by
 have h0:=aL wl;have hn:=bp l
 have hn':=bp l';have t1:=bh ao' n' c' l' w hl' hc' (by omega) ha'.cells
 have g:=ha'.sub (aE l');rw[show l'.take (aE l')=norm l' from rfl] at g;have t2:=iq ao n c b o ao' (aE l') (aE l') b' o' l (norm l') w hl (aJ l') hc (Nat.le_refl _) hbig (by omega) wl wl'.norm ha g;rw[cV] at t2
 have I:0<=z (val l) (val l'):=by unfold z; split<;>(try split)<;>omega
 have p:=aJ l'
 have v:=b8 wl';rw[h1] at t1 t2 p;generalize hN':norm l'=L' at *;obtain⟨d,rfl⟩:=List.length_eq_one_iff.1 p
 have Y:val l'=d:=by have:=v.2.2; rw[eC] at this; exact this.symm
 have J:=v.1 d (by simp)
 have A:0 < d:=by
  have h2:=v.2.1;by_cases c:d=0
  ·subst c; simp[aE] at h2
  ·omega
 rw[Y] at hge t2 ⊢;rw[Y] at I;generalize z (val l) d=sg at *;rcases g.loc with e | rfl
 ·simp at e
 go_enter Tryz.func70,Tryz.ntmps70;go_wp2_with fail;refine t1.mono ?_
 rintro e Z ⟨rfl,rfl⟩;go_wp2_with fail;refine t2.mono ?_
 rintro e H ⟨rfl,h⟩;go_wp2_with fail;refine(jM ao n c b o l H hl hc hbig (ha.keep h)).mono ?_
 rintro e w3 ⟨rfl,f,k⟩;have x:=h.size;have aa:=k.size;have B:=((g.keep h).keep k).cell 0 (by simp);rw[cE] at B;rw[Nat.add_zero] at B;have M:=wl.norm;have O:=cV l;have P:=aJ l;clear t1 t2;generalize aE l=N at *;generalize norm l=L at *;go_wp2_with fail;refine(gE (some ⟨H.heap.size,0,none⟩) H.heap.size 0 N N d L w3 P (by omega) (Nat.le_refl _) A J.2 M f.at (f.free _ _)).mono ?_
 rintro e w4 ⟨left,j,rfl,C,Q,S,T,t,m,D⟩;have U:=m.free (f.free 0 N);have hz1:=bp j;have V:=aJ j;have E:=t.sub (aE j);have HF:=b8 T;have W:=m.size;have hlt3:=f.lt;rw[show j.take (aE j)=norm j from rfl] at E;have t3:=bh (some ⟨H.heap.size,0,none⟩) N N j w4 S (Nat.le_refl _) (by omega) t.cells
 have HB:Below Z.heap.size Z w4:=(h.trans (k.mono x)).trans (m.below x)
 have ev:val j=val l / d/\left=val l % d:=by
  have hh:=Int.ediv_emod_unique (a:=val l) (b:=d) (r:=left) (q:=val j) A;have:=hh.2 ⟨by rw[<- O,<- D,Int.mul_comm]; omega,C,Q⟩;exact⟨this.1.symm,this.2.symm⟩
 rw[ev.1] at HF
 have y:Hid (left=val l % d):=ev.2;clear m f D h k g ev;generalize aE j=K at *;generalize norm j=R at *;go_wp2_with fail;refine t3.mono ?_
 rintro e w5 ⟨rfl,rfl⟩;go_wp2_with fail;refine(zt left w5 C (by omega)).mono ?_
 rintro e w6 ⟨u,s,rfl,F,X,hsl,G⟩;go_wp2;go_ret3;refine⟨_,u,R,s,rfl,(dF.of V.symm (Nat.le_refl _) x E (fun i hi=>U i (by omega))).later G,F.mono (by omega),HF,by rw[<- y.out]; exact X,by omega,by omega,HB.trans (G.mono (by omega))⟩
end
end
section
open Go.RowKit Lim
section
variable {l:List Int}{S T v1:Int}
theorem fM(s:Nat)(hs:s<=63):(0:Int) < 2 ^ s/\(2:Int) ^ s < 18446744073709551616/\(2:Int) ^ s * 2 ^ (64 - s)=18446744073709551616/\(0:Int) < 2 ^ (64 - s):=by
 have a:(0:Int) < 2 ^ s:=Int.pow_pos (by decide)
 have b:(2:Nat) ^ s<=2 ^ 63:=Nat.pow_le_pow_right (by decide) hs
 have e:((2 ^ s:Nat):Int)=(2:Int) ^ s:=by rw[Int.natCast_pow]; rfl
 have e2:(2:Nat) ^ 63=9223372036854775808:=by decide
 refine⟨a,by omega,?_,Int.pow_pos (by decide)⟩;rw[<- Int.pow_add,show s + (64 - s)=64 from by omega]; rfl
theorem n6(ao:Option Addr)(n c b o s:Nat)(l:List Int)(w:World)(L:l.length=n)(hc:n<=c)(M:n<=1099511627776)(hs:s<=63)(wl:Words l)(K:At w ao b o l) :
  Calls Tryz.prog 114 #[.slice ao n c,.int .i64 s] w fun e w'=>∃ lz,e=.returned (.slice (some ⟨w.heap.size,0,none⟩) (n + 1) (n + 1))/\lz.length=n + 1/\Words lz/\At w' (some ⟨w.heap.size,0,none⟩) w.heap.size 0 lz/\dB w' w.heap.size 0 (n + 1)/\w.heap.size < w'.heap.size/\val lz=val l * 2 ^ s/\Below w.heap.size w w':=by
 obtain⟨z,A,B,C⟩:=fM s hs
 have q:l=[]\/b≠w.heap.size:=by
  rcases K.lt with e | e
  ·exact .inl e
  ·exact .inr (by omega)
 have g:=aL wl;have j:=dx wl
 have r:Hid (0<=val l * 2 ^ s/\val l * 2 ^ s < 18446744073709551616 ^ (n + 1)):=by
  refine⟨Int.mul_nonneg g (Int.le_of_lt z),?_⟩
  have J:val l * 2 ^ s<=val l * 18446744073709551616:=Int.mul_le_mul_of_nonneg_left (by omega) g;rw[L] at j;rw[Int.pow_succ]; omega
 obtain⟨S,hS⟩:∃ S,(2:Int) ^ s=S:=⟨_,rfl⟩
 rw[hS] at z A r ⊢
 have D:IntKind.u64.wrap S=S:=IntWalk.u64_in _ ⟨by omega,by omega⟩;clear B C g j;go_enter Tryz.func114,Tryz.ntmps114;go_wp2_with (at_make; refine cU rfl _ _ rfl (n + 1) _ _ rfl rfl (by omega) (by omega) (by omega) ?_; intro E a f t);have u:=K.keep f;refine(ep _ w.heap.size 0 (n + 1) (n + 1) ao b o n c S (List.replicate (n + 1) 0) l E (by simp) L (by omega) (by omega) (Nat.le_refl _) hc (by omega) A (ey _) wl a.at (a.free _ _) u q).mono ?_
 rintro e F ⟨rfl,lz,v,x,k,d,h⟩;have y:=d.free (a.free 0 (n + 1));have G:=a.lt;have m:=d.size;rw[fk (l:=List.replicate (n + 1) 0) (fun i=>by simp[nth,List.getElem?_replicate]; split<;>rfl),Int.zero_add,Int.emod_eq_of_lt r.out.1 r.out.2] at h;have H:=(show Hid _ from h)
 have I:=f.trans (d.below (Nat.le_refl _))
 have p:w.heap.size < F.heap.size:=by omega
 clear h m t a d f;go_wp2;go_ret;exact⟨lz,rfl,v,x,k,y,p,H.out,I⟩
structure me(lz:List Int)(S:Int)(h:Nat)(lz1:List Int):Prop where
 len:lz1.length=lz.length
 words:Words lz1
 low:∀ i,i < h->nth lz1 i=nth lz i
 val:Lim.val (lz1.drop h)=Lim.val (lz.drop h) / S
theorem Bt(S T:Int)(h:S * T=18446744073709551616)(k:Nat):val (l.drop k) % S=nth l k % S:=by
 by_cases a:k < l.length
 ·rw[dU a,<- h,Int.mul_assoc,Int.add_mul_emod_self_left]
 ·rw[List.drop_of_length_le (by omega),fN (by omega)]; rfl
theorem me.step{lz lz1:List Int}{c:Int}{h:Nat}(hS:0 < S)(b:S * T=18446744073709551616)(d:me lz S (h + 1) lz1)(f:h < lz.length)(z0:0<=c)(z1:c < 18446744073709551616)(e:c=nth lz h / S + T * (nth lz (h + 1) % S)):me lz S h (lz1.set h c):=by
 have a:=d.len;refine⟨by simp[a],d.words.set h z0 z1,fun i hi=>by rw[dy (by omega),if_neg (by omega)]; exact d.low i (by omega),?_⟩;rw[dU (by simp; omega),dy (by omega),if_pos rfl,List.drop_set,if_pos (by omega),d.val,dU f,e,<- Bt S T b (h + 1)];generalize Lim.val (lz.drop (h + 1))=Y
 have e1:nth lz h + 18446744073709551616 * Y=nth lz h + S * (T * Y):=by rw[<- b]; grind
 rw[e1,Int.add_mul_ediv_left _ _ (by omega)];have e2:=Int.mul_ediv_add_emod Y S
 have e3:T * Y=T * (S * (Y / S) + Y % S):=by rw[e2]
 rw[e3,<- b];grind
theorem yG{x y:Int}(s:Nat)(n:S=2 ^ s)(m:T=2 ^ (64 - s))(hs:s<=63)(hx:0<=x/\x < 18446744073709551616) :
  bits .or .u64 (x / S) (IntKind.u64.wrap (y * T))=x / S + T * (y % S)/\0<=x / S + T * (y % S)/\x / S + T * (y % S) < 18446744073709551616:=by
 obtain⟨e,h,b,c⟩:=fM s hs;rw[<- n] at e h b;rw[<- m] at b c
 have a:0<=x / S:=Int.ediv_nonneg hx.1 (Int.le_of_lt e)
 have f:x / S < T:=by rw[Int.ediv_lt_iff_lt_mul e,Int.mul_comm,b]; exact hx.2
 have d:=Int.emod_nonneg y (show S≠0 by omega);have i:=Int.emod_lt_of_pos y e
 have j:IntKind.u64.wrap (y * T)=y % S * T:=by
  rw[IntKind.wrap_u64,<- b,Int.mul_comm y T,Int.mul_comm S T,Int.mul_emod_mul_of_pos _ _ c,Int.mul_comm]
 have g:0<=y % S * T:=Int.mul_nonneg d (Int.le_of_lt c)
 have k:(y % S + 1) * T<=S * T:=Int.mul_le_mul_of_nonneg_right (by omega) (Int.le_of_lt c);rw[Int.add_mul,Int.one_mul,b] at k
 have l:T<=18446744073709551616:=by
  have:1 * T<=S * T:=Int.mul_le_mul_of_nonneg_right (by omega) (Int.le_of_lt c);omega
 rw[j,Int.mul_comm T];refine⟨?_,by omega,by omega⟩;rw[u64_or _ _ a (by omega) g (by omega),Nat.or_comm,<- u64_or _ _ g (by omega) a (by omega)];rw[pX _ _ (64 - s) (y % S) (by rw[m]) d (by omega) a (by rw[<- m]; exact f) (by omega),Int.add_comm]
theorem wV(M:Option Addr)(K J I R s:Nat)(lz:List Int)(w:World)(O:lz.length=I)(S:I<=2199023255552)(L:I<=R)(hs:s<=63)(Q:Words lz)(N:At w M K J lz)(P:dB w K J I) :
  Calls Tryz.prog 116 #[.slice M I R,.int .i64 s] w fun e w'=>e=.returned (.tuple #[])/\∃ lz',lz'.length=I/\Words lz'/\At w' M K J lz'/\Wr K J I w w'/\val lz'=val lz / 2 ^ s:=by
 obtain⟨o,F,p,G⟩:=fM s hs;go_enter Tryz.func116,Tryz.ntmps116;go_wp2;go_loopw [4,10] (fun q f wr=>∃ (k:Nat) (a:List Int),k<=I/\f=.int .i64 k/\q=.int .u64 (nth lz (I - k))/\me lz (2 ^ s) (I - k) a/\At wr M K J a/\Wr K J I w wr) (fun _ f _=>I - (intOf f).toNat)
 case atStart=>exact⟨0,lz,Nat.zero_le _,rfl,by rw[fN (by omega)],⟨rfl,Q,fun _ _=>rfl,by rw[Nat.sub_zero,List.drop_of_length_le (by omega)]; simp[val]⟩,N,Wr.refl _ _ _ _⟩
 case round =>
  obtain⟨k,a,H,rfl,rfl,hinv,b,c⟩:=hrel;have g:=hinv.len;by_cases r:k < I
  ·rcases N.loc with e | rfl
   ·subst e; simp at O; omega
   obtain⟨h,l⟩:∃ h:Nat,I=h + 1 + k:=⟨I - 1 - k,by omega⟩
   have L:=b.cell h (by omega);have t:=c.free P h (by omega);rw[hinv.low h (by omega)] at L
   have m:(I:Int) - 1 - k=h:=by omega
   have u:(h:Int) < I:=by omega
   have d:I - k=h + 1:=by omega
   rw[d] at hinv ⊢;obtain⟨e1,e2,e3⟩:=yG (y:=nth lz (h + 1)) s rfl rfl hs (Q.nth h)
   have v:Hid (me lz (2 ^ s) h (a.set h (nth lz h / 2 ^ s + 2 ^ (64 - s) * (nth lz (h + 1) % 2 ^ s)))):=hinv.step o p (by omega) e2 e3 rfl
   have z:Hid (I=h + 1 + k):=l;have A:=(show Hid _ from b)
   have B:=(show Hid _ from c)
   have C:Hid (nth lz (I - (k + 1))=nth lz h):=by show _=_; rw[show I - (k + 1)=h from by omega]
   have D:Hid (I - (k + 1)=h):=by show _=_; omega
   clear l hinv N Q b c d;generalize nth lz h=x at *;generalize nth lz (h + 1)=y at *
   have n:(64:Int) - s=((64 - s:Nat):Int):=by omega
   go_wp2_with fail;go_region;go_wp2;refine⟨⟨k + 1,_,by omega,by go_num,by rw[C.out],by rw[D.out]; exact v.out,?_,?_⟩,by simp[intOf]; omega⟩
   ·exact(A.out.setCell (by omega) _).drew
   ·exact(B.out.setCell (by omega) (by have:=z.out; omega) _).drew
  ·have i:k=I:=by omega
   subst i;have j:=hinv.val;rw[Nat.sub_self,List.drop_zero,List.drop_zero] at j;have E:=(show Hid _ from j)
   clear j;go_wp2;go_end0;exact⟨rfl,a,by omega,hinv.words,b,c,E.out⟩
def ra(u v g:Int):Prop:=0<=g/\g < 18446744073709551616/\(g - 1) * v<=u/\u < (g + 1) * v
theorem yR{u v u0 R P:Int}(e:0 < P)(f:v < (v1 + 1) * P)(c:9223372036854775808<=v1)(hu:u=u0 * 18446744073709551616 * P + R)(d:0<=R)(b:v1<=u0)(a:u < v * 18446744073709551616):ra u v 18446744073709551615:=by
 refine⟨by decide,by decide,?_,by rw[show (18446744073709551615 + 1:Int)=18446744073709551616 from rfl,Int.mul_comm]; exact a⟩
 have k1:v * 18446744073709551614<=(v1 + 1) * P * 18446744073709551614:=Int.mul_le_mul_of_nonneg_right (by omega) (by decide)
 have k2:v1 * P<=u0 * P:=Int.mul_le_mul_of_nonneg_right b (by omega)
 have k3:9223372036854775808 * P<=v1 * P:=Int.mul_le_mul_of_nonneg_right c (by omega)
 have e1:(v1 + 1) * P * 18446744073709551614=v1 * P * 18446744073709551614 + P * 18446744073709551614:=by grind
 have e2:u0 * 18446744073709551616 * P=u0 * P * 18446744073709551616:=by grind
 rw[show (18446744073709551615 - 1:Int)=18446744073709551614 from rfl,Int.mul_comm];omega
theorem sC{u v v2 t g rest hi Q:Int}(H:0 < Q)(x:v1 * 18446744073709551616 * Q + v2 * Q<=v)(I:v < v1 * 18446744073709551616 * Q + (v2 + 1) * Q)(E:9223372036854775808<=v1)(C:0<=v2)(G:v2 < 18446744073709551616)(z:t * (18446744073709551616 * Q)<=u)(hu:u < (t + 1) * (18446744073709551616 * Q))(w:0<=g)(y:g < 18446744073709551616)(B:0<=rest)(F:rest < v1)(he:g * v1 + rest=t)(lo:Int)(A:0<=lo)(D:lo < 18446744073709551616)(hm:hi * 18446744073709551616 + lo=g * v2) :
  (rest < hi->ra u v (g - 1))/\(hi<=rest->ra u v g):=by
 have h:0<=g * v2:=Int.mul_nonneg w C
 have e:g * v2<=g * 18446744073709551615:=Int.mul_le_mul_of_nonneg_left (by omega) w
 have a:0<=hi:=by omega
 have b:hi<=18446744073709551615:=by omega
 obtain⟨X,f⟩:∃ X,18446744073709551616 * Q=X:=⟨_,rfl⟩
 have k:0 < X:=by omega
 have m1:g * (v1 * 18446744073709551616 * Q + v2 * Q)<=g * v:=Int.mul_le_mul_of_nonneg_left x w
 have m2:g * v<=g * (v1 * 18446744073709551616 * Q + (v2 + 1) * Q):=Int.mul_le_mul_of_nonneg_left (by omega) w
 have e1:g * (v1 * 18446744073709551616 * Q + v2 * Q)=t * X - rest * X + hi * X + lo * Q:=by
  rw[<- f,<- he];have:g * (v2 * Q)=(hi * 18446744073709551616 + lo) * Q:=by rw[hm]; grind
  grind
 have e2:g * (v1 * 18446744073709551616 * Q + (v2 + 1) * Q)=t * X - rest * X + hi * X + lo * Q + g * Q:=by
  have:g * (v1 * 18446744073709551616 * Q + (v2 + 1) * Q)=g * (v1 * 18446744073709551616 * Q + v2 * Q) + g * Q:=by grind
  rw[this,e1]
 rw[e1] at m1;rw[e2] at m2
 have e3:v1 * 18446744073709551616 * Q=v1 * X:=by rw[<- f]; grind
 rw[e3] at x;rw[f] at z hu;rw[Int.add_mul,Int.one_mul] at hu
 have k1:9223372036854775808 * X<=v1 * X:=Int.mul_le_mul_of_nonneg_right E (by omega)
 have k2:(rest + 1) * X<=v1 * X:=Int.mul_le_mul_of_nonneg_right (by omega) (by omega)
 have k3:lo * Q<=18446744073709551615 * Q:=Int.mul_le_mul_of_nonneg_right (by omega) (by omega)
 have l:0<=lo * Q:=Int.mul_nonneg A (by omega)
 have o:g * Q<=18446744073709551615 * Q:=Int.mul_le_mul_of_nonneg_right (by omega) (by omega)
 have p:0<=v2 * Q:=Int.mul_nonneg C (by omega)
 have q:0<=hi * X:=Int.mul_nonneg a (by omega)
 have r:0<=rest * X:=Int.mul_nonneg B (by omega)
 have s:hi * X<=18446744073709551615 * X:=Int.mul_le_mul_of_nonneg_right b (by omega);rw[Int.add_mul,Int.one_mul] at k2;constructor
 ·intro m
  have i:(rest + 1) * X<=hi * X:=Int.mul_le_mul_of_nonneg_right (by omega) (by omega);rw[Int.add_mul,Int.one_mul] at i
  have j:1<=g:=by
   by_cases c:1<=g
   ·exact c
   ·have:g=0:=by omega
    subst this; simp at hm; omega
  have d:hi<=18446744073709551614:=by omega
  have n:hi * X<=18446744073709551614 * X:=Int.mul_le_mul_of_nonneg_right d (by omega);refine⟨by omega,by omega,?_,?_⟩
  ·rw[show (g - 1 - 1) * v=g * v - 2 * v from by grind];omega
  ·rw[show (g - 1 + 1) * v=g * v from by grind];omega
 ·intro hle
  have i:hi * X<=rest * X:=Int.mul_le_mul_of_nonneg_right hle (by omega);refine⟨w,y,?_,?_⟩
  ·rw[Int.sub_mul,Int.one_mul]; omega
  ·rw[Int.add_mul,Int.one_mul]; omega
end
end
section
open Go.RowKit Lim
section
variable {f:FuncId}{args:Array Value}{w:World}{n:Nat}{v:Value}{l:List Int}
theorem qK(hi lo y:Int)(w:World)(d:0<=hi)(b:hi < y)(a:0<=lo)(l1:lo < 18446744073709551616)(y1:y < 18446744073709551616) :
  Calls Tryz.prog 166 #[.int .u64 hi,.int .u64 lo,.int .u64 y] w fun e w'=>e=.returned (.tuple #[.int .u64 ((hi * 18446744073709551616 + lo) / y),.int .u64 ((hi * 18446744073709551616 + lo) % y)])/\∃ n,w'=w.drewN n:=by
 by_cases c:hi=0
 ·subst c;refine(lY lo y w (by omega) a l1 y1).mono ?_
  rintro e w' ⟨rfl,hw⟩;exact⟨by simp,hw⟩
 ·refine(nQ hi lo y w (by omega) b a l1 y1).mono ?_
  rintro e w' ⟨rfl,rfl⟩;exact⟨rfl,0,rfl⟩
theorem nK{P:Program}(h:Calls P f args (w.drewN n) fun e w'=>e=.returned v/\∃ m,w'=(w.drewN n).drewN m):Calls P f args (w.drewN n) fun e w''=>e=.returned v/\∃ m,w''=w.drewN m :=
 h.mono fun _ _ ⟨he,m,hm⟩=>⟨he,n + m,by rw[hm,World.drewN_drewN]⟩
theorem top2(wl:Words l)(hn:l.length=n + 2):(nth l (n + 1) * 18446744073709551616 + nth l n) * 18446744073709551616 ^ n<=val l/\val l < (nth l (n + 1) * 18446744073709551616 + nth l n + 1) * 18446744073709551616 ^ n:=by
 have e1:=bE l n (by omega);have b:=aL (wl.take n);have a:=dx (wl.take n);rw[List.length_take,Nat.min_eq_left (by omega)] at a;rw[dU (by omega),dU (by omega),List.drop_of_length_le (show l.length<=n + 1 + 1 by omega)] at e1
 have e2:(18446744073709551616:Int) ^ n * (nth l n + 18446744073709551616 * (nth l (n + 1) + 18446744073709551616 * val []))=(nth l (n + 1) * 18446744073709551616 + nth l n) * 18446744073709551616 ^ n:=by
  rw[show val []=0 from rfl]; grind
 rw[e2] at e1;rw[Int.add_mul (nth l (n + 1) * 18446744073709551616 + nth l n) 1];omega
theorem we(au:Option Addr)(cu bu ou:Nat)(av:Option Addr)(k cv bv ov:Nat)(lu lv:List Int)(w:World)(hlu:lu.length=k + 3)(hlv:lv.length=k + 2)(hbig:k<=1099511627776)(wu:Words lu)(wv:Words lv)(hu:At w au bu ou lu)(hv:At w av bv ov lv)(htop:9223372036854775808<=nth lv (k + 1))(hlt:val lu < val lv * 18446744073709551616) :
  Calls Tryz.prog 167 #[.slice au (k + 3) cu,.slice av (k + 2) cv] w fun e w'=>∃ g:Int,e=.returned (.int .u64 g)/\ra (val lu) (val lv) g/\Below w.heap.size w w':=by
 obtain⟨d,j⟩:=top2 wv hlv;obtain⟨b,f⟩:=top2 (n:=k + 1) wu hlu;have c0:=hu.cell (k + 2) (by omega);have c1:=hu.cell (k + 1) (by omega);have d1:=hv.cell (k + 1) (by omega);have d2:=hv.cell k (by omega);have b0:=wu.nth (k + 2);have b1:=wu.nth (k + 1);have e1:=wv.nth (k + 1);have e2:=wv.nth k;have v:=pow_pos k;have x:=pow_pos (k + 1);rcases hu.loc with e | rfl
 ·subst e; simp at hlu
 rcases hv.loc with e | rfl
 ·subst e; simp at hlv
 rw[show k + 1 + 1=k + 2 from rfl] at b f;have y:=(show Hid _ from hlt)
 clear hu hv wu wv hlt hlu hlv;obtain⟨N,u⟩:∃ N,k + 2=N:=⟨_,rfl⟩
 obtain⟨m,hm⟩:∃ m,k + 1=m:=⟨_,rfl⟩
 have T:(N:Int) - 1=m:=by omega
 have W:(N:Int) - 2=k:=by omega
 have X:(m:Int) < N:=by omega
 have Y:(k:Int) < N:=by omega
 have H:(m:Int) < (N:Int) + 1:=by omega
 have I:(N:Int) < (N:Int) + 1:=by omega
 have Z:N<=1099511627778:=by omega
 have J:m<=N:=by omega
 have K:m < N + 1:=by omega
 have aa:(m:Int)<=N:=by omega
 have ab:IntKind.i64.wrap (m:Int)=m:=by rw[IntKind.wrap_i64]; omega
 have ac:IntKind.i64.wrap (k:Int)=k:=by rw[IntKind.wrap_i64]; omega
 generalize nth lu (k + 2)=u0 at *;generalize nth lu (k + 1)=c at *;generalize nth lv (k + 1)=v1 at *;generalize nth lv k=v2 at *;generalize val lu=U at *;generalize val lv=V at *;by_cases z:v1<=u0
 ·have HN:Hid (ra U V 18446744073709551615):=by
   refine yR (v1:=v1) (u0:=u0) (P:=18446744073709551616 ^ (k + 1)) (R:=U - u0 * 18446744073709551616 * 18446744073709551616 ^ (k + 1)) x ?_ htop (by omega) ?_ z y.out
   ·rw[Int.pow_succ];have:(v1 * 18446744073709551616 + v2 + 1) * 18446744073709551616 ^ k<=(v1 * 18446744073709551616 + 18446744073709551616) * 18446744073709551616 ^ k:=Int.mul_le_mul_of_nonneg_right (by omega) (by omega)
    have e:(v1 * 18446744073709551616 + 18446744073709551616) * 18446744073709551616 ^ k=(v1 + 1) * (18446744073709551616 ^ k * 18446744073709551616):=by grind
    omega
   ·have:0<=c * 18446744073709551616 ^ (k + 1):=Int.mul_nonneg b1.1 (by omega);rw[Int.add_mul] at b;omega
  rw[show k + 3=N + 1 from by omega,u] at *;rw[hm] at c1 d1;clear b f d j v x u hm;go_enter Tryz.func167,Tryz.ntmps167;go_wp2_with fail;go_quiet (fail);go_wp2;go_ret;exact⟨_,rfl,HN.out,below_drewN (Below.refl _ _) _⟩
 ·have p:∀ g rest hi lo:Int,0<=g->g < 18446744073709551616->0<=rest->rest < v1->g * v1 + rest=u0 * 18446744073709551616 + c->0<=lo->lo < 18446744073709551616->hi * 18446744073709551616 + lo=g * v2->(rest < hi->ra U V (g - 1))/\(hi<=rest->ra U V g):=by
   intro g rest hi lo h1 h2 h3 h4 h5 h6 h7 h8;refine sC (Q:=18446744073709551616 ^ k) v ?_ ?_ htop e2.1 e2.2 ?_ ?_ h1 h2 h3 h4 h5 lo h6 h7 h8
   ·rw[Int.add_mul] at d; exact d
   ·have e:(v1 * 18446744073709551616 + v2 + 1) * 18446744073709551616 ^ k=v1 * 18446744073709551616 * 18446744073709551616 ^ k + (v2 + 1) * 18446744073709551616 ^ k:=by grind
    rw[<- e]; exact j
   ·rw[Int.mul_comm 18446744073709551616,<- Int.pow_succ]; exact b
   ·rw[Int.mul_comm 18446744073709551616,<- Int.pow_succ]; exact f
  have l:=(show Hid _ from p)
  have o:=Int.mul_ediv_add_emod (u0 * 18446744073709551616 + c) v1;have A:=Int.emod_nonneg (u0 * 18446744073709551616 + c) (show v1≠0 by omega);have B:=Int.emod_lt_of_pos (u0 * 18446744073709551616 + c) (show 0 < v1 by omega)
  have q:0<=(u0 * 18446744073709551616 + c) / v1:=Int.ediv_nonneg (by omega) (by omega)
  have r:(u0 * 18446744073709551616 + c) / v1 < 18446744073709551616:=by
   rw[Int.ediv_lt_iff_lt_mul (by omega)];have:(u0 + 1) * 18446744073709551616<=v1 * 18446744073709551616:=Int.mul_le_mul_of_nonneg_right (by omega) (by decide);omega
  have L:=fun wx:World=>qK u0 c v1 wx b0.1 (by omega) b1.1 b1.2 e1.2
  generalize hg:(u0 * 18446744073709551616 + c) / v1=g at *;generalize hr:(u0 * 18446744073709551616 + c) % v1=rest at *;rw[Int.mul_comm] at o;have C:=(show Hid _ from o)
  rw[show k + 3=N + 1 from by omega,u] at *;rw[hm] at c1 d1;clear p o hg hr b f d j v x u hm
  have M:u0 < v1:=by omega
  go_enter Tryz.func167,Tryz.ntmps167;go_wp2_with fail;go_quiet (fail)
  have D:(w.drewN h).cell? ⟨bu,ou + N,none⟩=some (.int .u64 u0):=c0
  have E:(w.drewN h).cell? ⟨bu,ou + m,none⟩=some (.int .u64 c):=c1
  have F:(w.drewN h).cell? ⟨bv,ov + m,none⟩=some (.int .u64 v1):=d1
  have s:(w.drewN h).cell? ⟨bv,ov + k,none⟩=some (.int .u64 v2):=d2;have t:=below_drewN (Below.refl w.heap.size w) h;clear c0 c1 d1 d2;generalize w.drewN h=O at *;go_wp2_with fail;go_quiet ((go_at_call 166; exact nK (L _)))
  have S:(O.drewN h).cell? ⟨bv,ov + k,none⟩=some (.int .u64 v2):=s;have i:=below_drewN t h;clear D E F s t L;generalize O.drewN h=W2 at *;go_wp2_with fail;refine(lA g v2 q r e2.1 e2.2 _).mono ?_
  rintro e w3 ⟨hi,lo,rfl,i1,i2,i3,i4,i5,rfl⟩;have a:=l.out g rest hi lo q r A B C.out i3 i4 i5.out;by_cases hc:rest < hi
  ·have G:=(show Hid _ from a.1 hc)
   have hg2:0<=g - 1:=(a.1 hc).1;clear a l;go_wp2;go_ret;exact⟨_,rfl,G.out,i⟩
  ·have G:=(show Hid _ from a.2 (by omega))
   clear a l;go_wp2;go_ret;exact⟨_,rfl,G.out,i⟩
end
end
section
open Go.RowKit Lim
section
variable {L L' lz:List Int}{k:Nat}
theorem xL(hL:Words L)(j:Words L')(l:Words lz)(m:k < L.length)(n:lz.length=L.length + L'.length)(o:val lz=val (L.take k) * val L') :
  0<=val ((lz.drop k).take (L'.length + 1)) + val L' * nth L k/\val ((lz.drop k).take (L'.length + 1)) + val L' * nth L k < 18446744073709551616 ^ (L'.length + 1):=by
 have b:=dx (hL.take k);have e:=dx j;have f:=aL (hL.take k);have a:=aL j;have g:=aL (l.take k);have h:=aL ((l.drop k).take (L'.length + 1));have h7:=aL ((l.drop k).drop (L'.length + 1));have h8:=hL.nth k;rw[List.length_take,Nat.min_eq_left (by omega)] at b;have e1:=bE lz k (by omega);have e2:=bE (lz.drop k) (L'.length + 1) (by simp; omega);have c:=pow_pos k;have i:=pow_pos L'.length;have d:=pow_pos (L'.length + 1)
 have m1:val (L.take k) * val L'<=18446744073709551616 ^ k * val L':=Int.mul_le_mul_of_nonneg_right (by omega) a
 have m2:(18446744073709551616:Int) ^ k * val (lz.drop k)<=18446744073709551616 ^ k * val L':=by omega
 have m3:val (lz.drop k)<=val L':=Int.le_of_mul_le_mul_left m2 c
 have m4:0<=18446744073709551616 ^ (L'.length + 1) * val ((lz.drop k).drop (L'.length + 1)):=Int.mul_nonneg (Int.le_of_lt d) h7
 have m5:val L' * nth L k<=val L' * 18446744073709551615:=Int.mul_le_mul_of_nonneg_left (by omega) a
 have m6:0<=val L' * nth L k:=Int.mul_nonneg a h8.1;refine⟨by omega,?_⟩;rw[Int.pow_succ];omega
structure ke(L L' lz:List Int)(k:Nat):Prop where
 len:lz.length=L.length + L'.length
 words:Words lz
 val:Lim.val lz=Lim.val (L.take k) * Lim.val L'
theorem ke.step{lw:List Int}(hL:Words L)(c:Words L')(d:k < L.length)(h:ke L L' lz k)(hw:Words lw)(b:lw.length=L'.length + 1)(e:Lim.val lw=(Lim.val ((lz.drop k).take (L'.length + 1)) + Lim.val L' * nth L k) % 18446744073709551616 ^ (L'.length + 1)):ke L L' (patch lz k lw) (k + 1):=by
 have a:=xL hL c h.words d h.len h.val;rw[Int.emod_eq_of_lt a.1 a.2] at e;have f:=h.len;refine⟨by rw[fh (by omega)]; exact h.len,kI h.words hw,?_⟩;rw[oH (by omega),b,e,h.val,du d];grind
theorem qk(ao:Option Addr)(n c b o:Nat)(ao':Option Addr)(n' c' b' o':Nat)(l l':List Int)(w:World)(hl:l.length=n)(hl':l'.length=n')(hc:n<=c)(hc':n'<=c')(hbig:n<=1099511627776)(hbig':n'<=1099511627776)(wl:Words l)(wl':Words l')(ha:At w ao b o l)(ha':At w ao' b' o' l') :
  Calls Tryz.prog 24 #[.slice ao n c,.slice ao' n' c'] w fun e w'=>∃ v r,e=.returned v/\dF w w' v r/\IsN r (val l * val l')/\r.length<=n + n'/\Below w.heap.size w w':=by
 have hn:=bp l
 have hn':=bp l';have t1:=bh ao n c l w hl hc (by omega) ha.cells;have t2:=bh ao' n' c' l' w hl' hc' (by omega) ha'.cells;have hs:=ha.sub (y l)
 have t:=ha'.sub (y l');have H:=aJ l
 have j:=aJ l';have Q:=b8 wl
 have D:=b8 wl';rw[show l.take (y l)=norm l from rfl] at hs;rw[show l'.take (y l')=norm l' from rfl] at t;generalize y l=N at *;generalize y l'=a at *;generalize norm l=L at *;generalize norm l'=I at *
 have p:L=[]\/b≠w.heap.size:=by
  rcases hs.lt with e | e
  ·exact .inl e
  ·exact .inr (by omega)
 have J:I=[]\/b'≠w.heap.size:=by
  rcases t.lt with e | e
  ·exact .inl e
  ·exact .inr (by omega)
 clear ha ha';go_enter Tryz.func24,Tryz.ntmps24;go_wp2_with fail;refine t1.mono ?_
 rintro e w1 ⟨rfl,rfl⟩;go_wp2_with fail;refine t2.mono ?_
 rintro e u ⟨rfl,rfl⟩;clear t1 t2;go_wp2_with (at_make; refine cU rfl _ _ rfl (N + a) _ _ rfl rfl (by omega) (by omega) (by omega) ?_; intro w3 q g hsz);have E:=hs.keep g;have M:=t.keep g;have z:=q.at
 have A:=q.free 0 (N + a);clear hs t q;go_loopw [22] (fun S wr=>∃ (k:Nat) (d:List Int),k<=N/\S=.int .i64 k/\ke L I d k/\At wr (some ⟨u.heap.size,0,none⟩) u.heap.size 0 d/\Wr u.heap.size 0 (N + a) w3 wr) (fun S _=>N - (intOf S).toNat)
 case atStart=>exact⟨0,_,Nat.zero_le _,rfl,⟨by simp[H,j],ey _,by simp[val,fk (l:=List.replicate (N + a) 0) fun i=>by simp[nth,List.getElem?_replicate]; split<;>rfl]⟩,z,Wr.refl _ _ _ _⟩
 case round =>
  clear z;obtain⟨k,d,hk,rfl,hinv,h,f⟩:=hrel;by_cases hlt:k < N
  ·have hlen:=hinv.len;rcases E.loc with e | rfl
   ·subst e; simp at H; omega
   have p:=p;have hcx:=(E.wr f p).cell k (by omega)
   have B:=M.wr f J;have hx:=Q.1.nth k;have F:=(f.free A).fE (k:=k) (m:=a + 1) (by omega);have s:=(h.drew).fE k (a + 1);rw[Nat.zero_add] at s F
   have hkn:k + a + 1 - k=a + 1:=by omega
   have G:=ep (some ⟨u.heap.size,k,none⟩) u.heap.size k (a + 1) (a + 1) ao' b' o' a a (nth L k) ((d.drop k).take (a + 1)) I wr.drew (by simp; omega) j (by omega) (by omega) (Nat.le_refl _) (Nat.le_refl _) hx.1 hx.2 ((hinv.words.drop k).take _) D.1 s F.drew B.drew J
   have HX:Hid (∀ lw,Words lw->lw.length=a + 1->val lw=(val ((d.drop k).take (a + 1)) + val I * nth L k) % 18446744073709551616 ^ (a + 1)->ke L I (patch d k lw) (k + 1)):=by
    intro lw h1 h2 h3;rw[<- j] at h2 h3;exact ke.step Q.1 D.1 (by omega) hinv h1 h2 h3
   have HA:Hid (At wr.drew (some ⟨u.heap.size,0,none⟩) u.heap.size 0 d):=h.drew
   have HW:Hid (Wr u.heap.size 0 (N + a) w3 wr.drew):=f.drew;clear F s B hinv f h;generalize nth L k=x at *;go_wp2_with fail;go_region_with (go_at_call 59; refine G.mono ?_; rintro e w5 ⟨rfl,lw,T,U,O,C,V⟩)
   all_goals go_wp2
   all_goals exact⟨⟨k + 1,patch d k lw,by omega,by go_num,HX.out lw U T V,HA.out.patch (k:=k) (n:=a + 1) (by rw[Nat.zero_add]; exact C) (by rw[Nat.zero_add]; exact O) (by omega) (by omega),HW.out.trans (C.mono (by omega) (by omega))⟩,by simp[intOf]; omega⟩
  ·have W:k=N:=by omega
   subst W;have X:=hinv.val;have hlen:=hinv.len;have Y:=hinv.words;rw[List.take_of_length_le (by omega),Q.2.2,D.2.2] at X;have Z:=f.free A;have hz1:=bp d;have aa:=aJ d;have P:=h.sub (y d)
   have HF:IsN (norm d) (val l * val l'):=by rw[<- X]; exact b8 Y
   have HB:=g.trans (f.below (Nat.le_refl _));rw[show d.take (y d)=norm d from rfl] at P;have t3:=bh (some ⟨u.heap.size,0,none⟩) (k + a) (k + a) d wr (by omega) (Nat.le_refl _) (by omega) h.cells;clear E M h f g hinv X;generalize y d=K at *;generalize norm d=R at *;go_wp2_with fail;refine t3.mono ?_
   rintro e w6 ⟨rfl,rfl⟩;go_wp2;go_ret;exact⟨_,R,rfl,dF.of aa.symm (Nat.le_refl _) (Nat.le_refl _) P (fun i hi=>Z i (by omega)),HF,by omega,HB⟩
end
end
section
open Go.RowKit Lim
section
variable {lu lq lu1:List Int}{V:Int}{q0 k a n:Nat}{w:World}
structure kQ(lu:List Int)(V:Int)(q0 k m:Nat)(lq lu1:List Int):Prop where
 Dj:lq.length=q0
 Dc:lu1.length=q0 + (k + 2)
 wq:Words lq
 wu:Words lu1
 eq:val lu=18446744073709551616 ^ m * val (lq.drop m) * V + val lu1
 lt:val lu1 < V * 18446744073709551616 ^ m
theorem kQ.fE(h:kQ lu V q0 k (a + 1) lq lu1)(p:a < q0)(o:V < 18446744073709551616 ^ (k + 2)) :
  val lu1=val (lu1.take a) + 18446744073709551616 ^ a * val ((lu1.drop a).take (k + 3))/\val ((lu1.drop a).take (k + 3)) < V * 18446744073709551616:=by
 have g:=h.Dc;have e1:=bE lu1 a (by omega);have e2:=bE (lu1.drop a) (k + 3) (by simp; omega);have i:=aL (h.wu.take a);have j:=aL ((h.wu.drop a).take (k + 3));have l:=aL ((h.wu.drop a).drop (k + 3));have d:=h.lt;have b:=pow_pos a
 have e:val ((lu1.drop a).drop (k + 3))=0:=by
  by_cases c:val ((lu1.drop a).drop (k + 3))=0
  ·exact c
  ·have k1:18446744073709551616 ^ (k + 3) * 1<=18446744073709551616 ^ (k + 3) * val ((lu1.drop a).drop (k + 3)):=Int.mul_le_mul_of_nonneg_left (by omega) (Int.le_of_lt (pow_pos _))
   have k2:18446744073709551616 ^ a * 18446744073709551616 ^ (k + 3)<=18446744073709551616 ^ a * val (lu1.drop a):=Int.mul_le_mul_of_nonneg_left (by omega) (Int.le_of_lt b)
   have k3:(V + 1) * 18446744073709551616 ^ (a + 1)<=18446744073709551616 ^ (k + 2) * 18446744073709551616 ^ (a + 1):=Int.mul_le_mul_of_nonneg_right (by omega) (Int.le_of_lt (pow_pos _));rw[Int.add_mul] at k3
   have m:(18446744073709551616:Int) ^ (k + 2) * 18446744073709551616 ^ (a + 1)=18446744073709551616 ^ a * 18446744073709551616 ^ (k + 3):=by rw[<- Int.pow_add,<- Int.pow_add]; congr 1; omega
   have n:=pow_pos (a + 1);omega
 rw[e,Int.mul_zero,Int.add_zero] at e2;rw[e2] at e1;refine⟨e1,?_⟩
 have f:18446744073709551616 ^ a * val ((lu1.drop a).take (k + 3)) < 18446744073709551616 ^ a * (V * 18446744073709551616):=by
  have:18446744073709551616 ^ a * (V * 18446744073709551616)=V * 18446744073709551616 ^ (a + 1):=by rw[Int.pow_succ]; grind
  omega
 exact Int.lt_of_mul_lt_mul_left f (Int.le_of_lt b)
theorem kQ.step{d:Int}{nw:List Int}(h:kQ lu V q0 k (a + 1) lq lu1)(n:a < q0)(j:V < 18446744073709551616 ^ (k + 2))(d0:0<=d)(d1:d < 18446744073709551616)(wn:Words nw)(hn:nw.length=k + 3)(e:val nw=val ((lu1.drop a).take (k + 3)) - d * V)(e1:val nw < V):kQ lu V q0 k a (lq.set a d) (patch lu1 a nw):=by
 have hw:=h.fE n j;have f:=h.Dc;have c:=h.Dj;have b:=oH (l:=lu1) (m:=nw) (k:=a) (by omega);have g:=dx (h.wu.take a);rw[List.length_take,Nat.min_eq_left (by omega)] at g;have i:=pow_pos a;refine⟨by simp[c],by rw[fh (by omega)]; exact f,h.wq.set a d0 d1,kI h.wu wn,?_,?_⟩
 ·rw[h.eq,dU (l:=lq.set a d) (by simp; omega),dy (by omega),if_pos rfl,List.drop_set,if_pos (by omega),b,hn,e,Int.pow_succ];grind
 ·have k1:18446744073709551616 ^ a * (val nw + 1)<=18446744073709551616 ^ a * V:=Int.mul_le_mul_of_nonneg_left (by omega) (Int.le_of_lt i);rw[b,hn,Int.mul_sub,Int.mul_comm V];rw[Int.mul_add] at k1;omega
theorem A8{U g o Z:Int}{x:Int}(hn:ra U V g)(l:V < 18446744073709551616 ^ n)(hx:x=U - V * g + 18446744073709551616 ^ n * o)(x1:x < 18446744073709551616 ^ n)(p:0<=U)(m:0<=o) :
  (o=0->x=U - g * V/\x < V)/\(o≠0->Z=(x + V * 1) % 18446744073709551616 ^ n->1<=g/\Z=U - (g - 1) * V/\Z < V):=by
 obtain⟨g0,g1,f,i⟩:=hn;rw[Int.sub_mul] at f;rw[Int.add_mul] at i;rw[Int.mul_comm V g] at hx;have b:=pow_pos n;constructor
 ·intro h; subst h; omega
 ·intro h j
  have k1:18446744073709551616 ^ n * 1<=18446744073709551616 ^ n * o:=Int.mul_le_mul_of_nonneg_left (by omega) (Int.le_of_lt b)
  have a:o=1:=by
   by_cases c:2<=o
   ·have k2:18446744073709551616 ^ n * 2<=18446744073709551616 ^ n * o:=Int.mul_le_mul_of_nonneg_left c (Int.le_of_lt b);omega
   ·omega
  subst a
  have d:U - g * V < 0:=by omega
  have k:1<=g:=by
   by_cases c:1<=g
   ·exact c
   ·have:g=0:=by omega
    subst this; omega
  have e:x + V * 1=(U - (g - 1) * V) + 18446744073709551616 ^ n * 1:=by rw[hx,Int.sub_mul]; omega
  rw[e,Int.add_mul_emod_self_left,Int.sub_mul,Int.emod_eq_of_lt (by omega) (by omega)] at j;rw[Int.sub_mul];exact⟨k,by omega,by omega⟩
theorem jj{P:Program}{a:Act}{Q:Exit->Act->World->Prop}{c rest:Code}(l:Nat)(J:Act->World->Prop)(μ:Act->World->Nat)(hf:findLabel c l=some (Code.skip.seq rest))(first:(∀ a w,J a w->rest.wp P (Exit.jump l J Q) a w)->c.wp P (Exit.jump l J Q) a w)(pass:∀ a w,J a w->rest.wp P (Exit.jump l (fun a' w'=>J a' w'/\μ a' w' < μ a w) Q) a w):(Code.scope c).wp P Q a w :=
 wp_scope_jumps l J μ hf (first fun a w b=>wp_mono (pass a w b) fun e a' w' h=>by
  cases e with
  | goto l'=>exact⟨h.1,h.2.1⟩
  | _=>exact h) fun a w b=>wp_seq (wp_skip (pass a w b))
theorem rr{l m a:List Int}(h:k + m.length<=l.length)(hm:a.length=m.length):patch (patch l k m) k a=patch l k a:=by
 have e:(l.take k).length=k:=by simp; omega
 unfold patch;rw[List.take_left' e,hm,<- List.append_assoc (l.take k) m,List.drop_left' (by simp; omega)]
theorem dB.below{B:Nat}{w':World}(h:Below B w w'){b o:Nat}(k:dB w b o n)(hb:b < B):dB w' b o n:=fun i hi=>by
 rw[World.frozen?_of_block (w:=w) (h.block b hb)]; exact k i hi
theorem mI(bu ou cu:Nat)(av:Option Addr)(k q0 cv bv ov:Nat)(lu lv:List Int)(w:World)(hlu:lu.length=q0 + (k + 2))(hlv:lv.length=k + 2)(hbig:k<=1099511627776)(hbigq:q0<=1099511627776)(hcu:q0 + (k + 2)<=cu)(hcv:k + 2<=cv)(wu:Words lu)(wv:Words lv)(hu:At w (some ⟨bu,ou,none⟩) bu ou lu)(hfu:dB w bu ou (q0 + (k + 2)))(hv:At w av bv ov lv)(hne:bv≠bu)(htop:9223372036854775808<=nth lv (k + 1))(hval:val lu < val lv * 18446744073709551616 ^ q0) :
  Calls Tryz.prog 115 #[.slice (some ⟨bu,ou,none⟩) (q0 + (k + 2)) cu,.slice av (k + 2) cv] w fun e w'=>∃ lq lr:List Int,e=.returned (.slice (some ⟨w.heap.size,0,none⟩) q0 q0)/\kQ lu (val lv) q0 k 0 lq lr/\At w' (some ⟨w.heap.size,0,none⟩) w.heap.size 0 lq/\dB w' w.heap.size 0 q0/\At w' (some ⟨bu,ou,none⟩) bu ou lr/\dB w' bu ou (q0 + (k + 2))/\Below bu w w':=by
 go_enter Tryz.func115,Tryz.ntmps115;go_wp2;refine jj 0 (fun a' w'=>∃ (m:Nat) (lq r:List Int) (u8 u9 aA aB aC aD aE aF u16 aG aH aI aJ aK aM aN aO aP aQ aR aS aT aU aV u32 aW aX aY aZ a0 a1 a2 a3 a4 a5 a6 a7 a8 a9 ba bb bc bd be bf bg bh:Value),a'={ tmps:=#[.slice (some ⟨bu,ou,none⟩) (q0 + (k + 2)) cu,.slice av (k + 2) cv,undef,undef,.slice none 0 0,.int .i64 ((k:Int) + 2),.int .i64 (m:Int),.slice (some ⟨w.heap.size,0,none⟩) q0 q0,u8,u9,aA,aB,aC,aD,aE,aF,u16,aG,aH,aI,aJ,aK,aM,aN,aO,aP,aQ,aR,aS,aT,aU,aV,u32,aW,aX,aY,aZ,a0,a1,a2,a3,a4,a5,a6,a7,a8,a9,ba,bb,bc,bd,be,bf,bg,bh],defers:=[] }/\m<=q0/\kQ lu (val lv) q0 k m lq r/\At w' (some ⟨w.heap.size,0,none⟩) w.heap.size 0 lq/\dB w' w.heap.size 0 q0/\At w' (some ⟨bu,ou,none⟩) bu ou r/\dB w' bu ou (q0 + (k + 2))/\At w' av bv ov lv/\w.heap.size < w'.heap.size/\Below bu w w') (fun a' _=>(intOf (a'.tmps.getD 6 undef)).toNat) rfl ?_ ?_
 ·intro aj;go_wp2_with (at_make; refine cU rfl _ _ rfl q0 _ _ rfl rfl (by omega) (by omega) (by omega) ?_; intro w1 W f hsz);go_step3
  have G:bu < w.heap.size:=by
   rcases hu.lt with e | e
   ·subst e; simp at hlu
   ·exact e
  have hI:kQ lu (val lv) q0 k q0 (List.replicate q0 0) lu:=⟨by simp,hlu,ey _,wu,by simp[val],hval⟩
  rename_i K hK;refine hK _ _ (aj _ _ ⟨q0,List.replicate q0 0,lu,_,_,_,_,_,_,_,_,_,_,_,_,_,_,_,_,_,_,_,_,_,_,_,_,_,_,_,_,_,_,_,_,_,_,_,_,_,_,_,_,_,_,_,_,_,_,_,rfl,Nat.le_refl _,hI,W.at,W.free 0 q0,hu.keep f,dB.below f hfu G,hv.keep f,by omega,f.mono (Nat.le_of_lt G)⟩)
 ·rintro a' wr ⟨m,lq,r,u8,u9,aA,aB,aC,aD,aE,aF,u16,aG,aH,aI,aJ,aK,aM,aN,aO,aP,aQ,aR,aS,aT,aU,aV,u32,aW,aX,aY,aZ,a0,a1,a2,a3,a4,a5,a6,a7,a8,a9,ba,bb,bc,bd,be,bf,bg,bh,rfl,hm,hinv,hq,ak,H,B,al,X,am⟩;by_cases hm0:m=0
  ·subst hm0;go_wp2;rw[show ∀ J Q b w,Exit.jump 0 J Q .ret b w=Q .ret b w from fun _ _ _ _=>rfl];go_ret;exact⟨lq,r,rfl,hinv,hq,ak,H,B,am⟩
  ·obtain⟨a,rfl⟩:∃ a,m=a + 1:=⟨m - 1,by omega⟩
   have u:=hinv.Dj;have s:=hinv.Dc
   have hk1:a + (k + 2) + 1 - a=k + 3:=by omega
   have an:=dx wv;rw[hlv] at an;obtain⟨v,hW2⟩:=hinv.fE (by omega) an;have Y:=H.fE a (k + 3);have hfwin:=B.fE (k:=a) (m:=k + 3) (by omega)
   have q:((r.drop a).take (k + 3)).length=k + 3:=by simp; omega
   have h:Words ((r.drop a).take (k + 3)):=(hinv.wu.drop a).take (k + 3);have I:=fun wx hx hy=>we (some ⟨bu,ou + a,none⟩) (k + 3) bu (ou + a) av k cv bv ov ((r.drop a).take (k + 3)) lv wx q hlv (by omega) h wv hx hy htop hW2
   have c:=fun d nw=>hinv.step (d:=d) (nw:=nw) (by omega) an
   have HH:=(show Hid _ from And.intro v (And.intro q (And.intro h (And.intro u (And.intro s c)))))
   clear hinv v q h u s c
   have e1:((a:Nat):Int) + 1 - 1=a:=by omega
   generalize hL:(r.drop a).take (k + 3)=L at *;go_wp2_with fail;rw[hk1];refine(I _ Y al).mono ?_
   rintro e w2 ⟨g,rfl,y,f⟩;obtain⟨v,q,h,u,s,c⟩:=HH.out
   have bi:w.heap.size < w2.heap.size:=Nat.lt_of_lt_of_le X f.size
   have G:bu < wr.heap.size:=by
    rcases H.lt with e | e
    ·subst e; simp at s
    ·exact e
   have HB2:=(show Hid _ from am.trans (f.mono (Nat.le_of_lt G)))
   clear am;have ao:=hq.keep f;have M:=dB.below f ak X;have bj:=H.keep f;have aa:=dB.below f B G;have bk:=al.keep f;have hc:=ao.cell a (by omega);have hf:=M a (by omega);rw[Nat.zero_add] at hc hf;clear I Y;have bl:=y.1;have bm:=y.2.1;clear v q h u s c hq ak H B al;go_wp2_with fail
   have N:bu≠w.heap.size:=by
    rcases hu.lt with e | e
    ·subst e; simp at hlu
    ·omega
   have ab:bu<=w.heap.size:=by
    rcases hu.lt with e | e
    ·subst e; simp at hlu
    ·omega
   have bn:bv≠w.heap.size:=by
    rcases hv.lt with e | e
    ·subst e; simp at hlv
    ·omega
   obtain⟨v,q,h,u,s,c⟩:=HH.out
   have t:Wr w.heap.size 0 q0 w2 (w2.setCell ⟨w.heap.size,a,none⟩ (.int .u64 g)):=(Wr.refl _ _ _ _).setCell (by omega) (by omega) _;have ap:=ao.setCell (i:=a) (by omega) g;rw[Nat.zero_add] at ap;generalize w2.setCell ⟨w.heap.size,a,none⟩ (.int .u64 g)=w3 at *;have ac:=t.free M;have O:=t.free aa;have aq:=bj.wr t (.inr N);have ar:=bk.wr t (.inr bn)
   have bo:w.heap.size < w3.heap.size:=by rw[t.size]; exact bi
   have z:=aq.fE a (k + 3);rw[hL] at z;have C:=O.fE (k:=a) (m:=k + 3) (by omega);refine(iJ (some ⟨bu,ou + a,none⟩) bu (ou + a) (k + 3) (k + 3) av bv ov (k + 2) cv g L lv w3 q hlv (by omega) (by omega) (Nat.le_refl _) hcv bl bm h wv z C ar (.inr hne)).mono ?_
   rintro e w4 ⟨fP,rfl,ho0,ho1,nw,P,au,ad,j,A⟩;have bp:=(show Hid _ from(HB2.out.trans (t.below ab)).trans (j.below (Nat.le_refl _)))
   have D:=j.free ac;have R:=j.free O;have V:=ap.wr j (.inr (Ne.symm N));have aw:=ar.wr j (.inr hne);have ax:=aq.patch j ad P (by omega)
   have ae:w.heap.size < w4.heap.size:=by rw[j.size]; exact bo
   have hP:=fh (l:=r) (m:=nw) (k:=a) (by omega)
   have hVB3:val lv < 18446744073709551616 ^ (k + 3):=by
    have:=pow_pos (k + 2);rw[Int.pow_succ _ (k + 2)]; omega
   have E:=dx au;rw[P] at E;have x:=fun Z=>A8 (Z:=Z) (n:=k + 3) y hVB3 A E (aL h) ho0
   clear t M aa bj bk ao ac O aq ar z C j ap;by_cases ho:fP=0
   ·subst ho;have hx:=(x 0).1 rfl;have hJ:=c g nw bl bm au P hx.1 hx.2;have HJ:=(show Hid _ from hJ)
    clear hJ hx x c HH v q h u s A E hP;go_wp2_with fail;go_step3;refine And.intro (Eq.refl 0) (And.intro ?_ ?_)
    ·exact⟨a,lq.set a g,patch r a nw,_,_,_,_,_,_,_,_,_,_,_,_,_,_,_,_,_,_,_,_,_,_,_,_,_,_,_,_,_,_,_,_,_,_,_,_,_,_,_,_,_,_,_,_,_,_,_,rfl,by omega,HJ.out,V,D,ax,R,aw,ae,bp.out⟩
    ·simp[intOf]
   ·have hg1':1<=g:=((x ((val nw + val lv * 1) % 18446744073709551616 ^ (k + 3))).2 ho rfl).1;have S:=V.cell a (by simp; omega);have af:=D a (by omega);rw[Nat.zero_add] at S af;rw[dy (by omega),if_pos rfl] at S;have HN:=(show Hid _ from And.intro x (And.intro c (And.intro u (And.intro s (And.intro v (And.intro q (And.intro h (And.intro hP P))))))))
    clear x c HH v q h u s A E hP
    have hgw:IntKind.u64.wrap (g - 1)=g - 1:=by rw[IntKind.wrap_u64]; omega
    have hob:(fP == 0)=false:=by simpa using ho
    go_wp2_with fail;obtain⟨x,c,u,s,v,q,h,hP,hnl'⟩:=HN.out
    have o:Wr w.heap.size 0 q0 w4 (w4.setCell ⟨w.heap.size,a,none⟩ (.int .u64 (g - 1))):=(Wr.refl _ _ _ _).setCell (by omega) (by omega) _;have ay:=V.setCell (i:=a) (by simp; omega) (g - 1);rw[Nat.zero_add,List.set_set] at ay;generalize w4.setCell ⟨w.heap.size,a,none⟩ (.int .u64 (g - 1))=w5 at *;have ag:=o.free D;have T:=o.free R;have hu5:=ax.wr o (.inr N);have az:=aw.wr o (.inr bn);have ah:=ad.wr o (.inr N)
    have hsz5:w.heap.size < w5.heap.size:=by rw[o.size]; exact ae
    have F:=T.fE (k:=a) (m:=k + 3) (by omega);refine(ep (some ⟨bu,ou + a,none⟩) bu (ou + a) (k + 3) (k + 3) av bv ov (k + 2) cv 1 nw lv w5 P hlv (by omega) (by omega) (Nat.le_refl _) hcv (by omega) (by omega) au wv ah F az (.inr hne)).mono ?_
    rintro e w6 ⟨rfl,n2,ai,hnw6,hat6,p,U⟩;have HB6:=(show Hid _ from(bp.out.trans (o.below ab)).trans (p.below (Nat.le_refl _)))
    have hfq6:=p.free ag;have hfu6:=p.free T;have hq6:=ay.wr p (.inr (Ne.symm N));have hv6:=az.wr p (.inr hne);have hu6:=hu5.patch p hat6 ai (by omega);rw[rr (by omega) (by omega)] at hu6
    have hsz6:w.heap.size < w6.heap.size:=by rw[p.size]; exact hsz5
    have hx:=(x (val n2)).2 ho U;have HJ:=(show Hid _ from c (g - 1) n2 (by omega) (by omega) hnw6 ai hx.2.1 hx.2.2)
    clear hx x c HN v q h u s hP o ay ag T hu5 az ah F p V D ax aw R U S af;go_wp2_with fail;go_step3;refine And.intro (Eq.refl 0) (And.intro ?_ ?_)
    ·exact⟨a,lq.set a (g - 1),patch r a n2,_,_,_,_,_,_,_,_,_,_,_,_,_,_,_,_,_,_,_,_,_,_,_,_,_,_,_,_,_,_,_,_,_,_,_,_,_,_,_,_,_,_,_,_,_,_,_,rfl,by omega,HJ.out,hq6,hfq6,hu6,hfu6,hv6,hsz6,HB6.out⟩
    ·simp[intOf]
end
end
section
open Go.RowKit Lim
section
variable {l L:List Int}{k s:Nat}
theorem Bq(wl:Words l){n:Nat}(hn:l.length=n + 1):nth l n * 18446744073709551616 ^ n<=val l/\val l < (nth l n + 1) * 18446744073709551616 ^ n:=by
 have e1:=bE l n (by omega);have b:=aL (wl.take n);have a:=dx (wl.take n);rw[List.length_take,Nat.min_eq_left (by omega)] at a;rw[dU (by omega),List.drop_of_length_le (show l.length<=n + 1 by omega)] at e1
 have e2:(18446744073709551616:Int) ^ n * (nth l n + 18446744073709551616 * val [])=nth l n * 18446744073709551616 ^ n:=by
  rw[show val []=0 from rfl]; grind
 rw[e2] at e1;rw[Int.add_mul (nth l n) 1];omega
theorem eX{a b p:Int}(hp:0 < p)(h:a * p < b * p):a < b:=Int.lt_of_mul_lt_mul_right h (Int.le_of_lt hp)
theorem sn{p:List Int}(r:Words L)(hL:L.length=k + 2)(q:Words p)(t:p.length=k + 3)(hs:s<=63)(e:val p=val L * 2 ^ s)(b0:9223372036854775808<=nth L (k + 1) * 2 ^ s)(b1:nth L (k + 1) * 2 ^ s < 18446744073709551616):aE p=k + 2/\9223372036854775808<=nth p (k + 1):=by
 obtain⟨t1,t2⟩:=Bq (n:=k + 1) r hL;obtain⟨g,h⟩:=Bq (n:=k + 2) q t
 have a:(0:Int) < 2 ^ s:=Int.pow_pos (by decide);have b:=pow_pos (k + 1);have hC:=pow_pos (k + 2)
 have c1:(nth L (k + 1) + 1) * 2 ^ s<=18446744073709551616:=by
  have f:(18446744073709551616:Int)=2 ^ (64 - s) * 2 ^ s:=by rw[<- Int.pow_add,show 64 - s + s=64 by omega]; rfl
  rw[f] at b1 ⊢;have:=eX a b1;exact Int.mul_le_mul_of_nonneg_right (by omega) (Int.le_of_lt a)
 have j:val p < 1 * 18446744073709551616 ^ (k + 2):=by
  have k1:val L * 2 ^ s < (nth L (k + 1) + 1) * 18446744073709551616 ^ (k + 1) * 2 ^ s:=Int.mul_lt_mul_of_pos_right t2 a
  have k2:(nth L (k + 1) + 1) * 2 ^ s * 18446744073709551616 ^ (k + 1)<=18446744073709551616 * 18446744073709551616 ^ (k + 1):=Int.mul_le_mul_of_nonneg_right c1 (Int.le_of_lt b);rw[Int.mul_right_comm] at k1;rw[Int.pow_succ _ (k + 1),Int.mul_comm _ 18446744073709551616];omega
 have l:nth p (k + 2) < 1:=eX hC (by omega)
 have d:nth p (k + 2)=0:=by have:=q.nth (k + 2); omega
 have e1:=bE p (k + 2) (by omega);rw[dU (by omega),List.drop_of_length_le (show p.length<=k + 2 + 1 by omega),d,show val []=0 from rfl] at e1;obtain⟨v1,v2⟩:=Bq (n:=k + 1) (q.take (k + 2)) (by simp; omega);rw[dr (by omega)] at v1 v2
 have m:9223372036854775808 * 18446744073709551616 ^ (k + 1)<=val p:=by
  have k1:nth L (k + 1) * 18446744073709551616 ^ (k + 1) * 2 ^ s<=val L * 2 ^ s:=Int.mul_le_mul_of_nonneg_right t1 (Int.le_of_lt a)
  have k2:9223372036854775808 * 18446744073709551616 ^ (k + 1)<=nth L (k + 1) * 2 ^ s * 18446744073709551616 ^ (k + 1):=Int.mul_le_mul_of_nonneg_right b0 (Int.le_of_lt b);rw[Int.mul_right_comm] at k1;omega
 have o:9223372036854775808 < nth p (k + 1) + 1:=eX b (by omega);refine⟨jO (by omega) ?_ ?_,by omega⟩
 ·intro i hi;by_cases c:i=k + 2
  ·subst c; exact d
  ·simp[nth,List.getElem?_eq_none (show p.length<=i by omega)]
 ·intro _;rw[show k + 2 - 1=k + 1 from rfl]; omega
theorem Cm{N:Nat}(wl:Words l)(e:l.length=N)(g:Words L)(hL:L.length=k + 2)(f:1<=nth L (k + 1))(h:k + 2<=N) :
  val l * 2 ^ s < val L * 2 ^ s * 18446744073709551616 ^ (N + 1 - (k + 2)):=by
 obtain⟨t1,t2⟩:=Bq (n:=k + 1) g hL
 have a:(0:Int) < 2 ^ s:=Int.pow_pos (by decide);have b:=pow_pos (k + 1);have c:=pow_pos (N + 1 - (k + 2));have d:=dx wl;rw[e] at d
 have k1:1 * 18446744073709551616 ^ (k + 1)<=nth L (k + 1) * 18446744073709551616 ^ (k + 1):=Int.mul_le_mul_of_nonneg_right f (Int.le_of_lt b)
 have k2:18446744073709551616 ^ (k + 1) * 18446744073709551616 ^ (N + 1 - (k + 2))<=val L * 18446744073709551616 ^ (N + 1 - (k + 2)):=Int.mul_le_mul_of_nonneg_right (by omega) (Int.le_of_lt c);rw[<- Int.pow_add,show k + 1 + (N + 1 - (k + 2))=N by omega] at k2;rw[Int.mul_right_comm];exact Int.mul_lt_mul_of_pos_right (by omega) a
theorem An{x V Q R P:Int}(f:0 < P)(i:0 < V)(e:x * P=Q * (V * P) + R)(r0:0<=R)(r1:R < V * P):Q=x / V/\R / P=x % V:=by
 have c:R=(x - Q * V) * P:=by rw[Int.sub_mul,e,Int.mul_assoc]; omega
 have g:R / P=x - Q * V:=by rw[c,Int.mul_ediv_cancel _ (by omega)]
 have h:0<=x - Q * V:=by rw[<- g]; exact Int.ediv_nonneg r0 (Int.le_of_lt f)
 have j:x - Q * V < V:=eX f (by rw[<- c]; exact r1);have d:=(Int.ediv_emod_unique (a:=x) (b:=V) (r:=x - Q * V) (q:=Q) i).2 ⟨by rw[Int.mul_comm V]; omega,h,j⟩;exact⟨d.1.symm,by rw[g]; exact d.2.symm⟩
theorem Ad(ao:Option Addr)(n c b o:Nat)(ao':Option Addr)(n' c' b' o':Nat)(l l':List Int)(w:World)(hl:l.length=n)(hl':l'.length=n')(hc:n<=c)(hc':n'<=c')(hbig:n<=1099511627776)(hbig':n'<=1099511627776)(wl:Words l)(wl':Words l')(ha:At w ao b o l)(ha':At w ao' b' o' l')(hge:val l'<=val l)(h2:2<=aE l') :
  Calls Tryz.prog 70 #[.slice ao n c,.slice ao' n' c'] w fun e w'=>jF w w' e (val l) (val l') n n':=by
 have h0:=aL wl;have hn:=bp l
 have hn':=bp l'
 have hNN:aE l'<=aE l:=by
  by_cases c:aE l < aE l'
  ·have:=dA wl wl' c; omega
  ·omega
 have t1:=bh ao' n' c' l' w hl' hc' (by omega) ha'.cells
 have p:=ha'.sub (aE l');rw[show l'.take (aE l')=norm l' from rfl] at p;have t2:=iq ao n c b o ao' (aE l') (aE l') b' o' l (norm l') w hl (aJ l') hc (Nat.le_refl _) (by omega) (by omega) wl wl'.norm ha p;rw[cV] at t2
 have hs0:0<=O (val l) (val l'):=by unfold O; split<;>(try split)<;>omega
 have a:=aJ l'
 have x:=wl'.norm
 have d:=cV l'
 have P:nth (norm l') (aE l' - 1)≠0:=by rw[fY]; exact ir (by omega)
 generalize norm l'=L' at *;generalize q:aE l'=h at *;obtain⟨m,hm⟩:∃ m,h=m + 1:=⟨h - 1,by omega⟩
 rw[show h - 1=m by omega] at P
 have hmi:(h:Int) - 1=m:=by omega
 have hmN:m < h:=by omega
 have hmN':(m:Int) < h:=by omega
 have hty:=x.nth m;rcases p.loc with e | rfl
 ·subst e; simp at a; omega
 generalize O (val l) (val l')=sg at *;have H1:=(show Hid _ from And.intro d (And.intro hm (And.intro a (And.intro hge (And.intro hl q)))))
 clear d hm a q;go_enter Tryz.func70,Tryz.ntmps70;go_wp2_with fail;refine t1.mono ?_
 rintro e w1 ⟨rfl,rfl⟩;go_wp2_with fail;refine t2.mono ?_
 rintro e w2 ⟨rfl,j⟩;have hcy:=(p.keep j).cell m (by rw[H1.out.2.2.1]; exact hmN);clear t1 t2;go_wp2_with fail;refine(DS (nth L' m) w2 (by omega) hty.2).mono ?_
 rintro e w3 ⟨s,rfl,hs,HS,rfl⟩;have ta:=bh ao n c l w3 hl hc (by omega) (ha.keep j).cells;have Q:=(ha.keep j).sub (aE l);rw[show l.take (aE l)=norm l from rfl] at Q;have H:=aJ l;have R:=wl.norm;have HV:=(show Hid _ from cV l)
 rw[hl] at hn;generalize norm l=L at *;generalize aE l=N at *;clear hcy;go_wp2_with fail;refine ta.mono ?_
 rintro e S ⟨rfl,rfl⟩;clear ta;go_wp2_with fail;refine(n6 ao N N b o s L S H (Nat.le_refl _) (by omega) hs R Q).mono ?_
 rintro e w5 ⟨lu,rfl,T,hwu,U,hfu,V,W,I⟩;have hs5:=(p.keep j).keep I;have HU:=(show Hid _ from And.intro T (And.intro W H))
 clear T W H;go_wp2_with fail;refine(n6 (some ⟨b',o',none⟩) h h b' o' s L' w5 H1.out.2.2.1 (Nat.le_refl _) (by omega) hs x hs5).mono ?_
 rintro e w6 ⟨J,rfl,hlv,X,E,hfv,hszv,y,z⟩;obtain⟨k,hk⟩:∃ k,k + 2=h:=⟨h - 2,by omega⟩
 obtain⟨q0,r⟩:∃ q0,q0 + (k + 2)=N + 1:=⟨N + 1 - (k + 2),by omega⟩
 obtain⟨d,hm,a,Y,Z,q⟩:=H1.out
 have t:m=k + 1:=by omega
 have A:=sn (k:=k) x (by omega) X (by omega) hs y (by rw[<- t]; exact HS.out.1) (by rw[<- t]; exact HS.out.2);have K:=Cm (s:=s) (N:=N) (k:=k) (l:=L) (L:=L') R HU.out.2.2 x (by omega) (by rw[<- t]; omega) (by omega);rw[<- HU.out.2.1,<- y,show N + 1 - (k + 2)=q0 by omega] at K;have tv:=bh (some ⟨w5.heap.size,0,none⟩) (h + 1) (h + 1) J w6 hlv (Nat.le_refl _) (by omega) E.cells;rw[A.1,hk] at tv;have aa:=E.sub (aE J);rw[show J.take (aE J)=norm J from rfl] at aa;have u:=aJ J;rw[A.1] at u;have M:=mI S.heap.size 0 (N + 1) (some ⟨w5.heap.size,0,none⟩) k q0 h w5.heap.size 0 lu (norm J) w6 (by rw[r]; exact HU.out.1) u (by omega) (by omega) (by omega) (by omega) hwu X.norm (U.keep z) (by rw[r]; exact dB.below z hfu V) aa (by omega) (by rw[fY]; exact A.2) (by rw[cV]; exact K);rw[r,hk,cV] at M;have HK:=(show Hid _ from And.intro hk (And.intro r (And.intro y t)))
 have hq0n:q0<=N:=by omega
 clear d hm a q hk r t A K u y Z;go_wp2_with fail;refine tv.mono ?_
 rintro e w7 ⟨rfl,rfl⟩;clear tv;go_wp2_with fail;refine M.mono ?_
 rintro e w8 ⟨lq,lr,rfl,B,hatq,hfq,hatr,hfr,hbd⟩;clear M
 have C:lr.length=N + 1:=by rw[B.Dc]; exact HK.out.2.1
 have HD:=(show Hid _ from B)
 have F:=B.wu;clear B;go_wp2_with fail;refine(wV (some ⟨S.heap.size,0,none⟩) S.heap.size 0 (N + 1) (N + 1) s lr w8 C (by omega) (Nat.le_refl _) hs F hatr hfr).mono ?_
 rintro e w9 ⟨rfl,lz,v,hwz,G,f,D⟩;have hq9:=hatq.wr f (.inr (by omega));have hfq9:=f.free hfq;have hfz9:=f.free hfr;have tq:=bh (some ⟨w7.heap.size,0,none⟩) q0 q0 lq w9 HD.out.Dj (Nat.le_refl _) (by omega) hq9.cells;have tr:=bh (some ⟨S.heap.size,0,none⟩) (N + 1) (N + 1) lz w9 v (Nat.le_refl _) (by omega) G.cells;have hz1:=bp lz;have hz2:=bp lq;rw[HD.out.Dj] at hz2;rw[v] at hz1;have HX:=(show Hid _ from And.intro C (And.intro v D))
 clear C v D;go_wp2_with fail;refine tq.mono ?_
 rintro e w10 ⟨rfl,rfl⟩;go_wp2_with fail;refine tr.mono ?_
 rintro e w11 ⟨rfl,rfl⟩;clear tq tr;go_wp2;go_ret3;have hsq:=hq9.sub (aE lq);have hsz:=G.sub (aE lz);have g:=j.size;have hsz5:=I.size;have hsz7:=z.size
 have HB:Below w1.heap.size w1 w11:=(((j.trans (I.mono g)).trans (z.mono (by omega))).trans (hbd.mono g)).trans (f.below g);obtain⟨d,hm,a,Y,Z,q⟩:=H1.out;obtain⟨C,v,D⟩:=HX.out;have he:=HD.out.eq;have hlt:=HD.out.lt;rw[HU.out.2.1,HV.out,HK.out.2.2.1,d,Int.pow_zero,Int.one_mul,List.drop_zero] at he;rw[HK.out.2.2.1,d,Int.pow_zero,Int.mul_one] at hlt
 have hV:0 < val l':=by
  have:val l'≠0:=fun e=>by have:=(bW wl').2 e; omega
  have:=aL wl';omega
 have hdb:=An (fM s hs).1 hV he (aL F) hlt;have i1:=b8 HD.out.wq;have i2:=b8 hwz;rw[hdb.1] at i1;rw[D,hdb.2] at i2;exact⟨_,_,norm lq,norm lz,rfl,dF.of (aJ lq).symm (Nat.le_refl _) (by omega) hsq (fun i hi=>hfq9 i (by omega)),dF.of (aJ lz).symm (Nat.le_refl _) g hsz (fun i hi=>hfz9 i (by omega)),i1,i2,by rw[aJ]; omega,by rw[aJ]; omega,HB⟩
theorem uQ(ao:Option Addr)(n c b o:Nat)(ao':Option Addr)(n' c' b' o':Nat)(l i:List Int)(w:World)(r:l.length=n)(p:i.length=n')(hc:n<=c)(k:n'<=c')(h:n<=1099511627776)(g:n'<=1099511627776)(wl:Words l)(j:Words i)(q:At w ao b o l)(m:At w ao' b' o' i)(s:val i≠0) :
  Calls Tryz.prog 70 #[.slice ao n c,.slice ao' n' c'] w fun e w'=>jF w w' e (val l) (val i) n n':=by
 by_cases a:val l < val i
 ·exact div_lt ao n c b o ao' n' c' b' o' l i w r p hc k h g wl j q m a
 ·have f:aE i≠0:=fun e=>s ((bW j).1 e)
  by_cases d:aE i=1
  ·exact div_one ao n c b o ao' n' c' b' o' l i w r p hc k h g wl j q m (by omega) d
  ·exact Ad ao n c b o ao' n' c' b' o' l i w r p hc k h g wl j q m (by omega) (by omega)
theorem r8(ao:Option Addr)(n c b o:Nat)(ao':Option Addr)(n' c' b' o':Nat)(ad:Option Addr)(H R W U:Nat)(l I G:List Int)(w:World)(Y:l.length=n)(P:I.length=n')(N:G.length=H)(hc:n<=c)(K:n'<=c')(T:H<=R)(V:n<=274877906944)(J:n'<=274877906944)(L:H<=274877906944)(wl:Words l)(Q:Words I)(wd:Words G)(X:At w ao b o l)(M:At w ao' b' o' I)(O:At w ad W U G)(S:val G≠0) :
  Calls Tryz.prog 93 #[.slice ao n c,.slice ao' n' c',.slice ad H R] w fun e w'=>jF w w' e (val l * val I) (val G) (n + n') H:=by
 go_enter Tryz.func93,Tryz.ntmps93;go_wp2_with fail;refine(qk ao n c b o ao' n' c' b' o' l I w Y P hc K (by omega) (by omega) wl Q X M).mono ?_
 rintro e s ⟨v,r,rfl,f,p,hlen,a⟩;obtain⟨t,x,or',y,rfl,i,z,g,_⟩:=f.is;have h:=O.keep a;have d:=a.size;have t2:=uQ t r.length y x or' ad H R W U r G s rfl N i T (by omega) (by omega) p.1 wd g h S;rw[p.2.2] at t2;go_wp2_with fail;refine t2.mono ?_
 rintro e F ⟨q,u,A,B,rfl,C,hu,j,k,D,E,m⟩;go_wp2;go_ret3;exact⟨q,u,A,B,rfl,C.mono d,hu.mono d,j,k,by omega,by omega,a.trans (m.mono d)⟩
end
end
section
open Go.RowKit Lim
section
variable {w:World}{B:Nat}{v:Value}{l l1:List Int}{c m c0:Int}
def ef(w:World)(B:Nat)(v:Value)(l:List Int):Prop:=w.ownsRow B 22 1 v l.length (l.map (Value.int .u64))
theorem ef.open(h:ef w B v l):∃ ao c,v=.slice ao l.length c/\l.length<=c/\c<=maxLen/\∃ g,(l=[]\/ao=some ⟨g,0,none⟩)/\B<=g/\At w ao g 0 l/\dB w g 0 l.length:=by
 obtain⟨_,a⟩:=h;rcases a with⟨rfl,h0⟩ | ⟨g,cap,cur,rfl,hB,hh,hle,hmx,hsz,htk⟩
 ·have e:l=[]:=List.eq_nil_of_length_eq_zero h0;subst e;exact⟨none,0,rfl,Nat.le_refl _,by decide,B,.inl rfl,Nat.le_refl _,⟨.inl rfl,fun i hi=>by simp at hi⟩,fun i hi=>by simp at hi⟩
 ·refine⟨some ⟨g,0,none⟩,cap,rfl,hle,hmx,g,.inr rfl,hB,⟨.inr rfl,fun i hi => ?_⟩,fun i hi => ?_⟩
  ·have e:cur.toList[i]? = some (.int .u64 (nth l i)):=by
    have b:(cur.toList.take (l.length * 1))[i]? = some (.int .u64 (nth l i)):=by
     rw[htk,List.getElem?_map,List.getElem?_eq_getElem hi,bS hi]; rfl
    rwa [Nat.mul_one,List.getElem?_take_of_lt hi] at b
   simp only[World.cell?,hh];simpa using e
  ·simp[World.frozen?,hh]
theorem ef.setCell(h:ef w B v l){c g:Nat}(b:v=.slice (some ⟨g,0,none⟩) l.length c){i:Nat}(hi:i < l.length)(x:Int):ef (w.setCell ⟨g,0 + i,none⟩ (.int .u64 x)) B v (l.set i x):=by
 obtain⟨_,a⟩:=h;refine⟨by simp,?_⟩;rcases a with⟨rfl,h0⟩ | ⟨g',cap,cur,rfl,hB,hh,hle,hmx,hsz,htk⟩
 ·omega
 ·simp only[Value.slice.injEq,Option.some.injEq,Addr.mk.injEq,and_true,true_and] at b;obtain⟨rfl,rfl⟩:=b;right;refine⟨g',cap,cur.setIfInBounds i (.int .u64 x),by simp,hB,?_,by simpa using hle,hmx,by simpa using hsz,?_⟩
  ·simp only[World.setCell,Array.getElem?_modify,if_true,hh,Nat.zero_add];simp
  ·rw[List.length_set,Nat.mul_one] at *;rw[Array.toList_setIfInBounds,List.map_set,<- htk,List.take_set]
theorem ef.new{w':World}(h:ef w' w.heap.size v l):dF w w' v l:=by
 obtain⟨ao,c,rfl,hc,_,g,_,hg,hat,hf⟩:=h.open;exact⟨ao,g,0,c,rfl,hc,hg,hat,hf⟩
structure mJ(l:List Int)(m c0:Int)(k:Nat)(l1:List Int)(c:Int):Prop where
 len:l1.length=l.length
 words:Words l1
 high:∀ i,k<=i->nth l1 i=nth l i
 val:Lim.val (l1.take k) + 18446744073709551616 ^ k * c=Lim.val (l.take k) * m + c0
theorem mJ.step{a c':Int}{k:Nat}(h:mJ l m c0 k l1 c)(g:k < l.length)(d:0<=a)(b:a < 18446744073709551616)(e:a + 18446744073709551616 * c'=nth l k * m + c):mJ l m c0 (k + 1) (l1.set k a) c':=by
 have f:=h.len;refine⟨by simp[f],h.words.set k d b,fun i hi=>by rw[dy (by omega),if_neg (by omega)]; exact h.high i (by omega),?_⟩;have j:=h.val;rw[du (by simp[f]; omega),du g,List.take_set_of_le (Nat.le_refl _),dy (by omega),if_pos rfl,Int.pow_succ];have:18446744073709551616 ^ k * (a + 18446744073709551616 * c')=18446744073709551616 ^ k * (nth l k * m + c):=by rw[e]
 grind
theorem oB(n:Nat)(w:World)(hn:n<=19):Calls Tryz.prog 161 #[.int .i64 n] w fun e w'=>e=.returned (.int .u64 (10 ^ n))/\w'=w:=by
 go_enter Tryz.func161,Tryz.ntmps161;go_wp2;go_loop [3,5] (fun d b=>∃ (k:Nat) (p:Int),k<=n/\b=.int .i64 k/\d=.int .u64 p/\Hid (p=10 ^ k)) (fun _ b=>n - (intOf b).toNat)
 case atStart=>exact⟨0,1,Nat.zero_le _,rfl,rfl,rfl⟩
 case round =>
  obtain⟨k,p,g,rfl,rfl,a⟩:=hrel;by_cases f:k < n
  ·have h:(1:Int)<=p:=by rw[a.out]; exact Int.pow_pos (by decide)
   have i:p<=1000000000000000000:=by
    rw[a.out];have:(10:Nat) ^ k<=10 ^ 18:=Nat.pow_le_pow_right (by decide) (by omega)
    have e:((10 ^ k:Nat):Int)=(10:Int) ^ k:=by rw[Int.natCast_pow]; rfl
    rw[<- e]; omega
   go_wp2;go_round
   case rel=>exact⟨k + 1,p * 10,by omega,by go_num,rfl,by show _=_; rw[Int.pow_succ,<- a.out]⟩
   case measure=>simp[intOf]; omega
  ·have c:k=n:=by omega
   subst c;go_wp2;go_ret;exact⟨ki a.out,rfl⟩
theorem vR(hc:c≠0):aE (l ++ [c])=(l ++ [c]).length:=by
 apply jO (Nat.le_refl _)
 ·intro i hi; exact fN hi
 ·intro _; rw[List.length_append,List.length_singleton,Nat.add_sub_cancel,bI (Nat.le_refl _),Nat.sub_self,cE]; exact hc
theorem sk{r:List Int}(wl:Words l)(wr:Words r)(hlen:r.length=l.length)(g:val r=val l * m + c)(hm:0 < m)(hc:0<=c)(hn:aE l=l.length):aE r=r.length:=by
 have f:=bp r;by_cases d:l.length=0
 ·omega
 have i:=fC wl (by omega);have e:=gQ wr;have b:=aL wl
 have h:val l * 1<=val l * m:=Int.mul_le_mul_of_nonneg_left (by omega) b;by_cases a:aE r < r.length
 ·have:=gR (show aE r<=aE l - 1 by omega);omega
 ·omega
theorem mJ.fin(h:mJ l m c0 l.length l1 c):Lim.val (l1 ++ [c])=Lim.val l * m + c0:=by
 have a:=h.val;rw[List.take_of_length_le (by rw[h.len]; exact Nat.le_refl _),List.take_of_length_le (Nat.le_refl _)] at a;rw[ea,eC,h.len]; exact a
theorem oe(B:Nat)(v:Value)(l:List Int)(m c0:Int)(w:World)(hB:B<=w.heap.size)(ab:ef w B v l)(ad:l.length<=1099511627776)(wl:Words l)(ae:0<=m)(ag:m < 18446744073709551616)(ac:0<=c0)(af:c0 < 18446744073709551616) :
  Calls Tryz.prog 206 #[v,.int .u64 m,.int .u64 c0] w fun e w'=>∃ v' r,e=.returned v'/\ef w' B v' r/\Words r/\val r=val l * m + c0/\r.length<=l.length + 1/\(aE l=l.length->0 < m->aE r=r.length)/\Below B w w':=by
 obtain⟨i0,hi,G,H,I⟩:=info_parts gT;obtain⟨T,cap,rfl,x,U,g,j,Z,_,_⟩:=ab.open
 have J:∃ n,n=l.length:=⟨_,rfl⟩
 obtain⟨n,hn⟩:=J
 have K:n<=l.length:=by omega
 have aa:l.length<=n:=by omega
 have p:Hid (n=l.length):=hn;rw[<- hn] at ab ad x ⊢;clear hn;go_enter Tryz.func206,Tryz.ntmps206;go_wp2;go_loopw [2,13] (fun tc L wr=>∃ (k:Nat) (c:Int) (b:List Int),k<=n/\L=.int .i64 k/\tc=.int .u64 c/\0<=c/\c < 18446744073709551616/\mJ l m c0 k b c/\ef wr B (.slice T n cap) b/\Below B w wr) (fun _ L _=>n - (intOf L).toNat)
 case atStart=>exact⟨0,c0,l,Nat.zero_le _,rfl,rfl,ac,af,⟨rfl,wl,fun _ _=>rfl,by simp[val]⟩,ab,Below.refl _ _⟩
 case round =>
  clear ab;obtain⟨k,c,b,hk,rfl,rfl,o,y,hinv,ab,a⟩:=hrel;have d:=hinv.len;by_cases hlt:k < n
  ·rcases j with e | rfl
   ·subst e; simp at K; omega
   obtain⟨ao',c',V,_,_,M,f,z,A,C⟩:=ab.open;simp only[Value.slice.injEq] at V;obtain⟨rfl,e1,rfl⟩:=V
   have N:M=g:=by
    rcases f with e | e
    ·subst e; simp at e1; omega
    ·simpa using e.symm
   subst N;have D:=A.cell k (by omega);have O:=C k (by omega);rw[Nat.zero_add] at D O;rw[hinv.high k (Nat.le_refl _)] at D;obtain⟨P,Q⟩:=wl.nth k
   have HI:Hid (mJ l m c0 k b c):=hinv
   have HM:Hid (ef wr B (.slice (some ⟨M,0,none⟩) n cap) b):=ab
   have HB:Hid (Below B w wr):=a
   have HE:Hid (n=b.length):=e1;clear hinv ab a A C f e1 wl;go_wp2_with (first
    | (go_at_call 89; refine(lA _ _ P Q ae ag _).mono ?_; rintro e w' ⟨R,lo,rfl,h1,W,h3,h4,h5,rfl⟩)
    | simp only[rP _ _ h3 o])
   have hxm:nth l k * m<=340282366920938463426481119284349108225:=by
    have:=Int.mul_le_mul (show nth l k<=18446744073709551615 by omega) (show m<=18446744073709551615 by omega) ae (by decide);simpa using this
   have h5':=h5.out
   have e5:(lo + c) % 18446744073709551616 + 18446744073709551616 * (R + (lo + c) / 18446744073709551616)=nth l k * m + c:=by omega
   have X:=HM.out.setCell (c:=cap) (g:=M) (by rw[<- HE.out]) (i:=k) (by omega) ((lo + c) % 18446744073709551616);rw[Nat.zero_add] at X;go_roundw
   case rel=>exact⟨k + 1,_,_,by omega,by go_num,rfl,by omega,by omega,HI.out.step (by omega) (Int.emod_nonneg _ (by decide)) (Int.emod_lt_of_pos _ (by decide)) e5,X,HB.out.setCell z _⟩
   case measure=>simp[intOf]; omega
  ·have S:k=n:=by omega
   subst S
   have Y:Hid (val (b ++ [c])=val l * m + c0):=by rw[p.out] at hinv; exact hinv.fin
   have q:=hinv.words;by_cases hc:c=0
   ·subst hc;go_wp2;go_ret
    have E:val b=val l * m + c0:=by rw[<- Y.out,ea]; simp[val]
    refine⟨_,b,rfl,ab,q,E,by omega,fun h1 W=>sk wl q (by omega) E W ac (by omega),a⟩
   ·have hcb:(c != 0)=true:=by rw[bne_iff_ne]; exact hc
    have F:wr.ownsRow B 22 1 (.slice T k cap) k (b.map (Value.int .u64)):=by have:=ab; unfold ef at this; rwa [d,<- p.out] at this
    have hsz:=a.size;go_wp2_with (at_builtin; refine wpList_append_own _ rfl _ _ 30 rfl B 22 i0 (.int .u64 0) 1 8 fW hi G H I rfl (by decide) _ _ _ rfl (F.alloc _) ⟨wr.heap.size,0,none⟩ 1 1 [.int .u64 c] rfl rfl ?c1 ?c2 ?c3 ?c4 ?c5 ?_)
    case c1=>exact cell_one_new _ _ _
    case c2=>intro u hu; simp at hu; subst hu; rfl
    case c3=>unfold maxLen; omega
    case c4=>omega
    case c5=>simp; omega
    intro v' w1 s t _;go_wp2;go_ret
    have hM:ef w1 B v' (b ++ [c]):=by
     unfold ef;rw[List.length_append,d,<- p.out,List.map_append]; exact s
    refine⟨_,b ++ [c],rfl,hM,q.append (Words.cons o y Words.nil),Y.out,by simp; omega,fun _ _=>vR hc,?_⟩;exact(a.alloc (by omega) _).grown t (by simp; omega) (by
     intro g1 h;rcases j with e | rfl
     ·subst e;rcases ab.2 with⟨e2,_⟩ | ⟨g2,cap2,cur2,e2,hB2,_⟩
      ·rw[e2] at h; simp[Value.ownBlock] at h
      ·rw[e2] at h; simp[Value.ownBlock] at h; omega
     ·simp[Value.ownBlock] at h; omega)
end
end
section
open Go.RowKit Lim
section
variable {w:World}{l:List Int}{ops:Array Oper}{rest:List Oper}
theorem ef.cell{B g n c:Nat}(h:ef w B (.slice (some ⟨g,0,none⟩) n c) l){i:Nat}(hi:i < l.length):w.cell? ⟨g,i,none⟩=some (.int .u64 (nth l i))/\w.frozen? ⟨g,i,none⟩=false:=by
 obtain⟨p,o,e,_,_,k,a,_,b,d⟩:=h.open;simp only[Value.slice.injEq] at e;obtain⟨rfl,_,_⟩:=e
 have m:k=g:=by
  rcases a with e | e
  ·subst e; simp at hi
  ·simpa using e.symm
 subst m;have j:=b.cell i hi;have f:=d i hi;rw[Nat.zero_add] at j f;exact⟨j,f⟩
theorem wG{o:Oper}{a:Act}{Q:Exit->Act->World->Prop}(k:o.guard=none)(l c:Operand)(g:o.op=Op.makeSlice 30 l c)(n m:Nat)(L C:Int)(j:a.eval l=.int .i64 L)(hc:a.eval c=.int .i64 C)(hL:L=(n:Int))(hC:C=(m:Int))(f:n<=m)(hn:m<=17592186044416)(h:∀ w',ef w' w.heap.size (.slice (some ⟨w.heap.size,0,none⟩) n m) (List.replicate n 0)->Below w.heap.size w w'->w'.heap.size=w.heap.size + 1->wpList Tryz.prog ops Q rest (a.put o.dst (.slice (some ⟨w.heap.size,0,none⟩) n m)) w') :
  wpList Tryz.prog ops Q (o :: rest) a w:=by
 obtain⟨i,hi,e,hs,hb⟩:=info_parts gT;refine wpList_plain k fun K d => ?_
 have b:=run_make (P:=Tryz.prog) w 30 22 i (.int .u64 0) fW hi e .i64 .i64 (n:Int) (m:Int) (by omega) (by omega) (by rw[hb]; omega) (by omega);subst hL;subst hC;unfold Oper.wp;simp only[execOp,g,j,hc];simp[b,Result.andThen];refine d _ _ (h _ ⟨by simp,.inr ⟨w.heap.size,m,((List.replicate m 0).map (Value.int .u64)).toArray,by simp,Nat.le_refl _,?_,by simpa using f,by unfold maxLen; omega,by simp,?_⟩⟩ ?_ ?_)
 ·show (w.heap.push _)[w.heap.size]? = _
  rw[Array.getElem?_push_size,hs,Nat.mul_one,rW]
 ·simp; omega
 ·exact(Below.refl _ _).alloc (Nat.le_refl _) _
 ·simp
theorem wC(n:Nat)(w:World)(hn:n<=4096) :
  Calls Tryz.prog 165 #[.int .i64 n] w fun e w'=>∃ v r,e=.returned (.tuple #[v,.int .i64 0])/\dF w w' v r/\IsN r (10 ^ n)/\r.length<=n + 2/\Below w.heap.size w w':=by
 obtain⟨q,K⟩:∃ q:Nat,q=n / 19:=⟨_,rfl⟩
 obtain⟨t,L⟩:∃ t:Nat,t=n % 19:=⟨_,rfl⟩
 have M:(n:Int) / 19=q:=by omega
 have N:(n:Int) % 19=t:=by omega
 have O:t < 19:=by omega
 have P:Hid (n=19 * q + t):=by show _=_; omega
 have Q:q<=n:=by omega
 clear K L
 have R:decide ((n:Int) < 0)=false:=by simp
 have S:decide (4096 < (n:Int))=false:=by simp; omega
 go_enter Tryz.func165,Tryz.ntmps165;go_wp2_with (at_make; refine wG rfl _ _ rfl 1 (q + 1) _ _ rfl rfl rfl (by omega) (by omega) (by omega) ?_; intro Z a h d; have D:=a.cell (i:=0) (by simp); obtain⟨E,F⟩:=D);have j:=a.setCell (c:=q + 1) (g:=w.heap.size) rfl (i:=0) (by simp) 1;rw[show (List.replicate 1 (0:Int)).set 0 1=[1] from rfl,Nat.add_zero] at j;have z:=h.setCell (p:=⟨w.heap.size,0,none⟩) (Nat.le_refl _) (.int .u64 1);clear a h E F;go_loopw [4,19] (fun T G wr=>∃ (k:Nat) (l:List Int),k<=q/\G=.int .i64 k/\ef wr w.heap.size T l/\Words l/\Hid (aE l=l.length)/\Hid (val l=10 ^ (19 * k))/\l.length<=k + 1/\Below w.heap.size w wr) (fun _ G _=>q - (intOf G).toNat)
 case atStart=>exact⟨0,[1],Nat.zero_le _,rfl,j,Words.cons (by decide) (by decide) Words.nil,rfl,rfl,by simp,z⟩
 case round =>
  clear j z d;obtain⟨k,l,hk,rfl,hm,wl,A,H,hlen,m⟩:=hrel;have d:=m.size;by_cases U:k < q
  ·go_wp2_with (go_at_call 206; refine(oe w.heap.size _ l 10000000000000000000 0 _ d hm (by omega) wl (by decide) (by decide) (by decide) (by decide)).mono ?_; rintro e V ⟨I,r,rfl,o,s,f,u,x,b⟩);have e1:=H.out;have e2:=x A.out (by decide);go_roundw
   case rel=>exact⟨k + 1,r,by omega,by go_num,o,s,e2,by show _=_; rw[f,e1,Int.add_zero,show 19 * (k + 1)=19 * k + 19 from by omega,Int.pow_add]; rfl,by omega,m.trans b⟩
   case measure=>simp[intOf]; omega
  ·have B:k=q:=by omega
   have W:Hid (k=q):=B;clear B
   have C:(0:Int) < 10 ^ t:=Int.pow_pos (by decide)
   have y:(10:Int) ^ t < 18446744073709551616:=by
    have:(10:Nat) ^ t<=10 ^ 18:=Nat.pow_le_pow_right (by decide) (by omega)
    have e:((10 ^ t:Nat):Int)=(10:Int) ^ t:=by rw[Int.natCast_pow]; rfl
    have e2:(10:Nat) ^ 18=1000000000000000000:=by decide
    omega
   have X:=oB t wr (by omega);generalize J:(10:Int) ^ t=p at *
   have Y:Hid ((10:Int) ^ t=p):=J;clear J;go_wp2_with fail;refine X.mono ?_
   rintro e w4 ⟨rfl,rfl⟩;go_wp2_with fail;refine(oe w.heap.size _ l p 0 _ d hm (by omega) wl (by omega) y (by decide) (by decide)).mono ?_
   rintro e V ⟨I,r,rfl,o,s,f,u,x,b⟩;have e1:=H.out;have e2:=x A.out C
   have e3:val r=10 ^ n:=by rw[f,e1,Int.add_zero,P.out,Int.pow_add,Y.out,W.out]
   clear f;go_wp2;go_ret2;exact⟨I,r,rfl,o.new,⟨s,e2,e3⟩,by omega,m.trans b⟩
end
end
section
open Go.RowKit Lim
end
section
open Go.RowKit Lim
section
variable {w w':World}{ao:Option Addr}{b o:Nat}{l:List Int}
structure AtB(w:World)(ao:Option Addr)(b o:Nat)(l:List Int):Prop where
 loc:l=[]\/ao=some ⟨b,o,none⟩
 cell:∀ i,i < l.length->w.cell? ⟨b,o + i,none⟩=some (.int .u8 (nth l i))
theorem AtB.lt(k:AtB w ao b o l):l=[]\/b < w.heap.size:=by
 cases l with
 | nil=>exact .inl rfl
 | cons x l=>exact .inr (aI (k.cell 0 (by simp)))
theorem AtB.keep(h:Below w.heap.size w w')(k:AtB w ao b o l):AtB w' ao b o l :=
 ⟨k.loc,fun i hi=>by
  rcases k.lt with e | e
  ·subst e; simp at hi
  ·rw[h.cell (p:=⟨b,o + i,none⟩) e]; exact k.cell i hi⟩
theorem AtB.wr{n:Nat}(h:Wr b o n w w'){b' o':Nat}(k:AtB w ao b' o' l)(hb:l=[]\/b'≠b):AtB w' ao b' o' l :=
 ⟨k.loc,fun i hi=>by
  rcases hb with e | e
  ·subst e; simp at hi
  ·rw[h.other e]; exact k.cell i hi⟩
theorem AtB.setCell(k : AtB w ao b o l){i:Nat}(hi : i < l.length)(x : Int) : AtB (w.setCell ⟨b, o + i, none⟩ (.int .u8 x)) ao b o (l.set i x) :=
  ⟨by rcases k.loc with e | e
      · subst e; simp at hi
      · exact .inr e, fun j g => by
    rw[List.length_set] at g;have hc := k.cell j g;rw[dy hi];have a := k.cell i hi;simp only[World.cell?, World.setCell, Array.getElem?_modify, if_true] at hc a ⊢
    cases hh : w.heap[b]? with
    | none => rw[hh] at hc; simp at hc
    | some ob =>
      rw[hh] at hc a
      cases ob with
      | cells c e f =>
        simp at hc a ⊢;rw[Array.getElem?_setIfInBounds];by_cases e : j = i
        · subst e
          obtain⟨d, _⟩:= Array.getElem?_eq_some_iff.1 a;simp[d]
        · rw[if_neg (by omega), if_neg e]; exact hc
      | _ => simp at hc⟩
structure Dg(w w':World)(v:Value)(l:List Int):Prop where
 is:∃ ao b o c,v=.slice ao l.length c/\l.length<=c/\w.heap.size<=b/\AtB w' ao b o l/\dB w' b o l.length
def a7(l:List Int):Prop:=∀ x∈l,0<=x/\x < 256
theorem a7.nth(h:a7 l)(i:Nat):0<=nth l i/\nth l i < 256:=by
 by_cases hi:i < l.length
 ·exact h _ (lg hi)
 ·rw[fN (by omega)]; decide
def bO:List Int->Int
 | []=>0
 | x :: l=>x * 256 ^ l.length + bO l
theorem bL(h:a7 l):0<=bO l/\bO l < 256 ^ l.length:=by
 induction l with
 | nil=>simp[bO]
 | cons x l ih =>
  have d:=ih (fun y hy=>h y (List.mem_cons_of_mem _ hy));have b:=h x List.mem_cons_self
  have a:(0:Int) < 256 ^ l.length:=Int.pow_pos (by decide)
  have c:0<=x * 256 ^ l.length:=Int.mul_nonneg b.1 (Int.le_of_lt a)
  have e:x * 256 ^ l.length<=255 * 256 ^ l.length:=Int.mul_le_mul_of_nonneg_right (by omega) (Int.le_of_lt a);rw[bO,List.length_cons,Int.pow_succ]; omega
def IsB(l:List Int)(n:Int):Prop:=a7 l/\(l≠[]->nth l 0≠0)/\bO l=n
theorem mK:∀ {a b:List Int},a7 a->a7 b->a.length=b.length->bO a=bO b->a=b
 | [],[],_,_,_,_=>rfl
 | x :: a,y :: b,ha,hb,hl,hv=>by
  have ha':a7 a:=fun z g=>ha z (List.mem_cons_of_mem _ g)
  have f:a7 b:=fun z g=>hb z (List.mem_cons_of_mem _ g)
  have d:a.length=b.length:=by simpa using hl
  have i:=bL ha';have j:=bL f;rw[bO,bO,d] at hv;rw[d] at i
  have h:(0:Int) < 256 ^ b.length:=Int.pow_pos (by decide)
  have e:x=y:=by
   rcases Int.lt_trichotomy x y with c | c | c
   ·have:(x + 1) * 256 ^ b.length<=y * 256 ^ b.length:=Int.mul_le_mul_of_nonneg_right (by omega) (Int.le_of_lt h);rw[Int.add_mul] at this; omega
   ·exact c
   ·have:(y + 1) * 256 ^ b.length<=x * 256 ^ b.length:=Int.mul_le_mul_of_nonneg_right (by omega) (Int.le_of_lt h);rw[Int.add_mul] at this; omega
  subst e;rw[mK ha' f d (by omega)]
theorem vj(h:a7 l)(b:l≠[])(d:nth l 0≠0):256 ^ (l.length - 1)<=bO l:=by
 cases l with
 | nil=>exact absurd rfl b
 | cons x l =>
  rw[cE] at d;have f:=h x List.mem_cons_self;have e:=bL (l:=l) (fun z c=>h z (List.mem_cons_of_mem _ c))
  have a:(0:Int) < 256 ^ l.length:=Int.pow_pos (by decide);have:1 * 256 ^ l.length<=x * 256 ^ l.length:=Int.mul_le_mul_of_nonneg_right (by omega) (Int.le_of_lt a);rw[bO,List.length_cons,Nat.add_sub_cancel]; omega
theorem gJ{a:Nat}(h:a<=b):(256:Int) ^ a<=256 ^ b:=by
 have:(256:Nat) ^ a<=256 ^ b:=Nat.pow_le_pow_right (by decide) h
 have e1:((256 ^ a:Nat):Int)=(256:Int) ^ a:=by rw[Int.natCast_pow]; rfl
 have e2:((256 ^ b:Nat):Int)=(256:Int) ^ b:=by rw[Int.natCast_pow]; rfl
 omega
theorem mD{a b:List Int}{n:Int}(c:IsB a n)(hb:IsB b n):a=b:=by
 apply mK c.1 hb.1
 ·have key:∀ {a b:List Int},IsB a n->IsB b n->¬ a.length < b.length:=by
   intro a b c hb d;have f:=(bL c.1).2;have g:=vj hb.1 (fun e=>by subst e; simp at d) (hb.2.1 (fun e=>by subst e; simp at d));rw[c.2.2] at f;rw[hb.2.2] at g;have:=gJ (show a.length<=b.length - 1 by omega);omega
  have f:=key c hb;have g:=key hb c;omega
 ·rw[c.2.2,hb.2.2]
end
end
section
open Go.RowKit Lim
section
variable {l:List Int}{i:Nat}
theorem bpow(k:Nat):(18446744073709551616:Int) ^ k=((2 ^ (64 * k):Nat):Int):=by
 rw[Nat.pow_mul,Int.natCast_pow]; rfl
theorem yM(wl:Words l)(hn:aE l≠0):bitLen (val l).toNat=64 * (aE l - 1) + bitLen (nth l (aE l - 1)).toNat:=by
 have e:=aL wl;have hs:=bE (norm l) (aE l - 1) (by rw[aJ]; omega)
 have f:(norm l).drop (aE l - 1)=[nth l (aE l - 1)]:=by
  apply lD
  ·simp[aJ]; omega
  ·intro i hi;simp[aJ] at hi;have:i=0:=by omega
   subst this;rw[dD,fY,cE]; rfl
 rw[f,eC,cV] at hs;have b:=dx (wl.norm.take (aE l - 1));have g:=aL (wl.norm.take (aE l - 1));rw[List.length_take,aJ,Nat.min_eq_left (by omega)] at b;have h:=wl.nth (aE l - 1);have m:=ir hn;generalize nth l (aE l - 1)=x at *;generalize val ((norm l).take (aE l - 1))=y at *;generalize aE l - 1=k at *;rw[c] at hs b;obtain⟨x,rfl⟩:=Int.eq_ofNat_of_zero_le h.1;obtain⟨y,rfl⟩:=Int.eq_ofNat_of_zero_le g;obtain⟨v,j⟩:=Int.eq_ofNat_of_zero_le e;rw[j] at hs ⊢
 have d:v / 2 ^ (64 * k)=x:=by
  have a:v=y + 2 ^ (64 * k) * x:=by
   have:(v:Int)=((y + 2 ^ (64 * k) * x:Nat):Int):=by rw[hs,Int.natCast_add,Int.natCast_mul]
   exact Int.ofNat.inj this
  rw[a,Nat.add_mul_div_left _ _ (Nat.two_pow_pos _),Nat.div_eq_of_lt (by omega),Nat.zero_add]
 rw[Int.toNat_natCast,Int.toNat_natCast,bitLen_shift v (64 * k) (by rw[d]; omega),d]
theorem rZ(ao:Option Addr)(n c b o:Nat)(l:List Int)(w:World)(u:l.length=n)(hc:n<=c)(t:n<=1099511627776)(wl:Words l)(s:At w ao b o l) :
  Calls Tryz.prog 55 #[.slice ao n c] w fun e w'=>e=.returned (.int .i64 (bitLen (val l).toNat))/\Below w.heap.size w w':=by
 have hn:=bp l;have t1:=bh ao n c l w u hc (by omega) s.cells;by_cases f:d l=0
 ·rw[f] at t1
  have j:(val l).toNat=0:=by rw[(bW wl).1 f]; rfl
  rw[j,show bitLen 0=0 from rfl];go_enter Tryz.func55,Tryz.ntmps55;go_wp2_with fail;refine t1.mono ?_
  rintro e m ⟨rfl,rfl⟩;go_wp2_with fail;go_ret;exact⟨rfl,Below.refl _ _⟩
 ·have g:=yM wl f;have hx:=wl.nth (d l - 1);have a:=s.cell (d l - 1) (by omega);have h:=gW (n:=(nth l (d l - 1)).toNat) (by omega);have t2:=fun p=>Ea (nth l (d l - 1)) p hx.1 hx.2
  rcases s.loc with e | rfl
  ·subst e; simp[d] at f
  rw[g];generalize nth l (d l - 1)=x at *;generalize bitLen x.toNat=L at *;clear g s;obtain⟨k,i⟩:∃ k,d l=k + 1:=⟨d l - 1,by omega⟩
  rw[i] at t1 a hn ⊢;rw[Nat.add_sub_cancel] at a ⊢;clear i f
  have q:(k:Int) < (k:Int) + 1:=by omega
  go_enter Tryz.func55,Tryz.ntmps55;go_wp2_with fail;refine t1.mono ?_
  rintro e m ⟨rfl,rfl⟩;clear t1;go_wp2_with fail;refine(t2 _).mono ?_
  rintro e r ⟨rfl,rfl⟩;go_wp2;go_ret;exact⟨ki (by omega),Below.refl _ _⟩
theorem zX:IsN [] 0:=⟨Words.nil,rfl,rfl⟩
structure zx(lb:List Int)(m k:Nat)(lz:List Int):Prop where
 len:lz.length=m
 words:Words lz
 val:Lim.val lz=bO (lb.drop (lb.length - k))
theorem oA(h:i < l.length):bO (l.drop i)=nth l i * 256 ^ (l.length - 1 - i) + bO (l.drop (i + 1)):=by
 rw[List.drop_eq_getElem_cons h,bO,bS h,List.length_drop,show l.length - (i + 1)=l.length - 1 - i from by omega]
theorem a7.drop(h:a7 l)(k:Nat):a7 (l.drop k):=fun x hx=>h x (List.mem_of_mem_drop hx)
theorem CY(h:i < l.length)(x:Int):val (l.set i x)=val l + 18446744073709551616 ^ i * (x - nth l i):=by
 have e1:=bE (l.set i x) i (by simp; omega);have e2:=bE l i (by omega);rw[List.take_set_of_le (Nat.le_refl _),List.drop_set,if_neg (by omega),Nat.sub_self] at e1;rw[List.drop_eq_getElem_cons h,List.set_cons_zero,val] at e1;rw[List.drop_eq_getElem_cons h,val] at e2;rw[e1,e2,bS h]; grind
theorem Ba(wl:Words l)(h:i < l.length){P:Int}(e:val l < 18446744073709551616 ^ i * P):nth l i < P:=by
 have e2:=bE l i (by omega);rw[List.drop_eq_getElem_cons h,val] at e2;have d:=aL (wl.take i);have f:=aL (wl.drop (i + 1));have a:=pow_pos i
 have c:0<=18446744073709551616 ^ i * (18446744073709551616 * val (l.drop (i + 1))):=Int.mul_nonneg (Int.le_of_lt a) (by omega);rw[Int.mul_add] at e2
 have b:18446744073709551616 ^ i * nth l i < 18446744073709551616 ^ i * P:=by rw[bS h]; omega
 exact Int.lt_of_mul_lt_mul_left b (Int.le_of_lt a)
theorem j0(k:Nat):(256:Int) ^ k=18446744073709551616 ^ (k / 8) * 2 ^ (8 * (k % 8)):=by
 have e:(18446744073709551616:Int)=256 ^ 8:=by decide
 have e2:(2:Int) ^ (8 * (k % 8))=256 ^ (k % 8):=by rw[Int.pow_mul]; rfl
 rw[e,e2,<- Int.pow_mul,<- Int.pow_add]; congr 1; omega
theorem Bn{lb lz:List Int}{m k:Nat}(hb:a7 lb)(hm:(lb.length + 7) / 8=m)(h:zx lb m k lz)(o:k < lb.length) :
  bits .or .u64 (nth lz (k / 8)) (IntKind.u64.wrap (nth lb (lb.length - 1 - k) * 2 ^ (8 * (k % 8))))=nth lz (k / 8) + nth lb (lb.length - 1 - k) * 2 ^ (8 * (k % 8)) /\
  zx lb m (k + 1) (lz.set (k / 8) (nth lz (k / 8) + nth lb (lb.length - 1 - k) * 2 ^ (8 * (k % 8)))):=by
 have g:=h.len;have hx:=hb.nth (lb.length - 1 - k);have c:=bL (hb.drop (lb.length - k));rw[List.length_drop,show lb.length - (lb.length - k)=k from by omega] at c;have f:=h.val;have b:=h.words.nth (k / 8);have d:=Ba h.words (i:=k / 8) (by omega) (P:=2 ^ (8 * (k % 8))) (by rw[<- j0,f]; exact c.2)
 have hS:(0:Int) < 2 ^ (8 * (k % 8)):=Int.pow_pos (by decide)
 have n:(2:Int) ^ (8 * (k % 8)) * 256<=18446744073709551616:=by
  have:(2:Nat) ^ (8 * (k % 8))<=2 ^ 56:=Nat.pow_le_pow_right (by decide) (by omega)
  have e:((2 ^ (8 * (k % 8)):Nat):Int)=(2:Int) ^ (8 * (k % 8)):=by rw[Int.natCast_pow]; rfl
  have e2:(2:Nat) ^ 56=72057594037927936:=by decide
  omega
 have a:0<=nth lb (lb.length - 1 - k) * 2 ^ (8 * (k % 8)):=Int.mul_nonneg hx.1 (Int.le_of_lt hS)
 have j:nth lb (lb.length - 1 - k) * 2 ^ (8 * (k % 8))<=255 * 2 ^ (8 * (k % 8)):=Int.mul_le_mul_of_nonneg_right (by omega) (Int.le_of_lt hS);constructor
 ·rw[IntKind.wrap_u64,Int.emod_eq_of_lt a (by omega)];rw[u64_or _ _ b.1 b.2 a (by omega),Nat.or_comm,<- u64_or _ _ a (by omega) b.1 b.2];rw[pX _ _ (8 * (k % 8)) _ rfl hx.1 (by omega) b.1 d b.2,Int.add_comm]
 ·refine⟨by simp[g],h.words.set _ (by omega) (by omega),?_⟩;rw[CY (by omega),f,show lb.length - (k + 1)=lb.length - 1 - k from by omega,oA (l:=lb) (i:=lb.length - 1 - k) (by omega),show lb.length - 1 - k + 1=lb.length - k from by omega,show lb.length - 1 - (lb.length - 1 - k)=k from by omega,j0 k];grind
theorem CH(ao:Option Addr)(n c b o:Nat)(lb:List Int)(w:World)(f:lb.length=n)(hn:0 < n)(a:AtB w ao b o lb)(d:nth lb 0=0) :
  Calls Tryz.prog 256 #[.slice ao n c] w fun e w'=>e=.returned (.tuple #[.slice none 0 0,.int .i64 13])/\w'=w:=by
 rcases a.loc with e | rfl
 ·subst e; simp at f; omega
 have hc:=a.cell 0 (by omega);rw[d,Nat.add_zero] at hc;go_enter Tryz.func256,Tryz.ntmps256;go_wp2;go_ret2;exact⟨rfl,rfl⟩
theorem yr(ao:Option Addr)(n c b o:Nat)(lb:List Int)(w:World)(hl:lb.length=n)(hbig:n<=1099511627776)(ho:a7 lb)(ha:AtB w ao b o lb)(h0:0 < n->nth lb 0≠0) :
  Calls Tryz.prog 256 #[.slice ao n c] w fun e w'=>∃ v r,e=.returned (.tuple #[v,.int .i64 0])/\dF w w' v r/\IsN r (bO lb)/\r.length<=n/\Below w.heap.size w w':=by
 obtain⟨m,hm⟩:∃ m:Nat,((n:Int) + 7) / 8=m:=⟨(n + 7) / 8,by omega⟩
 have N:m<=n:=by omega
 have u:lb=[]\/b≠w.heap.size:=by
  rcases ha.lt with e | e
  ·exact .inl e
  ·exact .inr (by omega)
 by_cases hn:0 < n
 ·rcases ha.loc with e | rfl
  ·subst e; simp at hl; omega
  have hc:=ha.cell 0 (by omega);rw[Nat.add_zero] at hc
  have t:(nth lb 0 == 0)=false:=beq_eq_false_iff_ne.2 (h0 hn)
  have q:nth lb 0≠0:=h0 hn;have O:=(show Hid _ from q)
  clear q h0;go_enter Tryz.func256,Tryz.ntmps256;go_wp2_with (at_make; refine cU rfl _ _ rfl m _ _ rfl rfl (by omega) (by omega) (by omega) ?_; intro M a d D);have l:=ha.keep d;clear hc t;go_loopw [22] (fun E wr=>∃ (k:Nat) (g:List Int),k<=n/\E=.int .i64 k/\zx lb m k g/\At wr (some ⟨w.heap.size,0,none⟩) w.heap.size 0 g/\Wr w.heap.size 0 m M wr) (fun E _=>n - (intOf E).toNat)
  case atStart=>exact⟨0,_,Nat.zero_le _,rfl,⟨by simp,ey _,by rw[Nat.sub_zero,List.drop_length,fk fun i=>by simp[nth,List.getElem?_replicate]; split<;>rfl]; rfl⟩,a.at,Wr.refl _ _ _ _⟩
  case round =>
   obtain⟨k,g,hk,rfl,hinv,p,f⟩:=hrel;have hlen:=hinv.len;by_cases P:k < n
   ·obtain⟨i,hi⟩:∃ i:Nat,(k:Int) / 8=i:=⟨k / 8,by omega⟩
    obtain⟨j,hj⟩:∃ j:Nat,(k:Int) % 8=j:=⟨k % 8,by omega⟩
    obtain⟨h,hh⟩:∃ h:Nat,(n:Int) - 1 - k=h:=⟨n - 1 - k,by omega⟩
    have Q:(i:Int) < m:=by omega
    have R:(h:Int) < n:=by omega
    have S:j < 8:=by omega
    have t:=p.cell i (by omega);have T:=(l.wr f u).cell h (by omega);have F:=f.free (a.free 0 m) i (by omega);rw[Nat.zero_add] at t F;have y:=Bn ho (m:=m) (by omega) hinv (by omega);rw[show k / 8=i from by omega,show k % 8=j from by omega,show lb.length - 1 - k=h from by omega] at y;obtain⟨A,s⟩:=y;have U:=(show Hid _ from s)
    have V:=(show Hid _ from p)
    have W:=(show Hid _ from f)
    have X:=ho.nth h;clear s p f hinv a l ho;generalize nth g i=z at *;generalize nth lb h=x at *;go_wp2_with fail;go_region;go_wp2;rw[Nat.mul_comm j 8,A];refine⟨⟨k + 1,_,by omega,by go_num,U.out,?_,?_⟩,by simp[intOf]; omega⟩
    ·have:=(V.out.setCell (i:=i) (by omega) (z + x * 2 ^ (8 * j))).drew;rwa [Nat.zero_add] at this
    ·exact(W.out.setCell (by omega) (by omega) _).drew
   ·have G:k=n:=by omega
    subst G;have C:=hinv.val;rw[<- hl,Nat.sub_self,List.drop_zero] at C;have H:=f.free (a.free 0 m);have Y:=d.trans (f.below (Nat.le_refl _));have I:=bL ho;have J:=vj ho (fun e=>by subst e; simp at hl; omega) O.out
    have B:aE g=g.length:=by
     have h1:=bp g;by_cases c:aE g < g.length
     ·have Z:=gQ hinv.words;have h3:=gR (show aE g<=m - 1 by omega)
      have h4:(18446744073709551616:Int) ^ (m - 1)<=256 ^ (lb.length - 1):=by
       rw[show (18446744073709551616:Int)=256 ^ 8 from by decide,<- Int.pow_mul];exact gJ (by omega)
      rw[C] at Z;omega
     ·omega
    have HI:IsN g (bO lb):=⟨hinv.words,B,C⟩
    clear hinv a f d l C I J B;go_wp2;go_ret2;exact⟨_,g,rfl,dF.of hlen.symm (Nat.le_refl _) (Nat.le_refl _) p H,HI,by omega,Y⟩
 ·have K:n=0:=by omega
  subst K
  have e0:lb=[]:=List.eq_nil_of_length_eq_zero hl;subst e0
  have L:m=0:=by omega
  subst L;clear hm ha u;go_enter Tryz.func256,Tryz.ntmps256;go_wp2_with (at_make; refine cU rfl _ _ rfl 0 _ _ rfl rfl (by omega) (by omega) (by omega) ?_; intro M a d D);refine wp_loop_rounds 1 ?_
  rw[rounds_succ];go_wp2;go_ret2;exact⟨_,[],rfl,dF.of rfl (Nat.le_refl _) (Nat.le_refl _) a.at (a.free _ _),zX,by simp,d⟩
end
end
section
open Go.RowKit Lim
theorem yc {a b:Nat} (h:a<=b):(10:Int) ^ a<=10 ^ b:=by
 have:(10:Nat) ^ a<=10 ^ b:=Nat.pow_le_pow_right (by decide) h
 have e1:((10 ^ a:Nat):Int)=(10:Int) ^ a:=by rw[Int.natCast_pow]; rfl
 have e2:((10 ^ b:Nat):Int)=(10:Int) ^ b:=by rw[Int.natCast_pow]; rfl
 omega
end
section
open Go.RowKit Lim
end
section
open Go.RowKit Lim
section
variable {w w':World}{ao ao':Option Addr}{n c n' c' g:Nat}{x y:Int}{v:Value}{r l:List Int}{fn:Func}{p:Tmp}{tmps:Array Value}
structure aV(w:World)(ao:Option Addr)(n c:Nat)(x:Int):Prop where
 ex:∃ b o l,l.length=n/\n<=c/\Words l/\At w ao b o l/\val l=x
structure dX(w:World)(ao:Option Addr)(n c:Nat)(x:Int):Prop where
 ex:∃ b o l,l.length=n/\n<=c/\IsN l x/\At w ao b o l
theorem dX.a(h:dX w ao n c x):aV w ao n c x:=by
 obtain⟨b,o,l,h1,h2,h3,h4⟩:=h.ex;exact⟨b,o,l,h1,h2,h3.1,h4,h3.2.2⟩
theorem aV.keep(h:aV w ao n c x)(hb:Below w.heap.size w w'):aV w' ao n c x:=by
 obtain⟨b,o,l,h1,h2,h3,h4,h5⟩:=h.ex;exact⟨b,o,l,h1,h2,h3,h4.keep hb,h5⟩
theorem dX.keep(h:dX w ao n c x)(hb:Below w.heap.size w w'):dX w' ao n c x:=by
 obtain⟨b,o,l,h1,h2,h3,h4⟩:=h.ex;exact⟨b,o,l,h1,h2,h3,h4.keep hb⟩
theorem aV.pT(h:aV w ao n c x):0<=x:=by
 obtain⟨b,o,l,h1,h2,h3,h4,h5⟩:=h.ex;rw[<- h5]; exact aL h3
theorem dX.eqv(h:dX w ao n c x)(e:x=y):dX w ao n c y:=e▸h
theorem Ae(w:World):dX w none 0 0 0:=⟨0,0,[],rfl,Nat.le_refl _,jz,.inl rfl,fun i hi=>by simp at hi⟩
theorem dF.o(h:dF w w' v r)(hI:IsN r x):∃ a c,v=.slice a r.length c/\dX w' a r.length c x:=by
 obtain⟨ao,b,o,c,e,h1,h2,h3,h4⟩:=h.is;exact⟨ao,c,e,b,o,r,rfl,h1,hI,h3⟩
theorem aj{wa:World}(b:Below w.heap.size w wa)(h:Below wa.heap.size wa w'):Below w.heap.size w w':=b.trans (h.mono b.size)
theorem nMul(h:aV w ao n c x)(E:aV w ao' n' c' y)(hn:n<=1099511627776)(g:n'<=1099511627776) :
  Calls Tryz.prog 24 #[.slice ao n c,.slice ao' n' c'] w fun e w'=>∃ a k d,e=.returned (.slice a k d)/\dX w' a k d (x * y)/\k<=n + n'/\Below w.heap.size w w':=by
 obtain⟨b,o,l,A,z,q,C,rfl⟩:=h.ex;obtain⟨F,s,D,p,i,m,j,rfl⟩:=E.ex;refine(qk ao n c b o ao' n' c' F s l D w A p z i hn g q m C j).mono ?_
 rintro e w' ⟨v,r,rfl,f,t,hlen,B⟩;obtain⟨a,d,rfl,u⟩:=f.o t;exact⟨a,_,d,rfl,u,hlen,B⟩
theorem nCmp(h:aV w ao n c x)(s:aV w ao' n' c' y)(hn:n<=1099511627776)(a:n'<=1099511627776) :
  Calls Tryz.prog 26 #[.slice ao n c,.slice ao' n' c'] w fun e w'=>e=.returned (.int .i64 (sgn x y))/\Below w.heap.size w w':=by
 obtain⟨b,o,l,k,t,j,p,rfl⟩:=h.ex;obtain⟨q,m,r,g,i,f,d,rfl⟩:=s.ex;exact iq ao n c b o ao' n' c' q m l r w k g t i hn a j f p d
theorem nDiv(h:aV w ao n c x)(N:aV w ao' n' c' y)(hn:n<=1099511627776)(L:n'<=1099511627776)(M:y≠0) :
  Calls Tryz.prog 70 #[.slice ao n c,.slice ao' n' c'] w fun e w'=>∃ a k d a' k' d',e=.returned (.tuple #[.slice a k d,.slice a' k' d',.int .i64 0])/\dX w' a k d (x / y)/\dX w' a' k' d' (x % y)/\k<=n/\k'<=n + n'/\Below w.heap.size w w':=by
 obtain⟨b,o,l,A,B,C,D,rfl⟩:=h.ex;obtain⟨E,F,G,f,g,i,j,rfl⟩:=N.ex;refine(uQ ao n c b o ao' n' c' E F l G w A f B g hn L C i D j M).mono ?_
 rintro e w' ⟨v,u,r,s,rfl,m,p,H,I,q,t,J⟩;obtain⟨a,d,rfl,K⟩:=m.o H;obtain⟨a',d',rfl,z⟩:=p.o I;exact⟨a,_,d,a',_,d',rfl,K,z,q,t,J⟩
theorem xD(k:aV w ao' n' c' y)(a:n'<=1099511627776)(g:y=0) :
  Calls Tryz.prog 70 #[v,.slice ao' n' c'] w fun e w'=>e=.returned (.tuple #[.slice none 0 0,.slice none 0 0,.int .i64 11])/\w'=w:=by
 obtain⟨i,h,j,d,f,c,b,rfl⟩:=k.ex;exact div_zero v ao' n' c' i h j w d f a c b g
theorem rm{ad:Option Addr}{l m:Nat}{z:Int}(h:aV w ao n c x)(r:aV w ao' n' c' y)(s:aV w ad l m z)(hn:n<=274877906944)(p:n'<=274877906944)(q:l<=274877906944)(o:z=0) :
  Calls Tryz.prog 93 #[.slice ao n c,.slice ao' n' c',.slice ad l m] w fun e w'=>e=.returned (.tuple #[.slice none 0 0,.slice none 0 0,.int .i64 11])/\Below w.heap.size w w':=by
 go_enter Tryz.func93,Tryz.ntmps93;go_wp2_with fail;refine(nMul h r (by omega) (by omega)).mono ?_
 rintro e f ⟨a,k,d,rfl,g,i,b⟩;go_wp2_with fail;refine(xD (s.keep b) (by omega) o).mono ?_
 rintro e j ⟨rfl,rfl⟩;go_wp2;go_ret3;exact⟨rfl,b⟩
theorem nBits(h:aV w ao n c x)(hn:n<=1099511627776) :
  Calls Tryz.prog 55 #[.slice ao n c] w fun e w'=>e=.returned (.int .i64 (bitLen x.toNat))/\Below w.heap.size w w':=by
 obtain⟨b,o,l,d,g,a,f,rfl⟩:=h.ex;exact rZ ao n c b o l w d g hn a f
theorem nPow(n:Nat)(hn:n<=4096) :
  Calls Tryz.prog 165 #[.int .i64 n] w fun e w'=>∃ a k d,e=.returned (.tuple #[.slice a k d,.int .i64 0])/\dX w' a k d (10 ^ n)/\k<=n + 2/\Below w.heap.size w w':=by
 refine(wC n w hn).mono ?_
 rintro e w' ⟨v,r,rfl,b,c,hlen,f⟩;obtain⟨a,d,rfl,g⟩:=b.o c;exact⟨a,_,d,rfl,g,hlen,f⟩
theorem rS(x:Int)(hx:0<=x):(bitLen x.toNat=0)<->x=0:=by
 constructor
 ·intro h;by_cases e:x.toNat=0
  ·omega
  ·have:=mM e; omega
 ·intro h; subst h; rfl
structure Slot(w:World)(g:Nat)(v:Value)(t:TypeId):Prop where
 blk:w.heap[g]? = some (.cells #[v] t (0,0))
theorem Slot.cell{t:TypeId}(h:Slot w g v t):w.cell? ⟨g,0,none⟩=some v:=cell_of_one h.blk
theorem Slot.free{t:TypeId}(h:Slot w g v t):w.frozen? ⟨g,0,none⟩=false:=free_of_one h.blk
theorem Slot.lt{t:TypeId}(h:Slot w g v t):g < w.heap.size:=lt_of_block h.blk
theorem Slot.keep{t:TypeId}(h:Slot w g v t)(hb:Below w.heap.size w w'):Slot w' g v t:=⟨by rw[hb.block g h.lt]; exact h.blk⟩
theorem Slot.put{t:TypeId}(h:Slot w g v t)(u:Value):Slot (w.setCell ⟨g,0,none⟩ u) g u t:=⟨one_setCell h.blk⟩
theorem eJ(w:World)(v:Value)(t:TypeId):Slot (w.alloc (.cells #[v] t)) w.heap.size v t:=⟨by
 show (w.heap.push _)[w.heap.size]? = _
 rw[Array.getElem?_push_size]⟩
theorem Slot.alloc{t:TypeId}(h:Slot w g v t)(o:Obj):Slot (w.alloc o) g v t:=h.keep (ae w o)
theorem lZ(w:World)(o:Obj)(v:Value)(t:TypeId):Slot ((w.alloc o).alloc (.cells #[v] t)) (w.heap.size + 1) v t:=by
 have:=eJ (w.alloc o) v t;rwa [show (w.alloc o).heap.size=w.heap.size + 1 by simp] at this
theorem mN(w:World)(o o':Obj):Below w.heap.size w ((w.alloc o).alloc o'):=aj (ae w o) (ae _ o')
theorem At.put{b o:Nat}(k:At w ao b o l){t:TypeId}(s:Slot w g v t)(d:∀ x,v≠.int .u64 x)(u:Value):At (w.setCell ⟨g,0,none⟩ u) ao b o l :=
 ⟨k.loc,fun i hi=>by
  have hc:=k.cell i hi;by_cases e:b=g
  ·subst e
   have a:o + i=0->False:=fun c=>by
    rw[c,s.cell] at hc;exact d _ (Option.some.inj hc)
   have hs:=s.blk;simp only[World.cell?,hs] at hc;have:o + i < 1:=by
    have:=(Array.getElem?_eq_some_iff.1 hc).1;simpa using this
   exact(a (by omega)).elim
  ·rw[World.cell?_of_block (w:=w) (Below.heap_setCell w _ u b e)]; exact hc⟩
theorem dX.put(h:dX w ao n c x){t:TypeId}(s:Slot w g v t)(hv:∀ x,v≠.int .u64 x)(u:Value):dX (w.setCell ⟨g,0,none⟩ u) ao n c x:=by
 obtain⟨b,o,l,h1,h2,h3,h4⟩:=h.ex;exact⟨b,o,l,h1,h2,h3,h4.put s hv u⟩
theorem pQ:∀ x,Value.slice ao n c≠.int .u64 x:=fun _ h=>by cases h
theorem rn{W w1:World}(b:Below w.heap.size w W)(h:Below W.heap.size W w1)(hg:w.heap.size<=g)(u:Value):Below w.heap.size w (w1.setCell ⟨g,0,none⟩ u):=(aj b h).setCell hg u
theorem Slot.drew{t:TypeId}(h:Slot w g v t):Slot w.drew g v t:=⟨h.blk⟩
theorem aV.drew(h:aV w ao n c x):aV w.drew ao n c x:=by
 obtain⟨b,o,l,h1,h2,h3,h4,h5⟩:=h.ex;exact⟨b,o,l,h1,h2,h3,h4.drew,h5⟩
theorem yF:(Tryz.prog.info? 32).map (·.size)=some 1:=by kernel_rfl
theorem xd : ∃ f, Tryz.prog.underlying 32 = some (.struct f) := by
  cases h : Tryz.prog.underlying 32 with
  | none => exact absurd h (by have : (Tryz.prog.underlying 32).isSome = true := by kernel_rfl
                               intro e; rw[e] at this; simp at this)
  | some d =>
    have : (match Tryz.prog.underlying 32 with | some (.struct _) => true | _ => false) = true := by kernel_rfl
    rw[h] at this
    cases d <;> first | exact⟨_, rfl⟩ | simp at this
theorem rF{t:TypeId}(s:Slot w g v t):(loadVar 32 ⟨g,0,none⟩).run Tryz.prog w=.ok (.agg #[v]) w:=by
 obtain⟨f,hu⟩:=xd;exact run_loadVar_row w g t 32 #[v] (0,0) _ s.blk hu rfl yF
theorem lE(h:fn.results=#[.cell p 32]){t:TypeId}(b:tmps.getD p undef=.pointer (some ⟨g,0,none⟩))(s:Slot w g v t) :
  (results fn tmps).run Tryz.prog w=.ok (.agg #[v]) w:=by
 have a:tmps[p]?.getD undef=.pointer (some ⟨g,0,none⟩):=by simpa using b
 simp[results,h,a,asAddr,rF s]
theorem rD{u:Tmp}(h:fn.results=#[.tmp u,.cell p 32]){x:Value}{t:TypeId}(c:tmps.getD p undef=.pointer (some ⟨g,0,none⟩))(hu:tmps.getD u undef=x)(s:Slot w g v t) :
  (results fn tmps).run Tryz.prog w=.ok (.tuple #[x,.agg #[v]]) w:=by
 have b:tmps[p]?.getD undef=.pointer (some ⟨g,0,none⟩):=by simpa using c
 have a:tmps[u]?.getD undef=x:=by simpa using hu
 simp[results,h,b,a,asAddr,rF s]
end
end
end Go.Proofs.YthfepflplbahkaaGreatDoor
