import Derived.Test.YthfepflplbahkaaGreatDoorChecked
import Derived.WalkKit
import Derived.WalkSpells
import Derived.WalkLawsBesides
import Derived.Laws.Externs
import Derived.Laws.MathBits
import Derived.Laws.CopyOwn
import Derived.Deep.QuietTactic
import Derived.BigQuiet
import Derived.Deep.RegionWith
import Derived.ScopeJumps
import Derived.WalkSmall
import Derived.OneCell
set_option maxRecDepth 100000
set_option maxHeartbeats 8000000
namespace Go.Proofs.YthfepflplbahkaaGreatDoor
section
namespace Lim
section
variable {l a b:List Int}{i k:Nat}{x:Int}
def nth(l:List Int)(i:Nat):Int:=l.getD i 0
def val:List Int->Int
 | []=>0
 | x :: l=>x + 18446744073709551616 * val l
def Words(l:List Int):Prop:=∀ x∈l,0<=x/\x < 18446744073709551616
def aE:List Int->Nat
 | []=>0
 | x :: l=>if aE l=0 then (if x=0 then 0 else 1) else aE l + 1
def norm(l:List Int):List Int:=l.take (aE l)
def IsN(l:List Int)(n:Int):Prop:=Words l/\aE l=l.length/\val l=n
theorem Dy(i:Nat):nth [] i=0:=by simp[nth]
theorem cE(x:Int)(l:List Int):nth (x :: l) 0=x:=by simp[nth]
theorem dG(x:Int)(l:List Int)(i:Nat):nth (x :: l) (i + 1)=nth l i:=by simp[nth]
theorem fO(h:l.length<=i):nth l i=0:=by
 simp[nth,List.getElem?_eq_none h]
theorem bS(h:i < l.length):nth l i=l[i]:=by
 simp[nth,List.getElem?_eq_getElem h]
theorem lC(h:i < l.length):nth l i∈l:=by
 rw[bS h]; exact List.getElem_mem h
theorem Words.nth(h:Words l)(i:Nat):0<=nth l i/\nth l i < 18446744073709551616:=by
 by_cases hi:i < l.length
 ·exact h _ (lC hi)
 ·rw[fO (by omega)]; decide
theorem Words.nil:Words []:=fun _ h=>by simp at h
theorem Words.cons(h0:0<=x)(h1:x < 18446744073709551616)(h:Words l):Words (x :: l):=by
 intro y hy;rcases List.mem_cons.1 hy with e | e
 ·subst e; exact⟨h0,h1⟩
 ·exact h y e
theorem Words.tail(h:Words (x :: l)):Words l:=fun y hy=>h y (List.mem_cons_of_mem _ hy)
theorem Words.head(h:Words (x :: l)):0<=x/\x < 18446744073709551616:=h x (List.mem_cons_self)
theorem Words.take(h:Words l)(k:Nat):Words (l.take k):=fun x hx=>h x (List.mem_of_mem_take hx)
theorem Words.drop(h:Words l)(k:Nat):Words (l.drop k):=fun x hx=>h x (List.mem_of_mem_drop hx)
theorem Words.append(ha:Words a)(hb:Words b):Words (a ++ b):=by
 intro x hx;rcases List.mem_append.1 hx with e | e
 ·exact ha x e
 ·exact hb x e
theorem dr(h:i < k):nth (l.take k) i=nth l i:=by
 simp[nth,h]
theorem dF(l:List Int)(k i:Nat):nth (l.drop k) i=nth l (k + i):=by
 simp[nth,List.getElem?_drop]
theorem cQ(h:i < a.length):nth (a ++ b) i=nth a i:=by
 simp[nth,List.getElem?_append_left h]
theorem bI(h:a.length<=i):nth (a ++ b) i=nth b (i - a.length):=by
 simp[nth,List.getElem?_append_right h]
theorem lg(hl:a.length=b.length)(h:∀ i,i < a.length->nth a i=nth b i):a=b:=by
 apply List.ext_getElem hl;intro i h1 h2;have:=h i h1;rwa [bS h1,bS h2] at this
theorem dy(a:k < l.length):nth (l.set k x) i=if i=k then x else nth l i:=by
 simp only[nth,List.getD_eq_getElem?_getD,List.getElem?_set];by_cases h:k=i
 ·subst h; simp[a]
 ·simp[h,show ¬ i=k from fun e=>h e.symm]
theorem Words.set(h:Words l)(k:Nat)(h0:0<=x)(h1:x < 18446744073709551616):Words (l.set k x):=by
 intro y hy;rcases List.mem_or_eq_of_mem_set hy with e | e
 ·exact h y e
 ·subst e; exact⟨h0,h1⟩
theorem dN(h:k < l.length):l.take (k + 1)=l.take k ++ [nth l k]:=by
 rw[bS h,List.take_succ_eq_append_getElem h]
theorem aL(h:Words l):0<=val l:=by
 induction l with
 | nil=>simp[val]
 | cons x l ih=>have:=h.head; have:=ih h.tail; simp only[val]; omega
theorem dY(a b:List Int):val (a ++ b)=val a + 18446744073709551616 ^ a.length * val b:=by
 induction a with
 | nil=>simp[val]
 | cons x a ih=>simp only[List.cons_append,val,ih,List.length_cons,Int.pow_succ]; grind
theorem dx(h:Words l):val l < 18446744073709551616 ^ l.length:=by
 induction l with
 | nil=>simp[val]
 | cons x l ih =>
  have:=h.head; have:=ih h.tail;simp only[val,List.length_cons,Int.pow_succ]; omega
theorem eA(x:Int):val [x]=x:=by simp[val]
theorem du(h:k < l.length):val (l.take (k + 1))=val (l.take k) + 18446744073709551616 ^ k * nth l k:=by
 rw[dN h,dY,eA,List.length_take,Nat.min_eq_left (by omega)]
theorem bC(l:List Int)(k:Nat)(h:k<=l.length):val l=val (l.take k) + 18446744073709551616 ^ k * val (l.drop k):=by
 conv=>lhs; rw[<- List.take_append_drop k l]
 rw[dY,List.length_take,Nat.min_eq_left h]
theorem bp(l:List Int):aE l<=l.length:=by
 induction l with
 | nil=>simp[aE]
 | cons x l ih=>simp only[aE,List.length_cons]; split<;>(try split)<;>omega
theorem fQ:aE l=0<->∀ i,nth l i=0:=by
 induction l with
 | nil=>simp[aE,nth]
 | cons x l ih =>
  simp only[aE];constructor
  ·intro h i;by_cases e:aE l=0
   ·by_cases a:x=0
    ·cases i with
     | zero=>rw[cE,a]
     | succ i=>rw[dG]; exact ih.1 e i
    ·simp[e,a] at h
   ·simp[e] at h
  ·intro h
   have b:x=0:=by have:=h 0; rwa [cE] at this
   have c:aE l=0:=ih.2 fun i=>by have:=h (i + 1); rwa [dG] at this
   simp[c,b]
theorem ju(d:k<=l.length)(c:∀ i,k<=i->nth l i=0)(b:k≠0->nth l (k - 1)≠0):aE l=k:=by
 induction l generalizing k with
 | nil=>simp[aE] at *; omega
 | cons x l ih =>
  cases k with
  | zero =>
   have:aE (x :: l)=0:=fQ.2 fun i=>c i (Nat.zero_le _)
   exact this
  | succ k =>
   have e:aE l=k:=ih (by simpa using d) (fun i hi=>by have:=c (i + 1) (by omega); rwa [dG] at this) (fun a=>by
    have:=b (by omega); rw[show k + 1 - 1=(k - 1) + 1 from by omega,dG] at this; exact this)
   simp only[aE,e];by_cases a:k=0
   ·subst a;have:=b (by omega); rw[show (0 + 1 - 1)=0 from rfl,cE] at this;simp[this]
   ·simp[a]
theorem fJ(h : aE l ≤ i) : nth l i = 0 := by
  induction l generalizing i with
  | nil => simp[nth]
  | cons x l ih =>
    simp only[aE] at h;by_cases e : aE l = 0
    · simp only[e, if_true] at h
      cases i with
      | zero => by_cases a : x = 0
                · rw[cE, a]
                · simp[a] at h
      | succ i => rw[dG]; exact fQ.1 e i
    · simp only[e, if_false] at h
      cases i with
      | zero => omega
      | succ i => rw[dG]; exact ih (by omega)
theorem iD(h:aE l≠0):nth l (aE l - 1)≠0:=by
 induction l with
 | nil=>simp[aE] at h
 | cons x l ih =>
  simp only[aE] at h ⊢;by_cases e:aE l=0
  ·simp only[e,if_true] at h ⊢;by_cases a:x=0
   ·simp[a] at h
   ·simp[a,cE]
  ·simp only[e,if_false] at h ⊢;have:=ih e;rw[show aE l + 1 - 1=(aE l - 1) + 1 from by omega,dG]; exact this
theorem aJ(l:List Int):(norm l).length=aE l:=by
 rw[norm,List.length_take,Nat.min_eq_left (bp l)]
theorem fW(l:List Int)(i:Nat):nth (norm l) i=nth l i:=by
 by_cases h:i < aE l
 ·exact dr h
 ·rw[fO (by rw[aJ]; omega),fJ (by omega)]
theorem Words.norm(h:Words l):Words (norm l):=h.take _
theorem oF(l:List Int):aE (norm l)=(norm l).length:=by
 rw[aJ];apply ju (by rw[aJ]; omega)
 ·intro i hi; rw[fW]; exact fJ hi
 ·intro h; rw[fW]; exact iD h
theorem fk(h:∀ i,nth l i=0):val l=0:=by
 induction l with
 | nil=>rfl
 | cons x l ih =>
  have h0:=h 0; rw[cE] at h0;rw[val,h0,ih fun i=>by have:=h (i + 1); rwa [dG] at this]; rfl
theorem cU(l:List Int):val (norm l)=val l:=by
 rw[bC l (aE l) (bp l),fk (l:=l.drop (aE l)) fun i=>by rw[dF]; exact fJ (by omega)];simp[norm]
theorem b8(h:Words l):IsN (norm l) (val l):=⟨h.norm,oF l,cU l⟩
theorem qj(h:Words l)(hn:aE l≠0):0 < val l:=by
 induction l with
 | nil=>simp[aE] at hn
 | cons x l ih =>
  have hx:=h.head; have hv:=aL h.tail;simp only[val];by_cases e:aE l=0
  ·simp only[aE,e,if_true] at hn;have:x≠0:=by intro a; simp[a] at hn
   omega
  ·have:=ih h.tail e; omega
theorem bW(h:Words l):aE l=0<->val l=0:=by
 constructor
 ·intro e; exact fk (fQ.1 e)
 ·intro e;by_cases n:aE l=0
  ·exact n
  ·have:=qj h n; omega
theorem fx(h:Words l)(hn:aE l≠0):18446744073709551616 ^ (aE l - 1)<=val l:=by
 have e:=cU l;have a:=aJ l;have hw:=h.norm;have hs:=bC (norm l) (aE l - 1) (by omega)
 have b:(norm l).drop (aE l - 1)=[nth l (aE l - 1)]:=by
  apply lg
  ·simp[a]; omega
  ·intro i hi;simp[a] at hi;have:i=0:=by omega
   subst this;rw[dF,fW,cE]; rfl
 have f:=aL (hw.take (aE l - 1));have hx:=h.nth (aE l - 1);have d:=iD hn
 have c:(0:Int) < 18446744073709551616 ^ (aE l - 1):=Int.pow_pos (by decide);rw[b,eA] at hs;have:18446744073709551616 ^ (aE l - 1) * 1<=18446744073709551616 ^ (aE l - 1) * nth l (aE l - 1):=Int.mul_le_mul_of_nonneg_left (by omega) (Int.le_of_lt c);omega
theorem hH(h:Words l):val l < 18446744073709551616 ^ aE l:=by
 have:=dx h.norm;rwa [cU,aJ] at this
theorem gS{a b:Nat}(h:a<=b):(18446744073709551616:Int) ^ a<=18446744073709551616 ^ b:=by
 obtain⟨d,rfl⟩:=Nat.exists_eq_add_of_le h;rw[Int.pow_add]
 have c:(0:Int) < 18446744073709551616 ^ a:=Int.pow_pos (by decide)
 have e:(0:Int) < 18446744073709551616 ^ d:=Int.pow_pos (by decide);have:(18446744073709551616:Int) ^ a * 1<=18446744073709551616 ^ a * 18446744073709551616 ^ d:=Int.mul_le_mul_of_nonneg_left (by omega) (Int.le_of_lt c);omega
theorem dA(ha:Words a)(hb:Words b)(h:aE a < aE b):val a < val b:=by
 have h1:=hH ha;have h2:=fx hb (by omega);have:=gS (show aE a<=aE b - 1 by omega);omega
end
end Lim
end
section
open Go.RowKit Lim
def Cells (w:World) (ao:Option Addr) (l:List Int):Prop :=
 l=[]\/∃ b o,ao=some ⟨b,o,none⟩/\∀ i,i < l.length->w.cell? ⟨b,o + i,none⟩=some (.int .u64 (nth l i))
theorem bh (ao:Option Addr) (n c:Nat) (l:List Int) (w:World) (m:l.length=n) (hc:n<=c) (hb:n<=4398046511104) (d:Cells w ao l) :
  Calls Tryz.prog 58 #[.slice ao n c] w fun e w'=>e=.returned (.slice ao (aE l) (aE l))/\w'=w:=by
 go_enter Tryz.func58,Tryz.ntmps58;go_wp2;go_loop [3] (fun t=>∃ k:Nat,k<=n/\t=.int .i64 k/\Hid (∀ i,k<=i->nth l i=0)) (fun t=>(intOf t).toNat)
 case atStart=>exact⟨n,Nat.le_refl _,rfl,fun i hi=>fO (by omega)⟩
 case round =>
  obtain⟨k,q,rfl,f⟩:=hrel;by_cases p:0 < k
  ·rcases d with e | ⟨b,o,rfl,d⟩
   ·subst e; simp at m; omega
   ·have g:=d (k - 1) (by omega)
    have j:w.cell? ⟨b,o + k - 1,none⟩=some (.int .u64 (nth l (k - 1))):=by rw[<- g]; congr 2; omega
    clear d;go_wp2
    ·go_round
     case rel=>exact⟨k - 1,by omega,by go_num,fun i hi=>by
      by_cases e:i=k - 1
      ·subst e; exact beq_iff_eq.1 (by assumption)
      ·exact f.out i (by omega)⟩
     case measure=>simp[intOf]; omega
    ·go_ret;rw[ju (k:=k) (by omega) f.out (fun _=>beq_eq_false_iff_ne.1 (by assumption))];exact⟨rfl,rfl⟩
  ·go_wp2;go_ret;rw[ju (k:=k) (by omega) f.out (fun _=>by omega)];exact⟨rfl,rfl⟩
end
section
open Go.RowKit Lim
def bor (x y:Int):Int:=if x < y then 1 else 0
theorem rR (x y:Int) (hx:0<=x) (hy:0<=y) (w:World):(callFunc 90 #[.int .u64 x,.int .u64 y,.int .u64 0]).run Tryz.prog w =
  .ok (.value (.tuple #[.int .u64 ((x + y) % 18446744073709551616),.int .u64 ((x + y) / 18446744073709551616)])) w:=by
 obtain⟨x,rfl⟩:=Int.eq_ofNat_of_zero_le hx;obtain⟨y,rfl⟩:=Int.eq_ofNat_of_zero_le hy;rw[run_callFunc_extern Tryz.func90 (by kernel_rfl) (by kernel_rfl) (by kernel_rfl) (e:=add64Entry) (by kernel_rfl),run_add64 (P:=Tryz.prog) x y 0 (by omega) (by omega) (by omega) (by omega),Int.add_zero];rfl
theorem Bq (x y:Int) (hx:0<=x) (w:World):(callFunc 90 #[.int .u64 x,.int .u64 (y % 18446744073709551616),.int .u64 0]).run Tryz.prog w =
  .ok (.value (.tuple #[.int .u64 ((x + y % 18446744073709551616) % 18446744073709551616),.int .u64 ((x + y % 18446744073709551616) / 18446744073709551616)])) w :=
 rR x _ hx (Int.emod_nonneg _ (by decide)) w
theorem DZ (x y:Int) (hx:0<=x) (a:x < 18446744073709551616) (hy:0<=y) (b:y < 18446744073709551616) (w:World):(callFunc 168 #[.int .u64 x,.int .u64 y,.int .u64 0]).run Tryz.prog w =
  .ok (.value (.tuple #[.int .u64 ((x - y) % 18446744073709551616),.int .u64 (bor x y)])) w:=by
 obtain⟨x,rfl⟩:=Int.eq_ofNat_of_zero_le hx;obtain⟨y,rfl⟩:=Int.eq_ofNat_of_zero_le hy
 have this:(callFunc 168 #[.int .u64 (x:Int),.int .u64 (y:Int),.int .u64 0]).run Tryz.prog w =
   .ok (.value (.tuple #[.int .u64 (((x + 18446744073709551616 - y - 0) % 18446744073709551616:Nat):Int),.int .u64 ((if x < y + 0 then 1 else 0:Nat):Int)])) w:=by kernel_rfl
 rw[this]
 have e1:(((x + 18446744073709551616 - y - 0) % 18446744073709551616:Nat):Int)=((x:Int) - y) % 18446744073709551616:=by omega
 have e2:((if x < y + 0 then 1 else 0:Nat):Int)=bor x y:=by unfold bor; split<;>split<;>omega
 rw[e1,e2]
theorem nA {k k':IntKind} {a b c d:Int} (h:a=b) (h':c=d):Ending.returned (.tuple #[.int k a,.int k' c])=.returned (.tuple #[.int k b,.int k' d]):=by rw[h,h']
theorem qv (z:Int) (h0:0<=z) (h1:z < 18446744073709551616):bits .and .u64 z 4294967295=z % 4294967296:=and_low32 z h0 h1
theorem mul64 (x y:Int) (hx:0<=x) (b:x < 18446744073709551616) (hy:0<=y) (c:y < 18446744073709551616) (w:World) :
  Calls Tryz.prog 89 #[.int .u64 x,.int .u64 y] w fun e w'=>e=.returned (.tuple #[.int .u64 (x * y / 18446744073709551616),.int .u64 (x * y % 18446744073709551616)])/\w'=w:=by
 go_enter Tryz.func89,Tryz.ntmps89;go_wp2;go_ret2;refine⟨nA ?_ ?_,rfl⟩
 ·show IntKind.u64.wrap (IntKind.u64.wrap (IntKind.u64.wrap (x / 4294967296 * (y / 4294967296)) + IntKind.u64.wrap (IntKind.u64.wrap (x / 4294967296 * bits BinOp.and IntKind.u64 y 4294967295) + IntKind.u64.wrap (bits BinOp.and IntKind.u64 x 4294967295 * bits BinOp.and IntKind.u64 y 4294967295) / 4294967296) / 4294967296) + IntKind.u64.wrap (bits BinOp.and IntKind.u64 (IntKind.u64.wrap (IntKind.u64.wrap (x / 4294967296 * bits BinOp.and IntKind.u64 y 4294967295) + IntKind.u64.wrap (bits BinOp.and IntKind.u64 x 4294967295 * bits BinOp.and IntKind.u64 y 4294967295) / 4294967296)) 4294967295 + IntKind.u64.wrap (bits BinOp.and IntKind.u64 x 4294967295 * (y / 4294967296))) / 4294967296)=_
  simp only[IntKind.wrap_u64];rw[qv x hx b,qv y hy c,qv _ (Int.emod_nonneg _ (by decide)) (Int.emod_lt_of_pos _ (by decide))];exact mul64_arith x y hx b hy c
 ·show IntKind.u64.wrap (x * y)=_
  rw[IntKind.wrap_u64]
theorem lG (x y:Int) (hx:0<=x) (a:x < 18446744073709551616) (hy:0<=y) (b:y < 18446744073709551616) (w:World) :
  Calls Tryz.prog 89 #[.int .u64 x,.int .u64 y] w fun e w'=>∃ hi lo:Int,e=.returned (.tuple #[.int .u64 hi,.int .u64 lo])/\0<=hi/\hi<=18446744073709551614/\0<=lo/\lo < 18446744073709551616/\Hid (hi * 18446744073709551616 + lo=x * y)/\w'=w:=by
 refine(mul64 x y hx a hy b w).mono ?_
 rintro e w' ⟨rfl,rfl⟩
 have d:0<=x * y:=Int.mul_nonneg hx hy
 have c:x * y<=18446744073709551615 * 18446744073709551615:=Int.mul_le_mul (by omega) (by omega) hy (by decide);exact⟨_,_,rfl,by omega,by omega,by omega,by omega,by show _=_; omega,rfl⟩
end
section
open Go.RowKit Lim
section
variable {w w1 w':World}{ao ao':Option Addr}{b o n o' n' i k B b':Nat}{l m:List Int}{v:Value}
structure At(w:World)(ao:Option Addr)(b o:Nat)(l:List Int):Prop where
 loc:l=[]\/ao=some ⟨b,o,none⟩
 cell:∀ i,i < l.length->w.cell? ⟨b,o + i,none⟩=some (.int .u64 (nth l i))
theorem At.cells(h:At w ao b o l):Cells w ao l:=by
 rcases h.loc with e | e
 ·exact .inl e
 ·exact .inr ⟨b,o,e,h.cell⟩
def dB(w:World)(b o n:Nat):Prop:=∀ i,i < n->w.frozen? ⟨b,o + i,none⟩=false
structure Wr(b o n:Nat)(w w':World):Prop where
 os:w'.os=w.os
 tape:w'.tape=w.tape
 output:w'.output=w.output
 size:w'.heap.size=w.heap.size
 block:∀ k,k≠b->w'.heap[k]? = w.heap[k]?
 cell:∀ i,(i < o\/o + n<=i)->w'.cell? ⟨b,i,none⟩=w.cell? ⟨b,i,none⟩
 frozen:∀ i,w'.frozen? ⟨b,i,none⟩=w.frozen? ⟨b,i,none⟩
theorem Wr.refl(b o n:Nat)(w:World):Wr b o n w w:=⟨rfl,rfl,rfl,rfl,fun _ _=>rfl,fun _ _=>rfl,fun _=>rfl⟩
theorem Wr.trans{a:World}(h:Wr b o n w w1)(k:Wr b o n w1 a):Wr b o n w a :=
 ⟨k.os.trans h.os,k.tape.trans h.tape,k.output.trans h.output,k.size.trans h.size,fun i hi=>(k.block i hi).trans (h.block i hi),fun i hi=>(k.cell i hi).trans (h.cell i hi),fun i=>(k.frozen i).trans (h.frozen i)⟩
theorem Wr.mono(h:Wr b o n w w')(h1:o'<=o)(h2:o + n<=o' + n'):Wr b o' n' w w' :=
 ⟨h.os,h.tape,h.output,h.size,h.block,fun i hi=>h.cell i (by omega),h.frozen⟩
theorem Wr.setCell(h:Wr b o n w w1)(d:o<=i)(e:i < o + n)(v:Value):Wr b o n w (w1.setCell ⟨b,i,none⟩ v) :=
 h.trans ⟨rfl,rfl,rfl,by simp[World.setCell],fun k a=>Below.heap_setCell _ _ _ _ a,fun j c=>by
   simp only[World.cell?,World.setCell,Array.getElem?_modify,if_true]
   cases hh:w1.heap[b]? with
   | none=>simp
   | some ob =>
    cases ob<;>simp
    rw[Array.getElem?_setIfInBounds,if_neg (by omega)],fun j=>by
   simp only[World.frozen?,World.setCell,Array.getElem?_modify,if_true]
   cases hh:w1.heap[b]? with
   | none=>simp
   | some ob=>cases ob<;>simp⟩
theorem Wr.other(h:Wr b o n w w')(hk:k≠b):w'.cell? ⟨k,i,none⟩=w.cell? ⟨k,i,none⟩:=World.cell?_of_block (w:=w) (h.block k hk)
theorem Wr.below(h:Wr b o n w w')(hB:B<=b):Below B w w' :=
 ⟨h.os,h.tape,h.output,by rw[h.size]; exact Nat.le_refl _,fun k hk=>h.block k (by omega)⟩
theorem Wr.free(h:Wr b o n w w')(k:dB w b' o' n'):dB w' b' o' n':=by
 intro i hi;by_cases e:b'=b
 ·subst e; rw[h.frozen]; exact k i hi
 ·rw[World.frozen?_of_block (w:=w) (h.block b' e)]; exact k i hi
theorem At.wr(h:Wr b o n w w')(k:At w ao b' o' l)(hb:l=[]\/b'≠b):At w' ao b' o' l :=
 ⟨k.loc,fun i hi=>by
  rcases hb with e | e
  ·subst e; simp at hi
  ·rw[h.other e]; exact k.cell i hi⟩
theorem At.below(h:Below B w w')(k:At w ao b o l)(hb:l=[]\/b < B):At w' ao b o l :=
 ⟨k.loc,fun i hi=>by
  rcases hb with e | e
  ·subst e; simp at hi
  ·rw[h.cell (p:=⟨b,o + i,none⟩) e]; exact k.cell i hi⟩
theorem aI(h:w.cell? ⟨b,o,none⟩=some v):b < w.heap.size:=by
 simp only[World.cell?] at h;by_cases hb:b < w.heap.size
 ·exact hb
 ·rw[Array.getElem?_eq_none (by omega)] at h; simp at h
theorem At.lt(k:At w ao b o l):l=[]\/b < w.heap.size:=by
 cases l with
 | nil=>exact .inl rfl
 | cons x l=>exact .inr (aI (k.cell 0 (by simp)))
theorem At.keep(h:Below w.heap.size w w')(k:At w ao b o l):At w' ao b o l:=k.below h k.lt
theorem At.setCell(k : At w ao b o l)(hi : i < l.length)(x : Int) : At (w.setCell ⟨b, o + i, none⟩ (.int .u64 x)) ao b o (l.set i x) :=
  ⟨by rcases k.loc with e | e
      · subst e; simp at hi
      · exact .inr e, fun j g => by
    rw[List.length_set] at g;have hc := k.cell j g;rw[dy hi];have a := k.cell i hi;simp only[World.cell?, World.setCell, Array.getElem?_modify, if_true] at hc a ⊢
    cases hh : w.heap[b]? with
    | none => rw[hh] at hc; simp at hc
    | some ob =>
      rw[hh] at hc a
      cases ob with
      | cells c e f =>
        simp at hc a ⊢;rw[Array.getElem?_setIfInBounds];by_cases e : j = i
        · subst e
          obtain⟨d, _⟩:= Array.getElem?_eq_some_iff.1 a;simp[d]
        · rw[if_neg (by omega), if_neg e]; exact hc
      | _ => simp at hc⟩
theorem At.drew(h:At w ao b o l):At w.drew ao b o l:=⟨h.loc,h.cell⟩
theorem dB.drew(h:dB w b o n):dB w.drew b o n:=h
theorem Wr.drew(h:Wr b o n w w'):Wr b o n w w'.drew:=⟨h.os,h.tape,h.output,h.size,h.block,h.cell,h.frozen⟩
theorem At.drewN(h:At w ao b o l)(n:Nat):At (w.drewN n) ao b o l:=⟨h.loc,h.cell⟩
theorem Wr.drewN(h:Wr b o n w w')(k:Nat):Wr b o n w (w'.drewN k):=⟨h.os,h.tape,h.output,h.size,h.block,h.cell,h.frozen⟩
def patch(l:List Int)(k:Nat)(m:List Int):List Int:=l.take k ++ (m ++ l.drop (k + m.length))
theorem fe(h:k + m.length<=l.length):(patch l k m).length=l.length:=by simp[patch]; omega
theorem kO(hl:Words l)(hm:Words m):Words (patch l k m):=(hl.take k).append (hm.append (hl.drop _))
theorem pL(h:k + m.length<=l.length)(hi:i < m.length):nth (patch l k m) (k + i)=nth m i:=by
 have e:(l.take k).length=k:=by simp; omega
 rw[patch,bI (by omega),e,Nat.add_sub_cancel_left,cQ hi]
theorem nD(h:k + m.length<=l.length)(hi:i < k\/k + m.length<=i):nth (patch l k m) i=nth l i:=by
 have e:(l.take k).length=k:=by simp; omega
 rcases hi with hi | hi
 ·rw[patch,cQ (by omega),dr hi]
 ·rw[patch,bI (by omega),e,bI (by omega),dF]; congr 1; omega
theorem oI(h:k + m.length<=l.length):val (patch l k m)=val l + 18446744073709551616 ^ k * (val m - val ((l.drop k).take m.length)):=by
 have e:(l.take k).length=k:=by simp; omega
 have b:=bC l k (by omega);have a:=bC (l.drop k) m.length (by simp; omega);rw[List.drop_drop] at a;rw[patch,dY,dY,e,b,a];grind
theorem At.patch(h : At w ao b o l)(hw : Wr b (o + k) n w w')(hm : At w' ao' b (o + k) m)(hn : m.length = n)(c : k + n ≤ l.length) : At w' ao b o (patch l k m) :=
  ⟨by rcases h.loc with e | e
      · left; subst e; simp at c; simp[Go.Proofs.YthfepflplbahkaaGreatDoor.patch, List.eq_nil_of_length_eq_zero (show m.length = 0 by omega)]
      · exact .inr e, fun i hi => by
    rw[fe (by omega)] at hi;by_cases a : k ≤ i ∧ i < k + n
    · obtain⟨j, rfl⟩:= Nat.exists_eq_add_of_le a.1
      rw[pL (by omega) (by omega), ← hm.cell j (by omega), Nat.add_assoc]
    · rw[nD (by omega) (by omega), hw.cell _ (by omega)]; exact h.cell i hi⟩
theorem At.fE(h:At w ao b o l)(k n:Nat):At w (some ⟨b,o + k,none⟩) b (o + k) ((l.drop k).take n) :=
 ⟨.inr rfl,fun i hi=>by
  simp only[List.length_take,List.length_drop] at hi
  rw[dr (by omega),dF,Nat.add_assoc]; exact h.cell _ (by omega)⟩
theorem dB.fE(h:dB w b o n){m:Nat}(hk:k + m<=n):dB w b (o + k) m:=fun i hi=>by
 rw[Nat.add_assoc]; exact h _ (by omega)
theorem At.sub(k : At w ao b o l)(n : Nat) : At w ao b o (l.take n) :=
  ⟨by rcases k.loc with e | e
      · subst e; exact .inl (by simp)
      · exact .inr e, fun i hi => by
    rw[List.length_take] at hi
    rw[dr (by omega)]; exact k.cell i (by omega)⟩
end
end
section
open Go.RowKit Lim
section
variable {w:World}{g:Nat}{l:List Int}{ops:Array Oper}{rest:List Oper}{o:Oper}{a:Act}
theorem gI:(Tryz.prog.info? 22).map (fun i=>(i.zero,i.size,i.bytes))=some (some (.int .u64 0),1,8):=by kernel_rfl
theorem fY:Tryz.prog.underlying 30=some (.slice 22):=by kernel_rfl
def Row(w:World)(g:Nat)(l:List Int):Prop:=w.heap[g]? = some (.cells (l.map (Value.int .u64)).toArray 22 (0,0))
theorem Row.at(h:Row w g l):At w (some ⟨g,0,none⟩) g 0 l :=
 ⟨.inr rfl,fun i hi=>by
  unfold Row at h;simp only[World.cell?,h]
  simp[bS hi,hi]⟩
theorem Row.free(h:Row w g l)(o n:Nat):dB w g o n:=by
 intro i _;unfold Row at h;simp[World.frozen?,h]
theorem Row.lt(h:Row w g l):g < w.heap.size:=(Array.getElem?_eq_some_iff.1 h).1
structure dC(w w':World)(v:Value)(l:List Int):Prop where
 is:∃ ao b o c,v=.slice ao l.length c/\l.length<=c/\w.heap.size<=b/\At w' ao b o l/\dB w' b o l.length
theorem re(n:Nat):madeCells (Value.int .u64 0).cells n=((List.replicate n 0).map (Value.int .u64)).toArray:=by
 apply Array.ext
 ·simp[size_madeCells]
 ·intro j b a;simp[madeCells,Value.cells,Nat.mod_one]
theorem cV{Q:Exit->Act->World->Prop}(g:o.guard=none)(l c:Operand)(e:o.op=Op.makeSlice 30 l c)(n:Nat)(L C:Int)(j:a.eval l=.int .i64 L)(hc:a.eval c=.int .i64 C)(hL:L=(n:Int))(hC:C=(n:Int))(hn:n<=17592186044416)(h:∀ w',Row w' w.heap.size (List.replicate n 0)->Below w.heap.size w w'->w'.heap.size=w.heap.size + 1->wpList Tryz.prog ops Q rest (a.put o.dst (.slice (some ⟨w.heap.size,0,none⟩) n n)) w') :
  wpList Tryz.prog ops Q (o :: rest) a w:=by
 obtain⟨i,hi,f,hs,hb⟩:=info_parts gI;refine wpList_plain g fun K d => ?_
 have b:=run_make (P:=Tryz.prog) w 30 22 i (.int .u64 0) fY hi f .i64 .i64 (n:Int) (n:Int) (by omega) (by omega) (by rw[hb]; omega) (by omega);subst hL;subst hC;unfold Oper.wp;simp only[execOp,e,j,hc];simp[b,Result.andThen];refine d _ _ (h _ ?_ ?_ ?_)
 ·show (w.heap.push _)[w.heap.size]? = _
  rw[Array.getElem?_push_size,hs,Nat.mul_one,re]
 ·exact(Below.refl _ _).alloc (Nat.le_refl _) _
 ·simp
theorem gi{Q:Exit->Act->World->Prop}(p:o.guard=none)(d s:Operand)(A:o.op=.call { callee:=.builtin .copy,args:=#[d,s],argTypes:=#[30,30] })(g dLen dCap sLen sCap:Nat)(sp:Option Addr)(B:a.eval d=.slice (some ⟨g,0,none⟩) dLen dCap)(hs:a.eval s=.slice sp sLen sCap)(lz ls:List Int)(b:Row w g lz)(u:lz.length=dLen)(b' o':Nat)(l:ls.length=sLen)(hle:sLen<=dLen)(q:At w sp b' o' ls)(h:∀ w',Row w' g (ls ++ lz.drop sLen)->Wr g 0 dLen w w'->wpList Tryz.prog ops Q rest (a.put o.dst (goInt sLen)) w'):wpList Tryz.prog ops Q (o :: rest) a w:=by
 obtain⟨i,hi,E,z,hb⟩:=info_parts gI
 have c:(Tryz.prog.info? 22).map (·.size)=some 1:=by rw[hi]; simp[z]
 by_cases t:sLen=0
 ·have C:ls=[]:=List.eq_nil_of_length_eq_zero (by omega);subst C;refine wpList_copy_nothing p d s _ _ A _ fY c _ sp dLen dCap sLen sCap B hs (by subst t; exact Nat.zero_min _) ?_
  have:=h w (by rw[t]; simpa using b) (Wr.refl _ _ _ _);rwa [t] at this
 ·obtain rfl:sp=some ⟨b',o',none⟩:=by
   rcases q.loc with e | e
   ·subst e; simp at l; omega
   ·exact e
  have n:Nat.min sLen dLen=sLen:=Nat.min_eq_left hle
  have hlen:(ls.map (Value.int .u64)).length=sLen:=by simp[l]
  refine wpList_copy_own p d s _ _ A _ fY c g 0 dLen dCap ⟨b',o',none⟩ sLen sCap B hs _ _ b (ls.map (Value.int .u64)) (by rw[n,hlen]) ?_ (by simp[l,u]; omega) (ints_oneCell _ _) ?_
  ·intro j v hv;rw[List.getElem?_map] at hv
   have f:j < ls.length:=by
    rcases Nat.lt_or_ge j ls.length with f | f
    ·exact f
    ·rw[List.getElem?_eq_none f] at hv; simp at hv
   rw[List.getElem?_eq_getElem f] at hv;simp at hv;subst hv;have:=q.cell j f;rw[bS f] at this;rw[<- this];by_cases m:j=0
   ·subst m; exact congrArg w.cell? (by simp[Addr.add])
   ·exact congrArg w.cell? (by simp[Addr.add,m])
  ·rw[hlen]
   have x:Row (w.setRow g (List.take 0 (List.map (Value.int .u64) lz).toArray.toList ++ (List.map (Value.int .u64) ls ++ List.drop (0 + sLen) (List.map (Value.int .u64) lz).toArray.toList)).toArray) g (ls ++ lz.drop sLen):=by
    unfold Row;rw[setRow_heap w g _ _ _ _ b,Nat.zero_add];simp only[List.take_zero,List.nil_append,<- List.map_drop,<- List.map_append]
   refine h _ x ⟨rfl,rfl,rfl,by simp[World.setRow],fun k D=>setRow_other w g k _ D,fun j f => ?_,fun j => ?_⟩
   ·have r:w.heap[g]? = _:=b
    have y:(w.setRow g (List.take 0 (List.map (Value.int .u64) lz).toArray.toList ++ (List.map (Value.int .u64) ls ++ List.drop (0 + sLen) (List.map (Value.int .u64) lz).toArray.toList)).toArray).heap[g]? = _:=x;simp only[World.cell?,r,y];simp;rw[List.getElem?_eq_none (by simp; omega),List.getElem?_eq_none (by omega)];rfl
   ·have r:w.heap[g]? = _:=b
    have y:(w.setRow g (List.take 0 (List.map (Value.int .u64) lz).toArray.toList ++ (List.map (Value.int .u64) ls ++ List.drop (0 + sLen) (List.map (Value.int .u64) lz).toArray.toList)).toArray).heap[g]? = _:=x;simp only[World.frozen?,r,y]
end
end
section
open Go.RowKit Lim
section
variable {x y:Int}{l a b:List Int}
def sgn(x y:Int):Int:=if x < y then -1 else if y < x then 1 else 0
theorem gM(h:x < y):sgn x y = -1:=by simp[sgn,h]
theorem kF(h:y < x):sgn x y=1:=by simp only[sgn]; rw[if_neg (by omega),if_pos h]
theorem sd(h:x=y):sgn x y=0:=by simp[sgn,h]
theorem ga(l:List Int):val l=nth l 0 + 18446744073709551616 * val l.tail:=by
 cases l with
 | nil=>simp[val,nth]
 | cons x l=>simp[val,nth]
theorem fI(l:List Int)(i:Nat):nth l.tail i=nth l (i + 1):=by
 cases l with
 | nil=>simp[nth]
 | cons x l=>simp[nth]
theorem Lim.Words.tl(h:Words l):Words l.tail:=fun x hx=>h x (List.mem_of_mem_tail hx)
theorem o8:∀ {a b:List Int},(∀ i,nth a i=nth b i)->val a=val b
 | [],b,h=>by rw[fk (l:=b) fun i=>by rw[<- h i,Dy]]; rfl
 | x :: a,b,h=>by
  rw[ga (x :: a),ga b,h 0,List.tail_cons,o8 (a:=a) (b:=b.tail) fun i=>by rw[fI,<- h (i + 1),dG]]
theorem jS:∀ (h:Nat) {a b:List Int},Words a->Words b->(∀ i,h < i->nth a i=nth b i)->nth a h < nth b h->val a < val b
 | 0,a,b,_,_,he,hl=>by
  rw[ga a,ga b,o8 (a:=a.tail) (b:=b.tail) fun i=>by rw[fI,fI]; exact he _ (by omega)];omega
 | h + 1,a,b,ha,hb,he,hl=>by
  have:=jS h ha.tl hb.tl (fun i hi=>by rw[fI,fI]; exact he _ (by omega)) (by rw[fI,fI]; exact hl);have c:=ha.nth 0; have d:=hb.nth 0;rw[ga a,ga b];omega
theorem sgn_at(e:Words a)(hb:Words b)(h:Nat)(he:∀ i,h < i->nth a i=nth b i)(d:nth a h≠nth b h):sgn (nth a h) (nth b h)=sgn (val a) (val b):=by
 rcases Int.lt_or_gt_of_ne d with c | c
 ·rw[gM c,gM (jS h e hb he c)]
 ·rw[kF c,kF (jS h hb e (fun i hi=>(he i hi).symm) c)]
theorem Ah(e:Words a)(hb:Words b)(d:aE a≠aE b):sgn (aE a) (aE b)=sgn (val a) (val b):=by
 rcases Nat.lt_or_gt_of_ne d with c | c
 ·rw[gM (by omega),gM (dA e hb c)]
 ·rw[kF (by omega),kF (dA hb e c)]
theorem rV(x y:Int)(w:World):Calls Tryz.prog 60 #[.int .i64 x,.int .i64 y] w fun e w'=>e=.returned (.int .i64 (sgn x y))/\w'=w:=by
 rcases Int.lt_trichotomy x y with h | h | h
 ·rw[gM h];go_enter Tryz.func60,Tryz.ntmps60;go_wp2;go_ret;exact⟨rfl,rfl⟩
 ·rw[sd h]; subst h;go_enter Tryz.func60,Tryz.ntmps60;go_wp2;go_ret;exact⟨rfl,rfl⟩
 ·rw[kF h]
  have b:¬ x < y:=by omega
  go_enter Tryz.func60,Tryz.ntmps60;go_wp2;go_ret;exact⟨rfl,rfl⟩
theorem q9(x y:Int)(w:World):Calls Tryz.prog 61 #[.int .u64 x,.int .u64 y] w fun e w'=>e=.returned (.int .i64 (sgn x y))/\w'=w:=by
 rcases Int.lt_trichotomy x y with h | h | h
 ·rw[gM h];go_enter Tryz.func61,Tryz.ntmps61;go_wp2;go_ret;exact⟨rfl,rfl⟩
 ·rw[sd h]; subst h;go_enter Tryz.func61,Tryz.ntmps61;go_wp2;go_ret;exact⟨rfl,rfl⟩
 ·rw[kF h]
  have b:¬ x < y:=by omega
  go_enter Tryz.func61,Tryz.ntmps61;go_wp2;go_ret;exact⟨rfl,rfl⟩
theorem kt{k:IntKind}{a b:Int}(h:a=b):Ending.returned (.int k a)=.returned (.int k b):=by rw[h]
theorem ic(ao:Option Addr)(n c b o:Nat)(ao':Option Addr)(n' c' b' o':Nat)(l d:List Int)(w:World)(X:l.length=n)(E:d.length=n')(hc:n<=c)(G:n'<=c')(J:n<=1099511627776)(H:n'<=1099511627776)(wl:Words l)(p:Words d)(v:At w ao b o l)(g:At w ao' b' o' d) :
  Calls Tryz.prog 26 #[.slice ao n c,.slice ao' n' c'] w fun e w'=>e=.returned (.int .i64 (sgn (val l) (val d)))/\Below w.heap.size w w':=by
 have hn:=bp l
 have D:=bp d;have t1:=bh ao n c l w X hc (by omega) v.cells;have t2:=bh ao' n' c' d w E G (by omega) g.cells
 have r:∀ i,aE l<=i->nth l i=0:=fun i hi=>fJ hi
 have m:∀ i,aE d<=i->nth d i=0:=fun i hi=>fJ hi
 have q:Hid (aE l≠aE d->sgn (aE l) (aE d)=sgn (val l) (val d)):=Ah wl p
 have Q:Hid (∀ i,aE l<=i->nth l i=0):=r
 have t:Hid (∀ i,aE d<=i->nth d i=0):=m;clear r m;generalize aE l=N at *;generalize aE d=K at *;go_enter Tryz.func26,Tryz.ntmps26;go_wp2_with fail;refine t1.mono ?_
 rintro e w1 ⟨rfl,rfl⟩;go_wp2_with fail;refine t2.mono ?_
 rintro e M ⟨rfl,rfl⟩;clear t1 t2;by_cases u:N=K
 ·subst u;go_wp2_with fail;go_loopw [25] (fun C wr=>∃ k:Nat,k<=N/\C=.int .i64 k/\Hid (∀ i,N - k<=i->nth l i=nth d i)/\Below M.heap.size M wr) (fun C _=>N - (intOf C).toNat)
  case atStart=>exact⟨0,Nat.zero_le _,rfl,fun i hi=>by rw[Q.out i (by omega),t.out i (by omega)],Below.refl _ _⟩
  case round =>
   obtain⟨k,hk,rfl,A,f⟩:=hrel;by_cases T:k < N
   ·have s:=v.keep f
    have j:=g.keep f;rcases v.loc with e | rfl
    ·subst e; simp at hn; omega
    rcases g.loc with e | rfl
    ·subst e; simp at D; omega
    obtain⟨h,I⟩:∃ h:Nat,N=h + 1 + k:=⟨N - 1 - k,by omega⟩
    have q1:=s.cell h (by omega);have R:=j.cell h (by omega)
    have HN:Hid (N=h + 1 + k):=I
    have O:(N:Int) - 1 - k=h:=by omega
    have L:Hid (∀ i,h < i->nth l i=nth d i):=fun i hi=>A.out i (by omega)
    have Y:Hid (nth l h≠nth d h->sgn (nth l h) (nth d h)=sgn (val l) (val d)):=sgn_at wl p h L.out
    have U:(h:Int) < N:=by omega
    clear I A Q t q v g s j wl p;generalize hx:nth l h=x at *;generalize hy:nth d h=y at *
    have P:Hid (x=y->nth l h=nth d h):=fun e=>hx.trans (e.trans hy.symm)
    clear hx hy;by_cases z:x=y
    ·have S:Hid (nth l h=nth d h):=P.out z;clear P;subst z;go_wp2_with fail;go_quiet (fail);go_wp2;go_roundw
     case rel=>exact⟨k + 1,by omega,by go_num,fun i hi=>by
      by_cases e:i=h
      ·subst e; exact S.out
      ·exact L.out i (by have:=HN.out; omega),below_drewN f _⟩
     case measure=>simp[intOf]; omega
    ·have V:(x != y)=true:=by rw[bne_iff_ne]; exact z
     go_wp2_with fail;go_quiet (fail);go_wp2_with fail
     have q3:(wr.drewN nq).cell? ⟨b,o + h,none⟩=some (.int .u64 x):=q1
     have q4:(wr.drewN nq).cell? ⟨b',o' + h,none⟩=some (.int .u64 y):=R;have B:=below_drewN f nq;clear q1 R f;generalize wr.drewN nq=W at *;go_quiet ((go_at_call 61; exact Calls.quiet_of_same (q9 _ _ _)));go_wp2;go_ret;exact⟨kt (Y.out z),below_drewN B _⟩
   ·have F:k=N:=by omega
    subst F;go_wp2;go_ret;rw[sd (o8 fun i=>A.out i (by omega))];exact⟨rfl,f⟩
 ·have Z:((N:Int) != (K:Int))=true:=by rw[bne_iff_ne]; omega
  go_wp2_with (go_at_call 60; refine(rV _ _ _).mono ?_; rintro e w' ⟨rfl,rfl⟩);go_ret;exact⟨kt (q.out u),Below.refl _ _⟩
end
end
section
open Go.RowKit Lim
section
variable {n:Nat}
theorem w64(z:Int)(h0:0<=z)(h1:z<=1000):wrap64 z=z:=by
 unfold wrap64; omega
theorem gk(k:Int)(i:Nat)(h0:0<=k)(hk:k<=56)(h:i < 256):wrap64 (k + wrap64 (bitLen i:Int))=k + bitLen i:=by
 have:=bitLen_le8 i h;rw[w64 (bitLen i) (by omega) (by omega),w64 _ (by omega) (by omega)]
theorem iS(x:Int)(b i:Nat)(h:x.toNat / 2 ^ b=i)(hi:i≠0):((bitLen x.toNat:Nat):Int)=b + bitLen i:=by
 rw[bitLen_shift x.toNat b (by rw[h]; exact hi),h]; omega
theorem len64(x:Int)(w:World)(c:0<=x)(b:x < 18446744073709551616) :
  Calls Tryz.prog 139 #[.int .u64 x] w fun e w'=>e=.returned (.int .i64 (bitLen x.toNat))/\w'=w:=by
 by_cases c0:4294967296<=x
 ·by_cases c1:65536<=x / 4294967296
  ·by_cases c2:256<=x / 4294967296 / 65536
   ·go_enter Tryz.func139,Tryz.ntmps139;go_wp2;go_ret;refine⟨kt ?_,rfl⟩;rw[len8tab_get,gk 56 (x / 4294967296 / 65536 / 256).toNat (by decide) (by decide) (by omega),iS x 56 (x / 4294967296 / 65536 / 256).toNat (by rw[show (2:Nat) ^ 56=72057594037927936 from rfl]; omega) (by omega)];rfl
   ·go_enter Tryz.func139,Tryz.ntmps139;go_wp2;go_ret;refine⟨kt ?_,rfl⟩;rw[len8tab_get,gk 48 (x / 4294967296 / 65536).toNat (by decide) (by decide) (by omega),iS x 48 (x / 4294967296 / 65536).toNat (by rw[show (2:Nat) ^ 48=281474976710656 from rfl]; omega) (by omega)];rfl
  ·by_cases c2:256<=x / 4294967296
   ·go_enter Tryz.func139,Tryz.ntmps139;go_wp2;go_ret;refine⟨kt ?_,rfl⟩;rw[len8tab_get,gk 40 (x / 4294967296 / 256).toNat (by decide) (by decide) (by omega),iS x 40 (x / 4294967296 / 256).toNat (by rw[show (2:Nat) ^ 40=1099511627776 from rfl]; omega) (by omega)];rfl
   ·go_enter Tryz.func139,Tryz.ntmps139;go_wp2;go_ret;refine⟨kt ?_,rfl⟩;rw[len8tab_get,gk 32 (x / 4294967296).toNat (by decide) (by decide) (by omega),iS x 32 (x / 4294967296).toNat (by rw[show (2:Nat) ^ 32=4294967296 from rfl]; omega) (by omega)];rfl
 ·by_cases c1:65536<=x
  ·by_cases c2:256<=x / 65536
   ·go_enter Tryz.func139,Tryz.ntmps139;go_wp2;go_ret;refine⟨kt ?_,rfl⟩;rw[len8tab_get,gk 24 (x / 65536 / 256).toNat (by decide) (by decide) (by omega),iS x 24 (x / 65536 / 256).toNat (by rw[show (2:Nat) ^ 24=16777216 from rfl]; omega) (by omega)];rfl
   ·go_enter Tryz.func139,Tryz.ntmps139;go_wp2;go_ret;refine⟨kt ?_,rfl⟩;rw[len8tab_get,gk 16 (x / 65536).toNat (by decide) (by decide) (by omega),iS x 16 (x / 65536).toNat (by rw[show (2:Nat) ^ 16=65536 from rfl]; omega) (by omega)];rfl
  ·by_cases c2:256<=x
   ·go_enter Tryz.func139,Tryz.ntmps139;go_wp2;go_ret;refine⟨kt ?_,rfl⟩;rw[len8tab_get,gk 8 (x / 256).toNat (by decide) (by decide) (by omega),iS x 8 (x / 256).toNat (by rw[show (2:Nat) ^ 8=256 from rfl]; omega) (by omega)];rfl
   ·go_enter Tryz.func139,Tryz.ntmps139;go_wp2;go_ret;refine⟨kt ?_,rfl⟩;rw[len8tab_get];have:=bitLen_le8 x.toNat (by omega);rw[w64 (bitLen x.toNat:Int) (by omega) (by omega),w64 _ (by omega) (by omega)]
theorem lS(h:n≠0):1<=bitLen n:=by unfold bitLen; rw[if_neg h]; omega
theorem gP(h:n < 18446744073709551616):bitLen n<=64:=by
 unfold bitLen;split
 ·omega
 ·have:=(Nat.log2_lt (k:=64) ‹_›).2 (by omega); omega
theorem Eb(x:Int)(w:World)(c:0<=x)(b:x < 18446744073709551616) :
  Calls Tryz.prog 87 #[.int .u64 x] w fun e w'=>e=.returned (.int .i64 (64 - bitLen x.toNat))/\w'=w:=by
 have f:=gP (n:=x.toNat) (by omega);have t1:=len64 x w c b;generalize bitLen x.toNat=L at *;go_enter Tryz.func87,Tryz.ntmps87;go_wp2_with fail;refine t1.mono ?_
 rintro e d ⟨rfl,rfl⟩;go_wp2;go_ret;exact⟨rfl,rfl⟩
end
end
section
open Go.RowKit Lim
section
variable {y y1 y0 u a q r:Int}
theorem DU(y:Int)(w:World)(g:0 < y)(d:y < 18446744073709551616) :
  Calls Tryz.prog 87 #[.int .u64 y] w fun e w'=>∃ s:Nat,e=.returned (.int .i64 s)/\s<=63/\Hid (9223372036854775808<=y * 2 ^ s/\y * 2 ^ s < 18446744073709551616)/\w'=w:=by
 refine(Eb y w (by omega) d).mono ?_
 rintro e w' ⟨rfl,rfl⟩;have h:=gP (n:=y.toNat) (by omega);have f:=lS (n:=y.toNat) (by omega);have hs:=bitLen_spec y.toNat;generalize bitLen y.toNat=L at *;refine⟨64 - L,kt (by omega),by omega,?_,rfl⟩;have a:=hs.1;have b:=hs.2 (by omega);obtain⟨n,rfl⟩:∃ n:Nat,y=n:=⟨y.toNat,by omega⟩
 rw[Int.toNat_natCast] at a b
 have e1:(2:Nat) ^ L * 2 ^ (64 - L)=18446744073709551616:=by rw[<- Nat.pow_add,show L + (64 - L)=64 from by omega]
 have e2:(2:Nat) ^ (L - 1) * 2 ^ (64 - L)=9223372036854775808:=by rw[<- Nat.pow_add,show L - 1 + (64 - L)=63 from by omega]
 have k1:n * 2 ^ (64 - L) < 2 ^ L * 2 ^ (64 - L):=Nat.mul_lt_mul_of_pos_right a (Nat.two_pow_pos _)
 have k2:2 ^ (L - 1) * 2 ^ (64 - L)<=n * 2 ^ (64 - L):=Nat.mul_le_mul_right _ b;rw[e1] at k1;rw[e2] at k2
 have c:((n * 2 ^ (64 - L):Nat):Int)=(n:Int) * 2 ^ (64 - L):=by rw[Int.natCast_mul,Int.natCast_pow]; rfl
 show _/\_
 rw[<- c];omega
structure eN(y y1 u a q r:Int):Prop where
 eq:q * y1 + r=u
 r0:0<=r
 up:u * 4294967296 + a < (q + 1) * y
 q0:0<=q
 qb:q<=4294967297
theorem eN.start(e:y=y1 * 4294967296 + y0)(c:0<=y0)(i:y0 < 4294967296)(h:2147483648<=y1)(u0:0<=u)(j:u < y)(a0:0<=a)(a1:a < 4294967296) :
  eN y y1 u a (u / y1) (u % y1):=by
 have f:=Int.mul_ediv_add_emod u y1;have g:=Int.emod_nonneg u (show y1≠0 by omega);have d:=Int.emod_lt_of_pos u (show 0 < y1 by omega)
 have b:0<=u / y1:=Int.ediv_nonneg u0 (by omega);generalize u / y1=q at *;generalize u % y1=r at *;refine⟨by rw[Int.mul_comm]; exact f,g,?_,b,?_⟩
 ·have k1:(q + 1) * y=(y1 * q + y1) * 4294967296 + (q + 1) * y0:=by rw[e]; grind
  have k2:0<=(q + 1) * y0:=Int.mul_nonneg (by omega) c;rw[k1]; omega
 ·by_cases hc:q<=4294967297
  ·exact hc
  ·have k:y1 * 4294967298<=y1 * q:=Int.mul_le_mul_of_nonneg_left (by omega) (by omega);omega
theorem eN.big(h:eN y y1 u a q r)(a1:a < 4294967296)(y0:0 < y)(d:u < y)(b:4294967296<=q)(c:0<=y1):eN y y1 u a (q - 1) (r + y1):=by
 have k:y * 4294967296<=y * q:=Int.mul_le_mul_of_nonneg_left b (by omega);have:=h.eq; have:=h.r0; have:=h.qb;refine⟨by rw[Int.sub_mul]; omega,by omega,?_,by omega,by omega⟩;rw[Int.sub_add_cancel,Int.mul_comm q y]; omega
theorem eN.more(h:eN y y1 u a q r)(e:y=y1 * 4294967296 + y0)(u0:0<=u)(a0:0<=a)(f:0<=y1)(hc:4294967296 * r + a < q * y0):eN y y1 u a (q - 1) (r + y1):=by
 have he:=h.eq; have:=h.r0; have:=h.qb; have:=h.q0
 have k:q * y=q * y1 * 4294967296 + q * y0:=by rw[e]; grind
 have b:u * 4294967296 + a < q * y:=by rw[k]; omega
 have d:1<=q:=by
  by_cases c:1<=q
  ·exact c
  ·have:q=0:=by omega
   subst this;simp at b; omega
 refine⟨by rw[Int.sub_mul]; omega,by omega,?_,by omega,by omega⟩;rw[Int.sub_add_cancel]; exact b
structure Dig(y u a q:Int):Prop where
 lo:q * y<=u * 4294967296 + a
 hi:u * 4294967296 + a < (q + 1) * y
 q0:0<=q
 q1:q < 4294967296
theorem eN.dig(h:eN y y1 u a q r)(e:y=y1 * 4294967296 + y0)(d:0 < y)(b:u < y)(a1:a < 4294967296)(hc:q * y0<=4294967296 * r + a):Dig y u a q:=by
 have he:=h.eq
 have k:q * y=q * y1 * 4294967296 + q * y0:=by rw[e]; grind
 have lo:q * y<=u * 4294967296 + a:=by rw[k]; omega
 refine⟨lo,h.up,h.q0,?_⟩;by_cases c:q < 4294967296
 ·exact c
 ·have:4294967296 * y<=q * y:=Int.mul_le_mul_of_nonneg_right (by omega) (by omega);omega
theorem eN.kH(h:eN y y1 u a q r)(e:y=y1 * 4294967296 + y0)(c:0 < y)(b:u < y)(a0:0<=a)(a1:a < 4294967296)(d:0<=y0)(g:y0 < 4294967296)(f:q<=4294967296)(i:4294967296<=r):Dig y u a q :=
 h.dig e c b a1 (by
  have:q * y0<=4294967296 * y0:=Int.mul_le_mul_of_nonneg_right f d
  omega)
theorem Dig.rest(h:Dig y u a q):0<=u * 4294967296 + a - q * y/\u * 4294967296 + a - q * y < y:=by
 have:=h.lo; have h2:=h.hi;rw[Int.add_mul] at h2;omega
theorem ediv64(x S T:Int)(hS:0 < S)(h:S * T=18446744073709551616):x * S / 18446744073709551616=x / T:=by
 rw[<- h,Int.mul_comm S T,Int.mul_ediv_mul_of_pos_left _ _ hS]
theorem ql(a b:Int)(s:Nat)(k:Int)(i:a=k * 2 ^ s)(j:0<=k)(h:a < 18446744073709551616)(c:0<=b)(l:b < 2 ^ s)(f:b < 18446744073709551616):bits .or .u64 a b=a + b:=by
 have m:(0:Int) < 2 ^ s:=Int.pow_pos (by decide)
 have d:0<=a:=by rw[i]; exact Int.mul_nonneg j (Int.le_of_lt m)
 rw[u64_or a b d h c f];obtain⟨k,rfl⟩:=Int.eq_ofNat_of_zero_le j;obtain⟨b,rfl⟩:=Int.eq_ofNat_of_zero_le c
 have e:a.toNat=2 ^ s * k:=by
  have:a=((2 ^ s * k:Nat):Int):=by rw[i,Int.natCast_mul,Int.natCast_pow,Int.mul_comm]; rfl
  rw[this,Int.toNat_natCast]
 have g:b < 2 ^ s:=by
  have:((2 ^ s:Nat):Int)=2 ^ s:=by rw[Int.natCast_pow]; rfl
  omega
 rw[e,Int.toNat_natCast,<- Nat.two_pow_add_eq_or_of_lt g,<- e];omega
theorem zW(hi lo y:Int)(s:Nat)(h:0<=hi)(p:hi < y)(f:0<=lo)(l1:lo < 18446744073709551616)(hs:s<=63)(o:9223372036854775808<=y * 2 ^ s/\y * 2 ^ s < 18446744073709551616) :
  ∃ Y Yh Yl U A A1 A0:Int,IntKind.u64.wrap (y * 2 ^ s)=Y/\Y / 4294967296=Yh/\bits .and .u64 Y 4294967295=Yl/\bits .or .u64 (IntKind.u64.wrap (hi * 2 ^ s)) (lo / 2 ^ (64 - s))=U /\
   IntKind.u64.wrap (lo * 2 ^ s)=A/\A / 4294967296=A1/\bits .and .u64 A 4294967295=A0/\0<=Yl/\Yl < 4294967296/\2147483648<=Yh/\Yh < 4294967296/\0<=U/\U < Y/\Y < 18446744073709551616/\0<=A1/\A1 < 4294967296/\0<=A0/\A0 < 4294967296 /\
   Hid (Y=Yh * 4294967296 + Yl)/\Hid ((U * 4294967296 + A1) * 4294967296 + A0=(hi * 18446744073709551616 + lo) * 2 ^ s/\Y=y * 2 ^ s):=by
 have hS:(0:Int) < 2 ^ s:=Int.pow_pos (by decide)
 have i:(0:Int) < 2 ^ (64 - s):=Int.pow_pos (by decide)
 have d:(2:Int) ^ s * 2 ^ (64 - s)=18446744073709551616:=by rw[<- Int.pow_add,show s + (64 - s)=64 from by omega]; rfl
 have g:(2:Int) ^ s * 1<=2 ^ s * 2 ^ (64 - s):=Int.mul_le_mul_of_nonneg_left (by omega) (Int.le_of_lt hS)
 have e:0<=hi * 2 ^ s:=Int.mul_nonneg h (Int.le_of_lt hS)
 have c:(hi + 1) * 2 ^ s<=y * 2 ^ s:=Int.mul_le_mul_of_nonneg_right (by omega) (Int.le_of_lt hS);rw[Int.add_mul,Int.one_mul] at c
 have j:0<=lo * 2 ^ s:=Int.mul_nonneg f (Int.le_of_lt hS)
 have a:0<=lo / 2 ^ (64 - s):=Int.ediv_nonneg f (Int.le_of_lt i)
 have b:lo / 2 ^ (64 - s) < 2 ^ s:=by
  rw[Int.ediv_lt_iff_lt_mul i,d]; exact l1
 have l:=ediv64 lo (2 ^ s) (2 ^ (64 - s)) hS d
 have m:bits .or .u64 (IntKind.u64.wrap (hi * 2 ^ s)) (lo / 2 ^ (64 - s))=hi * 2 ^ s + lo / 2 ^ (64 - s):=by
  rw[IntKind.wrap_u64,Int.emod_eq_of_lt e (by omega)];exact ql _ _ s hi rfl h (by omega) a b (by omega)
 have k:IntKind.u64.wrap (y * 2 ^ s)=y * 2 ^ s:=by rw[IntKind.wrap_u64]; omega
 have hA:IntKind.u64.wrap (lo * 2 ^ s)=lo * 2 ^ s % 18446744073709551616:=IntKind.wrap_u64 _
 have e3:(hi * 18446744073709551616 + lo) * 2 ^ s=hi * 2 ^ s * 18446744073709551616 + lo * 2 ^ s:=by grind
 rw[m,k,hA];rw[<- l] at a b ⊢;rw[e3];generalize hi * 2 ^ s=H at *;generalize lo * 2 ^ s=n at *;generalize y * 2 ^ s=Y at *;refine⟨Y,_,_,_,_,_,_,rfl,rfl,qv _ (by omega) (by omega),rfl,rfl,rfl,qv _ (by omega) (by omega),by omega,by omega,by omega,by omega,by omega,by omega,by omega,by omega,by omega,by omega,by omega,?_,?_,rfl⟩
 ·show _=_; omega
 ·omega
theorem wg(U A p V:Int)(h:V=U * 4294967296 + A - p)(a:0<=V)(b:V < 18446744073709551616):IntKind.u64.wrap (IntKind.u64.wrap (IntKind.u64.wrap (U * 4294967296) + A) - IntKind.u64.wrap p)=V:=by
 simp only[IntKind.wrap_u64]; omega
theorem xn(u y:Int)(hu:0<=u)(b:u < 18446744073709551616)(hy:0 < y):IntKind.u64.wrap (u - IntKind.u64.wrap (u / y * y))=u % y:=by
 have a:=Int.mul_ediv_add_emod u y;have d:=Int.emod_nonneg u (show y≠0 by omega);have c:=Int.mul_nonneg (Int.ediv_nonneg hu (Int.le_of_lt hy)) (Int.le_of_lt hy);rw[Int.mul_comm] at a;generalize u / y * y=p at *;generalize u % y=r at *;simp only[IntKind.wrap_u64]; omega
theorem iB(Y b c u a:Int)(hy:Y=b * 4294967296 + c)(f:0<=c)(d:c < 4294967296)(g:2147483648<=b)(h:b < 4294967296)(u0:0<=u)(e:u < Y)(i:Y < 18446744073709551616)(a0:0<=a)(a1:a < 4294967296) :
  IntKind.u64.wrap (u - IntKind.u64.wrap (u / b * b))=u % b/\eN Y b u a (u / b) (u % b)/\u % b < 4294967296 :=
 ⟨xn u b u0 (by omega) (by omega),eN.start hy f d g u0 e a0 a1,by have:=Int.emod_lt_of_pos u (show 0 < b by omega); omega⟩
theorem dq{Y:Int}(h:Dig Y u a q)(b:Y < 18446744073709551616):∃ V:Int,IntKind.u64.wrap (IntKind.u64.wrap (IntKind.u64.wrap (u * 4294967296) + a) - IntKind.u64.wrap (q * Y))=V/\0<=V/\V < Y/\Hid (V=u * 4294967296 + a - q * Y):=by
 have:=h.rest;exact⟨u * 4294967296 + a - q * Y,wg u a (q * Y) _ rfl this.1 (by omega),this.1,this.2,rfl⟩
theorem eZ(hi lo y Y U h b Q V a:Int)(s:Nat)(hy:0 < y)(e:(U * 4294967296 + h) * 4294967296 + b=(hi * 18446744073709551616 + lo) * 2 ^ s)(i:Y=y * 2 ^ s)(j:V=U * 4294967296 + h - Q * Y)(f:Dig Y V b a) :
  Q * 4294967296 + a=(hi * 18446744073709551616 + lo) / y/\(V * 4294967296 + b - a * Y) / 2 ^ s=(hi * 18446744073709551616 + lo) % y:=by
 have hS:(0:Int) < 2 ^ s:=Int.pow_pos (by decide);have g:=f.rest;have l:=f.q0;have k:=f.q1;generalize hN:hi * 18446744073709551616 + lo=N at *
 have key:N * 2 ^ s=(Q * 4294967296 + a) * y * 2 ^ s + (V * 4294967296 + b - a * Y):=by rw[<- e,j,i]; grind
 generalize hR:V * 4294967296 + b - a * Y=R at *
 have hdiv:R=(N - (Q * 4294967296 + a) * y) * 2 ^ s:=by rw[Int.sub_mul]; omega
 generalize hK:Q * 4294967296 + a=K at *;generalize hD:N - K * y=D at *;rw[hdiv] at g;rw[i] at g
 have d0:0<=D:=by
  by_cases c:0<=D
  ·exact c
  ·have:D * 2 ^ s <= -1 * 2 ^ s:=Int.mul_le_mul_of_nonneg_right (by omega) (Int.le_of_lt hS);omega
 have d1:D < y:=Int.lt_of_mul_lt_mul_right g.2 (Int.le_of_lt hS)
 have d:N=y * K + D:=by rw[<- hD,Int.mul_comm y K]; omega
 constructor
 ·have:N / y=K:=by rw[d,Int.add_comm,Int.add_mul_ediv_left _ _ (by omega),Int.ediv_eq_zero_of_lt d0 d1,Int.zero_add]
  omega
 ·rw[hdiv,Int.mul_ediv_cancel _ (by omega),d,Int.add_comm,Int.add_mul_emod_self_left,Int.emod_eq_of_lt d0 d1]
theorem ow(hi lo y:Int)(w:World)(h0:0 < hi)(h1:hi < y)(l0:0<=lo)(l1:lo < 18446744073709551616)(y1:y < 18446744073709551616) :
  Calls Tryz.prog 166 #[.int .u64 hi,.int .u64 lo,.int .u64 y] w fun e w'=>e=.returned (.tuple #[.int .u64 ((hi * 18446744073709551616 + lo) / y),.int .u64 ((hi * 18446744073709551616 + lo) % y)])/\w'=w:=by
 have hb0:(hi == 0)=false:=beq_eq_false_iff_ne.2 (by omega)
 have hb1:(y == 0)=false:=beq_eq_false_iff_ne.2 (by omega);go_enter Tryz.func166,Tryz.ntmps166;go_wp2_with fail;refine(DU y _ (by omega) y1).mono ?_
 rintro e w' ⟨s,rfl,hs,HS,rfl⟩;obtain⟨Y,n,K,U,A,x,g,e1,e2,e3,e4,e5,e6,e7,d,m,O,P,u0,u1,D,a10,L,T,i,v,z⟩:=zW hi lo y s (by omega) h1 l0 l1 hs HS.out;obtain⟨d2,t,u⟩:=iB Y n K U x v.out d m O P u0 u1 D a10 L;go_wp2_with fail;clear e1 e2 e3 e4 e5 e6 e7 d2 HS hb0 hb1;go_loop [15,16] (fun tq tr=>∃ q r:Int,tq=.int .u64 q/\tr=.int .u64 r/\eN Y n U x q r/\r < 4294967296) (fun tq _=>(intOf tq).toNat)
 case atStart=>exact⟨_,_,rfl,rfl,t,u⟩
 case round =>
  clear t u;obtain⟨q,r,rfl,rfl,f,hr⟩:=hrel;have q0:=f.q0;have qb:=f.qb;have r0:=f.r0;by_cases c1:4294967296<=q
  ·have b:=f.big L (by omega) u1 c1 (by omega);obtain⟨Q,H⟩:∃ Q,q - 1=Q:=⟨_,rfl⟩
   obtain⟨R,F⟩:∃ R,r + n=R:=⟨_,rfl⟩
   rw[H,F] at b;have M:=b.q0
   have J:Q < q:=by omega
   have X:R < 8589934592:=by omega
   have S:=b.r0;by_cases c2:4294967296<=R
   ·have c:Hid (Dig Y U x Q):=b.kH v.out (by omega) u1 (by omega) L d m (by omega) c2;have N:=c.out.q1;obtain⟨V,v1,v2,v3,B⟩:=dq c.out D;obtain⟨d2,t,u⟩:=iB Y n K V g v.out d m O P v2 v3 D T i;obtain⟨l,o⟩:∃ l,l=Q:=⟨_,rfl⟩
    have ac:0<=l:=by omega
    have aa:l < 4294967296:=by omega
    have B:Hid (V=U * 4294967296 + x - l * Y):=by rw[o]; exact B
    go_wp2_with fail;rw[<- o];clear v1 d2 o;go_loop [18,16] (fun tq tr=>∃ q r:Int,tq=.int .u64 q/\tr=.int .u64 r/\eN Y n V g q r/\r < 4294967296) (fun tq _=>(intOf tq).toNat)
    case atStart=>exact⟨_,_,rfl,rfl,t,u⟩
    case round =>
     clear t u c;obtain⟨q,r,rfl,rfl,f,hr⟩:=hrel;have q0:=f.q0;have qb:=f.qb;have r0:=f.r0;by_cases c1:4294967296<=q
     ·have b:=f.big i (by omega) v3 c1 (by omega);obtain⟨Q,H⟩:∃ Q,q - 1=Q:=⟨_,rfl⟩
      obtain⟨R,F⟩:∃ R,r + n=R:=⟨_,rfl⟩
      rw[H,F] at b;have M:=b.q0
      have J:Q < q:=by omega
      have X:R < 8589934592:=by omega
      have S:=b.r0;by_cases c2:4294967296<=R
      ·have c:Hid (Dig Y V g Q):=b.kH v.out (by omega) v3 (by omega) i d m (by omega) c2;have N:=c.out.q1;obtain⟨Z,z1,z2,z3,C⟩:=dq c.out D;go_wp2;go_ret2;have j:=eZ hi lo y Y U x g l V Q s (by omega) z.out.1 z.out.2 B.out c.out;exact⟨nA j.1 (by rw[<- j.2,<- C.out]),rfl⟩
      ·have G:Hid (eN Y n V g Q R):=b;clear b f;go_wp2;go_round
       case rel=>exact⟨Q,R,rfl,rfl,G.out,by omega⟩
       case measure=>simp[intOf]; omega
     ·obtain⟨p,I⟩:∃ p,q * K=p:=⟨_,rfl⟩
      have p0:0<=p:=by rw[<- I]; exact Int.mul_nonneg q0 d
      have p1:p < 18446744073709551616:=by
       have:=Int.mul_le_mul (show q<=4294967295 by omega) (show K<=4294967295 by omega) d (by decide);omega
      by_cases W:4294967296 * r + g < p
      ·have b:=f.more v.out (by omega) (by omega) (by omega) (by rw[I]; exact W);obtain⟨Q,H⟩:∃ Q,q - 1=Q:=⟨_,rfl⟩
       obtain⟨R,F⟩:∃ R,r + n=R:=⟨_,rfl⟩
       rw[H,F] at b;have M:=b.q0
       have J:Q < q:=by omega
       have X:R < 8589934592:=by omega
       have S:=b.r0;by_cases c2:4294967296<=R
       ·have c:Hid (Dig Y V g Q):=b.kH v.out (by omega) v3 (by omega) i d m (by omega) c2;have N:=c.out.q1;obtain⟨Z,z1,z2,z3,C⟩:=dq c.out D;go_wp2;go_ret2;have j:=eZ hi lo y Y U x g l V Q s (by omega) z.out.1 z.out.2 B.out c.out;exact⟨nA j.1 (by rw[<- j.2,<- C.out]),rfl⟩
       ·have G:Hid (eN Y n V g Q R):=b;clear b f;go_wp2;go_round
        case rel=>exact⟨Q,R,rfl,rfl,G.out,by omega⟩
        case measure=>simp[intOf]; omega
      ·have c:Hid (Dig Y V g q):=f.dig v.out (by omega) v3 i (by rw[I]; omega);have N:=c.out.q1;have M:=c.out.q0;clear f
       have E:∃ Q,Q=q:=⟨_,rfl⟩
       obtain⟨Q,rfl⟩:=E;obtain⟨Z,z1,z2,z3,C⟩:=dq c.out D;go_wp2;go_ret2;have j:=eZ hi lo y Y U x g l V Q s (by omega) z.out.1 z.out.2 B.out c.out;exact⟨nA j.1 (by rw[<- j.2,<- C.out]),rfl⟩
   ·have G:Hid (eN Y n U x Q R):=b;clear b f;go_wp2;go_round
    case rel=>exact⟨Q,R,rfl,rfl,G.out,by omega⟩
    case measure=>simp[intOf]; omega
  ·obtain⟨p,I⟩:∃ p,q * K=p:=⟨_,rfl⟩
   have p0:0<=p:=by rw[<- I]; exact Int.mul_nonneg q0 d
   have p1:p < 18446744073709551616:=by
    have:=Int.mul_le_mul (show q<=4294967295 by omega) (show K<=4294967295 by omega) d (by decide);omega
   by_cases W:4294967296 * r + x < p
   ·have b:=f.more v.out (by omega) (by omega) (by omega) (by rw[I]; exact W);obtain⟨Q,H⟩:∃ Q,q - 1=Q:=⟨_,rfl⟩
    obtain⟨R,F⟩:∃ R,r + n=R:=⟨_,rfl⟩
    rw[H,F] at b;have M:=b.q0
    have J:Q < q:=by omega
    have X:R < 8589934592:=by omega
    have S:=b.r0;by_cases c2:4294967296<=R
    ·have c:Hid (Dig Y U x Q):=b.kH v.out (by omega) u1 (by omega) L d m (by omega) c2;have N:=c.out.q1;obtain⟨V,v1,v2,v3,B⟩:=dq c.out D;obtain⟨d2,t,u⟩:=iB Y n K V g v.out d m O P v2 v3 D T i;obtain⟨l,o⟩:∃ l,l=Q:=⟨_,rfl⟩
     have ac:0<=l:=by omega
     have aa:l < 4294967296:=by omega
     have B:Hid (V=U * 4294967296 + x - l * Y):=by rw[o]; exact B
     go_wp2_with fail;rw[<- o];clear v1 d2 o;go_loop [18,16] (fun tq tr=>∃ q r:Int,tq=.int .u64 q/\tr=.int .u64 r/\eN Y n V g q r/\r < 4294967296) (fun tq _=>(intOf tq).toNat)
     case atStart=>exact⟨_,_,rfl,rfl,t,u⟩
     case round =>
      clear t u c;obtain⟨q,r,rfl,rfl,f,hr⟩:=hrel;have q0:=f.q0;have qb:=f.qb;have r0:=f.r0;by_cases c1:4294967296<=q
      ·have b:=f.big i (by omega) v3 c1 (by omega);obtain⟨Q,H⟩:∃ Q,q - 1=Q:=⟨_,rfl⟩
       obtain⟨R,F⟩:∃ R,r + n=R:=⟨_,rfl⟩
       rw[H,F] at b;have M:=b.q0
       have J:Q < q:=by omega
       have X:R < 8589934592:=by omega
       have S:=b.r0;by_cases c2:4294967296<=R
       ·have c:Hid (Dig Y V g Q):=b.kH v.out (by omega) v3 (by omega) i d m (by omega) c2;have N:=c.out.q1;obtain⟨Z,z1,z2,z3,C⟩:=dq c.out D;go_wp2;go_ret2;have j:=eZ hi lo y Y U x g l V Q s (by omega) z.out.1 z.out.2 B.out c.out;exact⟨nA j.1 (by rw[<- j.2,<- C.out]),rfl⟩
       ·have G:Hid (eN Y n V g Q R):=b;clear b f;go_wp2;go_round
        case rel=>exact⟨Q,R,rfl,rfl,G.out,by omega⟩
        case measure=>simp[intOf]; omega
      ·obtain⟨p,I⟩:∃ p,q * K=p:=⟨_,rfl⟩
       have p0:0<=p:=by rw[<- I]; exact Int.mul_nonneg q0 d
       have p1:p < 18446744073709551616:=by
        have:=Int.mul_le_mul (show q<=4294967295 by omega) (show K<=4294967295 by omega) d (by decide);omega
       by_cases W:4294967296 * r + g < p
       ·have b:=f.more v.out (by omega) (by omega) (by omega) (by rw[I]; exact W);obtain⟨Q,H⟩:∃ Q,q - 1=Q:=⟨_,rfl⟩
        obtain⟨R,F⟩:∃ R,r + n=R:=⟨_,rfl⟩
        rw[H,F] at b;have M:=b.q0
        have J:Q < q:=by omega
        have X:R < 8589934592:=by omega
        have S:=b.r0;by_cases c2:4294967296<=R
        ·have c:Hid (Dig Y V g Q):=b.kH v.out (by omega) v3 (by omega) i d m (by omega) c2;have N:=c.out.q1;obtain⟨Z,z1,z2,z3,C⟩:=dq c.out D;go_wp2;go_ret2;have j:=eZ hi lo y Y U x g l V Q s (by omega) z.out.1 z.out.2 B.out c.out;exact⟨nA j.1 (by rw[<- j.2,<- C.out]),rfl⟩
        ·have G:Hid (eN Y n V g Q R):=b;clear b f;go_wp2;go_round
         case rel=>exact⟨Q,R,rfl,rfl,G.out,by omega⟩
         case measure=>simp[intOf]; omega
       ·have c:Hid (Dig Y V g q):=f.dig v.out (by omega) v3 i (by rw[I]; omega);have N:=c.out.q1;have M:=c.out.q0;clear f
        have E:∃ Q,Q=q:=⟨_,rfl⟩
        obtain⟨Q,rfl⟩:=E;obtain⟨Z,z1,z2,z3,C⟩:=dq c.out D;go_wp2;go_ret2;have j:=eZ hi lo y Y U x g l V Q s (by omega) z.out.1 z.out.2 B.out c.out;exact⟨nA j.1 (by rw[<- j.2,<- C.out]),rfl⟩
    ·have G:Hid (eN Y n U x Q R):=b;clear b f;go_wp2;go_round
     case rel=>exact⟨Q,R,rfl,rfl,G.out,by omega⟩
     case measure=>simp[intOf]; omega
   ·have c:Hid (Dig Y U x q):=f.dig v.out (by omega) u1 L (by rw[I]; omega);have N:=c.out.q1;have M:=c.out.q0;clear f
    have E:∃ Q,Q=q:=⟨_,rfl⟩
    obtain⟨Q,rfl⟩:=E;obtain⟨V,v1,v2,v3,B⟩:=dq c.out D;obtain⟨d2,t,u⟩:=iB Y n K V g v.out d m O P v2 v3 D T i;obtain⟨l,o⟩:∃ l,l=Q:=⟨_,rfl⟩
    have ac:0<=l:=by omega
    have aa:l < 4294967296:=by omega
    have B:Hid (V=U * 4294967296 + x - l * Y):=by rw[o]; exact B
    go_wp2_with fail;rw[<- o];clear v1 d2 o;go_loop [18,16] (fun tq tr=>∃ q r:Int,tq=.int .u64 q/\tr=.int .u64 r/\eN Y n V g q r/\r < 4294967296) (fun tq _=>(intOf tq).toNat)
    case atStart=>exact⟨_,_,rfl,rfl,t,u⟩
    case round =>
     clear t u c;obtain⟨q,r,rfl,rfl,f,hr⟩:=hrel;have q0:=f.q0;have qb:=f.qb;have r0:=f.r0;by_cases c1:4294967296<=q
     ·have b:=f.big i (by omega) v3 c1 (by omega);obtain⟨Q,H⟩:∃ Q,q - 1=Q:=⟨_,rfl⟩
      obtain⟨R,F⟩:∃ R,r + n=R:=⟨_,rfl⟩
      rw[H,F] at b;have M:=b.q0
      have J:Q < q:=by omega
      have X:R < 8589934592:=by omega
      have S:=b.r0;by_cases c2:4294967296<=R
      ·have c:Hid (Dig Y V g Q):=b.kH v.out (by omega) v3 (by omega) i d m (by omega) c2;have N:=c.out.q1;obtain⟨Z,z1,z2,z3,C⟩:=dq c.out D;go_wp2;go_ret2;have j:=eZ hi lo y Y U x g l V Q s (by omega) z.out.1 z.out.2 B.out c.out;exact⟨nA j.1 (by rw[<- j.2,<- C.out]),rfl⟩
      ·have G:Hid (eN Y n V g Q R):=b;clear b f;go_wp2;go_round
       case rel=>exact⟨Q,R,rfl,rfl,G.out,by omega⟩
       case measure=>simp[intOf]; omega
     ·obtain⟨p,I⟩:∃ p,q * K=p:=⟨_,rfl⟩
      have p0:0<=p:=by rw[<- I]; exact Int.mul_nonneg q0 d
      have p1:p < 18446744073709551616:=by
       have:=Int.mul_le_mul (show q<=4294967295 by omega) (show K<=4294967295 by omega) d (by decide);omega
      by_cases W:4294967296 * r + g < p
      ·have b:=f.more v.out (by omega) (by omega) (by omega) (by rw[I]; exact W);obtain⟨Q,H⟩:∃ Q,q - 1=Q:=⟨_,rfl⟩
       obtain⟨R,F⟩:∃ R,r + n=R:=⟨_,rfl⟩
       rw[H,F] at b;have M:=b.q0
       have J:Q < q:=by omega
       have X:R < 8589934592:=by omega
       have S:=b.r0;by_cases c2:4294967296<=R
       ·have c:Hid (Dig Y V g Q):=b.kH v.out (by omega) v3 (by omega) i d m (by omega) c2;have N:=c.out.q1;obtain⟨Z,z1,z2,z3,C⟩:=dq c.out D;go_wp2;go_ret2;have j:=eZ hi lo y Y U x g l V Q s (by omega) z.out.1 z.out.2 B.out c.out;exact⟨nA j.1 (by rw[<- j.2,<- C.out]),rfl⟩
       ·have G:Hid (eN Y n V g Q R):=b;clear b f;go_wp2;go_round
        case rel=>exact⟨Q,R,rfl,rfl,G.out,by omega⟩
        case measure=>simp[intOf]; omega
      ·have c:Hid (Dig Y V g q):=f.dig v.out (by omega) v3 i (by rw[I]; omega);have N:=c.out.q1;have M:=c.out.q0;clear f
       have E:∃ Q,Q=q:=⟨_,rfl⟩
       obtain⟨Q,rfl⟩:=E;obtain⟨Z,z1,z2,z3,C⟩:=dq c.out D;go_wp2;go_ret2;have j:=eZ hi lo y Y U x g l V Q s (by omega) z.out.1 z.out.2 B.out c.out;exact⟨nA j.1 (by rw[<- j.2,<- C.out]),rfl⟩
theorem lY(lo y:Int)(w:World)(hy:0 < y)(c:0<=lo)(l1:lo < 18446744073709551616)(y1:y < 18446744073709551616) :
  Calls Tryz.prog 166 #[.int .u64 0,.int .u64 lo,.int .u64 y] w fun e w'=>e=.returned (.tuple #[.int .u64 (lo / y),.int .u64 (lo % y)])/\∃ n,w'=w.drewN n:=by
 have b:(y == 0)=false:=beq_eq_false_iff_ne.2 (by omega);go_enter Tryz.func166,Tryz.ntmps166;go_wp2_with fail;go_quiet (fail);go_wp2;go_ret2;exact⟨rfl,_,rfl⟩
theorem div64(hi lo y:Int)(w:World)(f:0<=hi)(d:hi < y)(a:0<=lo)(l1:lo < 18446744073709551616)(y1:y < 18446744073709551616) :
  Calls Tryz.prog 166 #[.int .u64 hi,.int .u64 lo,.int .u64 y] w fun e w'=>∃ q r:Int,e=.returned (.tuple #[.int .u64 q,.int .u64 r])/\0<=q/\q < 18446744073709551616/\0<=r/\r < y/\Hid (q * y + r=hi * 18446744073709551616 + lo)/\∃ n,w'=w.drewN n:=by
 have fin:∀ N:Int,0<=N->N < y * 18446744073709551616->0<=N / y/\N / y < 18446744073709551616/\0<=N % y/\N % y < y/\Hid (N / y * y + N % y=N):=by
  intro N n0 b;refine⟨Int.ediv_nonneg n0 (by omega),(Int.ediv_lt_iff_lt_mul (by omega)).2 (by rw[Int.mul_comm]; exact b),Int.emod_nonneg _ (by omega),Int.emod_lt_of_pos _ (by omega),?_⟩
  show _=_
  rw[Int.mul_comm]; exact Int.mul_ediv_add_emod N y
 by_cases c:hi=0
 ·subst c;refine(lY lo y w (by omega) a l1 y1).mono ?_
  rintro e w' ⟨rfl,hw⟩;obtain⟨f1,f2,f3,f4,f5⟩:=fin lo a (by omega);exact⟨_,_,rfl,f1,f2,f3,f4,by simpa using f5,hw⟩
 ·refine(ow hi lo y w (by omega) d a l1 y1).mono ?_
  rintro e w' ⟨rfl,rfl⟩;obtain⟨f1,f2,f3,f4,f5⟩:=fin (hi * 18446744073709551616 + lo) (by omega) (by omega);exact⟨_,_,rfl,f1,f2,f3,f4,f5,0,rfl⟩
end
end
section
open Go.RowKit Lim
section
variable {l:List Int}{h:Nat}
theorem dP(hl:h < l.length):val (l.drop h)=nth l h + 18446744073709551616 * val (l.drop (h + 1)):=by
 rw[List.drop_eq_getElem_cons hl,val,bS hl]
structure jN(lz:List Int)(d:Int)(h:Nat)(lz1:List Int)(left:Int):Prop where
 len:lz1.length=lz.length
 words:Words lz1
 low:∀ i,i < h->nth lz1 i=nth lz i
 val:Lim.val (lz1.drop h) * d + left=Lim.val (lz.drop h)
theorem jN.step{lz lz1:List Int}{d left q r:Int}(hv:jN lz d (h + 1) lz1 left)(b:h < lz.length)(q0:0<=q)(q1:q < 18446744073709551616)(e:q * d + r=left * 18446744073709551616 + nth lz h):jN lz d h (lz1.set h q) r:=by
 have a:=hv.len;refine⟨by simp[a],hv.words.set h q0 q1,fun i hi=>by rw[dy (by omega),if_neg (by omega)]; exact hv.low i (by omega),?_⟩;rw[dP (by simp; omega),dy (by omega),if_pos rfl,List.drop_set,if_pos (by omega),dP b,<- hv.val];grind
theorem gF(s:Option Addr)(l j b I:Nat)(d:Int)(lz:List Int)(w:World)(p:lz.length=b)(F:b<=2199023255552)(o:b<=I)(d0:0 < d)(d1:d < 18446744073709551616)(x:Words lz)(v:At w s l j lz)(B:dB w l j b) :
  Calls Tryz.prog 113 #[.slice s b I,.int .u64 d] w fun e w'=>∃ (left:Int) (lz':List Int),e=.returned (.int .u64 left)/\0<=left/\left < d/\lz'.length=b/\Words lz'/\At w' s l j lz'/\Wr l j b w w'/\val lz' * d + left=val lz:=by
 go_enter Tryz.func113,Tryz.ntmps113;go_wp2;go_loopw [5,10] (fun tc z wr=>∃ (k:Nat) (c:Int) (f:List Int),k<=b/\z=.int .i64 k/\tc=.int .u64 c/\0<=c/\c < d/\jN lz d (b - k) f c/\At wr s l j f/\Wr l j b w wr) (fun _ z _=>b - (intOf z).toNat)
 case atStart=>exact⟨0,0,lz,Nat.zero_le _,rfl,rfl,by decide,d0,⟨rfl,x,fun _ _=>rfl,by simp[<- p,val]⟩,v,Wr.refl _ _ _ _⟩
 case round =>
  obtain⟨k,c,f,O,rfl,rfl,m,n,hinv,i,g⟩:=hrel;have A:=hinv.len;by_cases K:k < b
  ·rcases v.loc with e | rfl
   ·subst e; simp at p; omega
   obtain⟨h,H⟩:∃ h:Nat,b=h + 1 + k:=⟨b - 1 - k,by omega⟩
   have o:=i.cell h (by omega);have J:=g.free B h (by omega);have u:=x.nth h;rw[hinv.low h (by omega)] at o
   have G:(b:Int) - 1 - k=h:=by omega
   have L:(h:Int) < b:=by omega
   obtain⟨t,C⟩:=u
   have M:Hid (jN lz d (h + 1) f c):=by rw[show h + 1=b - k from by omega]; exact hinv
   have N:Hid (b=h + 1 + k):=H;clear H hinv v x;go_wp2_with (go_at_call 166; refine(div64 _ _ _ _ m n t C d1).mono ?_; rintro e w' ⟨q,r,rfl,q0,q1,r0,r1,y,E,rfl⟩);have hn:=N.out;refine⟨⟨k + 1,r,f.set h q,by omega,by go_num,rfl,r0,r1,by rw[show b - (k + 1)=h from by omega]; exact M.out.step (by omega) q0 q1 y.out,?_,?_⟩,by simp[intOf]; omega⟩
   ·exact(i.setCell (by omega) q).drewN E
   ·exact(g.setCell (by omega) (by omega) _).drewN E
  ·have D:k=b:=by omega
   subst D;go_wp2;go_ret;refine⟨c,f,rfl,m,n,by omega,hinv.words,i,g,?_⟩;have:=hinv.val;rwa [Nat.sub_self,List.drop_zero,List.drop_zero] at this
end
end
section
open Go.RowKit Lim
theorem dC.of {w w':World} {l:List Int} {ao:Option Addr} {n c b o:Nat} (hn:n=l.length) (d:n<=c) (f:w.heap.size<=b) (a:At w' ao b o l) (e:dB w' b o n):dC w w' (.slice ao n c) l:=by
 subst hn; exact⟨ao,b,o,c,rfl,d,f,a,e⟩
theorem jA (ao:Option Addr) (n c b o:Nat) (l:List Int) (w:World) (j:l.length=n) (hc:n<=c) (d:n<=1099511627776) (g:At w ao b o l) :
  Calls Tryz.prog 112 #[.slice ao n c] w fun e w'=>e=.returned (.slice (some ⟨w.heap.size,0,none⟩) (aE l) (aE l))/\Row w' w.heap.size (norm l)/\Below w.heap.size w w':=by
 have hn:=bp l;have t1:=bh ao n c l w j hc (by omega) g.cells;have hs:=g.sub (aE l);have m:=aJ l;rw[show l.take (aE l)=norm l from rfl] at hs;generalize aE l=N at *;generalize norm l=L at *;go_enter Tryz.func112,Tryz.ntmps112;go_wp2_with fail;refine t1.mono ?_
 rintro e s ⟨rfl,rfl⟩;clear t1
 go_wp2_with (first
  | (at_make; refine cV rfl _ _ rfl N _ _ rfl rfl rfl rfl (by omega) ?_; intro r ac f i; have q:=hs.keep f)
  | (refine gi rfl (.tmp 10) (.tmp 11) rfl _ _ _ _ _ _ rfl rfl _ _ ac (by simp) _ _ m (Nat.le_refl _) q ?_; intro t p ae))
 go_ret;refine⟨rfl,?_,?_⟩
 ·simpa using p
 ·exact f.trans (ae.below (Nat.le_refl _))
end
section
open Go.RowKit Lim
section
variable {lz lb lz1:List Int}{m c:Int}{k:Nat}
theorem yK(z x m c hi lo:Int)(b:0<=z/\z < 18446744073709551616)(hc:0<=c/\c < 18446744073709551616)(d:0<=hi)(g:hi<=18446744073709551614)(a:0<=lo)(e:lo < 18446744073709551616)(f:hi * 18446744073709551616 + lo=x * m)(hb:x * m<=340282366920938463426481119284349108225) :
  0<=hi + (lo + c) / 18446744073709551616/\hi + (lo + c) / 18446744073709551616<=18446744073709551615 /\
  0<=hi + (lo + c) / 18446744073709551616 + (z + (lo + c) % 18446744073709551616) / 18446744073709551616 /\
  hi + (lo + c) / 18446744073709551616 + (z + (lo + c) % 18446744073709551616) / 18446744073709551616<=18446744073709551615 /\
  (z + (lo + c) % 18446744073709551616) % 18446744073709551616 + 18446744073709551616 * (hi + (lo + c) / 18446744073709551616 + (z + (lo + c) % 18446744073709551616) / 18446744073709551616)=z + x * m + c:=by
 omega
def dh(lz lb:List Int)(m:Int)(k:Nat)(lz1:List Int)(c:Int):Prop :=
 lz1.length=lz.length/\Words lz1/\(∀ i,k<=i->nth lz1 i=nth lz i)/\val (lz1.take k) + 18446744073709551616 ^ k * c=val (lz.take k) + val (lb.take k) * m
theorem dh.step{a c':Int}(h:dh lz lb m k lz1 c)(l:k < lz.length)(b:0<=a)(d:a < 18446744073709551616)(e:a + 18446744073709551616 * c'=nth lz k + nth lb k * m + c):dh lz lb m (k + 1) (lz1.set k a) c':=by
 obtain⟨f,g,j,o⟩:=h;refine⟨by simp[f],g.set k b d,fun i hi => ?_,?_⟩
 ·rw[dy (by omega),if_neg (by omega)]; exact j i (by omega)
 ·have hb:val (lb.take (k + 1))=val (lb.take k) + 18446744073709551616 ^ k * nth lb k:=by
   by_cases n:k < lb.length
   ·exact du n
   ·rw[List.take_of_length_le (by omega),List.take_of_length_le (by omega),fO (by omega)]; simp
  rw[du (by simp[f]; omega),du l,hb,List.take_set_of_le (Nat.le_refl _),dy (by omega),if_pos rfl,Int.pow_succ];have:18446744073709551616 ^ k * (a + 18446744073709551616 * c')=18446744073709551616 ^ k * (nth lz k + nth lb k * m + c):=by rw[e]
  grind
theorem dh.done{n:Nat}(hn:lz.length=n)(h:dh lz lb m k lz1 c)(hc:c=0\/lz.length=k)(r:lb.length<=k)(q:k<=n) :
  val lz1=(val lz + val lb * m) % 18446744073709551616 ^ n:=by
 obtain⟨f,d,p,b⟩:=h;rw[List.take_of_length_le (l:=lb) (by omega)] at b;have a:=dx d;have g:=aL d;rw[f,hn] at a;rcases hc with e | e
 ·subst e
  have j:lz1.drop k=lz.drop k:=lg (by simp[f]) fun i hi=>by rw[dF,dF]; exact p _ (by omega)
  have e1:=bC lz1 k (by omega);have e2:=bC lz k (by omega);rw[j] at e1;have:val lz + val lb * m=val lz1:=by rw[e1,e2]; simp only[Int.mul_zero,Int.add_zero] at b; omega
  rw[this];exact(Int.emod_eq_of_lt g a).symm
 ·have o:k=n:=by omega
  subst o;rw[List.take_of_length_le (l:=lz1) (by omega),List.take_of_length_le (l:=lz) (by omega)] at b;rw[<- b,Int.add_mul_emod_self_left];exact(Int.emod_eq_of_lt g a).symm
theorem eh(G : Option Addr)(f g b Y : Nat)(Z : Option Addr)(bb ob t X : Nat)(m : Int)(lz lb : List Int)(w : World)(y : lz.length = b)(W : lb.length = t)(hle : t ≤ b)(ae : b ≤ 2199023255552)(q : b ≤ Y)(Q : t ≤ X)(E : 0 ≤ m)(K : m < 18446744073709551616)(H : Words lz)(M : Words lb)(D : At w G f g lz)(r : dB w f g b)(hb : At w Z bb ob lb)(A : lb = [] ∨ bb ≠ f) :
    Calls Tryz.prog 59 #[.slice G b Y, .slice Z t X, .int .u64 m] w fun e w' => e = .returned (.tuple #[]) ∧
      ∃ lz', lz'.length = b ∧ Words lz' ∧ At w' G f g lz' ∧ Wr f g b w w' ∧ val lz' = (val lz + val lb * m) % 18446744073709551616 ^ b := by
  go_enter Tryz.func59, Tryz.ntmps59;go_wp2;go_loopw [6, 14] (fun tc x wr => ∃ (k : Nat) (c : Int) (n : List Int), k ≤ t ∧ x = .int .i64 k ∧ tc = .int .u64 c ∧ 0 ≤ c ∧ c < 18446744073709551616 ∧ dh lz lb m k n c ∧ At wr G f g n ∧ Wr f g b w wr) (fun _ x _ => t - (intOf x).toNat)
  case atStart => exact⟨0, 0, lz, Nat.zero_le _, rfl, rfl, by decide, by decide, ⟨rfl, H, fun _ _ => rfl, by simp[val]⟩, D, Wr.refl _ _ _ _⟩
  case round =>
    obtain⟨k, c, n, hk, rfl, rfl, o, u, hinv, ac, i⟩:= hrel;have z := hinv.1;by_cases hlt : k < t
    · rcases hb.loc with e | rfl
      · subst e; simp at W; omega
      rcases D.loc with e | rfl
      · subst e; simp at y; omega
      have C := hb.wr i A;have Q := C.cell k (by omega);have q := ac.cell k (by omega);have J := i.free r k (by omega);have hx := M.nth k;have v := H.nth k;rw[hinv.2.2.1 k (Nat.le_refl _)] at q;obtain⟨V, S⟩:= hx;obtain⟨p, F⟩:= v
      have B : Hid (dh lz lb m k n c) := hinv
      have T : Hid (At wr (some ⟨f, g, none⟩) f g n) := ac
      have R : Hid (Wr f g b w wr) := i;clear hinv ac i C D hb r H M A
      go_wp2_with (first
        | (go_at_call 89; refine(lG _ _ V S E K _).mono ?_; rintro e w' ⟨hi, lo, rfl, h1, h2, h3, h4, h5, rfl⟩)
        | simp only[rR _ _ h3 o]
        | simp only[Bq _ _ p])
      have U : nth lb k * m ≤ 340282366920938463426481119284349108225 := by
        have := Int.mul_le_mul (show nth lb k ≤ 18446744073709551615 by omega) (show m ≤ 18446744073709551615 by omega) E (by decide);simpa using this
      obtain⟨s1, s2, s3, s4, I⟩:= yK (nth lz k) (nth lb k) m c hi lo ⟨p, F⟩ ⟨o, u⟩ h1 h2 h3 h4 h5 U;rw[Int.add_emod_emod] at I;rw[IntWalk.u64_in _ ⟨s3, s4⟩];refine⟨⟨k + 1, _, _, by omega, by go_num, rfl, s3, by omega, B.out.step (by omega) (Int.emod_nonneg _ (by decide)) (Int.emod_lt_of_pos _ (by decide)) I, T.out.setCell (by omega) _, R.out.setCell (by omega) (by omega) _⟩, by simp[intOf]; omega⟩
    · have O : k = t := by omega
      subst O
      have B : Hid (dh lz lb m k n c) := hinv;clear hinv;go_wp2;go_loopw [6, 11] (fun tc x wr => ∃ (j : Nat) (c : Int) (n : List Int), k ≤ j ∧ j ≤ b ∧ x = .int .i64 j ∧ tc = .int .u64 c ∧ 0 ≤ c ∧ c < 18446744073709551616 ∧ dh lz lb m j n c ∧ At wr G f g n ∧ Wr f g b w wr) (fun _ x _ => b - (intOf x).toNat)
      case atStart => exact⟨k, c, n, Nat.le_refl _, by omega, rfl, rfl, o, u, B.out, ac, i⟩
      case round =>
        clear ac i B z o u;obtain⟨j, d, s, hkj, hj, rfl, rfl, P, hd1, hinv, ac, i⟩:= hrel;have N := hinv.1;by_cases af : j < b
        · by_cases hd : d = 0
          · subst hd
            go_wp2;go_end0;refine⟨rfl, s, by omega, hinv.2.1, ac, i, ?_⟩;exact dh.done (by omega) hinv (.inl rfl) (by omega) (by omega)
          · rcases D.loc with e | rfl
            · subst e; simp at y; omega
            have q := ac.cell j (by omega);have J := i.free r j (by omega);have v := H.nth j;rw[hinv.2.2.1 j (Nat.le_refl _)] at q;obtain⟨p, F⟩:= v
            have hdb : (d != 0) = true := by rw[bne_iff_ne]; exact hd
            have B : Hid (dh lz lb m j s d) := hinv
            have T : Hid (At wr (some ⟨f, g, none⟩) f g s) := ac
            have R : Hid (Wr f g b w wr) := i;clear hinv ac i D hb r H M A;go_wp2_with (simp only[rR _ _ p P])
            have I : (nth lz j + d) % 18446744073709551616 + 18446744073709551616 * ((nth lz j + d) / 18446744073709551616) = nth lz j + nth lb j * m + d := by
              rw[fO (l := lb) (by omega)]; omega
            refine⟨⟨j + 1, _, _, by omega, by omega, by go_num, rfl, by omega, by omega, B.out.step (by omega) (Int.emod_nonneg _ (by decide)) (Int.emod_lt_of_pos _ (by decide)) I, T.out.setCell (by omega) _, R.out.setCell (by omega) (by omega) _⟩, by simp[intOf]; omega⟩
        · have L : j = b := by omega
          subst L;go_wp2;go_end0;refine⟨rfl, s, by omega, hinv.2.1, ac, i, ?_⟩;exact dh.done (by omega) hinv (.inr y) (by omega) (by omega)
end
end
section
open Go.RowKit Lim
section
variable {l:List Int}
theorem qh{n:Int}(h:IsN l n):0<=n/\n < 18446744073709551616 ^ l.length:=by
 rw[<- h.2.2]; exact⟨aL h.1,dx h.1⟩
theorem pow_pos(k:Nat):(0:Int) < 18446744073709551616 ^ k:=Int.pow_pos (by decide)
theorem vp{L L' lz:List Int}{x y:Int}(hL:IsN L x)(a:IsN L' y)(hle:L'.length<=L.length)(hw:Words lz)(hv:val lz=(val (L ++ [0]) + val L' * 1) % 18446744073709551616 ^ (L.length + 1)):IsN (norm lz) (x + y):=by
 have f:=qh hL;have b:=qh a;have d:=gS hle;have c:=pow_pos L.length
 have e:val (L ++ [0]) + val L' * 1=x + y:=by rw[dY,hL.2.2,a.2.2]; simp[val]
 rw[e,Int.emod_eq_of_lt (by omega) (by rw[Int.pow_succ]; omega)] at hv;rw[<- hv];exact b8 hw
theorem eC(n:Nat):Words (List.replicate n 0):=fun x hx=>by rw[List.eq_of_mem_replicate hx]; decide
theorem BE(ao:Option Addr)(n c b o:Nat)(ao':Option Addr)(n' c' b' o':Nat)(l m:List Int)(w:World)(hl:l.length=n)(af:m.length=n')(hc:n<=c)(V:n'<=c')(hbig:n<=1099511627776)(W:n'<=1099511627776)(wl:Words l)(U:Words m)(S:At w ao b o l)(M:At w ao' b' o' m) :
  Calls Tryz.prog 23 #[.slice ao n c,.slice ao' n' c'] w fun e w'=>∃ v r,e=.returned v/\dC w w' v r/\IsN r (val l + val m)/\r.length<=n + n' + 1/\Below w.heap.size w w':=by
 have hn:=bp l
 have hn':=bp m;have t1:=bh ao n c l w hl hc (by omega) S.cells;have t2:=bh ao' n' c' m w af V (by omega) M.cells;have hs:=S.sub (aE l)
 have A:=M.sub (aE m);have B:=aJ l
 have j:=aJ m;have P:=b8 wl
 have y:=b8 U;rw[show l.take (aE l)=norm l from rfl] at hs;rw[show m.take (aE m)=norm m from rfl] at A;generalize aE l=N at *;generalize aE m=E at *;generalize norm l=L at *;generalize norm m=Q at *;clear S M;go_enter Tryz.func23,Tryz.ntmps23;go_wp2_with fail;refine t1.mono ?_
 rintro e w1 ⟨rfl,rfl⟩;go_wp2_with fail;refine t2.mono ?_
 rintro e C ⟨rfl,rfl⟩;clear t1 t2;by_cases hlt:N < E
 ·have x:L=[]\/b≠C.heap.size:=by
   rcases hs.lt with e | e
   ·exact .inl e
   ·exact .inr (by omega)
  go_wp2_with (first
   | (at_make; refine cV rfl _ _ rfl (E + 1) _ _ rfl rfl (by omega) (by omega) (by omega) ?_; intro w3 g z X; have t:=A.keep z; have s:=hs.keep z)
   | (refine gi rfl (.tmp 23) (.tmp 24) rfl _ _ _ _ _ _ rfl rfl _ _ g (by simp) _ _ j (by omega) t ?_; intro O ac ae))
  have f:Row O C.heap.size (Q ++ [0]):=by
   have:=ac; rw[List.drop_replicate,show E + 1 - E=1 from by omega] at this; simpa using this
  have u:=s.wr ae x;refine(eh _ C.heap.size 0 _ _ _ b o _ _ 1 (Q ++ [0]) L O (by simp[j]) B (by omega) (by omega) (Nat.le_refl _) (Nat.le_refl _) (by decide) (by decide) (y.1.append (eC 1)) P.1 f.at (f.free _ _) u x).mono ?_
  rintro e w5 ⟨rfl,d,G,J,D,I,q⟩
  have T:IsN (norm d) (_ + _):=vp y P (by omega) J (by rw[q,j]);have H:=I.free (f.free 0 (E + 1));have Y:=bp d;have F:=aJ d;have p:=D.sub (aE d);have Z:=(z.trans (ae.below (Nat.le_refl _))).trans (I.below (Nat.le_refl _));rw[show d.take (aE d)=norm d from rfl] at p;have t3:=bh (some ⟨C.heap.size,0,none⟩) (E + 1) (E + 1) d w5 G (Nat.le_refl _) (by omega) D.cells;clear f u s t g ac ae I z D q;generalize aE d=K at *;generalize norm d=R at *;go_wp2_with fail;refine t3.mono ?_
  rintro e w6 ⟨rfl,rfl⟩;go_wp2;go_ret;exact⟨_,R,rfl,dC.of F.symm (Nat.le_refl _) (Nat.le_refl _) p (fun i hi=>H i (by omega)),by rw[Int.add_comm]; exact T,by omega,Z⟩
 ·have x:Q=[]\/b'≠C.heap.size:=by
   rcases A.lt with e | e
   ·exact .inl e
   ·exact .inr (by omega)
  go_wp2_with (first
   | (at_make; refine cV rfl _ _ rfl (N + 1) _ _ rfl rfl (by omega) (by omega) (by omega) ?_; intro w3 g z X; have t:=hs.keep z; have s:=A.keep z)
   | (refine gi rfl (.tmp 23) (.tmp 24) rfl _ _ _ _ _ _ rfl rfl _ _ g (by simp) _ _ B (by omega) t ?_; intro O ac ae))
  have f:Row O C.heap.size (L ++ [0]):=by
   have:=ac; rw[List.drop_replicate,show N + 1 - N=1 from by omega] at this; simpa using this
  have u:=s.wr ae x;refine(eh _ C.heap.size 0 _ _ _ b' o' _ _ 1 (L ++ [0]) Q O (by simp[B]) j (by omega) (by omega) (Nat.le_refl _) (Nat.le_refl _) (by decide) (by decide) (P.1.append (eC 1)) y.1 f.at (f.free _ _) u x).mono ?_
  rintro e w5 ⟨rfl,d,G,J,D,I,q⟩
  have T:IsN (norm d) (_ + _):=vp P y (by omega) J (by rw[q,B]);have H:=I.free (f.free 0 (N + 1));have Y:=bp d;have F:=aJ d;have p:=D.sub (aE d);have Z:=(z.trans (ae.below (Nat.le_refl _))).trans (I.below (Nat.le_refl _));rw[show d.take (aE d)=norm d from rfl] at p;have t3:=bh (some ⟨C.heap.size,0,none⟩) (N + 1) (N + 1) d w5 G (Nat.le_refl _) (by omega) D.cells;clear f u s t g ac ae I z D q;generalize aE d=K at *;generalize norm d=R at *;go_wp2_with fail;refine t3.mono ?_
  rintro e w6 ⟨rfl,rfl⟩;go_wp2;go_ret;exact⟨_,R,rfl,dC.of F.symm (Nat.le_refl _) (Nat.le_refl _) p (fun i hi=>H i (by omega)),T,by omega,Z⟩
end
end
section
open Go.RowKit Lim
theorem xG (x y:Int):0<=bor x y/\bor x y<=1:=by unfold bor; split<;>decide
theorem vG (x y:Int) (hx:0<=x/\x < 18446744073709551616) (hy:0<=y/\y < 18446744073709551616):(x - y) % 18446744073709551616=x - y + 18446744073709551616 * bor x y:=by
 unfold bor; split<;>omega
theorem BD (x y:Int) (hx:0<=x) (a:x < 18446744073709551616) (w:World):(callFunc 168 #[.int .u64 x,.int .u64 (y % 18446744073709551616),.int .u64 0]).run Tryz.prog w =
  .ok (.value (.tuple #[.int .u64 ((x - y % 18446744073709551616) % 18446744073709551616),.int .u64 (bor x (y % 18446744073709551616))])) w :=
 DZ x _ hx a (Int.emod_nonneg _ (by decide)) (Int.emod_lt_of_pos _ (by decide)) w
theorem wP (z x m c hi lo:Int) (a:0<=z/\z < 18446744073709551616) (hc:0<=c/\c < 18446744073709551616) (d:0<=hi) (g:hi<=18446744073709551614) (b:0<=lo) (e:lo < 18446744073709551616) (f:hi * 18446744073709551616 + lo=x * m)
  (hb:x * m<=340282366920938463426481119284349108225) :
  0<=hi + (lo + c) / 18446744073709551616/\hi + (lo + c) / 18446744073709551616<=18446744073709551615 /\
  0<=hi + (lo + c) / 18446744073709551616 + bor z ((lo + c) % 18446744073709551616) /\
  hi + (lo + c) / 18446744073709551616 + bor z ((lo + c) % 18446744073709551616)<=18446744073709551615 /\
  (z - (lo + c) % 18446744073709551616) % 18446744073709551616 + 18446744073709551616 * (-(hi + (lo + c) / 18446744073709551616 + bor z ((lo + c) % 18446744073709551616)))=z + x * -m + -c:=by
 rw[vG z _ a ⟨by omega,by omega⟩,show x * -m = -(x * m) from Int.mul_neg x m];have:=xG z ((lo + c) % 18446744073709551616);unfold bor at *;split<;>omega
theorem dh.fN {lz lb lz1:List Int} {m c:Int} {k n:Nat} (hn:lz.length=n) (h:dh lz lb m k lz1 c) (hc:c=0\/lz.length=k) (p:lb.length<=k) (j:k<=n) :
  val lz1 + 18446744073709551616 ^ n * c=val lz + val lb * m:=by
 obtain⟨g,o,f,a⟩:=h;rw[List.take_of_length_le (l:=lb) (by omega)] at a;rcases hc with e | e
 ·subst e
  have b:lz1.drop k=lz.drop k:=lg (by simp[g]) fun i hi=>by rw[dF,dF]; exact f _ (by omega)
  have e1:=bC lz1 k (by omega);have e2:=bC lz k (by omega);rw[b] at e1;simp only[Int.mul_zero,Int.add_zero] at a ⊢;rw[e1,e2]; omega
 ·have d:k=n:=by omega
  subst d;rw[List.take_of_length_le (l:=lz1) (by omega),List.take_of_length_le (l:=lz) (by omega)] at a;exact a
theorem iK (C : Option Addr) (g n b cz : Nat) (ab : Option Addr) (bb ob r cb : Nat) (m : Int) (lz lb : List Int) (w : World)
    (v : lz.length = b) (af : lb.length = r) (hle : r ≤ b) (hbig : b ≤ 2199023255552) (u : b ≤ cz) (W : r ≤ cb) (K : 0 ≤ m) (Q : m < 18446744073709551616)
    (M : Words lz) (T : Words lb) (I : At w C g n lz) (y : dB w g n b) (hb : At w ab bb ob lb) (E : lb = [] ∨ bb ≠ g) :
    Calls Tryz.prog 117 #[.slice C b cz, .slice ab r cb, .int .u64 m] w fun e w' => ∃ fN : Int, e = .returned (.int .u64 fN) ∧ 0 ≤ fN ∧ fN < 18446744073709551616 ∧
      ∃ lz', lz'.length = b ∧ Words lz' ∧ At w' C g n lz' ∧ Wr g n b w w' ∧ val lz' = val lz - val lb * m + 18446744073709551616 ^ b * fN := by
  have fin : ∀ (j : Nat) (d : Int) (i : List Int) (wr : World), r ≤ j → j ≤ b → 0 ≤ d → d < 18446744073709551616 → dh lz lb (-m) j i (-d) → At wr C g n i → Wr g n b w wr → (d = 0 ∨ b = j) →
      ∃ fN : Int, Ending.returned (.int .u64 d) = .returned (.int .u64 fN) ∧ 0 ≤ fN ∧ fN < 18446744073709551616 ∧
      ∃ lz', lz'.length = b ∧ Words lz' ∧ At wr C g n lz' ∧ Wr g n b w wr ∧ val lz' = val lz - val lb * m + 18446744073709551616 ^ b * fN := by
    intro j d i wr h1 S N h4 L h6 h7 h8;refine⟨d, rfl, N, h4, i, by rw[L.1, v], L.2.1, h6, h7, ?_⟩
    have := L.fN v (by rcases h8 with e | e
                            · left; omega
                            · right; omega) (by omega) S
    rw[Int.mul_neg, Int.mul_neg] at this;omega
  have J := (show Hid _ from fin);clear fin;go_enter Tryz.func117, Tryz.ntmps117;go_wp2;go_loopw [7, 15] (fun tc B wr => ∃ (k : Nat) (c : Int) (f : List Int), k ≤ r ∧ B = .int .i64 k ∧ tc = .int .u64 c ∧ 0 ≤ c ∧ c < 18446744073709551616 ∧ dh lz lb (-m) k f (-c) ∧ At wr C g n f ∧ Wr g n b w wr) (fun _ B _ => r - (intOf B).toNat)
  case atStart => exact⟨0, 0, lz, Nat.zero_le _, rfl, rfl, by decide, by decide, ⟨rfl, M, fun _ _ => rfl, by simp[val]⟩, I, Wr.refl _ _ _ _⟩
  case round =>
    obtain⟨k, c, f, hk, rfl, rfl, s, z, hinv, ac, o⟩:= hrel;have D := hinv.1;by_cases hlt : k < r
    · rcases hb.loc with e | rfl
      · subst e; simp at af; omega
      rcases I.loc with e | rfl
      · subst e; simp at v; omega
      have G := hb.wr o E;have W := G.cell k (by omega);have u := ac.cell k (by omega);have P := o.free y k (by omega);have hx := T.nth k;have A := M.nth k;rw[hinv.2.2.1 k (Nat.le_refl _)] at u;obtain⟨ae, Y⟩:= hx;obtain⟨p, q⟩:= A
      have F : Hid (dh lz lb (-m) k f (-c)) := hinv
      have Z : Hid (At wr (some ⟨g, n, none⟩) g n f) := ac
      have X : Hid (Wr g n b w wr) := o;clear hinv ac o G I hb y M T E
      go_wp2_with (first
        | (go_at_call 89; refine(lG _ _ ae Y K Q _).mono ?_; rintro e w' ⟨hi, lo, rfl, h1, S, N, h4, L, rfl⟩)
        | simp only[rR _ _ N s]
        | simp only[BD _ _ p q])
      have ad : nth lb k * m ≤ 340282366920938463426481119284349108225 := by
        have := Int.mul_le_mul (show nth lb k ≤ 18446744073709551615 by omega) (show m ≤ 18446744073709551615 by omega) K (by decide);simpa using this
      obtain⟨s1, s2, s3, s4, O⟩:= wP (nth lz k) (nth lb k) m c hi lo ⟨p, q⟩ ⟨s, z⟩ h1 S N h4 L ad;rw[Int.sub_emod_emod] at O;rw[IntWalk.u64_in _ ⟨s3, s4⟩];refine⟨⟨k + 1, _, _, by omega, by go_num, rfl, s3, by omega, F.out.step (by omega) (Int.emod_nonneg _ (by decide)) (Int.emod_lt_of_pos _ (by decide)) O, Z.out.setCell (by omega) _, X.out.setCell (by omega) (by omega) _⟩, by simp[intOf]; omega⟩
    · have V : k = r := by omega
      subst V
      have F : Hid (dh lz lb (-m) k f (-c)) := hinv;clear hinv;go_wp2;go_loopw [7, 12] (fun tc B wr => ∃ (j : Nat) (c : Int) (f : List Int), k ≤ j ∧ j ≤ b ∧ B = .int .i64 j ∧ tc = .int .u64 c ∧ 0 ≤ c ∧ c < 18446744073709551616 ∧ dh lz lb (-m) j f (-c) ∧ At wr C g n f ∧ Wr g n b w wr) (fun _ B _ => b - (intOf B).toNat)
      case atStart => exact⟨k, c, f, Nat.le_refl _, by omega, rfl, rfl, s, z, F.out, ac, o⟩
      case round =>
        clear ac o F D s z;obtain⟨j, d, i, H, hj, rfl, rfl, x, t, hinv, ac, o⟩:= hrel;have U := hinv.1;by_cases hlt2 : j < b
        · by_cases hd : d = 0
          · subst hd
            go_wp2;go_ret;exact J.out j 0 i _ H hj x t hinv ac o (.inl rfl)
          · rcases I.loc with e | rfl
            · subst e; simp at v; omega
            have u := ac.cell j (by omega);have P := o.free y j (by omega);have A := M.nth j;rw[hinv.2.2.1 j (Nat.le_refl _)] at u;obtain⟨p, q⟩:= A
            have hdb : (d != 0) = true := by rw[bne_iff_ne]; exact hd
            have F : Hid (dh lz lb (-m) j i (-d)) := hinv
            have Z : Hid (At wr (some ⟨g, n, none⟩) g n i) := ac
            have X : Hid (Wr g n b w wr) := o;clear hinv ac o I hb y M T E;go_wp2_with (simp only[DZ _ _ p q x t]);have hbb := xG (nth lz j) d
            have O : (nth lz j - d) % 18446744073709551616 + 18446744073709551616 * -bor (nth lz j) d = nth lz j + nth lb j * -m + -d := by
              rw[fO (l := lb) (by omega), vG _ _ ⟨p, q⟩ ⟨x, t⟩]; omega
            refine⟨⟨j + 1, _, _, by omega, by omega, by go_num, rfl, by omega, by omega, F.out.step (by omega) (Int.emod_nonneg _ (by decide)) (Int.emod_lt_of_pos _ (by decide)) O, Z.out.setCell (by omega) _, X.out.setCell (by omega) (by omega) _⟩, by simp[intOf]; omega⟩
        · have R : j = b := by omega
          subst R;go_wp2;go_ret;exact J.out j d i _ H hj x t hinv ac o (.inr rfl)
end
section
open Go.RowKit Lim
theorem CO {L L' lz:List Int} {x y fN:Int} (hL:IsN L x) (a:IsN L' y) (hle:y<=x) (hw:Words lz) (e:lz.length=L.length) (j:0<=fN)
  (hv:val lz=val L - val L' * 1 + 18446744073709551616 ^ L.length * fN):IsN (norm lz) (x - y):=by
 have g:=qh hL;have f:=qh a;have c:=dx hw;have i:=aL hw;have b:=pow_pos L.length;rw[hL.2.2,a.2.2] at hv;rw[e] at c
 have d:fN=0:=by
  by_cases h:0 < fN
  ·have:18446744073709551616 ^ L.length * 1<=18446744073709551616 ^ L.length * fN:=Int.mul_le_mul_of_nonneg_left (by omega) (Int.le_of_lt b);omega
  ·omega
 subst d;have:x - y=val lz:=by rw[hv]; simp
 rw[this];exact b8 hw
theorem sub_lt (ao:Option Addr) (n c b o:Nat) (ao':Option Addr) (n' c' b' o':Nat) (l f:List Int) (w:World) (r:l.length=n) (j:f.length=n') (hc:n<=c) (q:n'<=c') (d:n<=1099511627776) (s:n'<=1099511627776)
  (wl:Words l) (p:Words f) (t:At w ao b o l) (m:At w ao' b' o' f) (i:val l < val f) :
  Calls Tryz.prog 72 #[.slice ao n c,.slice ao' n' c'] w fun e w'=>e=.returned (.tuple #[.slice none 0 0,.int .i64 10])/\Below w.heap.size w w':=by
 have t1:=ic ao n c b o ao' n' c' b' o' l f w r j hc q d s wl p t m;rw[gM i] at t1;go_enter Tryz.func72,Tryz.ntmps72;go_wp2_with fail;refine t1.mono ?_
 rintro e u ⟨rfl,g⟩;go_wp2_with fail;go_ret2;exact⟨rfl,g⟩
theorem sub_ge (ao:Option Addr) (n c b o:Nat) (ao':Option Addr) (n' c' b' o':Nat) (l d:List Int) (w:World) (Y:l.length=n) (J:d.length=n') (hc:n<=c) (G:n'<=c') (t:n<=1099511627776) (z:n'<=1099511627776)
  (wl:Words l) (y:Words d) (O:At w ao b o l) (B:At w ao' b' o' d) (T:val d<=val l) :
  Calls Tryz.prog 72 #[.slice ao n c,.slice ao' n' c'] w fun e w'=>∃ v r,e=.returned (.tuple #[v,.int .i64 0])/\dC w w' v r/\IsN r (val l - val d)/\r.length<=n/\Below w.heap.size w w':=by
 have t1:=ic ao n c b o ao' n' c' b' o' l d w Y J hc G t z wl y O B
 have aa:0<=sgn (val l) (val d):=by unfold sgn; split<;>(try split)<;>omega
 have hle:aE d<=aE l:=by
  rcases Nat.lt_or_ge (aE l) (aE d) with h | h
  ·have:=dA wl y h; omega
  ·exact h
 generalize hsg:sgn (val l) (val d)=sg at *;clear hsg;go_enter Tryz.func72,Tryz.ntmps72;go_wp2_with fail;refine t1.mono ?_
 rintro e M ⟨rfl,m⟩;have F:=O.keep m
 have j:=B.keep m;clear t1;go_wp2_with fail;refine(jA ao n c b o l M Y hc t F).mono ?_
 rintro e w2 ⟨rfl,f,u⟩
 have g:=j.keep u
 have A:=g.sub (aE d)
 have U:norm d=[]\/b'≠M.heap.size:=by
  rcases(j.sub (aE d)).lt with e | e
  ·exact .inl e
  ·exact .inr (by omega)
 rw[show d.take (aE d)=norm d from rfl] at A;have t2:=bh ao' n' c' d w2 J G (by omega) g.cells;have hn:=bp l
 have ac:=bp d;have I:=aJ l
 have H:=aJ d;have X:=b8 wl
 have D:=b8 y;clear O B F j g;generalize aE l=N at *;generalize aE d=N' at *;generalize norm l=L at *;generalize norm d=L' at *;go_wp2_with fail;refine t2.mono ?_
 rintro e w3 ⟨rfl,rfl⟩;clear t2;go_wp2_with fail;refine(iK _ M.heap.size 0 _ _ _ b' o' _ _ 1 L L' w3 I H hle (by omega) (Nat.le_refl _) (Nat.le_refl _) (by decide) (by decide) X.1 D.1 f.at (f.free _ _) A U).mono ?_
 rintro e Z ⟨fN,rfl,W,ab,s,Q,V,q,x,E⟩
 have HF:IsN (norm s) (_ - _):=CO X D T V (by omega) W (by rw[E,I]);have S:=x.free (f.free 0 N);have hz1:=bp s;have P:=aJ s;have C:=q.sub (aE s);have p:=m.size
 have HB:Below w.heap.size w Z:=(m.trans (u.mono p)).trans (x.below p);rw[show s.take (aE s)=norm s from rfl] at C;have t3:=bh (some ⟨M.heap.size,0,none⟩) N N s Z Q (Nat.le_refl _) (by omega) q.cells;clear A f x q E m u;generalize aE s=K at *;generalize norm s=R at *;go_wp2_with fail;refine t3.mono ?_
 rintro e w5 ⟨rfl,rfl⟩;go_wp2;go_ret2;exact⟨_,R,rfl,dC.of P.symm (Nat.le_refl _) p C (fun i hi=>S i (by omega)),HF,by omega,HB⟩
end
section
open Go.RowKit Lim
section
variable {w w1:World}{v:Value}{l:List Int}
theorem Row.built(w:World)(l:List Int):Row (w.alloc (.cells (l.map (Value.int .u64)).toArray 22)) w.heap.size l:=by
 show (w.heap.push _)[w.heap.size]? = _
 rw[Array.getElem?_push_size]
theorem Row.built1(w:World)(x:Int):Row (w.alloc (.cells #[.int .u64 x] 22)) w.heap.size [x]:=Row.built w [x]
theorem ae(w:World)(o:Obj):Below w.heap.size w (w.alloc o):=(Below.refl _ _).alloc (Nat.le_refl _) _
theorem zd(x:Int)(w:World)(j:0<=x)(l:x < 18446744073709551616) :
  Calls Tryz.prog 25 #[.int .u64 x] w fun e w'=>∃ v r,e=.returned v/\dC w w' v r/\IsN r x/\r.length<=1/\Below w.heap.size w w':=by
 have b:=Row.built1 w x;have hb:=ae w (.cells #[.int .u64 x] 22)
 have hw:Words [x]:=Words.cons j l Words.nil;have t1:=bh (some ⟨w.heap.size,0,none⟩) 1 1 [x] (w.alloc (.cells #[.int .u64 x] 22)) rfl (by decide) (by decide) b.at.cells;have d:=bp [x];have f:=aJ [x];have g:=b.at.sub (aE [x])
 have m:IsN (norm [x]) x:=by have:=b8 hw; rwa [eA] at this
 have c:=b.free 0 1;rw[show [x].take (aE [x])=norm [x] from rfl] at g;rw[List.length_singleton] at d;generalize aE [x]=K at *;generalize norm [x]=R at *;clear b;go_enter Tryz.func25,Tryz.ntmps25;go_wp2_with fail;refine t1.mono ?_
 rintro e n ⟨rfl,rfl⟩;go_wp2;go_ret;exact⟨_,R,rfl,dC.of f.symm (Nat.le_refl _) (Nat.le_refl _) g (fun i hi=>c i (by omega)),m,by omega,hb⟩
theorem div_zero(v:Value)(ao':Option Addr)(n' c' b' o':Nat)(b:List Int)(w:World)(d:b.length=n')(i:n'<=c')(c:n'<=1099511627776)(g:Words b)(f:At w ao' b' o' b)(j:val b=0) :
  Calls Tryz.prog 70 #[v,.slice ao' n' c'] w fun e w'=>e=.returned (.tuple #[.slice none 0 0,.slice none 0 0,.int .i64 11])/\w'=w:=by
 have t1:=bh ao' n' c' b w d i (by omega) f.cells;rw[(bW g).2 j] at t1;go_enter Tryz.func70,Tryz.ntmps70;go_wp2_with fail;refine t1.mono ?_
 rintro e l ⟨rfl,rfl⟩;go_wp2_with fail;go_ret3;exact⟨rfl,rfl⟩
def jf(w w':World)(e:Ending)(x y:Int)(n n':Nat):Prop :=
 ∃ v u r s,e=.returned (.tuple #[v,u,.int .i64 0])/\dC w w' v r/\dC w w' u s/\IsN r (x / y)/\IsN s (x % y)/\r.length<=n/\s.length<=n + n'/\Below w.heap.size w w'
theorem dC.nil(w w':World):dC w w' (.slice none 0 0) []:=⟨none,w.heap.size,0,0,rfl,Nat.le_refl _,Nat.le_refl _,⟨.inl rfl,fun i hi=>by simp at hi⟩,fun i hi=>by simp at hi⟩
theorem jw:IsN [] 0:=⟨Words.nil,rfl,rfl⟩
theorem dC.later{d:World}(h:dC w w1 v l)(hb:Below w1.heap.size w1 d):dC w d v l:=by
 obtain⟨k,b,o,c,e,g,m,f,j⟩:=h;refine⟨k,b,o,c,e,g,m,f.keep hb,fun i hi => ?_⟩;have a:=aI (f.cell i hi);rw[hb.frozen (p:=⟨b,o + i,none⟩) a]; exact j i hi
theorem dC.mono{w0:World}(h:dC w w1 v l)(hb:w0.heap.size<=w.heap.size):dC w0 w1 v l:=by
 obtain⟨ao,b,o,c,e,h1,h2,h3,h4⟩:=h;exact⟨ao,b,o,c,e,h1,by omega,h3,h4⟩
theorem div_lt(ao:Option Addr)(n c b o:Nat)(ao':Option Addr)(n' c' b' o':Nat)(l d:List Int)(w:World)(y:l.length=n)(x:d.length=n')(hc:n<=c)(t:n'<=c')(f:n<=1099511627776)(u:n'<=1099511627776)(wl:Words l)(m:Words d)(z:At w ao b o l)(r:At w ao' b' o' d)(j:val l < val d) :
  Calls Tryz.prog 70 #[.slice ao n c,.slice ao' n' c'] w fun e w'=>jf w w' e (val l) (val d) n n':=by
 have A:=aL wl;have hn:=bp l
 have C:=bp d
 have B:aE d≠0:=fun e=>by have:=(bW m).1 e; omega
 have t1:=bh ao' n' c' d w x t (by omega) r.cells
 have q:=r.sub (aE d);rw[show d.take (aE d)=norm d from rfl] at q;have t2:=ic ao n c b o ao' (aE d) (aE d) b' o' l (norm d) w y (aJ d) hc (Nat.le_refl _) f (by omega) wl m.norm z q;rw[cU,gM j] at t2;have D:=b8 wl;have v:=aJ l
 have F:((aE d:Int) == 0)=false:=beq_eq_false_iff_ne.2 (by omega);go_enter Tryz.func70,Tryz.ntmps70;go_wp2_with fail;refine t1.mono ?_
 rintro e G ⟨rfl,rfl⟩;go_wp2_with fail;refine t2.mono ?_
 rintro e E ⟨rfl,i⟩;go_wp2_with fail;refine(jA ao n c b o l E y hc f (z.keep i)).mono ?_
 rintro e H ⟨rfl,g,s⟩;clear t1 t2;go_wp2;go_ret3;have p:=i.size;exact⟨_,_,[],norm l,rfl,dC.nil _ _,dC.of v.symm (Nat.le_refl _) p g.at (g.free _ _),by rw[Int.ediv_eq_zero_of_lt A j]; exact jw,by rw[Int.emod_eq_of_lt A j]; exact D,by simp,by omega,i.trans (s.mono p)⟩
theorem div_one(ao:Option Addr)(n c b o:Nat)(ao':Option Addr)(n' c' b' o':Nat)(l f:List Int)(w:World)(hl:l.length=n)(Y:f.length=n')(hc:n<=c)(ac:n'<=c')(z:n<=1099511627776)(ad:n'<=1099511627776)(wl:Words l)(O:Words f)(ha:At w ao b o l)(G:At w ao' b' o' f)(W:val f<=val l)(h1:aE f=1) :
  Calls Tryz.prog 70 #[.slice ao n c,.slice ao' n' c'] w fun e w'=>jf w w' e (val l) (val f) n n':=by
 have h0:=aL wl;have hn:=bp l
 have hn':=bp f;have t1:=bh ao' n' c' f w Y ac (by omega) G.cells
 have p:=G.sub (aE f);rw[show f.take (aE f)=norm f from rfl] at p;have t2:=ic ao n c b o ao' (aE f) (aE f) b' o' l (norm f) w hl (aJ f) hc (Nat.le_refl _) z (by omega) wl O.norm ha p;rw[cU] at t2
 have Q:0<=sgn (val l) (val f):=by unfold sgn; split<;>(try split)<;>omega
 have x:=aJ f
 have B:=b8 O;rw[h1] at t1 t2 x;generalize hN':norm f=L' at *;obtain⟨d,rfl⟩:=List.length_eq_one_iff.1 x
 have hd:val f=d:=by have:=B.2.2; rw[eA] at this; exact this.symm
 have T:=B.1 d (by simp)
 have F:0 < d:=by
  have h2:=B.2.1;by_cases c:d=0
  ·subst c; simp[aE] at h2
  ·omega
 rw[hd] at W t2 ⊢;rw[hd] at Q;generalize sgn (val l) d=sg at *;rcases p.loc with e | rfl
 ·simp at e
 go_enter Tryz.func70,Tryz.ntmps70;go_wp2_with fail;refine t1.mono ?_
 rintro e w1 ⟨rfl,rfl⟩;go_wp2_with fail;refine t2.mono ?_
 rintro e P ⟨rfl,j⟩;go_wp2_with fail;refine(jA ao n c b o l P hl hc z (ha.keep j)).mono ?_
 rintro e w3 ⟨rfl,g,t⟩;have C:=j.size;have ah:=t.size;have I:=((p.keep j).keep t).cell 0 (by simp);rw[cE] at I;rw[Nat.add_zero] at I;have Z:=wl.norm;have U:=cU l;have X:=aJ l;clear t1 t2;generalize aE l=N at *;generalize norm l=L at *;go_wp2_with fail;refine(gF (some ⟨P.heap.size,0,none⟩) P.heap.size 0 N N d L w3 X (by omega) (Nat.le_refl _) F T.2 Z g.at (g.free _ _)).mono ?_
 rintro e w4 ⟨left,m,rfl,E,af,ab,ag,y,v,M⟩;have ae:=v.free (g.free 0 N);have hz1:=bp m;have V:=aJ m;have J:=y.sub (aE m);have HF:=b8 ag;have S:=v.size;have hlt3:=g.lt;rw[show m.take (aE m)=norm m from rfl] at J;have t3:=bh (some ⟨P.heap.size,0,none⟩) N N m w4 ab (Nat.le_refl _) (by omega) y.cells
 have HB:Below w1.heap.size w1 w4:=(j.trans (t.mono C)).trans (v.below C)
 have ev:val m=val l / d/\left=val l % d:=by
  have hh:=Int.ediv_emod_unique (a:=val l) (b:=d) (r:=left) (q:=val m) F;have:=hh.2 ⟨by rw[<- U,<- M,Int.mul_comm]; omega,E,af⟩;exact⟨this.1.symm,this.2.symm⟩
 rw[ev.1] at HF
 have A:Hid (left=val l % d):=ev.2;clear v g M j t p ev;generalize aE m=K at *;generalize norm m=R at *;go_wp2_with fail;refine t3.mono ?_
 rintro e w5 ⟨rfl,rfl⟩;go_wp2_with fail;refine(zd left w5 E (by omega)).mono ?_
 rintro e w6 ⟨u,s,rfl,D,aa,hsl,H⟩;go_wp2;go_ret3;refine⟨_,u,R,s,rfl,(dC.of V.symm (Nat.le_refl _) C J (fun i hi=>ae i (by omega))).later H,D.mono (by omega),HF,by rw[<- A.out]; exact aa,by omega,by omega,HB.trans (H.mono (by omega))⟩
end
end
section
open Go.RowKit Lim
section
variable {l:List Int}{S T v1:Int}
theorem fM(s:Nat)(hs:s<=63):(0:Int) < 2 ^ s/\(2:Int) ^ s < 18446744073709551616/\(2:Int) ^ s * 2 ^ (64 - s)=18446744073709551616/\(0:Int) < 2 ^ (64 - s):=by
 have a:(0:Int) < 2 ^ s:=Int.pow_pos (by decide)
 have b:(2:Nat) ^ s<=2 ^ 63:=Nat.pow_le_pow_right (by decide) hs
 have e:((2 ^ s:Nat):Int)=(2:Int) ^ s:=by rw[Int.natCast_pow]; rfl
 have e2:(2:Nat) ^ 63=9223372036854775808:=by decide
 refine⟨a,by omega,?_,Int.pow_pos (by decide)⟩;rw[<- Int.pow_add,show s + (64 - s)=64 from by omega]; rfl
theorem oD(ao:Option Addr)(n c b o s:Nat)(l:List Int)(w:World)(u:l.length=n)(hc:n<=c)(v:n<=1099511627776)(hs:s<=63)(wl:Words l)(x:At w ao b o l) :
  Calls Tryz.prog 114 #[.slice ao n c,.int .i64 s] w fun e w'=>∃ lz,e=.returned (.slice (some ⟨w.heap.size,0,none⟩) (n + 1) (n + 1))/\lz.length=n + 1/\Words lz/\At w' (some ⟨w.heap.size,0,none⟩) w.heap.size 0 lz/\dB w' w.heap.size 0 (n + 1)/\w.heap.size < w'.heap.size/\val lz=val l * 2 ^ s/\Below w.heap.size w w':=by
 obtain⟨p1,t,D,B⟩:=fM s hs
 have r:l=[]\/b≠w.heap.size:=by
  rcases x.lt with e | e
  ·exact .inl e
  ·exact .inr (by omega)
 have ae:=aL wl;have y:=dx wl
 have g:Hid (0<=val l * 2 ^ s/\val l * 2 ^ s < 18446744073709551616 ^ (n + 1)):=by
  refine⟨Int.mul_nonneg ae (Int.le_of_lt p1),?_⟩
  have J:val l * 2 ^ s<=val l * 18446744073709551616:=Int.mul_le_mul_of_nonneg_left (by omega) ae;rw[u] at y;rw[Int.pow_succ]; omega
 obtain⟨S,hS⟩:∃ S,(2:Int) ^ s=S:=⟨_,rfl⟩
 rw[hS] at p1 t g ⊢
 have E:IntKind.u64.wrap S=S:=IntWalk.u64_in _ ⟨by omega,by omega⟩;clear D B ae y;go_enter Tryz.func114,Tryz.ntmps114;go_wp2_with (at_make; refine cV rfl _ _ rfl (n + 1) _ _ rfl rfl (by omega) (by omega) (by omega) ?_; intro C d ac p);have aj:=x.keep ac;refine(eh _ w.heap.size 0 (n + 1) (n + 1) ao b o n c S (List.replicate (n + 1) 0) l C (by simp) u (by omega) (by omega) (Nat.le_refl _) hc (by omega) t (eC _) wl d.at (d.free _ _) aj r).mono ?_
 rintro e G ⟨rfl,lz,m,z,ah,f,j⟩;have q:=f.free (d.free 0 (n + 1));have A:=d.lt;have ai:=f.size;rw[fk (l:=List.replicate (n + 1) 0) (fun i=>by simp[nth,List.getElem?_replicate]; split<;>rfl),Int.zero_add,Int.emod_eq_of_lt g.out.1 g.out.2] at j;have F:=(show Hid _ from j)
 have H:=ac.trans (f.below (Nat.le_refl _))
 have I:w.heap.size < G.heap.size:=by omega
 clear j ai p d f ac;go_wp2;go_ret;exact⟨lz,rfl,m,z,ah,q,I,F.out,H⟩
structure mD(lz:List Int)(S:Int)(h:Nat)(lz1:List Int):Prop where
 len:lz1.length=lz.length
 words:Words lz1
 low:∀ i,i < h->nth lz1 i=nth lz i
 val:Lim.val (lz1.drop h)=Lim.val (lz.drop h) / S
theorem B9(S T:Int)(h:S * T=18446744073709551616)(k:Nat):val (l.drop k) % S=nth l k % S:=by
 by_cases a:k < l.length
 ·rw[dP a,<- h,Int.mul_assoc,Int.add_mul_emod_self_left]
 ·rw[List.drop_of_length_le (by omega),fO (by omega)]; rfl
theorem mD.step{lz lz1:List Int}{b:Int}{h:Nat}(hS:0 < S)(a:S * T=18446744073709551616)(hv:mD lz S (h + 1) lz1)(d:h < lz.length)(z0:0<=b)(z1:b < 18446744073709551616)(e:b=nth lz h / S + T * (nth lz (h + 1) % S)):mD lz S h (lz1.set h b):=by
 have c:=hv.len;refine⟨by simp[c],hv.words.set h z0 z1,fun i hi=>by rw[dy (by omega),if_neg (by omega)]; exact hv.low i (by omega),?_⟩;rw[dP (by simp; omega),dy (by omega),if_pos rfl,List.drop_set,if_pos (by omega),hv.val,dP d,e,<- B9 S T a (h + 1)];generalize Lim.val (lz.drop (h + 1))=Y
 have e1:nth lz h + 18446744073709551616 * Y=nth lz h + S * (T * Y):=by rw[<- a]; grind
 rw[e1,Int.add_mul_ediv_left _ _ (by omega)];have e2:=Int.mul_ediv_add_emod Y S
 have e3:T * Y=T * (S * (Y / S) + Y % S):=by rw[e2]
 rw[e3,<- a];grind
theorem yx{x y:Int}(s:Nat)(i:S=2 ^ s)(f:T=2 ^ (64 - s))(hs:s<=63)(hx:0<=x/\x < 18446744073709551616) :
  bits .or .u64 (x / S) (IntKind.u64.wrap (y * T))=x / S + T * (y % S)/\0<=x / S + T * (y % S)/\x / S + T * (y % S) < 18446744073709551616:=by
 obtain⟨p1,h,d,c⟩:=fM s hs;rw[<- i] at p1 h d;rw[<- f] at d c
 have a:0<=x / S:=Int.ediv_nonneg hx.1 (Int.le_of_lt p1)
 have e:x / S < T:=by rw[Int.ediv_lt_iff_lt_mul p1,Int.mul_comm,d]; exact hx.2
 have b:=Int.emod_nonneg y (show S≠0 by omega);have m:=Int.emod_lt_of_pos y p1
 have l:IntKind.u64.wrap (y * T)=y % S * T:=by
  rw[IntKind.wrap_u64,<- d,Int.mul_comm y T,Int.mul_comm S T,Int.mul_emod_mul_of_pos _ _ c,Int.mul_comm]
 have g:0<=y % S * T:=Int.mul_nonneg b (Int.le_of_lt c)
 have k:(y % S + 1) * T<=S * T:=Int.mul_le_mul_of_nonneg_right (by omega) (Int.le_of_lt c);rw[Int.add_mul,Int.one_mul,d] at k
 have j:T<=18446744073709551616:=by
  have:1 * T<=S * T:=Int.mul_le_mul_of_nonneg_right (by omega) (Int.le_of_lt c);omega
 rw[l,Int.mul_comm T];refine⟨?_,by omega,by omega⟩;rw[u64_or _ _ a (by omega) g (by omega),Nat.or_comm,<- u64_or _ _ g (by omega) a (by omega)];rw[ql _ _ (64 - s) (y % S) (by rw[f]) b (by omega) a (by rw[<- f]; exact e) (by omega),Int.add_comm]
theorem vT(m:Option Addr)(i g b C s:Nat)(lz:List Int)(w:World)(t:lz.length=b)(z:b<=2199023255552)(l:b<=C)(hs:s<=63)(o:Words lz)(n:At w m i g lz)(r:dB w i g b) :
  Calls Tryz.prog 116 #[.slice m b C,.int .i64 s] w fun e w'=>e=.returned (.tuple #[])/\∃ lz',lz'.length=b/\Words lz'/\At w' m i g lz'/\Wr i g b w w'/\val lz'=val lz / 2 ^ s:=by
 obtain⟨p1,O,I,P⟩:=fM s hs;go_enter Tryz.func116,Tryz.ntmps116;go_wp2;go_loopw [4,10] (fun tc p wr=>∃ (k:Nat) (c:List Int),k<=b/\p=.int .i64 k/\tc=.int .u64 (nth lz (b - k))/\mD lz (2 ^ s) (b - k) c/\At wr m i g c/\Wr i g b w wr) (fun _ p _=>b - (intOf p).toNat)
 case atStart=>exact⟨0,lz,Nat.zero_le _,rfl,by rw[fO (by omega)],⟨rfl,o,fun _ _=>rfl,by rw[Nat.sub_zero,List.drop_of_length_le (by omega)]; simp[val]⟩,n,Wr.refl _ _ _ _⟩
 case round =>
  obtain⟨k,c,Q,rfl,rfl,hinv,f,d⟩:=hrel;have q:=hinv.len;by_cases G:k < b
  ·rcases n.loc with e | rfl
   ·subst e; simp at t; omega
   obtain⟨h,B⟩:∃ h:Nat,b=h + 1 + k:=⟨b - 1 - k,by omega⟩
   have l:=f.cell h (by omega);have D:=d.free r h (by omega);rw[hinv.low h (by omega)] at l
   have A:(b:Int) - 1 - k=h:=by omega
   have L:(h:Int) < b:=by omega
   have j:b - k=h + 1:=by omega
   rw[j] at hinv ⊢;obtain⟨e1,e2,e3⟩:=yx (y:=nth lz (h + 1)) s rfl rfl hs (o.nth h)
   have J:Hid (mD lz (2 ^ s) h (c.set h (nth lz h / 2 ^ s + 2 ^ (64 - s) * (nth lz (h + 1) % 2 ^ s)))):=hinv.step p1 I (by omega) e2 e3 rfl
   have N:Hid (b=h + 1 + k):=B;have K:=(show Hid _ from f)
   have F:=(show Hid _ from d)
   have M:Hid (nth lz (b - (k + 1))=nth lz h):=by show _=_; rw[show b - (k + 1)=h from by omega]
   have E:Hid (b - (k + 1)=h):=by show _=_; omega
   clear B hinv n o f d j;generalize nth lz h=x at *;generalize nth lz (h + 1)=y at *
   have v:(64:Int) - s=((64 - s:Nat):Int):=by omega
   go_wp2_with fail;go_region;go_wp2;refine⟨⟨k + 1,_,by omega,by go_num,by rw[M.out],by rw[E.out]; exact J.out,?_,?_⟩,by simp[intOf]; omega⟩
   ·exact(K.out.setCell (by omega) _).drew
   ·exact(F.out.setCell (by omega) (by have:=N.out; omega) _).drew
  ·have u:k=b:=by omega
   subst u;have hv:=hinv.val;rw[Nat.sub_self,List.drop_zero,List.drop_zero] at hv;have H:=(show Hid _ from hv)
   clear hv;go_wp2;go_end0;exact⟨rfl,c,by omega,hinv.words,f,d,H.out⟩
def rB(u v g:Int):Prop:=0<=g/\g < 18446744073709551616/\(g - 1) * v<=u/\u < (g + 1) * v
theorem AQ{u v u0 R P:Int}(d:0 < P)(hv:v < (v1 + 1) * P)(b:9223372036854775808<=v1)(hu:u=u0 * 18446744073709551616 * P + R)(e:0<=R)(c:v1<=u0)(a:u < v * 18446744073709551616):rB u v 18446744073709551615:=by
 refine⟨by decide,by decide,?_,by rw[show (18446744073709551615 + 1:Int)=18446744073709551616 from rfl,Int.mul_comm]; exact a⟩
 have k1:v * 18446744073709551614<=(v1 + 1) * P * 18446744073709551614:=Int.mul_le_mul_of_nonneg_right (by omega) (by decide)
 have k2:v1 * P<=u0 * P:=Int.mul_le_mul_of_nonneg_right c (by omega)
 have k3:9223372036854775808 * P<=v1 * P:=Int.mul_le_mul_of_nonneg_right b (by omega)
 have e1:(v1 + 1) * P * 18446744073709551614=v1 * P * 18446744073709551614 + P * 18446744073709551614:=by grind
 have e2:u0 * 18446744073709551616 * P=u0 * P * 18446744073709551616:=by grind
 rw[show (18446744073709551615 - 1:Int)=18446744073709551614 from rfl,Int.mul_comm];omega
theorem sZ{u v v2 a g rest hi Q:Int}(D:0 < Q)(h:v1 * 18446744073709551616 * Q + v2 * Q<=v)(hv:v < v1 * 18446744073709551616 * Q + (v2 + 1) * Q)(t:9223372036854775808<=v1)(p:0<=v2)(r:v2 < 18446744073709551616)(l:a * (18446744073709551616 * Q)<=u)(hu:u < (a + 1) * (18446744073709551616 * Q))(b:0<=g)(i:g < 18446744073709551616)(j:0<=rest)(A:rest < v1)(he:g * v1 + rest=a)(lo:Int)(k:0<=lo)(s:lo < 18446744073709551616)(hm:hi * 18446744073709551616 + lo=g * v2) :
  (rest < hi->rB u v (g - 1))/\(hi<=rest->rB u v g):=by
 have q:0<=g * v2:=Int.mul_nonneg b p
 have m:g * v2<=g * 18446744073709551615:=Int.mul_le_mul_of_nonneg_left (by omega) b
 have d:0<=hi:=by omega
 have f:hi<=18446744073709551615:=by omega
 obtain⟨X,hX⟩:∃ X,18446744073709551616 * Q=X:=⟨_,rfl⟩
 have z:0 < X:=by omega
 have m1:g * (v1 * 18446744073709551616 * Q + v2 * Q)<=g * v:=Int.mul_le_mul_of_nonneg_left h b
 have m2:g * v<=g * (v1 * 18446744073709551616 * Q + (v2 + 1) * Q):=Int.mul_le_mul_of_nonneg_left (by omega) b
 have e1:g * (v1 * 18446744073709551616 * Q + v2 * Q)=a * X - rest * X + hi * X + lo * Q:=by
  rw[<- hX,<- he];have:g * (v2 * Q)=(hi * 18446744073709551616 + lo) * Q:=by rw[hm]; grind
  grind
 have e2:g * (v1 * 18446744073709551616 * Q + (v2 + 1) * Q)=a * X - rest * X + hi * X + lo * Q + g * Q:=by
  have:g * (v1 * 18446744073709551616 * Q + (v2 + 1) * Q)=g * (v1 * 18446744073709551616 * Q + v2 * Q) + g * Q:=by grind
  rw[this,e1]
 rw[e1] at m1;rw[e2] at m2
 have e3:v1 * 18446744073709551616 * Q=v1 * X:=by rw[<- hX]; grind
 rw[e3] at h;rw[hX] at l hu;rw[Int.add_mul,Int.one_mul] at hu
 have k1:9223372036854775808 * X<=v1 * X:=Int.mul_le_mul_of_nonneg_right t (by omega)
 have k2:(rest + 1) * X<=v1 * X:=Int.mul_le_mul_of_nonneg_right (by omega) (by omega)
 have k3:lo * Q<=18446744073709551615 * Q:=Int.mul_le_mul_of_nonneg_right (by omega) (by omega)
 have x:0<=lo * Q:=Int.mul_nonneg k (by omega)
 have G:g * Q<=18446744073709551615 * Q:=Int.mul_le_mul_of_nonneg_right (by omega) (by omega)
 have E:0<=v2 * Q:=Int.mul_nonneg p (by omega)
 have F:0<=hi * X:=Int.mul_nonneg d (by omega)
 have C:0<=rest * X:=Int.mul_nonneg j (by omega)
 have B:hi * X<=18446744073709551615 * X:=Int.mul_le_mul_of_nonneg_right f (by omega);rw[Int.add_mul,Int.one_mul] at k2;constructor
 ·intro w
  have n:(rest + 1) * X<=hi * X:=Int.mul_le_mul_of_nonneg_right (by omega) (by omega);rw[Int.add_mul,Int.one_mul] at n
  have o:1<=g:=by
   by_cases c:1<=g
   ·exact c
   ·have:g=0:=by omega
    subst this; simp at hm; omega
  have e:hi<=18446744073709551614:=by omega
  have y:hi * X<=18446744073709551614 * X:=Int.mul_le_mul_of_nonneg_right e (by omega);refine⟨by omega,by omega,?_,?_⟩
  ·rw[show (g - 1 - 1) * v=g * v - 2 * v from by grind];omega
  ·rw[show (g - 1 + 1) * v=g * v from by grind];omega
 ·intro hle
  have n:hi * X<=rest * X:=Int.mul_le_mul_of_nonneg_right hle (by omega);refine⟨b,i,?_,?_⟩
  ·rw[Int.sub_mul,Int.one_mul]; omega
  ·rw[Int.add_mul,Int.one_mul]; omega
end
end
section
open Go.RowKit Lim
section
variable {f:FuncId}{args:Array Value}{w:World}{n:Nat}{v:Value}{l:List Int}
theorem qK(hi lo y:Int)(w:World)(d:0<=hi)(b:hi < y)(a:0<=lo)(l1:lo < 18446744073709551616)(y1:y < 18446744073709551616) :
  Calls Tryz.prog 166 #[.int .u64 hi,.int .u64 lo,.int .u64 y] w fun e w'=>e=.returned (.tuple #[.int .u64 ((hi * 18446744073709551616 + lo) / y),.int .u64 ((hi * 18446744073709551616 + lo) % y)])/\∃ n,w'=w.drewN n:=by
 by_cases c:hi=0
 ·subst c;refine(lY lo y w (by omega) a l1 y1).mono ?_
  rintro e w' ⟨rfl,hw⟩;exact⟨by simp,hw⟩
 ·refine(ow hi lo y w (by omega) b a l1 y1).mono ?_
  rintro e w' ⟨rfl,rfl⟩;exact⟨rfl,0,rfl⟩
theorem np{P:Program}(h:Calls P f args (w.drewN n) fun e w'=>e=.returned v/\∃ m,w'=(w.drewN n).drewN m):Calls P f args (w.drewN n) fun e w''=>e=.returned v/\∃ m,w''=w.drewN m :=
 h.mono fun _ _ ⟨he,m,hm⟩=>⟨he,n + m,by rw[hm,World.drewN_drewN]⟩
theorem top2(wl:Words l)(hn:l.length=n + 2):(nth l (n + 1) * 18446744073709551616 + nth l n) * 18446744073709551616 ^ n<=val l/\val l < (nth l (n + 1) * 18446744073709551616 + nth l n + 1) * 18446744073709551616 ^ n:=by
 have e1:=bC l n (by omega);have b:=aL (wl.take n);have a:=dx (wl.take n);rw[List.length_take,Nat.min_eq_left (by omega)] at a;rw[dP (by omega),dP (by omega),List.drop_of_length_le (show l.length<=n + 1 + 1 by omega)] at e1
 have e2:(18446744073709551616:Int) ^ n * (nth l n + 18446744073709551616 * (nth l (n + 1) + 18446744073709551616 * val []))=(nth l (n + 1) * 18446744073709551616 + nth l n) * 18446744073709551616 ^ n:=by
  rw[show val []=0 from rfl]; grind
 rw[e2] at e1;rw[Int.add_mul (nth l (n + 1) * 18446744073709551616 + nth l n) 1];omega
theorem vQ(au:Option Addr)(cu H W:Nat)(av:Option Addr)(k cv bv B:Nat)(lu d:List Int)(w:World)(q:lu.length=k + 3)(o:d.length=k + 2)(hbig:k<=1099511627776)(wu:Words lu)(D:Words d)(hu:At w au H W lu)(hv:At w av bv B d)(i:9223372036854775808<=nth d (k + 1))(u:val lu < val d * 18446744073709551616) :
  Calls Tryz.prog 167 #[.slice au (k + 3) cu,.slice av (k + 2) cv] w fun e w'=>∃ g:Int,e=.returned (.int .u64 g)/\rB (val lu) (val d) g/\Below w.heap.size w w':=by
 obtain⟨c,p⟩:=top2 D o;obtain⟨x,f⟩:=top2 (n:=k + 1) wu q;have c0:=hu.cell (k + 2) (by omega);have c1:=hu.cell (k + 1) (by omega);have d1:=hv.cell (k + 1) (by omega);have d2:=hv.cell k (by omega);have b0:=wu.nth (k + 2);have b1:=wu.nth (k + 1);have e1:=D.nth (k + 1);have e2:=D.nth k;have L:=pow_pos k;have T:=pow_pos (k + 1);rcases hu.loc with e | rfl
 ·subst e; simp at q
 rcases hv.loc with e | rfl
 ·subst e; simp at o
 rw[show k + 1 + 1=k + 2 from rfl] at x f;have M:=(show Hid _ from u)
 clear hu hv wu D u q o;obtain⟨N,C⟩:∃ N,k + 2=N:=⟨_,rfl⟩
 obtain⟨m,hm⟩:∃ m,k + 1=m:=⟨_,rfl⟩
 have hN1:(N:Int) - 1=m:=by omega
 have hN2:(N:Int) - 2=k:=by omega
 have hmN:(m:Int) < N:=by omega
 have hkN:(k:Int) < N:=by omega
 have hmN1:(m:Int) < (N:Int) + 1:=by omega
 have Z:(N:Int) < (N:Int) + 1:=by omega
 have hNb:N<=1099511627778:=by omega
 have hmle:m<=N:=by omega
 have hmlt:m < N + 1:=by omega
 have hmi:(m:Int)<=N:=by omega
 have hwm:IntKind.i64.wrap (m:Int)=m:=by rw[IntKind.wrap_i64]; omega
 have hwk:IntKind.i64.wrap (k:Int)=k:=by rw[IntKind.wrap_i64]; omega
 generalize nth lu (k + 2)=u0 at *;generalize nth lu (k + 1)=b at *;generalize nth d (k + 1)=v1 at *;generalize nth d k=v2 at *;generalize val lu=U at *;generalize val d=V at *;by_cases J:v1<=u0
 ·have HN:Hid (rB U V 18446744073709551615):=by
   refine AQ (v1:=v1) (u0:=u0) (P:=18446744073709551616 ^ (k + 1)) (R:=U - u0 * 18446744073709551616 * 18446744073709551616 ^ (k + 1)) T ?_ i (by omega) ?_ J M.out
   ·rw[Int.pow_succ];have:(v1 * 18446744073709551616 + v2 + 1) * 18446744073709551616 ^ k<=(v1 * 18446744073709551616 + 18446744073709551616) * 18446744073709551616 ^ k:=Int.mul_le_mul_of_nonneg_right (by omega) (by omega)
    have e:(v1 * 18446744073709551616 + 18446744073709551616) * 18446744073709551616 ^ k=(v1 + 1) * (18446744073709551616 ^ k * 18446744073709551616):=by grind
    omega
   ·have:0<=b * 18446744073709551616 ^ (k + 1):=Int.mul_nonneg b1.1 (by omega);rw[Int.add_mul] at x;omega
  rw[show k + 3=N + 1 from by omega,C] at *;rw[hm] at c1 d1;clear x f c p L T C hm;go_enter Tryz.func167,Tryz.ntmps167;go_wp2_with fail;go_quiet (fail);go_wp2;go_ret;exact⟨_,rfl,HN.out,below_drewN (Below.refl _ _) _⟩
 ·have A:∀ g rest hi lo:Int,0<=g->g < 18446744073709551616->0<=rest->rest < v1->g * v1 + rest=u0 * 18446744073709551616 + b->0<=lo->lo < 18446744073709551616->hi * 18446744073709551616 + lo=g * v2->(rest < hi->rB U V (g - 1))/\(hi<=rest->rB U V g):=by
   intro g rest hi lo h1 h2 h3 h4 h5 h6 h7 h8;refine sZ (Q:=18446744073709551616 ^ k) L ?_ ?_ i e2.1 e2.2 ?_ ?_ h1 h2 h3 h4 h5 lo h6 h7 h8
   ·rw[Int.add_mul] at c; exact c
   ·have e:(v1 * 18446744073709551616 + v2 + 1) * 18446744073709551616 ^ k=v1 * 18446744073709551616 * 18446744073709551616 ^ k + (v2 + 1) * 18446744073709551616 ^ k:=by grind
    rw[<- e]; exact p
   ·rw[Int.mul_comm 18446744073709551616,<- Int.pow_succ]; exact x
   ·rw[Int.mul_comm 18446744073709551616,<- Int.pow_succ]; exact f
  have l:=(show Hid _ from A)
  have r:=Int.mul_ediv_add_emod (u0 * 18446744073709551616 + b) v1;have K:=Int.emod_nonneg (u0 * 18446744073709551616 + b) (show v1≠0 by omega);have F:=Int.emod_lt_of_pos (u0 * 18446744073709551616 + b) (show 0 < v1 by omega)
  have y:0<=(u0 * 18446744073709551616 + b) / v1:=Int.ediv_nonneg (by omega) (by omega)
  have s:(u0 * 18446744073709551616 + b) / v1 < 18446744073709551616:=by
   rw[Int.ediv_lt_iff_lt_mul (by omega)];have:(u0 + 1) * 18446744073709551616<=v1 * 18446744073709551616:=Int.mul_le_mul_of_nonneg_right (by omega) (by decide);omega
  have Y:=fun wx:World=>qK u0 b v1 wx b0.1 (by omega) b1.1 b1.2 e1.2
  generalize hg:(u0 * 18446744073709551616 + b) / v1=g at *;generalize hr:(u0 * 18446744073709551616 + b) % v1=rest at *;rw[Int.mul_comm] at r;have O:=(show Hid _ from r)
  rw[show k + 3=N + 1 from by omega,C] at *;rw[hm] at c1 d1;clear A r hg hr x f c p L T C hm
  have hge':u0 < v1:=by omega
  go_enter Tryz.func167,Tryz.ntmps167;go_wp2_with fail;go_quiet (fail)
  have E:(w.drewN nq).cell? ⟨H,W + N,none⟩=some (.int .u64 u0):=c0
  have I:(w.drewN nq).cell? ⟨H,W + m,none⟩=some (.int .u64 b):=c1
  have S:(w.drewN nq).cell? ⟨bv,B + m,none⟩=some (.int .u64 v1):=d1
  have z:(w.drewN nq).cell? ⟨bv,B + k,none⟩=some (.int .u64 v2):=d2;have t:=below_drewN (Below.refl w.heap.size w) nq;clear c0 c1 d1 d2;generalize w.drewN nq=W1 at *;go_wp2_with fail;go_quiet ((go_at_call 166; exact np (Y _)))
  have X:(W1.drewN nq).cell? ⟨bv,B + k,none⟩=some (.int .u64 v2):=z;have j:=below_drewN t nq;clear E I S z t Y;generalize W1.drewN nq=W2 at *;go_wp2_with fail;refine(lG g v2 y s e2.1 e2.2 _).mono ?_
  rintro e w3 ⟨hi,lo,rfl,i1,i2,i3,i4,i5,rfl⟩;have v:=l.out g rest hi lo y s K F O.out i3 i4 i5.out;by_cases hc:rest < hi
  ·have G:=(show Hid _ from v.1 hc)
   have hg2:0<=g - 1:=(v.1 hc).1;clear v l;go_wp2;go_ret;exact⟨_,rfl,G.out,j⟩
  ·have G:=(show Hid _ from v.2 (by omega))
   clear v l;go_wp2;go_ret;exact⟨_,rfl,G.out,j⟩
end
end
section
open Go.RowKit Lim
section
variable {L L' lz:List Int}{k:Nat}
theorem yW(hL:Words L)(a:Words L')(b:Words lz)(n:k < L.length)(l:lz.length=L.length + L'.length)(hv:val lz=val (L.take k) * val L') :
  0<=val ((lz.drop k).take (L'.length + 1)) + val L' * nth L k/\val ((lz.drop k).take (L'.length + 1)) + val L' * nth L k < 18446744073709551616 ^ (L'.length + 1):=by
 have e:=dx (hL.take k);have h:=dx a;have j:=aL (hL.take k);have c:=aL a;have m:=aL (b.take k);have i:=aL ((b.drop k).take (L'.length + 1));have h7:=aL ((b.drop k).drop (L'.length + 1));have h8:=hL.nth k;rw[List.length_take,Nat.min_eq_left (by omega)] at e;have e1:=bC lz k (by omega);have e2:=bC (lz.drop k) (L'.length + 1) (by simp; omega);have d:=pow_pos k;have g:=pow_pos L'.length;have f:=pow_pos (L'.length + 1)
 have m1:val (L.take k) * val L'<=18446744073709551616 ^ k * val L':=Int.mul_le_mul_of_nonneg_right (by omega) c
 have m2:(18446744073709551616:Int) ^ k * val (lz.drop k)<=18446744073709551616 ^ k * val L':=by omega
 have m3:val (lz.drop k)<=val L':=Int.le_of_mul_le_mul_left m2 d
 have m4:0<=18446744073709551616 ^ (L'.length + 1) * val ((lz.drop k).drop (L'.length + 1)):=Int.mul_nonneg (Int.le_of_lt f) h7
 have m5:val L' * nth L k<=val L' * 18446744073709551615:=Int.mul_le_mul_of_nonneg_left (by omega) c
 have m6:0<=val L' * nth L k:=Int.mul_nonneg c h8.1;refine⟨by omega,?_⟩;rw[Int.pow_succ];omega
structure kz(L L' lz:List Int)(k:Nat):Prop where
 len:lz.length=L.length + L'.length
 words:Words lz
 val:Lim.val lz=Lim.val (L.take k) * Lim.val L'
theorem kz.step{lw:List Int}(hL:Words L)(c:Words L')(d:k < L.length)(h:kz L L' lz k)(hw:Words lw)(b:lw.length=L'.length + 1)(hv:Lim.val lw=(Lim.val ((lz.drop k).take (L'.length + 1)) + Lim.val L' * nth L k) % 18446744073709551616 ^ (L'.length + 1)):kz L L' (patch lz k lw) (k + 1):=by
 have a:=yW hL c h.words d h.len h.val;rw[Int.emod_eq_of_lt a.1 a.2] at hv;have e:=h.len;refine⟨by rw[fe (by omega)]; exact h.len,kO h.words hw,?_⟩;rw[oI (by omega),b,hv,h.val,du d];grind
theorem qt(ao:Option Addr)(n c b o:Nat)(ao':Option Addr)(n' c' b' o':Nat)(l j:List Int)(w:World)(hl:l.length=n)(Z:j.length=n')(hc:n<=c)(hc':n'<=c')(hbig:n<=1099511627776)(hbig':n'<=1099511627776)(wl:Words l)(wl':Words j)(ha:At w ao b o l)(G:At w ao' b' o' j) :
  Calls Tryz.prog 24 #[.slice ao n c,.slice ao' n' c'] w fun e w'=>∃ v r,e=.returned v/\dC w w' v r/\IsN r (val l * val j)/\r.length<=n + n'/\Below w.heap.size w w':=by
 have hn:=bp l
 have hn':=bp j;have t1:=bh ao n c l w hl hc (by omega) ha.cells;have t2:=bh ao' n' c' j w Z hc' (by omega) G.cells;have hs:=ha.sub (aE l)
 have A:=G.sub (aE j);have P:=aJ l
 have t:=aJ j;have U:=b8 wl
 have I:=b8 wl';rw[show l.take (aE l)=norm l from rfl] at hs;rw[show j.take (aE j)=norm j from rfl] at A;generalize aE l=N at *;generalize aE j=d at *;generalize norm l=L at *;generalize norm j=O at *
 have u:L=[]\/b≠w.heap.size:=by
  rcases hs.lt with e | e
  ·exact .inl e
  ·exact .inr (by omega)
 have T:O=[]\/b'≠w.heap.size:=by
  rcases A.lt with e | e
  ·exact .inl e
  ·exact .inr (by omega)
 clear ha G;go_enter Tryz.func24,Tryz.ntmps24;go_wp2_with fail;refine t1.mono ?_
 rintro e w1 ⟨rfl,rfl⟩;go_wp2_with fail;refine t2.mono ?_
 rintro e z ⟨rfl,rfl⟩;clear t1 t2;go_wp2_with (at_make; refine cV rfl _ _ rfl (N + d) _ _ rfl rfl (by omega) (by omega) (by omega) ?_; intro w3 s p hsz);have J:=hs.keep p;have S:=A.keep p;have E:=s.at
 have C:=s.free 0 (N + d);clear hs A s;go_loopw [22] (fun W wr=>∃ (k:Nat) (f:List Int),k<=N/\W=.int .i64 k/\kz L O f k/\At wr (some ⟨z.heap.size,0,none⟩) z.heap.size 0 f/\Wr z.heap.size 0 (N + d) w3 wr) (fun W _=>N - (intOf W).toNat)
 case atStart=>exact⟨0,_,Nat.zero_le _,rfl,⟨by simp[P,t],eC _,by simp[val,fk (l:=List.replicate (N + d) 0) fun i=>by simp[nth,List.getElem?_replicate]; split<;>rfl]⟩,E,Wr.refl _ _ _ _⟩
 case round =>
  clear E;obtain⟨k,f,hk,rfl,hinv,q,g⟩:=hrel;by_cases hlt:k < N
  ·have hlen:=hinv.len;rcases J.loc with e | rfl
   ·subst e; simp at P; omega
   have u:=u;have hcx:=(J.wr g u).cell k (by omega)
   have D:=S.wr g T;have hx:=U.1.nth k;have F:=(g.free C).fE (k:=k) (m:=d + 1) (by omega);have y:=(q.drew).fE k (d + 1);rw[Nat.zero_add] at y F
   have hkn:k + d + 1 - k=d + 1:=by omega
   have H:=eh (some ⟨z.heap.size,k,none⟩) z.heap.size k (d + 1) (d + 1) ao' b' o' d d (nth L k) ((f.drop k).take (d + 1)) O wr.drew (by simp; omega) t (by omega) (by omega) (Nat.le_refl _) (Nat.le_refl _) hx.1 hx.2 ((hinv.words.drop k).take _) I.1 y F.drew D.drew T
   have HX:Hid (∀ lw,Words lw->lw.length=d + 1->val lw=(val ((f.drop k).take (d + 1)) + val O * nth L k) % 18446744073709551616 ^ (d + 1)->kz L O (patch f k lw) (k + 1)):=by
    intro lw h1 h2 h3;rw[<- t] at h2 h3;exact kz.step U.1 I.1 (by omega) hinv h1 h2 h3
   have HA:Hid (At wr.drew (some ⟨z.heap.size,0,none⟩) z.heap.size 0 f):=q.drew
   have HW:Hid (Wr z.heap.size 0 (N + d) w3 wr.drew):=g.drew;clear F y D hinv g q;generalize nth L k=x at *;go_wp2_with fail;go_region_with (go_at_call 59; refine H.mono ?_; rintro e w5 ⟨rfl,lw,Y,hww,M,B,V⟩)
   all_goals go_wp2
   all_goals exact⟨⟨k + 1,patch f k lw,by omega,by go_num,HX.out lw hww Y V,HA.out.patch (k:=k) (n:=d + 1) (by rw[Nat.zero_add]; exact B) (by rw[Nat.zero_add]; exact M) (by omega) (by omega),HW.out.trans (B.mono (by omega) (by omega))⟩,by simp[intOf]; omega⟩
  ·have hkN:k=N:=by omega
   subst hkN;have hv:=hinv.val;have hlen:=hinv.len;have hwz:=hinv.words;rw[List.take_of_length_le (by omega),U.2.2,I.2.2] at hv;have hfz:=g.free C;have hz1:=bp f;have X:=aJ f;have Q:=q.sub (aE f)
   have HF:IsN (norm f) (val l * val j):=by rw[<- hv]; exact b8 hwz
   have HB:=p.trans (g.below (Nat.le_refl _));rw[show f.take (aE f)=norm f from rfl] at Q;have t3:=bh (some ⟨z.heap.size,0,none⟩) (k + d) (k + d) f wr (by omega) (Nat.le_refl _) (by omega) q.cells;clear J S q g p hinv hv;generalize aE f=K at *;generalize norm f=R at *;go_wp2_with fail;refine t3.mono ?_
   rintro e w6 ⟨rfl,rfl⟩;go_wp2;go_ret;exact⟨_,R,rfl,dC.of X.symm (Nat.le_refl _) (Nat.le_refl _) Q (fun i hi=>hfz i (by omega)),HF,by omega,HB⟩
end
end
section
open Go.RowKit Lim
section
variable {lu lq lu1:List Int}{V:Int}{q0 k a n:Nat}{w:World}
structure kT(lu:List Int)(V:Int)(q0 k m:Nat)(lq lu1:List Int):Prop where
 Bi:lq.length=q0
 Bh:lu1.length=q0 + (k + 2)
 wq:Words lq
 wu:Words lu1
 eq:val lu=18446744073709551616 ^ m * val (lq.drop m) * V + val lu1
 lt:val lu1 < V * 18446744073709551616 ^ m
theorem kT.fE(h:kT lu V q0 k (a + 1) lq lu1)(m:a < q0)(j:V < 18446744073709551616 ^ (k + 2)) :
  val lu1=val (lu1.take a) + 18446744073709551616 ^ a * val ((lu1.drop a).take (k + 3))/\val ((lu1.drop a).take (k + 3)) < V * 18446744073709551616:=by
 have p:=h.Bh;have e1:=bC lu1 a (by omega);have e2:=bC (lu1.drop a) (k + 3) (by simp; omega);have o:=aL (h.wu.take a);have l:=aL ((h.wu.drop a).take (k + 3));have i:=aL ((h.wu.drop a).drop (k + 3));have f:=h.lt;have b:=pow_pos a
 have d:val ((lu1.drop a).drop (k + 3))=0:=by
  by_cases c:val ((lu1.drop a).drop (k + 3))=0
  ·exact c
  ·have k1:18446744073709551616 ^ (k + 3) * 1<=18446744073709551616 ^ (k + 3) * val ((lu1.drop a).drop (k + 3)):=Int.mul_le_mul_of_nonneg_left (by omega) (Int.le_of_lt (pow_pos _))
   have k2:18446744073709551616 ^ a * 18446744073709551616 ^ (k + 3)<=18446744073709551616 ^ a * val (lu1.drop a):=Int.mul_le_mul_of_nonneg_left (by omega) (Int.le_of_lt b)
   have k3:(V + 1) * 18446744073709551616 ^ (a + 1)<=18446744073709551616 ^ (k + 2) * 18446744073709551616 ^ (a + 1):=Int.mul_le_mul_of_nonneg_right (by omega) (Int.le_of_lt (pow_pos _));rw[Int.add_mul] at k3
   have n:(18446744073709551616:Int) ^ (k + 2) * 18446744073709551616 ^ (a + 1)=18446744073709551616 ^ a * 18446744073709551616 ^ (k + 3):=by rw[<- Int.pow_add,<- Int.pow_add]; congr 1; omega
   have g:=pow_pos (a + 1);omega
 rw[d,Int.mul_zero,Int.add_zero] at e2;rw[e2] at e1;refine⟨e1,?_⟩
 have e:18446744073709551616 ^ a * val ((lu1.drop a).take (k + 3)) < 18446744073709551616 ^ a * (V * 18446744073709551616):=by
  have:18446744073709551616 ^ a * (V * 18446744073709551616)=V * 18446744073709551616 ^ (a + 1):=by rw[Int.pow_succ]; grind
  omega
 exact Int.lt_of_mul_lt_mul_left e (Int.le_of_lt b)
theorem kT.step{d:Int}{nw:List Int}(h:kT lu V q0 k (a + 1) lq lu1)(j:a < q0)(i:V < 18446744073709551616 ^ (k + 2))(d0:0<=d)(d1:d < 18446744073709551616)(wn:Words nw)(hn:nw.length=k + 3)(e:val nw=val ((lu1.drop a).take (k + 3)) - d * V)(e1:val nw < V):kT lu V q0 k a (lq.set a d) (patch lu1 a nw):=by
 have hw:=h.fE j i;have n:=h.Bh;have c:=h.Bi;have b:=oI (l:=lu1) (m:=nw) (k:=a) (by omega);have f:=dx (h.wu.take a);rw[List.length_take,Nat.min_eq_left (by omega)] at f;have g:=pow_pos a;refine⟨by simp[c],by rw[fe (by omega)]; exact n,h.wq.set a d0 d1,kO h.wu wn,?_,?_⟩
 ·rw[h.eq,dP (l:=lq.set a d) (by simp; omega),dy (by omega),if_pos rfl,List.drop_set,if_pos (by omega),b,hn,e,Int.pow_succ];grind
 ·have k1:18446744073709551616 ^ a * (val nw + 1)<=18446744073709551616 ^ a * V:=Int.mul_le_mul_of_nonneg_left (by omega) (Int.le_of_lt g);rw[b,hn,Int.mul_sub,Int.mul_comm V];rw[Int.mul_add] at k1;omega
theorem Br{U g o Z:Int}{x:Int}(hn:rB U V g)(l:V < 18446744073709551616 ^ n)(hx:x=U - V * g + 18446744073709551616 ^ n * o)(x1:x < 18446744073709551616 ^ n)(p:0<=U)(m:0<=o) :
  (o=0->x=U - g * V/\x < V)/\(o≠0->Z=(x + V * 1) % 18446744073709551616 ^ n->1<=g/\Z=U - (g - 1) * V/\Z < V):=by
 obtain⟨g0,g1,k,f⟩:=hn;rw[Int.sub_mul] at k;rw[Int.add_mul] at f;rw[Int.mul_comm V g] at hx;have d:=pow_pos n;constructor
 ·intro h; subst h; omega
 ·intro h i
  have k1:18446744073709551616 ^ n * 1<=18446744073709551616 ^ n * o:=Int.mul_le_mul_of_nonneg_left (by omega) (Int.le_of_lt d)
  have a:o=1:=by
   by_cases c:2<=o
   ·have k2:18446744073709551616 ^ n * 2<=18446744073709551616 ^ n * o:=Int.mul_le_mul_of_nonneg_left c (Int.le_of_lt d);omega
   ·omega
  subst a
  have b:U - g * V < 0:=by omega
  have j:1<=g:=by
   by_cases c:1<=g
   ·exact c
   ·have:g=0:=by omega
    subst this; omega
  have e:x + V * 1=(U - (g - 1) * V) + 18446744073709551616 ^ n * 1:=by rw[hx,Int.sub_mul]; omega
  rw[e,Int.add_mul_emod_self_left,Int.sub_mul,Int.emod_eq_of_lt (by omega) (by omega)] at i;rw[Int.sub_mul];exact⟨j,by omega,by omega⟩
theorem jE{P:Program}{a:Act}{Q:Exit->Act->World->Prop}{c rest:Code}(l:Nat)(J:Act->World->Prop)(μ:Act->World->Nat)(hf:findLabel c l=some (Code.skip.seq rest))(first:(∀ a w,J a w->rest.wp P (Exit.jump l J Q) a w)->c.wp P (Exit.jump l J Q) a w)(pass:∀ a w,J a w->rest.wp P (Exit.jump l (fun a' w'=>J a' w'/\μ a' w' < μ a w) Q) a w):(Code.scope c).wp P Q a w :=
 wp_scope_jumps l J μ hf (first fun a w b=>wp_mono (pass a w b) fun e a' w' h=>by
  cases e with
  | goto l'=>exact⟨h.1,h.2.1⟩
  | _=>exact h) fun a w b=>wp_seq (wp_skip (pass a w b))
theorem qD{l m a:List Int}(h:k + m.length<=l.length)(hm:a.length=m.length):patch (patch l k m) k a=patch l k a:=by
 have e:(l.take k).length=k:=by simp; omega
 unfold patch;rw[List.take_left' e,hm,<- List.append_assoc (l.take k) m,List.drop_left' (by simp; omega)]
theorem dB.below{B:Nat}{w':World}(h:Below B w w'){b o:Nat}(k:dB w b o n)(hb:b < B):dB w' b o n:=fun i hi=>by
 rw[World.frozen?_of_block (w:=w) (h.block b hb)]; exact k i hi
theorem mw(c s cu:Nat)(av:Option Addr)(k q0 cv bv ov:Nat)(lu z:List Int)(w:World)(X:lu.length=q0 + (k + 2))(P:z.length=k + 2)(hbig:k<=1099511627776)(hbigq:q0<=1099511627776)(hcu:q0 + (k + 2)<=cu)(hcv:k + 2<=cv)(wu:Words lu)(wv:Words z)(hu:At w (some ⟨c,s,none⟩) c s lu)(hfu:dB w c s (q0 + (k + 2)))(hv:At w av bv ov z)(W:bv≠c)(htop:9223372036854775808<=nth z (k + 1))(hval:val lu < val z * 18446744073709551616 ^ q0) :
  Calls Tryz.prog 115 #[.slice (some ⟨c,s,none⟩) (q0 + (k + 2)) cu,.slice av (k + 2) cv] w fun e w'=>∃ lq lr:List Int,e=.returned (.slice (some ⟨w.heap.size,0,none⟩) q0 q0)/\kT lu (val z) q0 k 0 lq lr/\At w' (some ⟨w.heap.size,0,none⟩) w.heap.size 0 lq/\dB w' w.heap.size 0 q0/\At w' (some ⟨c,s,none⟩) c s lr/\dB w' c s (q0 + (k + 2))/\Below c w w':=by
 go_enter Tryz.func115,Tryz.ntmps115;go_wp2;refine jE 0 (fun a' w'=>∃ (m:Nat) (lq j:List Int) (u8 u9 u10 u11 u12 u13 u14 u15 u16 u17 u18 u19 u20 u21 u22 u23 u24 u25 u26 u27 u28 u29 u30 u31 u32 u33 u34 u35 u36 u37 u38 u39 u40 u41 u42 u43 u44 u45 u46 u47 u48 u49 u50 u51 u52 u53 u54:Value),a'={ tmps:=#[.slice (some ⟨c,s,none⟩) (q0 + (k + 2)) cu,.slice av (k + 2) cv,undef,undef,.slice none 0 0,.int .i64 ((k:Int) + 2),.int .i64 (m:Int),.slice (some ⟨w.heap.size,0,none⟩) q0 q0,u8,u9,u10,u11,u12,u13,u14,u15,u16,u17,u18,u19,u20,u21,u22,u23,u24,u25,u26,u27,u28,u29,u30,u31,u32,u33,u34,u35,u36,u37,u38,u39,u40,u41,u42,u43,u44,u45,u46,u47,u48,u49,u50,u51,u52,u53,u54],defers:=[] }/\m<=q0/\kT lu (val z) q0 k m lq j/\At w' (some ⟨w.heap.size,0,none⟩) w.heap.size 0 lq/\dB w' w.heap.size 0 q0/\At w' (some ⟨c,s,none⟩) c s j/\dB w' c s (q0 + (k + 2))/\At w' av bv ov z/\w.heap.size < w'.heap.size/\Below c w w') (fun a' _=>(intOf (a'.tmps.getD 6 undef)).toNat) rfl ?_ ?_
 ·intro hpass;go_wp2_with (at_make; refine cV rfl _ _ rfl q0 _ _ rfl rfl (by omega) (by omega) (by omega) ?_; intro w1 aj E hsz);go_step3
  have I:c < w.heap.size:=by
   rcases hu.lt with e | e
   ·subst e; simp at X
   ·exact e
  have hI:kT lu (val z) q0 k q0 (List.replicate q0 0) lu:=⟨by simp,X,eC _,wu,by simp[val],hval⟩
  rename_i K hK;refine hK _ _ (hpass _ _ ⟨q0,List.replicate q0 0,lu,_,_,_,_,_,_,_,_,_,_,_,_,_,_,_,_,_,_,_,_,_,_,_,_,_,_,_,_,_,_,_,_,_,_,_,_,_,_,_,_,_,_,_,_,_,_,_,rfl,Nat.le_refl _,hI,aj.at,aj.free 0 q0,hu.keep E,dB.below E hfu I,hv.keep E,by omega,E.mono (Nat.le_of_lt I)⟩)
 ·rintro a' wr ⟨m,lq,j,u8,u9,u10,u11,u12,u13,u14,u15,u16,u17,u18,u19,u20,u21,u22,u23,u24,u25,u26,u27,u28,u29,u30,u31,u32,u33,u34,u35,u36,u37,u38,u39,u40,u41,u42,u43,u44,u45,u46,u47,u48,u49,u50,u51,u52,u53,u54,rfl,hm,hinv,hq,hfq,U,x,hv1,ai,hbl⟩;by_cases hm0:m=0
  ·subst hm0;go_wp2;rw[show ∀ J Q b w,Exit.jump 0 J Q .ret b w=Q .ret b w from fun _ _ _ _=>rfl];go_ret;exact⟨lq,j,rfl,hinv,hq,hfq,U,x,hbl⟩
  ·obtain⟨a,rfl⟩:∃ a,m=a + 1:=⟨m - 1,by omega⟩
   have q:=hinv.Bi;have o:=hinv.Bh
   have hk1:a + (k + 2) + 1 - a=k + 3:=by omega
   have hVB:=dx wv;rw[P] at hVB;obtain⟨p,hW2⟩:=hinv.fE (by omega) hVB;have an:=U.fE a (k + 3);have hfwin:=x.fE (k:=a) (m:=k + 3) (by omega)
   have F:((j.drop a).take (k + 3)).length=k + 3:=by simp; omega
   have ac:Words ((j.drop a).take (k + 3)):=(hinv.wu.drop a).take (k + 3);have R:=fun wx hx hy=>vQ (some ⟨c,s + a,none⟩) (k + 3) c (s + a) av k cv bv ov ((j.drop a).take (k + 3)) z wx F P (by omega) ac wv hx hy htop hW2
   have D:=fun d nw=>hinv.step (d:=d) (nw:=nw) (by omega) hVB
   have HH:=(show Hid _ from And.intro p (And.intro F (And.intro ac (And.intro q (And.intro o D)))))
   clear hinv p F ac q o D
   have e1:((a:Nat):Int) + 1 - 1=a:=by omega
   generalize hL:(j.drop a).take (k + 3)=L at *;go_wp2_with fail;rw[hk1];refine(R _ an hv1).mono ?_
   rintro e w2 ⟨g,rfl,u,E⟩;obtain⟨p,F,ac,q,o,D⟩:=HH.out
   have hsz2:w.heap.size < w2.heap.size:=Nat.lt_of_lt_of_le ai E.size
   have I:c < wr.heap.size:=by
    rcases U.lt with e | e
    ·subst e; simp at o
    ·exact e
   have HB2:=(show Hid _ from hbl.trans (E.mono (Nat.le_of_lt I)))
   clear hbl;have hq2:=hq.keep E;have T:=dB.below E hfq ai;have hu2:=U.keep E;have ak:=dB.below E x I;have hv2:=hv1.keep E;have hc:=hq2.cell a (by omega);have hf:=T a (by omega);rw[Nat.zero_add] at hc hf;clear R an;have hg0:=u.1;have hg1:=u.2.1;clear p F ac q o D hq hfq U x hv1;go_wp2_with fail
   have S:c≠w.heap.size:=by
    rcases hu.lt with e | e
    ·subst e; simp at X
    ·omega
   have ah:c<=w.heap.size:=by
    rcases hu.lt with e | e
    ·subst e; simp at X
    ·omega
   have hbv:bv≠w.heap.size:=by
    rcases hv.lt with e | e
    ·subst e; simp at P
    ·omega
   obtain⟨p,F,ac,q,o,D⟩:=HH.out
   have f:Wr w.heap.size 0 q0 w2 (w2.setCell ⟨w.heap.size,a,none⟩ (.int .u64 g)):=(Wr.refl _ _ _ _).setCell (by omega) (by omega) _;have hq3:=hq2.setCell (i:=a) (by omega) g;rw[Nat.zero_add] at hq3;generalize w2.setCell ⟨w.heap.size,a,none⟩ (.int .u64 g)=w3 at *;have am:=f.free T;have H:=f.free ak;have hu3:=hu2.wr f (.inr S);have hv3:=hv2.wr f (.inr hbv)
   have hsz3:w.heap.size < w3.heap.size:=by rw[f.size]; exact hsz2
   have v:=hu3.fE a (k + 3);rw[hL] at v;have y:=H.fE (k:=a) (m:=k + 3) (by omega);refine(iK (some ⟨c,s + a,none⟩) c (s + a) (k + 3) (k + 3) av bv ov (k + 2) cv g L z w3 F P (by omega) (by omega) (Nat.le_refl _) hcv hg0 hg1 ac wv v y hv3 (.inr W)).mono ?_
   rintro e w4 ⟨fN,rfl,ho0,ho1,nw,N,hnw,hat4,af,t⟩;have HB4:=(show Hid _ from(HB2.out.trans (f.below ah)).trans (af.below (Nat.le_refl _)))
   have A:=af.free am;have V:=af.free H;have Y:=hq3.wr af (.inr (Ne.symm S));have hv4:=hv3.wr af (.inr W);have hu4:=hu3.patch af hat4 N (by omega)
   have hsz4:w.heap.size < w4.heap.size:=by rw[af.size]; exact hsz3
   have hP:=fe (l:=j) (m:=nw) (k:=a) (by omega)
   have hVB3:val z < 18446744073709551616 ^ (k + 3):=by
    have:=pow_pos (k + 2);rw[Int.pow_succ _ (k + 2)]; omega
   have C:=dx hnw;rw[N] at C;have r:=fun Z=>Br (Z:=Z) (n:=k + 3) u hVB3 t C (aL ac) ho0
   clear f T ak hu2 hv2 hq2 am H hu3 hv3 v y af hq3;by_cases ho:fN=0
   ·subst ho;have hx:=(r 0).1 rfl;have hJ:=D g nw hg0 hg1 hnw N hx.1 hx.2;have HJ:=(show Hid _ from hJ)
    clear hJ hx r D HH p F ac q o t C hP;go_wp2_with fail;go_step3;refine And.intro (Eq.refl 0) (And.intro ?_ ?_)
    ·exact⟨a,lq.set a g,patch j a nw,_,_,_,_,_,_,_,_,_,_,_,_,_,_,_,_,_,_,_,_,_,_,_,_,_,_,_,_,_,_,_,_,_,_,_,_,_,_,_,_,_,_,_,_,_,_,_,rfl,by omega,HJ.out,Y,A,hu4,V,hv4,hsz4,HB4.out⟩
    ·simp[intOf]
   ·have hg1':1<=g:=((r ((val nw + val z * 1) % 18446744073709551616 ^ (k + 3))).2 ho rfl).1;have M:=Y.cell a (by simp; omega);have ao:=A a (by omega);rw[Nat.zero_add] at M ao;rw[dy (by omega),if_pos rfl] at M;have HN:=(show Hid _ from And.intro r (And.intro D (And.intro q (And.intro o (And.intro p (And.intro F (And.intro ac (And.intro hP N))))))))
    clear r D HH p F ac q o t C hP
    have hgw:IntKind.u64.wrap (g - 1)=g - 1:=by rw[IntKind.wrap_u64]; omega
    have hob:(fN == 0)=false:=by simpa using ho
    go_wp2_with fail;obtain⟨r,D,q,o,p,F,ac,hP,hnl'⟩:=HN.out
    have ae:Wr w.heap.size 0 q0 w4 (w4.setCell ⟨w.heap.size,a,none⟩ (.int .u64 (g - 1))):=(Wr.refl _ _ _ _).setCell (by omega) (by omega) _;have hq5:=Y.setCell (i:=a) (by simp; omega) (g - 1);rw[Nat.zero_add,List.set_set] at hq5;generalize w4.setCell ⟨w.heap.size,a,none⟩ (.int .u64 (g - 1))=w5 at *;have hfq5:=ae.free A;have G:=ae.free V;have hu5:=hu4.wr ae (.inr S);have hv5:=hv4.wr ae (.inr hbv);have al:=hat4.wr ae (.inr S)
    have hsz5:w.heap.size < w5.heap.size:=by rw[ae.size]; exact hsz4
    have B:=G.fE (k:=a) (m:=k + 3) (by omega);refine(eh (some ⟨c,s + a,none⟩) c (s + a) (k + 3) (k + 3) av bv ov (k + 2) cv 1 nw z w5 N P (by omega) (by omega) (Nat.le_refl _) hcv (by omega) (by omega) hnw wv al B hv5 (.inr W)).mono ?_
    rintro e w6 ⟨rfl,n2,ap,hnw6,hat6,ad,O⟩;have HB6:=(show Hid _ from(HB4.out.trans (ae.below ah)).trans (ad.below (Nat.le_refl _)))
    have hfq6:=ad.free hfq5;have hfu6:=ad.free G;have hq6:=hq5.wr ad (.inr (Ne.symm S));have hv6:=hv5.wr ad (.inr W);have hu6:=hu5.patch ad hat6 ap (by omega);rw[qD (by omega) (by omega)] at hu6
    have hsz6:w.heap.size < w6.heap.size:=by rw[ad.size]; exact hsz5
    have hx:=(r (val n2)).2 ho O;have HJ:=(show Hid _ from D (g - 1) n2 (by omega) (by omega) hnw6 ap hx.2.1 hx.2.2)
    clear hx r D HN p F ac q o hP ae hq5 hfq5 G hu5 hv5 al B ad Y A hu4 hv4 V O M ao;go_wp2_with fail;go_step3;refine And.intro (Eq.refl 0) (And.intro ?_ ?_)
    ·exact⟨a,lq.set a (g - 1),patch j a n2,_,_,_,_,_,_,_,_,_,_,_,_,_,_,_,_,_,_,_,_,_,_,_,_,_,_,_,_,_,_,_,_,_,_,_,_,_,_,_,_,_,_,_,_,_,_,_,rfl,by omega,HJ.out,hq6,hfq6,hu6,hfu6,hv6,hsz6,HB6.out⟩
    ·simp[intOf]
end
end
section
open Go.RowKit Lim
section
variable {l L:List Int}{k s:Nat}
theorem CW(wl:Words l){n:Nat}(hn:l.length=n + 1):nth l n * 18446744073709551616 ^ n<=val l/\val l < (nth l n + 1) * 18446744073709551616 ^ n:=by
 have e1:=bC l n (by omega);have b:=aL (wl.take n);have a:=dx (wl.take n);rw[List.length_take,Nat.min_eq_left (by omega)] at a;rw[dP (by omega),List.drop_of_length_le (show l.length<=n + 1 by omega)] at e1
 have e2:(18446744073709551616:Int) ^ n * (nth l n + 18446744073709551616 * val [])=nth l n * 18446744073709551616 ^ n:=by
  rw[show val []=0 from rfl]; grind
 rw[e2] at e1;rw[Int.add_mul (nth l n) 1];omega
theorem ff{a b p:Int}(hp:0 < p)(h:a * p < b * p):a < b:=Int.lt_of_mul_lt_mul_right h (Int.le_of_lt hp)
theorem tH{a:List Int}(j:Words L)(hL:L.length=k + 2)(c:Words a)(hv:a.length=k + 3)(hs:s<=63)(e:val a=val L * 2 ^ s)(b0:9223372036854775808<=nth L (k + 1) * 2 ^ s)(b1:nth L (k + 1) * 2 ^ s < 18446744073709551616):aE a=k + 2/\9223372036854775808<=nth a (k + 1):=by
 obtain⟨t1,t2⟩:=CW (n:=k + 1) j hL;obtain⟨p,q⟩:=CW (n:=k + 2) c hv
 have b:(0:Int) < 2 ^ s:=Int.pow_pos (by decide);have f:=pow_pos (k + 1);have hC:=pow_pos (k + 2)
 have c1:(nth L (k + 1) + 1) * 2 ^ s<=18446744073709551616:=by
  have h:(18446744073709551616:Int)=2 ^ (64 - s) * 2 ^ s:=by rw[<- Int.pow_add,show 64 - s + s=64 by omega]; rfl
  rw[h] at b1 ⊢;have:=ff b b1;exact Int.mul_le_mul_of_nonneg_right (by omega) (Int.le_of_lt b)
 have c2:val a < 1 * 18446744073709551616 ^ (k + 2):=by
  have k1:val L * 2 ^ s < (nth L (k + 1) + 1) * 18446744073709551616 ^ (k + 1) * 2 ^ s:=Int.mul_lt_mul_of_pos_right t2 b
  have k2:(nth L (k + 1) + 1) * 2 ^ s * 18446744073709551616 ^ (k + 1)<=18446744073709551616 * 18446744073709551616 ^ (k + 1):=Int.mul_le_mul_of_nonneg_right c1 (Int.le_of_lt f);rw[Int.mul_right_comm] at k1;rw[Int.pow_succ _ (k + 1),Int.mul_comm _ 18446744073709551616];omega
 have l:nth a (k + 2) < 1:=ff hC (by omega)
 have g:nth a (k + 2)=0:=by have:=c.nth (k + 2); omega
 have e1:=bC a (k + 2) (by omega);rw[dP (by omega),List.drop_of_length_le (show a.length<=k + 2 + 1 by omega),g,show val []=0 from rfl] at e1;obtain⟨v1,v2⟩:=CW (n:=k + 1) (c.take (k + 2)) (by simp; omega);rw[dr (by omega)] at v1 v2
 have m:9223372036854775808 * 18446744073709551616 ^ (k + 1)<=val a:=by
  have k1:nth L (k + 1) * 18446744073709551616 ^ (k + 1) * 2 ^ s<=val L * 2 ^ s:=Int.mul_le_mul_of_nonneg_right t1 (Int.le_of_lt b)
  have k2:9223372036854775808 * 18446744073709551616 ^ (k + 1)<=nth L (k + 1) * 2 ^ s * 18446744073709551616 ^ (k + 1):=Int.mul_le_mul_of_nonneg_right b0 (Int.le_of_lt f);rw[Int.mul_right_comm] at k1;omega
 have o:9223372036854775808 < nth a (k + 1) + 1:=ff f (by omega);refine⟨ju (by omega) ?_ ?_,by omega⟩
 ·intro i hi;by_cases d:i=k + 2
  ·subst d; exact g
  ·simp[nth,List.getElem?_eq_none (show a.length<=i by omega)]
 ·intro _;rw[show k + 2 - 1=k + 1 from rfl]; omega
theorem BH{N:Nat}(wl:Words l)(g:l.length=N)(e:Words L)(hL:L.length=k + 2)(c:1<=nth L (k + 1))(h:k + 2<=N) :
  val l * 2 ^ s < val L * 2 ^ s * 18446744073709551616 ^ (N + 1 - (k + 2)):=by
 obtain⟨t1,t2⟩:=CW (n:=k + 1) e hL
 have d:(0:Int) < 2 ^ s:=Int.pow_pos (by decide);have f:=pow_pos (k + 1);have a:=pow_pos (N + 1 - (k + 2));have b:=dx wl;rw[g] at b
 have k1:1 * 18446744073709551616 ^ (k + 1)<=nth L (k + 1) * 18446744073709551616 ^ (k + 1):=Int.mul_le_mul_of_nonneg_right c (Int.le_of_lt f)
 have k2:18446744073709551616 ^ (k + 1) * 18446744073709551616 ^ (N + 1 - (k + 2))<=val L * 18446744073709551616 ^ (N + 1 - (k + 2)):=Int.mul_le_mul_of_nonneg_right (by omega) (Int.le_of_lt a);rw[<- Int.pow_add,show k + 1 + (N + 1 - (k + 2))=N by omega] at k2;rw[Int.mul_right_comm];exact Int.mul_lt_mul_of_pos_right (by omega) d
theorem AJ{x V Q R P:Int}(d:0 < P)(h:0 < V)(e:x * P=Q * (V * P) + R)(r0:0<=R)(r1:R < V * P):Q=x / V/\R / P=x % V:=by
 have f:R=(x - Q * V) * P:=by rw[Int.sub_mul,e,Int.mul_assoc]; omega
 have c:R / P=x - Q * V:=by rw[f,Int.mul_ediv_cancel _ (by omega)]
 have j:0<=x - Q * V:=by rw[<- c]; exact Int.ediv_nonneg r0 (Int.le_of_lt d)
 have i:x - Q * V < V:=ff d (by rw[<- f]; exact r1);have g:=(Int.ediv_emod_unique (a:=x) (b:=V) (r:=x - Q * V) (q:=Q) h).2 ⟨by rw[Int.mul_comm V]; omega,j,i⟩;exact⟨g.1.symm,by rw[c]; exact g.2.symm⟩
theorem xu(ao:Option Addr)(n c b o:Nat)(ao':Option Addr)(n' c' b' o':Nat)(l d:List Int)(w:World)(hl:l.length=n)(hl':d.length=n')(hc:n<=c)(hc':n'<=c')(hbig:n<=1099511627776)(hbig':n'<=1099511627776)(wl:Words l)(x:Words d)(ha:At w ao b o l)(ha':At w ao' b' o' d)(hge:val d<=val l)(h2:2<=aE d) :
  Calls Tryz.prog 70 #[.slice ao n c,.slice ao' n' c'] w fun e w'=>jf w w' e (val l) (val d) n n':=by
 have h0:=aL wl;have hn:=bp l
 have hn':=bp d
 have hNN:aE d<=aE l:=by
  by_cases c:aE l < aE d
  ·have:=dA wl x c; omega
  ·omega
 have t1:=bh ao' n' c' d w hl' hc' (by omega) ha'.cells
 have y:=ha'.sub (aE d);rw[show d.take (aE d)=norm d from rfl] at y;have t2:=ic ao n c b o ao' (aE d) (aE d) b' o' l (norm d) w hl (aJ d) hc (Nat.le_refl _) (by omega) (by omega) wl x.norm ha y;rw[cU] at t2
 have hs0:0<=sgn (val l) (val d):=by unfold sgn; split<;>(try split)<;>omega
 have f:=aJ d
 have F:=x.norm
 have g:=cU d
 have htop:nth (norm d) (aE d - 1)≠0:=by rw[fW]; exact iD (by omega)
 generalize norm d=L' at *;generalize u:aE d=r at *;obtain⟨m,hm⟩:∃ m,r=m + 1:=⟨r - 1,by omega⟩
 rw[show r - 1=m by omega] at htop
 have hmi:(r:Int) - 1=m:=by omega
 have hmN:m < r:=by omega
 have hmN':(m:Int) < r:=by omega
 have hty:=F.nth m;rcases y.loc with e | rfl
 ·subst e; simp at f; omega
 generalize sgn (val l) (val d)=sg at *;have H1:=(show Hid _ from And.intro g (And.intro hm (And.intro f (And.intro hge (And.intro hl u)))))
 clear g hm f u;go_enter Tryz.func70,Tryz.ntmps70;go_wp2_with fail;refine t1.mono ?_
 rintro e w1 ⟨rfl,rfl⟩;go_wp2_with fail;refine t2.mono ?_
 rintro e w2 ⟨rfl,q⟩;have hcy:=(y.keep q).cell m (by rw[H1.out.2.2.1]; exact hmN);clear t1 t2;go_wp2_with fail;refine(DU (nth L' m) w2 (by omega) hty.2).mono ?_
 rintro e w3 ⟨s,rfl,hs,HS,rfl⟩;have ta:=bh ao n c l w3 hl hc (by omega) (ha.keep q).cells;have V:=(ha.keep q).sub (aE l);rw[show l.take (aE l)=norm l from rfl] at V;have M:=aJ l;have hwn:=wl.norm;have HV:=(show Hid _ from cU l)
 rw[hl] at hn;generalize norm l=L at *;generalize aE l=N at *;clear hcy;go_wp2_with fail;refine ta.mono ?_
 rintro e w4 ⟨rfl,rfl⟩;clear ta;go_wp2_with fail;refine(oD ao N N b o s L w4 M (Nat.le_refl _) (by omega) hs hwn V).mono ?_
 rintro e w5 ⟨lu,rfl,hlu,hwu,aa,hfu,ac,X,K⟩;have hs5:=(y.keep q).keep K;have HU:=(show Hid _ from And.intro hlu (And.intro X M))
 clear hlu X M;go_wp2_with fail;refine(oD (some ⟨b',o',none⟩) r r b' o' s L' w5 H1.out.2.2.1 (Nat.le_refl _) (by omega) hs F hs5).mono ?_
 rintro e w6 ⟨O,rfl,hlv,ab,H,hfv,hszv,G,B⟩;obtain⟨k,hk⟩:∃ k,k + 2=r:=⟨r - 2,by omega⟩
 obtain⟨q0,t⟩:∃ q0,q0 + (k + 2)=N + 1:=⟨N + 1 - (k + 2),by omega⟩
 obtain⟨g,hm,f,hge',Y,u⟩:=H1.out
 have hmk:m=k + 1:=by omega
 have A:=tH (k:=k) F (by omega) ab (by omega) hs G (by rw[<- hmk]; exact HS.out.1) (by rw[<- hmk]; exact HS.out.2);have P:=BH (s:=s) (N:=N) (k:=k) (l:=L) (L:=L') hwn HU.out.2.2 F (by omega) (by rw[<- hmk]; omega) (by omega);rw[<- HU.out.2.1,<- G,show N + 1 - (k + 2)=q0 by omega] at P;have tv:=bh (some ⟨w5.heap.size,0,none⟩) (r + 1) (r + 1) O w6 hlv (Nat.le_refl _) (by omega) H.cells;rw[A.1,hk] at tv;have hsv:=H.sub (aE O);rw[show O.take (aE O)=norm O from rfl] at hsv;have z:=aJ O;rw[A.1] at z;have Q:=mw w4.heap.size 0 (N + 1) (some ⟨w5.heap.size,0,none⟩) k q0 r w5.heap.size 0 lu (norm O) w6 (by rw[t]; exact HU.out.1) z (by omega) (by omega) (by omega) (by omega) hwu ab.norm (aa.keep B) (by rw[t]; exact dB.below B hfu ac) hsv (by omega) (by rw[fW]; exact A.2) (by rw[cU]; exact P);rw[t,hk,cU] at Q;have HK:=(show Hid _ from And.intro hk (And.intro t (And.intro G hmk)))
 have hq0n:q0<=N:=by omega
 clear g hm f u hk t hmk A P z G Y;go_wp2_with fail;refine tv.mono ?_
 rintro e w7 ⟨rfl,rfl⟩;clear tv;go_wp2_with fail;refine Q.mono ?_
 rintro e w8 ⟨lq,lr,rfl,C,hatq,hfq,T,S,hbd⟩;clear Q
 have D:lr.length=N + 1:=by rw[C.Bh]; exact HK.out.2.1
 have HD:=(show Hid _ from C)
 have I:=C.wu;clear C;go_wp2_with fail;refine(vT (some ⟨w4.heap.size,0,none⟩) w4.heap.size 0 (N + 1) (N + 1) s lr w8 D (by omega) (Nat.le_refl _) hs I T S).mono ?_
 rintro e w9 ⟨rfl,lz,v,hwz,J,p,E⟩;have hq9:=hatq.wr p (.inr (by omega));have R:=p.free hfq;have Z:=p.free S;have tq:=bh (some ⟨w7.heap.size,0,none⟩) q0 q0 lq w9 HD.out.Bi (Nat.le_refl _) (by omega) hq9.cells;have tr:=bh (some ⟨w4.heap.size,0,none⟩) (N + 1) (N + 1) lz w9 v (Nat.le_refl _) (by omega) J.cells;have hz1:=bp lz;have hz2:=bp lq;rw[HD.out.Bi] at hz2;rw[v] at hz1;have HX:=(show Hid _ from And.intro D (And.intro v E))
 clear D v E;go_wp2_with fail;refine tq.mono ?_
 rintro e w10 ⟨rfl,rfl⟩;go_wp2_with fail;refine tr.mono ?_
 rintro e w11 ⟨rfl,rfl⟩;clear tq tr;go_wp2;go_ret3;have hsq:=hq9.sub (aE lq);have hsz:=J.sub (aE lz);have j:=q.size;have hsz5:=K.size;have hsz7:=B.size
 have HB:Below w1.heap.size w1 w11:=(((q.trans (K.mono j)).trans (B.mono (by omega))).trans (hbd.mono j)).trans (p.below j);obtain⟨g,hm,f,hge',Y,u⟩:=H1.out;obtain⟨D,v,E⟩:=HX.out;have he:=HD.out.eq;have W:=HD.out.lt;rw[HU.out.2.1,HV.out,HK.out.2.2.1,g,Int.pow_zero,Int.one_mul,List.drop_zero] at he;rw[HK.out.2.2.1,g,Int.pow_zero,Int.mul_one] at W
 have hV:0 < val d:=by
  have:val d≠0:=fun e=>by have:=(bW x).2 e; omega
  have:=aL x;omega
 have U:=AJ (fM s hs).1 hV he (aL I) W;have i1:=b8 HD.out.wq;have i2:=b8 hwz;rw[U.1] at i1;rw[E,U.2] at i2;exact⟨_,_,norm lq,norm lz,rfl,dC.of (aJ lq).symm (Nat.le_refl _) (by omega) hsq (fun i hi=>R i (by omega)),dC.of (aJ lz).symm (Nat.le_refl _) j hsz (fun i hi=>Z i (by omega)),i1,i2,by rw[aJ]; omega,by rw[aJ]; omega,HB⟩
theorem vz(ao:Option Addr)(n c b o:Nat)(ao':Option Addr)(n' c' b' o':Nat)(l d:List Int)(w:World)(m:l.length=n)(j:d.length=n')(hc:n<=c)(i:n'<=c')(f:n<=1099511627776)(a:n'<=1099511627776)(wl:Words l)(g:Words d)(k:At w ao b o l)(h:At w ao' b' o' d)(p:val d≠0) :
  Calls Tryz.prog 70 #[.slice ao n c,.slice ao' n' c'] w fun e w'=>jf w w' e (val l) (val d) n n':=by
 by_cases r:val l < val d
 ·exact div_lt ao n c b o ao' n' c' b' o' l d w m j hc i f a wl g k h r
 ·have s:aE d≠0:=fun e=>p ((bW g).1 e)
  by_cases q:aE d=1
  ·exact div_one ao n c b o ao' n' c' b' o' l d w m j hc i f a wl g k h (by omega) q
  ·exact xu ao n c b o ao' n' c' b' o' l d w m j hc i f a wl g k h (by omega) (by omega)
theorem r9(ao:Option Addr)(n c b o:Nat)(ao':Option Addr)(n' c' b' o':Nat)(ad:Option Addr)(d J N O:Nat)(l j f:List Int)(w:World)(T:l.length=n)(E:j.length=n')(t:f.length=d)(hc:n<=c)(A:n'<=c')(K:d<=J)(M:n<=274877906944)(B:n'<=274877906944)(C:d<=274877906944)(wl:Words l)(y:Words j)(wd:Words f)(X:At w ao b o l)(I:At w ao' b' o' j)(D:At w ad N O f)(F:val f≠0) :
  Calls Tryz.prog 93 #[.slice ao n c,.slice ao' n' c',.slice ad d J] w fun e w'=>jf w w' e (val l * val j) (val f) (n + n') d:=by
 go_enter Tryz.func93,Tryz.ntmps93;go_wp2_with fail;refine(qt ao n c b o ao' n' c' b' o' l j w T E hc A (by omega) (by omega) wl y X I).mono ?_
 rintro e W ⟨v,r,rfl,m,L,hlen,x⟩;obtain⟨S,P,or',Z,rfl,H,V,g,_⟩:=m.is;have i:=D.keep x;have G:=x.size;have t2:=vz S r.length Z P or' ad d J N O r f W rfl t H K (by omega) (by omega) L.1 wd g i F;rw[L.2.2] at t2;go_wp2_with fail;refine t2.mono ?_
 rintro e w2 ⟨q,u,Y,Q,rfl,hq,hu,s,z,R,U,p⟩;go_wp2;go_ret3;exact⟨q,u,Y,Q,rfl,hq.mono G,hu.mono G,s,z,by omega,by omega,x.trans (p.mono G)⟩
end
end
section
open Go.RowKit Lim
section
variable {w:World}{B:Nat}{v:Value}{l l1:List Int}{c m c0:Int}
def ef(w:World)(B:Nat)(v:Value)(l:List Int):Prop:=w.ownsRow B 22 1 v l.length (l.map (Value.int .u64))
theorem ef.open(h:ef w B v l):∃ ao c,v=.slice ao l.length c/\l.length<=c/\c<=maxLen/\∃ g,(l=[]\/ao=some ⟨g,0,none⟩)/\B<=g/\At w ao g 0 l/\dB w g 0 l.length:=by
 obtain⟨_,a⟩:=h;rcases a with⟨rfl,h0⟩ | ⟨g,cap,cur,rfl,hB,hh,hle,hmx,hsz,htk⟩
 ·have e:l=[]:=List.eq_nil_of_length_eq_zero h0;subst e;exact⟨none,0,rfl,Nat.le_refl _,by decide,B,.inl rfl,Nat.le_refl _,⟨.inl rfl,fun i hi=>by simp at hi⟩,fun i hi=>by simp at hi⟩
 ·refine⟨some ⟨g,0,none⟩,cap,rfl,hle,hmx,g,.inr rfl,hB,⟨.inr rfl,fun i hi => ?_⟩,fun i hi => ?_⟩
  ·have e:cur.toList[i]? = some (.int .u64 (nth l i)):=by
    have b:(cur.toList.take (l.length * 1))[i]? = some (.int .u64 (nth l i)):=by
     rw[htk,List.getElem?_map,List.getElem?_eq_getElem hi,bS hi]; rfl
    rwa [Nat.mul_one,List.getElem?_take_of_lt hi] at b
   simp only[World.cell?,hh];simpa using e
  ·simp[World.frozen?,hh]
theorem ef.setCell(h:ef w B v l){c g:Nat}(hv:v=.slice (some ⟨g,0,none⟩) l.length c){i:Nat}(hi:i < l.length)(x:Int):ef (w.setCell ⟨g,0 + i,none⟩ (.int .u64 x)) B v (l.set i x):=by
 obtain⟨_,a⟩:=h;refine⟨by simp,?_⟩;rcases a with⟨rfl,h0⟩ | ⟨g',cap,cur,rfl,hB,hh,hle,hmx,hsz,htk⟩
 ·omega
 ·simp only[Value.slice.injEq,Option.some.injEq,Addr.mk.injEq,and_true,true_and] at hv;obtain⟨rfl,rfl⟩:=hv;right;refine⟨g',cap,cur.setIfInBounds i (.int .u64 x),by simp,hB,?_,by simpa using hle,hmx,by simpa using hsz,?_⟩
  ·simp only[World.setCell,Array.getElem?_modify,if_true,hh,Nat.zero_add];simp
  ·rw[List.length_set,Nat.mul_one] at *;rw[Array.toList_setIfInBounds,List.map_set,<- htk,List.take_set]
theorem ef.new{w':World}(h:ef w' w.heap.size v l):dC w w' v l:=by
 obtain⟨ao,c,rfl,hc,_,g,_,hg,hat,hf⟩:=h.open;exact⟨ao,g,0,c,rfl,hc,hg,hat,hf⟩
structure mU(l:List Int)(m c0:Int)(k:Nat)(l1:List Int)(c:Int):Prop where
 len:l1.length=l.length
 words:Words l1
 high:∀ i,k<=i->nth l1 i=nth l i
 val:Lim.val (l1.take k) + 18446744073709551616 ^ k * c=Lim.val (l.take k) * m + c0
theorem mU.step{a c':Int}{k:Nat}(h:mU l m c0 k l1 c)(g:k < l.length)(b:0<=a)(d:a < 18446744073709551616)(e:a + 18446744073709551616 * c'=nth l k * m + c):mU l m c0 (k + 1) (l1.set k a) c':=by
 have f:=h.len;refine⟨by simp[f],h.words.set k b d,fun i hi=>by rw[dy (by omega),if_neg (by omega)]; exact h.high i (by omega),?_⟩;have j:=h.val;rw[du (by simp[f]; omega),du g,List.take_set_of_le (Nat.le_refl _),dy (by omega),if_pos rfl,Int.pow_succ];have:18446744073709551616 ^ k * (a + 18446744073709551616 * c')=18446744073709551616 ^ k * (nth l k * m + c):=by rw[e]
 grind
theorem oJ(n:Nat)(w:World)(hn:n<=19):Calls Tryz.prog 161 #[.int .i64 n] w fun e w'=>e=.returned (.int .u64 (10 ^ n))/\w'=w:=by
 go_enter Tryz.func161,Tryz.ntmps161;go_wp2;go_loop [3,5] (fun f c=>∃ (k:Nat) (p:Int),k<=n/\c=.int .i64 k/\f=.int .u64 p/\Hid (p=10 ^ k)) (fun _ c=>n - (intOf c).toNat)
 case atStart=>exact⟨0,1,Nat.zero_le _,rfl,rfl,rfl⟩
 case round =>
  obtain⟨k,p,j,rfl,rfl,b⟩:=hrel;by_cases g:k < n
  ·have l:(1:Int)<=p:=by rw[b.out]; exact Int.pow_pos (by decide)
   have i:p<=1000000000000000000:=by
    rw[b.out];have:(10:Nat) ^ k<=10 ^ 18:=Nat.pow_le_pow_right (by decide) (by omega)
    have e:((10 ^ k:Nat):Int)=(10:Int) ^ k:=by rw[Int.natCast_pow]; rfl
    rw[<- e]; omega
   go_wp2;go_round
   case rel=>exact⟨k + 1,p * 10,by omega,by go_num,rfl,by show _=_; rw[Int.pow_succ,<- b.out]⟩
   case measure=>simp[intOf]; omega
  ·have d:k=n:=by omega
   subst d;go_wp2;go_ret;exact⟨kt b.out,rfl⟩
theorem wy(hc:c≠0):aE (l ++ [c])=(l ++ [c]).length:=by
 apply ju (Nat.le_refl _)
 ·intro i hi; exact fO hi
 ·intro _; rw[List.length_append,List.length_singleton,Nat.add_sub_cancel,bI (Nat.le_refl _),Nat.sub_self,cE]; exact hc
theorem sY{r:List Int}(wl:Words l)(wr:Words r)(hlen:r.length=l.length)(hv:val r=val l * m + c)(hm:0 < m)(hc:0<=c)(hn:aE l=l.length):aE r=r.length:=by
 have e:=bp r;by_cases f:l.length=0
 ·omega
 have h:=fx wl (by omega);have d:=hH wr;have b:=aL wl
 have g:val l * 1<=val l * m:=Int.mul_le_mul_of_nonneg_left (by omega) b;by_cases a:aE r < r.length
 ·have:=gS (show aE r<=aE l - 1 by omega);omega
 ·omega
theorem mU.fin(h:mU l m c0 l.length l1 c):Lim.val (l1 ++ [c])=Lim.val l * m + c0:=by
 have a:=h.val;rw[List.take_of_length_le (by rw[h.len]; exact Nat.le_refl _),List.take_of_length_le (Nat.le_refl _)] at a;rw[dY,eA,h.len]; exact a
theorem nP(B:Nat)(v:Value)(l:List Int)(m c0:Int)(w:World)(hB:B<=w.heap.size)(b:ef w B v l)(ay:l.length<=1099511627776)(wl:Words l)(al:0<=m)(aB:m < 18446744073709551616)(J:0<=c0)(aC:c0 < 18446744073709551616) :
  Calls Tryz.prog 206 #[v,.int .u64 m,.int .u64 c0] w fun e w'=>∃ v' r,e=.returned v'/\ef w' B v' r/\Words r/\val r=val l * m + c0/\r.length<=l.length + 1/\(aE l=l.length->0 < m->aE r=r.length)/\Below B w w':=by
 obtain⟨i0,hi,f,s,o⟩:=info_parts gI;obtain⟨M,cap,rfl,ax,G,g,N,Y,_,_⟩:=b.open
 have q:∃ n,n=l.length:=⟨_,rfl⟩
 obtain⟨n,hn⟩:=q
 have aA:n<=l.length:=by omega
 have Q:l.length<=n:=by omega
 have y:Hid (n=l.length):=hn;rw[<- hn] at b ay ax ⊢;clear hn;go_enter Tryz.func206,Tryz.ntmps206;go_wp2;go_loopw [2,13] (fun tc p wr=>∃ (k:Nat) (c:Int) (l1:List Int),k<=n/\p=.int .i64 k/\tc=.int .u64 c/\0<=c/\c < 18446744073709551616/\mU l m c0 k l1 c/\ef wr B (.slice M n cap) l1/\Below B w wr) (fun _ p _=>n - (intOf p).toNat)
 case atStart=>exact⟨0,c0,l,Nat.zero_le _,rfl,rfl,J,aC,⟨rfl,wl,fun _ _=>rfl,by simp[val]⟩,b,Below.refl _ _⟩
 case round =>
  clear b;obtain⟨k,c,l1,hk,rfl,rfl,F,ap,hinv,b,d⟩:=hrel;have H:=hinv.len;by_cases R:k < n
  ·rcases N with e | rfl
   ·subst e; simp at aA; omega
   obtain⟨V,c',O,_,_,z,ac,am,C,I⟩:=b.open;simp only[Value.slice.injEq] at O;obtain⟨rfl,e1,rfl⟩:=O
   have Z:z=g:=by
    rcases ac with e | e
    ·subst e; simp at e1; omega
    ·simpa using e.symm
   subst Z;have L:=C.cell k (by omega);have aF:=I k (by omega);rw[Nat.zero_add] at L aF;rw[hinv.high k (Nat.le_refl _)] at L;obtain⟨aD,x⟩:=wl.nth k
   have U:Hid (mU l m c0 k l1 c):=hinv
   have P:Hid (ef wr B (.slice (some ⟨z,0,none⟩) n cap) l1):=b
   have W:Hid (Below B w wr):=d
   have HE:Hid (n=l1.length):=e1;clear hinv b d C I ac e1 wl
   go_wp2_with (first
    | (go_at_call 89; refine(lG _ _ aD x al aB _).mono ?_; rintro e w' ⟨j,lo,rfl,T,E,h3,h4,h5,rfl⟩)
    | simp only[rR _ _ h3 F])
   have hxm:nth l k * m<=340282366920938463426481119284349108225:=by
    have:=Int.mul_le_mul (show nth l k<=18446744073709551615 by omega) (show m<=18446744073709551615 by omega) al (by decide);simpa using this
   have S:=h5.out
   have e5:(lo + c) % 18446744073709551616 + 18446744073709551616 * (j + (lo + c) / 18446744073709551616)=nth l k * m + c:=by omega
   have K:=P.out.setCell (c:=cap) (g:=z) (by rw[<- HE.out]) (i:=k) (by omega) ((lo + c) % 18446744073709551616);rw[Nat.zero_add] at K;go_roundw
   case rel=>exact⟨k + 1,_,_,by omega,by go_num,rfl,by omega,by omega,U.out.step (by omega) (Int.emod_nonneg _ (by decide)) (Int.emod_lt_of_pos _ (by decide)) e5,K,W.out.setCell am _⟩
   case measure=>simp[intOf]; omega
  ·have t:k=n:=by omega
   subst t
   have D:Hid (val (l1 ++ [c])=val l * m + c0):=by rw[y.out] at hinv; exact hinv.fin
   have ah:=hinv.words;by_cases hc:c=0
   ·subst hc;go_wp2;go_ret
    have A:val l1=val l * m + c0:=by rw[<- D.out,dY]; simp[val]
    refine⟨_,l1,rfl,b,ah,A,by omega,fun T E=>sY wl ah (by omega) A E J (by omega),d⟩
   ·have aG:(c != 0)=true:=by rw[bne_iff_ne]; exact hc
    have an:wr.ownsRow B 22 1 (.slice M k cap) k (l1.map (Value.int .u64)):=by have:=b; unfold ef at this; rwa [H,<- y.out] at this
    have hsz:=d.size;go_wp2_with (at_builtin; refine wpList_append_own _ rfl _ _ 30 rfl B 22 i0 (.int .u64 0) 1 8 fY hi f s o rfl (by decide) _ _ _ rfl (an.alloc _) ⟨wr.heap.size,0,none⟩ 1 1 [.int .u64 c] rfl rfl ?c1 ?c2 ?c3 ?c4 ?c5 ?_)
    case c1=>exact cell_one_new _ _ _
    case c2=>intro u hu; simp at hu; subst hu; rfl
    case c3=>unfold maxLen; omega
    case c4=>omega
    case c5=>simp; omega
    intro v' w1 aj ai _;go_wp2;go_ret
    have X:ef w1 B v' (l1 ++ [c]):=by
     unfold ef;rw[List.length_append,H,<- y.out,List.map_append]; exact aj
    refine⟨_,l1 ++ [c],rfl,X,ah.append (Words.cons F ap Words.nil),D.out,by simp; omega,fun _ _=>wy hc,?_⟩
    exact(d.alloc (by omega) _).grown ai (by simp; omega) (by
     intro g1 ae;rcases N with e | rfl
     ·subst e;rcases b.2 with⟨e2,_⟩ | ⟨g2,cap2,cur2,e2,hB2,_⟩
      ·rw[e2] at ae; simp[Value.ownBlock] at ae
      ·rw[e2] at ae; simp[Value.ownBlock] at ae; omega
     ·simp[Value.ownBlock] at ae; omega)
end
end
section
open Go.RowKit Lim
section
variable {w:World}{l:List Int}{ops:Array Oper}{rest:List Oper}
theorem ef.cell{B g n c:Nat}(h:ef w B (.slice (some ⟨g,0,none⟩) n c) l){i:Nat}(hi:i < l.length):w.cell? ⟨g,i,none⟩=some (.int .u64 (nth l i))/\w.frozen? ⟨g,i,none⟩=false:=by
 obtain⟨o,p,e,_,_,m,a,_,d,b⟩:=h.open;simp only[Value.slice.injEq] at e;obtain⟨rfl,_,_⟩:=e
 have k:m=g:=by
  rcases a with e | e
  ·subst e; simp at hi
  ·simpa using e.symm
 subst k;have j:=d.cell i hi;have f:=b i hi;rw[Nat.zero_add] at j f;exact⟨j,f⟩
theorem vR{o:Oper}{a:Act}{Q:Exit->Act->World->Prop}(h:o.guard=none)(l c:Operand)(e:o.op=Op.makeSlice 30 l c)(n m:Nat)(L C:Int)(k:a.eval l=.int .i64 L)(hc:a.eval c=.int .i64 C)(hL:L=(n:Int))(hC:C=(m:Int))(f:n<=m)(hn:m<=17592186044416)(j:∀ w',ef w' w.heap.size (.slice (some ⟨w.heap.size,0,none⟩) n m) (List.replicate n 0)->Below w.heap.size w w'->w'.heap.size=w.heap.size + 1->wpList Tryz.prog ops Q rest (a.put o.dst (.slice (some ⟨w.heap.size,0,none⟩) n m)) w') :
  wpList Tryz.prog ops Q (o :: rest) a w:=by
 obtain⟨i,hi,g,hs,hb⟩:=info_parts gI;refine wpList_plain h fun K d => ?_
 have b:=run_make (P:=Tryz.prog) w 30 22 i (.int .u64 0) fY hi g .i64 .i64 (n:Int) (m:Int) (by omega) (by omega) (by rw[hb]; omega) (by omega);subst hL;subst hC;unfold Oper.wp;simp only[execOp,e,k,hc];simp[b,Result.andThen];refine d _ _ (j _ ⟨by simp,.inr ⟨w.heap.size,m,((List.replicate m 0).map (Value.int .u64)).toArray,by simp,Nat.le_refl _,?_,by simpa using f,by unfold maxLen; omega,by simp,?_⟩⟩ ?_ ?_)
 ·show (w.heap.push _)[w.heap.size]? = _
  rw[Array.getElem?_push_size,hs,Nat.mul_one,re]
 ·simp; omega
 ·exact(Below.refl _ _).alloc (Nat.le_refl _) _
 ·simp
theorem xc(n:Nat)(w:World)(hn:n<=4096) :
  Calls Tryz.prog 165 #[.int .i64 n] w fun e w'=>∃ v r,e=.returned (.tuple #[v,.int .i64 0])/\dC w w' v r/\IsN r (10 ^ n)/\r.length<=n + 2/\Below w.heap.size w w':=by
 obtain⟨q,L⟩:∃ q:Nat,q=n / 19:=⟨_,rfl⟩
 obtain⟨t,C⟩:∃ t:Nat,t=n % 19:=⟨_,rfl⟩
 have B:(n:Int) / 19=q:=by omega
 have M:(n:Int) % 19=t:=by omega
 have J:t < 19:=by omega
 have I:Hid (n=19 * q + t):=by show _=_; omega
 have F:q<=n:=by omega
 clear L C
 have A:decide ((n:Int) < 0)=false:=by simp
 have G:decide (4096 < (n:Int))=false:=by simp; omega
 go_enter Tryz.func165,Tryz.ntmps165;go_wp2_with (at_make; refine vR rfl _ _ rfl 1 (q + 1) _ _ rfl rfl rfl (by omega) (by omega) (by omega) ?_; intro Q f ae ac; have x:=f.cell (i:=0) (by simp); obtain⟨K,z⟩:=x);have ai:=f.setCell (c:=q + 1) (g:=w.heap.size) rfl (i:=0) (by simp) 1;rw[show (List.replicate 1 (0:Int)).set 0 1=[1] from rfl,Nat.add_zero] at ai;have ap:=ae.setCell (p:=⟨w.heap.size,0,none⟩) (Nat.le_refl _) (.int .u64 1);clear f ae K z;go_loopw [4,19] (fun D j wr=>∃ (k:Nat) (l:List Int),k<=q/\j=.int .i64 k/\ef wr w.heap.size D l/\Words l/\Hid (aE l=l.length)/\Hid (val l=10 ^ (19 * k))/\l.length<=k + 1/\Below w.heap.size w wr) (fun _ j _=>q - (intOf j).toNat)
 case atStart=>exact⟨0,[1],Nat.zero_le _,rfl,ai,Words.cons (by decide) (by decide) Words.nil,rfl,rfl,by simp,ap⟩
 case round =>
  clear ai ap ac;obtain⟨k,l,S,rfl,hm,wl,s,hv,hlen,o⟩:=hrel;have ac:=o.size;by_cases y:k < q
  ·go_wp2_with (go_at_call 206; refine(nP w.heap.size _ l 10000000000000000000 0 _ ac hm (by omega) wl (by decide) (by decide) (by decide) (by decide)).mono ?_; rintro e O ⟨u,r,rfl,aj,al,b,ah,d,m⟩);have e1:=hv.out;have e2:=d s.out (by decide);go_roundw
   case rel=>exact⟨k + 1,r,by omega,by go_num,aj,al,e2,by show _=_; rw[b,e1,Int.add_zero,show 19 * (k + 1)=19 * k + 19 from by omega,Int.pow_add]; rfl,by omega,o.trans m⟩
   case measure=>simp[intOf]; omega
  ·have an:k=q:=by omega
   have P:Hid (k=q):=an;clear an
   have am:(0:Int) < 10 ^ t:=Int.pow_pos (by decide)
   have N:(10:Int) ^ t < 18446744073709551616:=by
    have:(10:Nat) ^ t<=10 ^ 18:=Nat.pow_le_pow_right (by decide) (by omega)
    have e:((10 ^ t:Nat):Int)=(10:Int) ^ t:=by rw[Int.natCast_pow]; rfl
    have e2:(10:Nat) ^ 18=1000000000000000000:=by decide
    omega
   have E:=oJ t wr (by omega);generalize hp:(10:Int) ^ t=p at *
   have H:Hid ((10:Int) ^ t=p):=hp;clear hp;go_wp2_with fail;refine E.mono ?_
   rintro e R ⟨rfl,rfl⟩;go_wp2_with fail;refine(nP w.heap.size _ l p 0 _ ac hm (by omega) wl (by omega) N (by decide) (by decide)).mono ?_
   rintro e O ⟨u,r,rfl,aj,al,b,ah,d,m⟩;have e1:=hv.out;have e2:=d s.out am
   have e3:val r=10 ^ n:=by rw[b,e1,Int.add_zero,I.out,Int.pow_add,H.out,P.out]
   clear b;go_wp2;go_ret2;exact⟨u,r,rfl,aj.new,⟨al,e2,e3⟩,by omega,o.trans m⟩
end
end
section
open Go.RowKit Lim
end
section
open Go.RowKit Lim
section
variable {w w':World}{ao:Option Addr}{b o:Nat}{l:List Int}
structure AtB(w:World)(ao:Option Addr)(b o:Nat)(l:List Int):Prop where
 loc:l=[]\/ao=some ⟨b,o,none⟩
 cell:∀ i,i < l.length->w.cell? ⟨b,o + i,none⟩=some (.int .u8 (nth l i))
theorem AtB.lt(k:AtB w ao b o l):l=[]\/b < w.heap.size:=by
 cases l with
 | nil=>exact .inl rfl
 | cons x l=>exact .inr (aI (k.cell 0 (by simp)))
theorem AtB.keep(h:Below w.heap.size w w')(k:AtB w ao b o l):AtB w' ao b o l :=
 ⟨k.loc,fun i hi=>by
  rcases k.lt with e | e
  ·subst e; simp at hi
  ·rw[h.cell (p:=⟨b,o + i,none⟩) e]; exact k.cell i hi⟩
theorem AtB.wr{n:Nat}(h:Wr b o n w w'){b' o':Nat}(k:AtB w ao b' o' l)(hb:l=[]\/b'≠b):AtB w' ao b' o' l :=
 ⟨k.loc,fun i hi=>by
  rcases hb with e | e
  ·subst e; simp at hi
  ·rw[h.other e]; exact k.cell i hi⟩
theorem AtB.setCell(k : AtB w ao b o l){i:Nat}(hi : i < l.length)(x : Int) : AtB (w.setCell ⟨b, o + i, none⟩ (.int .u8 x)) ao b o (l.set i x) :=
  ⟨by rcases k.loc with e | e
      · subst e; simp at hi
      · exact .inr e, fun j g => by
    rw[List.length_set] at g;have hc := k.cell j g;rw[dy hi];have a := k.cell i hi;simp only[World.cell?, World.setCell, Array.getElem?_modify, if_true] at hc a ⊢
    cases hh : w.heap[b]? with
    | none => rw[hh] at hc; simp at hc
    | some ob =>
      rw[hh] at hc a
      cases ob with
      | cells c e f =>
        simp at hc a ⊢;rw[Array.getElem?_setIfInBounds];by_cases e : j = i
        · subst e
          obtain⟨d, _⟩:= Array.getElem?_eq_some_iff.1 a;simp[d]
        · rw[if_neg (by omega), if_neg e]; exact hc
      | _ => simp at hc⟩
structure CY(w w':World)(v:Value)(l:List Int):Prop where
 is:∃ ao b o c,v=.slice ao l.length c/\l.length<=c/\w.heap.size<=b/\AtB w' ao b o l/\dB w' b o l.length
def a7(l:List Int):Prop:=∀ x∈l,0<=x/\x < 256
theorem a7.nth(h:a7 l)(i:Nat):0<=nth l i/\nth l i < 256:=by
 by_cases hi:i < l.length
 ·exact h _ (lC hi)
 ·rw[fO (by omega)]; decide
def bO:List Int->Int
 | []=>0
 | x :: l=>x * 256 ^ l.length + bO l
theorem bL(h:a7 l):0<=bO l/\bO l < 256 ^ l.length:=by
 induction l with
 | nil=>simp[bO]
 | cons x l ih =>
  have d:=ih (fun y hy=>h y (List.mem_cons_of_mem _ hy));have b:=h x List.mem_cons_self
  have a:(0:Int) < 256 ^ l.length:=Int.pow_pos (by decide)
  have c:0<=x * 256 ^ l.length:=Int.mul_nonneg b.1 (Int.le_of_lt a)
  have e:x * 256 ^ l.length<=255 * 256 ^ l.length:=Int.mul_le_mul_of_nonneg_right (by omega) (Int.le_of_lt a);rw[bO,List.length_cons,Int.pow_succ]; omega
def IsB(l:List Int)(n:Int):Prop:=a7 l/\(l≠[]->nth l 0≠0)/\bO l=n
theorem lQ:∀ {a b:List Int},a7 a->a7 b->a.length=b.length->bO a=bO b->a=b
 | [],[],_,_,_,_=>rfl
 | x :: a,y :: b,ha,hb,hl,hv=>by
  have ha':a7 a:=fun z g=>ha z (List.mem_cons_of_mem _ g)
  have f:a7 b:=fun z g=>hb z (List.mem_cons_of_mem _ g)
  have d:a.length=b.length:=by simpa using hl
  have i:=bL ha';have j:=bL f;rw[bO,bO,d] at hv;rw[d] at i
  have h:(0:Int) < 256 ^ b.length:=Int.pow_pos (by decide)
  have e:x=y:=by
   rcases Int.lt_trichotomy x y with c | c | c
   ·have:(x + 1) * 256 ^ b.length<=y * 256 ^ b.length:=Int.mul_le_mul_of_nonneg_right (by omega) (Int.le_of_lt h);rw[Int.add_mul] at this; omega
   ·exact c
   ·have:(y + 1) * 256 ^ b.length<=x * 256 ^ b.length:=Int.mul_le_mul_of_nonneg_right (by omega) (Int.le_of_lt h);rw[Int.add_mul] at this; omega
  subst e;rw[lQ ha' f d (by omega)]
theorem u5(h:a7 l)(c:l≠[])(b:nth l 0≠0):256 ^ (l.length - 1)<=bO l:=by
 cases l with
 | nil=>exact absurd rfl c
 | cons x l =>
  rw[cE] at b;have f:=h x List.mem_cons_self;have e:=bL (l:=l) (fun z a=>h z (List.mem_cons_of_mem _ a))
  have d:(0:Int) < 256 ^ l.length:=Int.pow_pos (by decide);have:1 * 256 ^ l.length<=x * 256 ^ l.length:=Int.mul_le_mul_of_nonneg_right (by omega) (Int.le_of_lt d);rw[bO,List.length_cons,Nat.add_sub_cancel]; omega
theorem gU{a:Nat}(h:a<=b):(256:Int) ^ a<=256 ^ b:=by
 have:(256:Nat) ^ a<=256 ^ b:=Nat.pow_le_pow_right (by decide) h
 have e1:((256 ^ a:Nat):Int)=(256:Int) ^ a:=by rw[Int.natCast_pow]; rfl
 have e2:((256 ^ b:Nat):Int)=(256:Int) ^ b:=by rw[Int.natCast_pow]; rfl
 omega
theorem mX{a b:List Int}{n:Int}(c:IsB a n)(hb:IsB b n):a=b:=by
 apply lQ c.1 hb.1
 ·have key:∀ {a b:List Int},IsB a n->IsB b n->¬ a.length < b.length:=by
   intro a b c hb d;have f:=(bL c.1).2;have g:=u5 hb.1 (fun e=>by subst e; simp at d) (hb.2.1 (fun e=>by subst e; simp at d));rw[c.2.2] at f;rw[hb.2.2] at g;have:=gU (show a.length<=b.length - 1 by omega);omega
  have f:=key c hb;have g:=key hb c;omega
 ·rw[c.2.2,hb.2.2]
end
end
section
open Go.RowKit Lim
section
variable {l:List Int}{i:Nat}
theorem bpow(k:Nat):(18446744073709551616:Int) ^ k=((2 ^ (64 * k):Nat):Int):=by
 rw[Nat.pow_mul,Int.natCast_pow]; rfl
theorem zh(wl:Words l)(hn:aE l≠0):bitLen (val l).toNat=64 * (aE l - 1) + bitLen (nth l (aE l - 1)).toNat:=by
 have g:=aL wl;have hs:=bC (norm l) (aE l - 1) (by rw[aJ]; omega)
 have d:(norm l).drop (aE l - 1)=[nth l (aE l - 1)]:=by
  apply lg
  ·simp[aJ]; omega
  ·intro i hi;simp[aJ] at hi;have:i=0:=by omega
   subst this;rw[dF,fW,cE]; rfl
 rw[d,eA,cU] at hs;have c:=dx (wl.norm.take (aE l - 1));have e:=aL (wl.norm.take (aE l - 1));rw[List.length_take,aJ,Nat.min_eq_left (by omega)] at c;have f:=wl.nth (aE l - 1);have h:=iD hn;generalize nth l (aE l - 1)=x at *;generalize val ((norm l).take (aE l - 1))=y at *;generalize aE l - 1=k at *;rw[bpow] at hs c;obtain⟨x,rfl⟩:=Int.eq_ofNat_of_zero_le f.1;obtain⟨y,rfl⟩:=Int.eq_ofNat_of_zero_le e;obtain⟨v,hv⟩:=Int.eq_ofNat_of_zero_le g;rw[hv] at hs ⊢
 have b:v / 2 ^ (64 * k)=x:=by
  have a:v=y + 2 ^ (64 * k) * x:=by
   have:(v:Int)=((y + 2 ^ (64 * k) * x:Nat):Int):=by rw[hs,Int.natCast_add,Int.natCast_mul]
   exact Int.ofNat.inj this
  rw[a,Nat.add_mul_div_left _ _ (Nat.two_pow_pos _),Nat.div_eq_of_lt (by omega),Nat.zero_add]
 rw[Int.toNat_natCast,Int.toNat_natCast,bitLen_shift v (64 * k) (by rw[b]; omega),b]
theorem rH(ao:Option Addr)(n c b o:Nat)(l:List Int)(w:World)(r:l.length=n)(hc:n<=c)(i:n<=1099511627776)(wl:Words l)(f:At w ao b o l) :
  Calls Tryz.prog 55 #[.slice ao n c] w fun e w'=>e=.returned (.int .i64 (bitLen (val l).toNat))/\Below w.heap.size w w':=by
 have hn:=bp l;have t1:=bh ao n c l w r hc (by omega) f.cells;by_cases d:aE l=0
 ·rw[d] at t1
  have hv:(val l).toNat=0:=by rw[(bW wl).1 d]; rfl
  rw[hv,show bitLen 0=0 from rfl];go_enter Tryz.func55,Tryz.ntmps55;go_wp2_with fail;refine t1.mono ?_
  rintro e s ⟨rfl,rfl⟩;go_wp2_with fail;go_ret;exact⟨rfl,Below.refl _ _⟩
 ·have m:=zh wl d;have hx:=wl.nth (aE l - 1);have j:=f.cell (aE l - 1) (by omega);have g:=gP (n:=(nth l (aE l - 1)).toNat) (by omega);have t2:=fun q=>Eb (nth l (aE l - 1)) q hx.1 hx.2
  rcases f.loc with e | rfl
  ·subst e; simp[aE] at d
  rw[m];generalize nth l (aE l - 1)=x at *;generalize bitLen x.toNat=L at *;clear m f;obtain⟨k,p⟩:∃ k,aE l=k + 1:=⟨aE l - 1,by omega⟩
  rw[p] at t1 j hn ⊢;rw[Nat.add_sub_cancel] at j ⊢;clear p d
  have t:(k:Int) < (k:Int) + 1:=by omega
  go_enter Tryz.func55,Tryz.ntmps55;go_wp2_with fail;refine t1.mono ?_
  rintro e s ⟨rfl,rfl⟩;clear t1;go_wp2_with fail;refine(t2 _).mono ?_
  rintro e u ⟨rfl,rfl⟩;go_wp2;go_ret;exact⟨kt (by omega),Below.refl _ _⟩
theorem yk:IsN [] 0:=⟨Words.nil,rfl,rfl⟩
structure yF(lb:List Int)(m k:Nat)(lz:List Int):Prop where
 len:lz.length=m
 words:Words lz
 val:Lim.val lz=bO (lb.drop (lb.length - k))
theorem nQ(h:i < l.length):bO (l.drop i)=nth l i * 256 ^ (l.length - 1 - i) + bO (l.drop (i + 1)):=by
 rw[List.drop_eq_getElem_cons h,bO,bS h,List.length_drop,show l.length - (i + 1)=l.length - 1 - i from by omega]
theorem a7.drop(h:a7 l)(k:Nat):a7 (l.drop k):=fun x hx=>h x (List.mem_of_mem_drop hx)
theorem Bg(h:i < l.length)(x:Int):val (l.set i x)=val l + 18446744073709551616 ^ i * (x - nth l i):=by
 have e1:=bC (l.set i x) i (by simp; omega);have e2:=bC l i (by omega);rw[List.take_set_of_le (Nat.le_refl _),List.drop_set,if_neg (by omega),Nat.sub_self] at e1;rw[List.drop_eq_getElem_cons h,List.set_cons_zero,val] at e1;rw[List.drop_eq_getElem_cons h,val] at e2;rw[e1,e2,bS h]; grind
theorem Bv(wl:Words l)(h:i < l.length){P:Int}(e:val l < 18446744073709551616 ^ i * P):nth l i < P:=by
 have e2:=bC l i (by omega);rw[List.drop_eq_getElem_cons h,val] at e2;have d:=aL (wl.take i);have f:=aL (wl.drop (i + 1));have a:=pow_pos i
 have c:0<=18446744073709551616 ^ i * (18446744073709551616 * val (l.drop (i + 1))):=Int.mul_nonneg (Int.le_of_lt a) (by omega);rw[Int.mul_add] at e2
 have b:18446744073709551616 ^ i * nth l i < 18446744073709551616 ^ i * P:=by rw[bS h]; omega
 exact Int.lt_of_mul_lt_mul_left b (Int.le_of_lt a)
theorem j3(k:Nat):(256:Int) ^ k=18446744073709551616 ^ (k / 8) * 2 ^ (8 * (k % 8)):=by
 have e:(18446744073709551616:Int)=256 ^ 8:=by decide
 have e2:(2:Int) ^ (8 * (k % 8))=256 ^ (k % 8):=by rw[Int.pow_mul]; rfl
 rw[e,e2,<- Int.pow_mul,<- Int.pow_add]; congr 1; omega
theorem Cf{lb lz:List Int}{m k:Nat}(hb:a7 lb)(hm:(lb.length + 7) / 8=m)(h:yF lb m k lz)(n:k < lb.length) :
  bits .or .u64 (nth lz (k / 8)) (IntKind.u64.wrap (nth lb (lb.length - 1 - k) * 2 ^ (8 * (k % 8))))=nth lz (k / 8) + nth lb (lb.length - 1 - k) * 2 ^ (8 * (k % 8)) /\
  yF lb m (k + 1) (lz.set (k / 8) (nth lz (k / 8) + nth lb (lb.length - 1 - k) * 2 ^ (8 * (k % 8)))):=by
 have g:=h.len;have hx:=hb.nth (lb.length - 1 - k);have c:=bL (hb.drop (lb.length - k));rw[List.length_drop,show lb.length - (lb.length - k)=k from by omega] at c;have hv:=h.val;have b:=h.words.nth (k / 8);have d:=Bv h.words (i:=k / 8) (by omega) (P:=2 ^ (8 * (k % 8))) (by rw[<- j3,hv]; exact c.2)
 have hS:(0:Int) < 2 ^ (8 * (k % 8)):=Int.pow_pos (by decide)
 have j:(2:Int) ^ (8 * (k % 8)) * 256<=18446744073709551616:=by
  have:(2:Nat) ^ (8 * (k % 8))<=2 ^ 56:=Nat.pow_le_pow_right (by decide) (by omega)
  have e:((2 ^ (8 * (k % 8)):Nat):Int)=(2:Int) ^ (8 * (k % 8)):=by rw[Int.natCast_pow]; rfl
  have e2:(2:Nat) ^ 56=72057594037927936:=by decide
  omega
 have a:0<=nth lb (lb.length - 1 - k) * 2 ^ (8 * (k % 8)):=Int.mul_nonneg hx.1 (Int.le_of_lt hS)
 have f:nth lb (lb.length - 1 - k) * 2 ^ (8 * (k % 8))<=255 * 2 ^ (8 * (k % 8)):=Int.mul_le_mul_of_nonneg_right (by omega) (Int.le_of_lt hS);constructor
 ·rw[IntKind.wrap_u64,Int.emod_eq_of_lt a (by omega)];rw[u64_or _ _ b.1 b.2 a (by omega),Nat.or_comm,<- u64_or _ _ a (by omega) b.1 b.2];rw[ql _ _ (8 * (k % 8)) _ rfl hx.1 (by omega) b.1 d b.2,Int.add_comm]
 ·refine⟨by simp[g],h.words.set _ (by omega) (by omega),?_⟩;rw[Bg (by omega),hv,show lb.length - (k + 1)=lb.length - 1 - k from by omega,nQ (l:=lb) (i:=lb.length - 1 - k) (by omega),show lb.length - 1 - k + 1=lb.length - k from by omega,show lb.length - 1 - (lb.length - 1 - k)=k from by omega,j3 k];grind
theorem Cv(ao:Option Addr)(n c b o:Nat)(lb:List Int)(w:World)(g:lb.length=n)(hn:0 < n)(d:AtB w ao b o lb)(f:nth lb 0=0) :
  Calls Tryz.prog 256 #[.slice ao n c] w fun e w'=>e=.returned (.tuple #[.slice none 0 0,.int .i64 13])/\w'=w:=by
 rcases d.loc with e | rfl
 ·subst e; simp at g; omega
 have hc:=d.cell 0 (by omega);rw[f,Nat.add_zero] at hc;go_enter Tryz.func256,Tryz.ntmps256;go_wp2;go_ret2;exact⟨rfl,rfl⟩
theorem AR(ao:Option Addr)(n c b o:Nat)(lb:List Int)(w:World)(E:lb.length=n)(P:n<=1099511627776)(D:a7 lb)(B:AtB w ao b o lb)(O:0 < n->nth lb 0≠0) :
  Calls Tryz.prog 256 #[.slice ao n c] w fun e w'=>∃ v r,e=.returned (.tuple #[v,.int .i64 0])/\dC w w' v r/\IsN r (bO lb)/\r.length<=n/\Below w.heap.size w w':=by
 obtain⟨m,hm⟩:∃ m:Nat,((n:Int) + 7) / 8=m:=⟨(n + 7) / 8,by omega⟩
 have hm2:m<=n:=by omega
 have C:lb=[]\/b≠w.heap.size:=by
  rcases B.lt with e | e
  ·exact .inl e
  ·exact .inr (by omega)
 by_cases hn:0 < n
 ·rcases B.loc with e | rfl
  ·subst e; simp at E; omega
  have hc:=B.cell 0 (by omega);rw[Nat.add_zero] at hc
  have s:(nth lb 0 == 0)=false:=beq_eq_false_iff_ne.2 (O hn)
  have l:nth lb 0≠0:=O hn;have U:=(show Hid _ from l)
  clear l O;go_enter Tryz.func256,Tryz.ntmps256;go_wp2_with (at_make; refine cV rfl _ _ rfl m _ _ rfl rfl (by omega) (by omega) (by omega) ?_; intro Q p y L);have f:=B.keep y;clear hc s;go_loopw [22] (fun G wr=>∃ (k:Nat) (d:List Int),k<=n/\G=.int .i64 k/\yF lb m k d/\At wr (some ⟨w.heap.size,0,none⟩) w.heap.size 0 d/\Wr w.heap.size 0 m Q wr) (fun G _=>n - (intOf G).toNat)
  case atStart=>exact⟨0,_,Nat.zero_le _,rfl,⟨by simp,eC _,by rw[Nat.sub_zero,List.drop_length,fk fun i=>by simp[nth,List.getElem?_replicate]; split<;>rfl]; rfl⟩,p.at,Wr.refl _ _ _ _⟩
  case round =>
   obtain⟨k,d,hk,rfl,hinv,g,ac⟩:=hrel;have hlen:=hinv.len;by_cases R:k < n
   ·obtain⟨i,hi⟩:∃ i:Nat,(k:Int) / 8=i:=⟨k / 8,by omega⟩
    obtain⟨j,hj⟩:∃ j:Nat,(k:Int) % 8=j:=⟨k % 8,by omega⟩
    obtain⟨h,hh⟩:∃ h:Nat,(n:Int) - 1 - k=h:=⟨n - 1 - k,by omega⟩
    have W:(i:Int) < m:=by omega
    have hh1:(h:Int) < n:=by omega
    have hj1:j < 8:=by omega
    have s:=g.cell i (by omega);have Z:=(f.wr ac C).cell h (by omega);have F:=ac.free (p.free 0 m) i (by omega);rw[Nat.zero_add] at s F;have A:=Cf D (m:=m) (by omega) hinv (by omega);rw[show k / 8=i from by omega,show k % 8=j from by omega,show lb.length - 1 - k=h from by omega] at A;obtain⟨u,q⟩:=A;have HS:=(show Hid _ from q)
    have HA:=(show Hid _ from g)
    have HW:=(show Hid _ from ac)
    have T:=D.nth h;clear q g ac hinv p f D;generalize nth d i=z at *;generalize nth lb h=x at *;go_wp2_with fail;go_region;go_wp2;rw[Nat.mul_comm j 8,u];refine⟨⟨k + 1,_,by omega,by go_num,HS.out,?_,?_⟩,by simp[intOf]; omega⟩
    ·have:=(HA.out.setCell (i:=i) (by omega) (z + x * 2 ^ (8 * j))).drew;rwa [Nat.zero_add] at this
    ·exact(HW.out.setCell (by omega) (by omega) _).drew
   ·have K:k=n:=by omega
    subst K;have hv:=hinv.val;rw[<- E,Nat.sub_self,List.drop_zero] at hv;have M:=ac.free (p.free 0 m);have Y:=y.trans (ac.below (Nat.le_refl _));have N:=bL D;have J:=u5 D (fun e=>by subst e; simp at E; omega) U.out
    have t:aE d=d.length:=by
     have h1:=bp d;by_cases c:aE d < d.length
     ·have X:=hH hinv.words;have h3:=gS (show aE d<=m - 1 by omega)
      have h4:(18446744073709551616:Int) ^ (m - 1)<=256 ^ (lb.length - 1):=by
       rw[show (18446744073709551616:Int)=256 ^ 8 from by decide,<- Int.pow_mul];exact gU (by omega)
      rw[hv] at X;omega
     ·omega
    have V:IsN d (bO lb):=⟨hinv.words,t,hv⟩
    clear hinv p ac y f hv N J t;go_wp2;go_ret2;exact⟨_,d,rfl,dC.of hlen.symm (Nat.le_refl _) (Nat.le_refl _) g M,V,by omega,Y⟩
 ·have H:n=0:=by omega
  subst H
  have S:lb=[]:=List.eq_nil_of_length_eq_zero E;subst S
  have I:m=0:=by omega
  subst I;clear hm B C;go_enter Tryz.func256,Tryz.ntmps256;go_wp2_with (at_make; refine cV rfl _ _ rfl 0 _ _ rfl rfl (by omega) (by omega) (by omega) ?_; intro Q p y L);refine wp_loop_rounds 1 ?_
  rw[rounds_succ];go_wp2;go_ret2;exact⟨_,[],rfl,dC.of rfl (Nat.le_refl _) (Nat.le_refl _) p.at (p.free _ _),yk,by simp,y⟩
end
end
section
open Go.RowKit Lim
theorem zu {a b:Nat} (h:a<=b):(10:Int) ^ a<=10 ^ b:=by
 have:(10:Nat) ^ a<=10 ^ b:=Nat.pow_le_pow_right (by decide) h
 have e1:((10 ^ a:Nat):Int)=(10:Int) ^ a:=by rw[Int.natCast_pow]; rfl
 have e2:((10 ^ b:Nat):Int)=(10:Int) ^ b:=by rw[Int.natCast_pow]; rfl
 omega
end
section
open Go.RowKit Lim
end
section
open Go.RowKit Lim
section
variable {w w':World}{ao ao':Option Addr}{n c n' c' g:Nat}{x y:Int}{v:Value}{r l:List Int}{fn:Func}{p:Tmp}{tmps:Array Value}
structure aV(w:World)(ao:Option Addr)(n c:Nat)(x:Int):Prop where
 ex:∃ b o l,l.length=n/\n<=c/\Words l/\At w ao b o l/\val l=x
structure dX(w:World)(ao:Option Addr)(n c:Nat)(x:Int):Prop where
 ex:∃ b o l,l.length=n/\n<=c/\IsN l x/\At w ao b o l
theorem dX.a(h:dX w ao n c x):aV w ao n c x:=by
 obtain⟨b,o,l,h1,h2,h3,h4⟩:=h.ex;exact⟨b,o,l,h1,h2,h3.1,h4,h3.2.2⟩
theorem aV.keep(h:aV w ao n c x)(hb:Below w.heap.size w w'):aV w' ao n c x:=by
 obtain⟨b,o,l,h1,h2,h3,h4,h5⟩:=h.ex;exact⟨b,o,l,h1,h2,h3,h4.keep hb,h5⟩
theorem dX.keep(h:dX w ao n c x)(hb:Below w.heap.size w w'):dX w' ao n c x:=by
 obtain⟨b,o,l,h1,h2,h3,h4⟩:=h.ex;exact⟨b,o,l,h1,h2,h3,h4.keep hb⟩
theorem aV.oY(h:aV w ao n c x):0<=x:=by
 obtain⟨b,o,l,h1,h2,h3,h4,h5⟩:=h.ex;rw[<- h5]; exact aL h3
theorem dX.eqv(h:dX w ao n c x)(e:x=y):dX w ao n c y:=e▸h
theorem Ag(w:World):dX w none 0 0 0:=⟨0,0,[],rfl,Nat.le_refl _,jw,.inl rfl,fun i hi=>by simp at hi⟩
theorem dC.o(h:dC w w' v r)(hI:IsN r x):∃ a c,v=.slice a r.length c/\dX w' a r.length c x:=by
 obtain⟨ao,b,o,c,e,h1,h2,h3,h4⟩:=h.is;exact⟨ao,c,e,b,o,r,rfl,h1,hI,h3⟩
theorem aj{wa:World}(b:Below w.heap.size w wa)(h:Below wa.heap.size wa w'):Below w.heap.size w w':=b.trans (h.mono b.size)
theorem nMul(h:aV w ao n c x)(E:aV w ao' n' c' y)(hn:n<=1099511627776)(f:n'<=1099511627776) :
  Calls Tryz.prog 24 #[.slice ao n c,.slice ao' n' c'] w fun e w'=>∃ a k d,e=.returned (.slice a k d)/\dX w' a k d (x * y)/\k<=n + n'/\Below w.heap.size w w':=by
 obtain⟨b,o,l,B,u,A,C,rfl⟩:=h.ex;obtain⟨D,s,t,p,g,m,j,rfl⟩:=E.ex;refine(qt ao n c b o ao' n' c' D s l t w B p u g hn f A m C j).mono ?_
 rintro e w' ⟨v,r,rfl,i,z,hlen,F⟩;obtain⟨a,d,rfl,q⟩:=i.o z;exact⟨a,_,d,rfl,q,hlen,F⟩
theorem nCmp(h:aV w ao n c x)(s:aV w ao' n' c' y)(hn:n<=1099511627776)(a:n'<=1099511627776) :
  Calls Tryz.prog 26 #[.slice ao n c,.slice ao' n' c'] w fun e w'=>e=.returned (.int .i64 (sgn x y))/\Below w.heap.size w w':=by
 obtain⟨b,o,l,k,t,j,p,rfl⟩:=h.ex;obtain⟨q,m,r,i,f,g,d,rfl⟩:=s.ex;exact ic ao n c b o ao' n' c' q m l r w k i t f hn a j g p d
theorem nDiv(h:aV w ao n c x)(M:aV w ao' n' c' y)(hn:n<=1099511627776)(f:n'<=1099511627776)(A:y≠0) :
  Calls Tryz.prog 70 #[.slice ao n c,.slice ao' n' c'] w fun e w'=>∃ a k d a' k' d',e=.returned (.tuple #[.slice a k d,.slice a' k' d',.int .i64 0])/\dX w' a k d (x / y)/\dX w' a' k' d' (x % y)/\k<=n/\k'<=n + n'/\Below w.heap.size w w':=by
 obtain⟨b,o,l,I,F,H,K,rfl⟩:=h.ex;obtain⟨L,D,E,B,i,z,p,rfl⟩:=M.ex;refine(vz ao n c b o ao' n' c' L D l E w I B F i hn f H z K p A).mono ?_
 rintro e w' ⟨v,u,r,s,rfl,j,t,G,J,q,m,N⟩;obtain⟨a,d,rfl,C⟩:=j.o G;obtain⟨a',d',rfl,g⟩:=t.o J;exact⟨a,_,d,a',_,d',rfl,C,g,q,m,N⟩
theorem yq(k:aV w ao' n' c' y)(a:n'<=1099511627776)(g:y=0) :
  Calls Tryz.prog 70 #[v,.slice ao' n' c'] w fun e w'=>e=.returned (.tuple #[.slice none 0 0,.slice none 0 0,.int .i64 11])/\w'=w:=by
 obtain⟨i,h,j,f,c,d,b,rfl⟩:=k.ex;exact div_zero v ao' n' c' i h j w f c a d b g
theorem rL{ad:Option Addr}{b f:Nat}{z:Int}(h:aV w ao n c x)(l:aV w ao' n' c' y)(o:aV w ad b f z)(hn:n<=274877906944)(i:n'<=274877906944)(m:b<=274877906944)(j:z=0) :
  Calls Tryz.prog 93 #[.slice ao n c,.slice ao' n' c',.slice ad b f] w fun e w'=>e=.returned (.tuple #[.slice none 0 0,.slice none 0 0,.int .i64 11])/\Below w.heap.size w w':=by
 go_enter Tryz.func93,Tryz.ntmps93;go_wp2_with fail;refine(nMul h l (by omega) (by omega)).mono ?_
 rintro e s ⟨a,k,d,rfl,p,r,g⟩;go_wp2_with fail;refine(yq (o.keep g) (by omega) j).mono ?_
 rintro e q ⟨rfl,rfl⟩;go_wp2;go_ret3;exact⟨rfl,g⟩
theorem nBits(h:aV w ao n c x)(hn:n<=1099511627776) :
  Calls Tryz.prog 55 #[.slice ao n c] w fun e w'=>e=.returned (.int .i64 (bitLen x.toNat))/\Below w.heap.size w w':=by
 obtain⟨b,o,l,d,g,a,f,rfl⟩:=h.ex;exact rH ao n c b o l w d g hn a f
theorem nPow(n:Nat)(hn:n<=4096) :
  Calls Tryz.prog 165 #[.int .i64 n] w fun e w'=>∃ a k d,e=.returned (.tuple #[.slice a k d,.int .i64 0])/\dX w' a k d (10 ^ n)/\k<=n + 2/\Below w.heap.size w w':=by
 refine(xc n w hn).mono ?_
 rintro e w' ⟨v,r,rfl,b,c,hlen,g⟩;obtain⟨a,d,rfl,f⟩:=b.o c;exact⟨a,_,d,rfl,f,hlen,g⟩
theorem ra(x:Int)(hx:0<=x):(bitLen x.toNat=0)<->x=0:=by
 constructor
 ·intro h;by_cases e:x.toNat=0
  ·omega
  ·have:=lS e; omega
 ·intro h; subst h; rfl
structure Slot(w:World)(g:Nat)(v:Value)(t:TypeId):Prop where
 blk:w.heap[g]? = some (.cells #[v] t (0,0))
theorem Slot.cell{t:TypeId}(h:Slot w g v t):w.cell? ⟨g,0,none⟩=some v:=cell_of_one h.blk
theorem Slot.free{t:TypeId}(h:Slot w g v t):w.frozen? ⟨g,0,none⟩=false:=free_of_one h.blk
theorem Slot.lt{t:TypeId}(h:Slot w g v t):g < w.heap.size:=lt_of_block h.blk
theorem Slot.keep{t:TypeId}(h:Slot w g v t)(hb:Below w.heap.size w w'):Slot w' g v t:=⟨by rw[hb.block g h.lt]; exact h.blk⟩
theorem Slot.put{t:TypeId}(h:Slot w g v t)(u:Value):Slot (w.setCell ⟨g,0,none⟩ u) g u t:=⟨one_setCell h.blk⟩
theorem eK(w:World)(v:Value)(t:TypeId):Slot (w.alloc (.cells #[v] t)) w.heap.size v t:=⟨by
 show (w.heap.push _)[w.heap.size]? = _
 rw[Array.getElem?_push_size]⟩
theorem Slot.alloc{t:TypeId}(h:Slot w g v t)(o:Obj):Slot (w.alloc o) g v t:=h.keep (ae w o)
theorem mL(w:World)(o:Obj)(v:Value)(t:TypeId):Slot ((w.alloc o).alloc (.cells #[v] t)) (w.heap.size + 1) v t:=by
 have:=eK (w.alloc o) v t;rwa [show (w.alloc o).heap.size=w.heap.size + 1 by simp] at this
theorem lO(w:World)(o o':Obj):Below w.heap.size w ((w.alloc o).alloc o'):=aj (ae w o) (ae _ o')
theorem At.put{b o:Nat}(k:At w ao b o l){t:TypeId}(s:Slot w g v t)(hv:∀ x,v≠.int .u64 x)(u:Value):At (w.setCell ⟨g,0,none⟩ u) ao b o l :=
 ⟨k.loc,fun i hi=>by
  have hc:=k.cell i hi;by_cases e:b=g
  ·subst e
   have c:o + i=0->False:=fun a=>by
    rw[a,s.cell] at hc;exact hv _ (Option.some.inj hc)
   have hs:=s.blk;simp only[World.cell?,hs] at hc;have:o + i < 1:=by
    have:=(Array.getElem?_eq_some_iff.1 hc).1;simpa using this
   exact(c (by omega)).elim
  ·rw[World.cell?_of_block (w:=w) (Below.heap_setCell w _ u b e)]; exact hc⟩
theorem dX.put(h:dX w ao n c x){t:TypeId}(s:Slot w g v t)(hv:∀ x,v≠.int .u64 x)(u:Value):dX (w.setCell ⟨g,0,none⟩ u) ao n c x:=by
 obtain⟨b,o,l,h1,h2,h3,h4⟩:=h.ex;exact⟨b,o,l,h1,h2,h3,h4.put s hv u⟩
theorem oW:∀ x,Value.slice ao n c≠.int .u64 x:=fun _ h=>by cases h
theorem rG{W w1:World}(b:Below w.heap.size w W)(h:Below W.heap.size W w1)(hg:w.heap.size<=g)(u:Value):Below w.heap.size w (w1.setCell ⟨g,0,none⟩ u):=(aj b h).setCell hg u
theorem Slot.drew{t:TypeId}(h:Slot w g v t):Slot w.drew g v t:=⟨h.blk⟩
theorem aV.drew(h:aV w ao n c x):aV w.drew ao n c x:=by
 obtain⟨b,o,l,h1,h2,h3,h4,h5⟩:=h.ex;exact⟨b,o,l,h1,h2,h3,h4.drew,h5⟩
theorem zy:(Tryz.prog.info? 32).map (·.size)=some 1:=by kernel_rfl
theorem vK : ∃ f, Tryz.prog.underlying 32 = some (.struct f) := by
  cases h : Tryz.prog.underlying 32 with
  | none => exact absurd h (by have : (Tryz.prog.underlying 32).isSome = true := by kernel_rfl
                               intro e; rw[e] at this; simp at this)
  | some d =>
    have : (match Tryz.prog.underlying 32 with | some (.struct _) => true | _ => false) = true := by kernel_rfl
    rw[h] at this
    cases d <;> first | exact⟨_, rfl⟩ | simp at this
theorem qO{t:TypeId}(s:Slot w g v t):(loadVar 32 ⟨g,0,none⟩).run Tryz.prog w=.ok (.agg #[v]) w:=by
 obtain⟨f,hu⟩:=vK;exact run_loadVar_row w g t 32 #[v] (0,0) _ s.blk hu rfl zy
theorem ly(h:fn.results=#[.cell p 32]){t:TypeId}(b:tmps.getD p undef=.pointer (some ⟨g,0,none⟩))(s:Slot w g v t) :
  (results fn tmps).run Tryz.prog w=.ok (.agg #[v]) w:=by
 have a:tmps[p]?.getD undef=.pointer (some ⟨g,0,none⟩):=by simpa using b
 simp[results,h,a,asAddr,qO s]
theorem rp{u:Tmp}(h:fn.results=#[.tmp u,.cell p 32]){x:Value}{t:TypeId}(c:tmps.getD p undef=.pointer (some ⟨g,0,none⟩))(hu:tmps.getD u undef=x)(s:Slot w g v t) :
  (results fn tmps).run Tryz.prog w=.ok (.tuple #[x,.agg #[v]]) w:=by
 have a:tmps[p]?.getD undef=.pointer (some ⟨g,0,none⟩):=by simpa using c
 have b:tmps[u]?.getD undef=x:=by simpa using hu
 simp[results,h,a,b,asAddr,qO s]
end
end
end Go.Proofs.YthfepflplbahkaaGreatDoor
