import Derived.Test.YthfepflplbahkaaGreatDoorChecked
import Derived.WalkKit
import Derived.WalkSpells
import Derived.WalkLawsBesides
import Derived.Laws.Externs
import Derived.Laws.MathBits
import Derived.Laws.CopyOwn
import Derived.Deep.QuietTactic
import Derived.BigQuiet
import Derived.Deep.RegionWith
import Derived.ScopeJumps
import Derived.WalkSmall
import Derived.OneCell
set_option maxRecDepth 100000
set_option maxHeartbeats 8000000
namespace Go.Proofs.YthfepflplbahkaaGreatDoor
section
namespace Lim
section
variable {l a b:List Int}{i k:Nat}{x:Int}
def nth(l:List Int)(i:Nat):Int:=l.getD i 0
def val:List Int->Int
 | []=>0
 | x :: l=>x + 18446744073709551616 * val l
def Words(l:List Int):Prop:=∀ x∈l,0<=x/\x < 18446744073709551616
def aE:List Int->Nat
 | []=>0
 | x :: l=>if aE l=0 then (if x=0 then 0 else 1) else aE l + 1
def norm(l:List Int):List Int:=l.take (aE l)
def IsN(l:List Int)(n:Int):Prop:=Words l/\aE l=l.length/\val l=n
theorem Dq(i:Nat):nth [] i=0:=by simp[nth]
theorem cD(x:Int)(l:List Int):nth (x :: l) 0=x:=by simp[nth]
theorem dF(x:Int)(l:List Int)(i:Nat):nth (x :: l) (i + 1)=nth l i:=by simp[nth]
theorem fQ(h:l.length<=i):nth l i=0:=by
 simp[nth,List.getElem?_eq_none h]
theorem bS(h:i < l.length):nth l i=l[i]:=by
 simp[nth,List.getElem?_eq_getElem h]
theorem ll(h:i < l.length):nth l i∈l:=by
 rw[bS h]; exact List.getElem_mem h
theorem Words.nth(h:Words l)(i:Nat):0<=nth l i/\nth l i < 18446744073709551616:=by
 by_cases hi:i < l.length
 ·exact h _ (ll hi)
 ·rw[fQ (by omega)]; decide
theorem Words.nil:Words []:=fun _ h=>by simp at h
theorem Words.cons(h0:0<=x)(h1:x < 18446744073709551616)(h:Words l):Words (x :: l):=by
 intro y hy;rcases List.mem_cons.1 hy with e | e
 ·subst e; exact⟨h0,h1⟩
 ·exact h y e
theorem Words.tail(h:Words (x :: l)):Words l:=fun y hy=>h y (List.mem_cons_of_mem _ hy)
theorem Words.head(h:Words (x :: l)):0<=x/\x < 18446744073709551616:=h x (List.mem_cons_self)
theorem Words.take(h:Words l)(k:Nat):Words (l.take k):=fun x hx=>h x (List.mem_of_mem_take hx)
theorem Words.drop(h:Words l)(k:Nat):Words (l.drop k):=fun x hx=>h x (List.mem_of_mem_drop hx)
theorem Words.append(ha:Words a)(hb:Words b):Words (a ++ b):=by
 intro x hx;rcases List.mem_append.1 hx with e | e
 ·exact ha x e
 ·exact hb x e
theorem dr(h:i < k):nth (l.take k) i=nth l i:=by
 simp[nth,h]
theorem dC(l:List Int)(k i:Nat):nth (l.drop k) i=nth l (k + i):=by
 simp[nth,List.getElem?_drop]
theorem cQ(h:i < a.length):nth (a ++ b) i=nth a i:=by
 simp[nth,List.getElem?_append_left h]
theorem bI(h:a.length<=i):nth (a ++ b) i=nth b (i - a.length):=by
 simp[nth,List.getElem?_append_right h]
theorem lG(hl:a.length=b.length)(h:∀ i,i < a.length->nth a i=nth b i):a=b:=by
 apply List.ext_getElem hl;intro i h1 h2;have:=h i h1;rwa [bS h1,bS h2] at this
theorem dy(a:k < l.length):nth (l.set k x) i=if i=k then x else nth l i:=by
 simp only[nth,List.getD_eq_getElem?_getD,List.getElem?_set];by_cases h:k=i
 ·subst h; simp[a]
 ·simp[h,show ¬ i=k from fun e=>h e.symm]
theorem Words.set(h:Words l)(k:Nat)(h0:0<=x)(h1:x < 18446744073709551616):Words (l.set k x):=by
 intro y hy;rcases List.mem_or_eq_of_mem_set hy with e | e
 ·exact h y e
 ·subst e; exact⟨h0,h1⟩
theorem dQ(h:k < l.length):l.take (k + 1)=l.take k ++ [nth l k]:=by
 rw[bS h,List.take_succ_eq_append_getElem h]
theorem aL(h:Words l):0<=val l:=by
 induction l with
 | nil=>simp[val]
 | cons x l ih=>have:=h.head; have:=ih h.tail; simp only[val]; omega
theorem dY(a b:List Int):val (a ++ b)=val a + 18446744073709551616 ^ a.length * val b:=by
 induction a with
 | nil=>simp[val]
 | cons x a ih=>simp only[List.cons_append,val,ih,List.length_cons,Int.pow_succ]; grind
theorem dw(h:Words l):val l < 18446744073709551616 ^ l.length:=by
 induction l with
 | nil=>simp[val]
 | cons x l ih =>
  have:=h.head; have:=ih h.tail;simp only[val,List.length_cons,Int.pow_succ]; omega
theorem eu(x:Int):val [x]=x:=by simp[val]
theorem du(h:k < l.length):val (l.take (k + 1))=val (l.take k) + 18446744073709551616 ^ k * nth l k:=by
 rw[dQ h,dY,eu,List.length_take,Nat.min_eq_left (by omega)]
theorem bC(l:List Int)(k:Nat)(h:k<=l.length):val l=val (l.take k) + 18446744073709551616 ^ k * val (l.drop k):=by
 conv=>lhs; rw[<- List.take_append_drop k l]
 rw[dY,List.length_take,Nat.min_eq_left h]
theorem bp(l:List Int):aE l<=l.length:=by
 induction l with
 | nil=>simp[aE]
 | cons x l ih=>simp only[aE,List.length_cons]; split<;>(try split)<;>omega
theorem fO:aE l=0<->∀ i,nth l i=0:=by
 induction l with
 | nil=>simp[aE,nth]
 | cons x l ih =>
  simp only[aE];constructor
  ·intro h i;by_cases e:aE l=0
   ·by_cases a:x=0
    ·cases i with
     | zero=>rw[cD,a]
     | succ i=>rw[dF]; exact ih.1 e i
    ·simp[e,a] at h
   ·simp[e] at h
  ·intro h
   have c:x=0:=by have:=h 0; rwa [cD] at this
   have b:aE l=0:=ih.2 fun i=>by have:=h (i + 1); rwa [dF] at this
   simp[b,c]
theorem jO(d:k<=l.length)(c:∀ i,k<=i->nth l i=0)(b:k≠0->nth l (k - 1)≠0):aE l=k:=by
 induction l generalizing k with
 | nil=>simp[aE] at *; omega
 | cons x l ih =>
  cases k with
  | zero =>
   have:aE (x :: l)=0:=fO.2 fun i=>c i (Nat.zero_le _)
   exact this
  | succ k =>
   have e:aE l=k:=ih (by simpa using d) (fun i hi=>by have:=c (i + 1) (by omega); rwa [dF] at this) (fun a=>by
    have:=b (by omega); rw[show k + 1 - 1=(k - 1) + 1 from by omega,dF] at this; exact this)
   simp only[aE,e];by_cases a:k=0
   ·subst a;have:=b (by omega); rw[show (0 + 1 - 1)=0 from rfl,cD] at this;simp[this]
   ·simp[a]
theorem ft(h : aE l ≤ i) : nth l i = 0 := by
  induction l generalizing i with
  | nil => simp[nth]
  | cons x l ih =>
    simp only[aE] at h;by_cases e : aE l = 0
    · simp only[e, if_true] at h
      cases i with
      | zero => by_cases a : x = 0
                · rw[cD, a]
                · simp[a] at h
      | succ i => rw[dF]; exact fO.1 e i
    · simp only[e, if_false] at h
      cases i with
      | zero => omega
      | succ i => rw[dF]; exact ih (by omega)
theorem im(h:aE l≠0):nth l (aE l - 1)≠0:=by
 induction l with
 | nil=>simp[aE] at h
 | cons x l ih =>
  simp only[aE] at h ⊢;by_cases e:aE l=0
  ·simp only[e,if_true] at h ⊢;by_cases a:x=0
   ·simp[a] at h
   ·simp[a,cD]
  ·simp only[e,if_false] at h ⊢;have:=ih e;rw[show aE l + 1 - 1=(aE l - 1) + 1 from by omega,dF]; exact this
theorem aJ(l:List Int):(norm l).length=aE l:=by
 rw[norm,List.length_take,Nat.min_eq_left (bp l)]
theorem fZ(l:List Int)(i:Nat):nth (norm l) i=nth l i:=by
 by_cases h:i < aE l
 ·exact dr h
 ·rw[fQ (by rw[aJ]; omega),ft (by omega)]
theorem Words.norm(h:Words l):Words (norm l):=h.take _
theorem oC(l:List Int):aE (norm l)=(norm l).length:=by
 rw[aJ];apply jO (by rw[aJ]; omega)
 ·intro i hi; rw[fZ]; exact ft hi
 ·intro h; rw[fZ]; exact im h
theorem fm(h:∀ i,nth l i=0):val l=0:=by
 induction l with
 | nil=>rfl
 | cons x l ih =>
  have h0:=h 0; rw[cD] at h0;rw[val,h0,ih fun i=>by have:=h (i + 1); rwa [dF] at this]; rfl
theorem cU(l:List Int):val (norm l)=val l:=by
 rw[bC l (aE l) (bp l),fm (l:=l.drop (aE l)) fun i=>by rw[dC]; exact ft (by omega)];simp[norm]
theorem b8(h:Words l):IsN (norm l) (val l):=⟨h.norm,oC l,cU l⟩
theorem qm(h:Words l)(hn:aE l≠0):0 < val l:=by
 induction l with
 | nil=>simp[aE] at hn
 | cons x l ih =>
  have hx:=h.head; have hv:=aL h.tail;simp only[val];by_cases e:aE l=0
  ·simp only[aE,e,if_true] at hn;have:x≠0:=by intro a; simp[a] at hn
   omega
  ·have:=ih h.tail e; omega
theorem bW(h:Words l):aE l=0<->val l=0:=by
 constructor
 ·intro e; exact fm (fO.1 e)
 ·intro e;by_cases n:aE l=0
  ·exact n
  ·have:=qm h n; omega
theorem fy(h:Words l)(hn:aE l≠0):18446744073709551616 ^ (aE l - 1)<=val l:=by
 have e:=cU l;have a:=aJ l;have hw:=h.norm;have hs:=bC (norm l) (aE l - 1) (by omega)
 have d:(norm l).drop (aE l - 1)=[nth l (aE l - 1)]:=by
  apply lG
  ·simp[a]; omega
  ·intro i hi;simp[a] at hi;have:i=0:=by omega
   subst this;rw[dC,fZ,cD]; rfl
 have f:=aL (hw.take (aE l - 1));have hx:=h.nth (aE l - 1);have c:=im hn
 have b:(0:Int) < 18446744073709551616 ^ (aE l - 1):=Int.pow_pos (by decide);rw[d,eu] at hs;have:18446744073709551616 ^ (aE l - 1) * 1<=18446744073709551616 ^ (aE l - 1) * nth l (aE l - 1):=Int.mul_le_mul_of_nonneg_left (by omega) (Int.le_of_lt b);omega
theorem gW(h:Words l):val l < 18446744073709551616 ^ aE l:=by
 have:=dw h.norm;rwa [cU,aJ] at this
theorem gM{a b:Nat}(h:a<=b):(18446744073709551616:Int) ^ a<=18446744073709551616 ^ b:=by
 obtain⟨d,rfl⟩:=Nat.exists_eq_add_of_le h;rw[Int.pow_add]
 have c:(0:Int) < 18446744073709551616 ^ a:=Int.pow_pos (by decide)
 have e:(0:Int) < 18446744073709551616 ^ d:=Int.pow_pos (by decide);have:(18446744073709551616:Int) ^ a * 1<=18446744073709551616 ^ a * 18446744073709551616 ^ d:=Int.mul_le_mul_of_nonneg_left (by omega) (Int.le_of_lt c);omega
theorem dz(ha:Words a)(hb:Words b)(h:aE a < aE b):val a < val b:=by
 have h1:=gW ha;have h2:=fy hb (by omega);have:=gM (show aE a<=aE b - 1 by omega);omega
end
end Lim
end
section
open Go.RowKit Lim
def Cells (w:World) (ao:Option Addr) (l:List Int):Prop :=
 l=[]\/∃ b o,ao=some ⟨b,o,none⟩/\∀ i,i < l.length->w.cell? ⟨b,o + i,none⟩=some (.int .u64 (nth l i))
theorem bj (ao:Option Addr) (n c:Nat) (l:List Int) (w:World) (p:l.length=n) (hc:n<=c) (hb:n<=4398046511104) (d:Cells w ao l) :
  Calls Tryz.prog 58 #[.slice ao n c] w fun e w'=>e=.returned (.slice ao (aE l) (aE l))/\w'=w:=by
 go_enter Tryz.func58,Tryz.ntmps58;go_wp2;go_loop [3] (fun t=>∃ k:Nat,k<=n/\t=.int .i64 k/\Hid (∀ i,k<=i->nth l i=0)) (fun t=>(intOf t).toNat)
 case atStart=>exact⟨n,Nat.le_refl _,rfl,fun i hi=>fQ (by omega)⟩
 case round =>
  obtain⟨k,q,rfl,g⟩:=hrel;by_cases m:0 < k
  ·rcases d with e | ⟨b,o,rfl,d⟩
   ·subst e; simp at p; omega
   ·have f:=d (k - 1) (by omega)
    have j:w.cell? ⟨b,o + k - 1,none⟩=some (.int .u64 (nth l (k - 1))):=by rw[<- f]; congr 2; omega
    clear d;go_wp2
    ·go_round
     case rel=>exact⟨k - 1,by omega,by go_num,fun i hi=>by
      by_cases e:i=k - 1
      ·subst e; exact beq_iff_eq.1 (by assumption)
      ·exact g.out i (by omega)⟩
     case measure=>simp[intOf]; omega
    ·go_ret;rw[jO (k:=k) (by omega) g.out (fun _=>beq_eq_false_iff_ne.1 (by assumption))];exact⟨rfl,rfl⟩
  ·go_wp2;go_ret;rw[jO (k:=k) (by omega) g.out (fun _=>by omega)];exact⟨rfl,rfl⟩
end
section
open Go.RowKit Lim
def bor (x y:Int):Int:=if x < y then 1 else 0
theorem re (x y:Int) (hx:0<=x) (hy:0<=y) (w:World):(callFunc 90 #[.int .u64 x,.int .u64 y,.int .u64 0]).run Tryz.prog w =
  .ok (.value (.tuple #[.int .u64 ((x + y) % 18446744073709551616),.int .u64 ((x + y) / 18446744073709551616)])) w:=by
 obtain⟨x,rfl⟩:=Int.eq_ofNat_of_zero_le hx;obtain⟨y,rfl⟩:=Int.eq_ofNat_of_zero_le hy;rw[run_callFunc_extern Tryz.func90 (by kernel_rfl) (by kernel_rfl) (by kernel_rfl) (e:=add64Entry) (by kernel_rfl),run_add64 (P:=Tryz.prog) x y 0 (by omega) (by omega) (by omega) (by omega),Int.add_zero];rfl
theorem DC (x y:Int) (hx:0<=x) (w:World):(callFunc 90 #[.int .u64 x,.int .u64 (y % 18446744073709551616),.int .u64 0]).run Tryz.prog w =
  .ok (.value (.tuple #[.int .u64 ((x + y % 18446744073709551616) % 18446744073709551616),.int .u64 ((x + y % 18446744073709551616) / 18446744073709551616)])) w :=
 re x _ hx (Int.emod_nonneg _ (by decide)) w
theorem DV (x y:Int) (hx:0<=x) (a:x < 18446744073709551616) (hy:0<=y) (b:y < 18446744073709551616) (w:World):(callFunc 168 #[.int .u64 x,.int .u64 y,.int .u64 0]).run Tryz.prog w =
  .ok (.value (.tuple #[.int .u64 ((x - y) % 18446744073709551616),.int .u64 (bor x y)])) w:=by
 obtain⟨x,rfl⟩:=Int.eq_ofNat_of_zero_le hx;obtain⟨y,rfl⟩:=Int.eq_ofNat_of_zero_le hy
 have this:(callFunc 168 #[.int .u64 (x:Int),.int .u64 (y:Int),.int .u64 0]).run Tryz.prog w =
   .ok (.value (.tuple #[.int .u64 (((x + 18446744073709551616 - y - 0) % 18446744073709551616:Nat):Int),.int .u64 ((if x < y + 0 then 1 else 0:Nat):Int)])) w:=by kernel_rfl
 rw[this]
 have e1:(((x + 18446744073709551616 - y - 0) % 18446744073709551616:Nat):Int)=((x:Int) - y) % 18446744073709551616:=by omega
 have e2:((if x < y + 0 then 1 else 0:Nat):Int)=bor x y:=by unfold bor; split<;>split<;>omega
 rw[e1,e2]
theorem nE {k k':IntKind} {a b c d:Int} (h:a=b) (h':c=d):Ending.returned (.tuple #[.int k a,.int k' c])=.returned (.tuple #[.int k b,.int k' d]):=by rw[h,h']
theorem qO (z:Int) (h0:0<=z) (h1:z < 18446744073709551616):bits .and .u64 z 4294967295=z % 4294967296:=and_low32 z h0 h1
theorem mul64 (x y:Int) (hx:0<=x) (b:x < 18446744073709551616) (hy:0<=y) (c:y < 18446744073709551616) (w:World) :
  Calls Tryz.prog 89 #[.int .u64 x,.int .u64 y] w fun e w'=>e=.returned (.tuple #[.int .u64 (x * y / 18446744073709551616),.int .u64 (x * y % 18446744073709551616)])/\w'=w:=by
 go_enter Tryz.func89,Tryz.ntmps89;go_wp2;go_ret2;refine⟨nE ?_ ?_,rfl⟩
 ·show IntKind.u64.wrap (IntKind.u64.wrap (IntKind.u64.wrap (x / 4294967296 * (y / 4294967296)) + IntKind.u64.wrap (IntKind.u64.wrap (x / 4294967296 * bits BinOp.and IntKind.u64 y 4294967295) + IntKind.u64.wrap (bits BinOp.and IntKind.u64 x 4294967295 * bits BinOp.and IntKind.u64 y 4294967295) / 4294967296) / 4294967296) + IntKind.u64.wrap (bits BinOp.and IntKind.u64 (IntKind.u64.wrap (IntKind.u64.wrap (x / 4294967296 * bits BinOp.and IntKind.u64 y 4294967295) + IntKind.u64.wrap (bits BinOp.and IntKind.u64 x 4294967295 * bits BinOp.and IntKind.u64 y 4294967295) / 4294967296)) 4294967295 + IntKind.u64.wrap (bits BinOp.and IntKind.u64 x 4294967295 * (y / 4294967296))) / 4294967296)=_
  simp only[IntKind.wrap_u64];rw[qO x hx b,qO y hy c,qO _ (Int.emod_nonneg _ (by decide)) (Int.emod_lt_of_pos _ (by decide))];exact mul64_arith x y hx b hy c
 ·show IntKind.u64.wrap (x * y)=_
  rw[IntKind.wrap_u64]
theorem lg (x y:Int) (hx:0<=x) (a:x < 18446744073709551616) (hy:0<=y) (b:y < 18446744073709551616) (w:World) :
  Calls Tryz.prog 89 #[.int .u64 x,.int .u64 y] w fun e w'=>∃ hi lo:Int,e=.returned (.tuple #[.int .u64 hi,.int .u64 lo])/\0<=hi/\hi<=18446744073709551614/\0<=lo/\lo < 18446744073709551616/\Hid (hi * 18446744073709551616 + lo=x * y)/\w'=w:=by
 refine(mul64 x y hx a hy b w).mono ?_
 rintro e w' ⟨rfl,rfl⟩
 have c:0<=x * y:=Int.mul_nonneg hx hy
 have d:x * y<=18446744073709551615 * 18446744073709551615:=Int.mul_le_mul (by omega) (by omega) hy (by decide);exact⟨_,_,rfl,by omega,by omega,by omega,by omega,by show _=_; omega,rfl⟩
end
section
open Go.RowKit Lim
section
variable {w w1 w':World}{ao ao':Option Addr}{b o n o' n' i k B b':Nat}{l m:List Int}{v:Value}
structure At(w:World)(ao:Option Addr)(b o:Nat)(l:List Int):Prop where
 loc:l=[]\/ao=some ⟨b,o,none⟩
 cell:∀ i,i < l.length->w.cell? ⟨b,o + i,none⟩=some (.int .u64 (nth l i))
theorem At.cells(h:At w ao b o l):Cells w ao l:=by
 rcases h.loc with e | e
 ·exact .inl e
 ·exact .inr ⟨b,o,e,h.cell⟩
def dB(w:World)(b o n:Nat):Prop:=∀ i,i < n->w.frozen? ⟨b,o + i,none⟩=false
structure Wr(b o n:Nat)(w w':World):Prop where
 os:w'.os=w.os
 tape:w'.tape=w.tape
 output:w'.output=w.output
 size:w'.heap.size=w.heap.size
 block:∀ k,k≠b->w'.heap[k]? = w.heap[k]?
 cell:∀ i,(i < o\/o + n<=i)->w'.cell? ⟨b,i,none⟩=w.cell? ⟨b,i,none⟩
 frozen:∀ i,w'.frozen? ⟨b,i,none⟩=w.frozen? ⟨b,i,none⟩
theorem Wr.refl(b o n:Nat)(w:World):Wr b o n w w:=⟨rfl,rfl,rfl,rfl,fun _ _=>rfl,fun _ _=>rfl,fun _=>rfl⟩
theorem Wr.trans{a:World}(h:Wr b o n w w1)(k:Wr b o n w1 a):Wr b o n w a :=
 ⟨k.os.trans h.os,k.tape.trans h.tape,k.output.trans h.output,k.size.trans h.size,fun i hi=>(k.block i hi).trans (h.block i hi),fun i hi=>(k.cell i hi).trans (h.cell i hi),fun i=>(k.frozen i).trans (h.frozen i)⟩
theorem Wr.mono(h:Wr b o n w w')(h1:o'<=o)(h2:o + n<=o' + n'):Wr b o' n' w w' :=
 ⟨h.os,h.tape,h.output,h.size,h.block,fun i hi=>h.cell i (by omega),h.frozen⟩
theorem Wr.setCell(h:Wr b o n w w1)(c:o<=i)(d:i < o + n)(v:Value):Wr b o n w (w1.setCell ⟨b,i,none⟩ v) :=
 h.trans ⟨rfl,rfl,rfl,by simp[World.setCell],fun k a=>Below.heap_setCell _ _ _ _ a,fun j e=>by
   simp only[World.cell?,World.setCell,Array.getElem?_modify,if_true]
   cases hh:w1.heap[b]? with
   | none=>simp
   | some ob =>
    cases ob<;>simp
    rw[Array.getElem?_setIfInBounds,if_neg (by omega)],fun j=>by
   simp only[World.frozen?,World.setCell,Array.getElem?_modify,if_true]
   cases hh:w1.heap[b]? with
   | none=>simp
   | some ob=>cases ob<;>simp⟩
theorem Wr.other(h:Wr b o n w w')(hk:k≠b):w'.cell? ⟨k,i,none⟩=w.cell? ⟨k,i,none⟩:=World.cell?_of_block (w:=w) (h.block k hk)
theorem Wr.below(h:Wr b o n w w')(hB:B<=b):Below B w w' :=
 ⟨h.os,h.tape,h.output,by rw[h.size]; exact Nat.le_refl _,fun k hk=>h.block k (by omega)⟩
theorem Wr.free(h:Wr b o n w w')(k:dB w b' o' n'):dB w' b' o' n':=by
 intro i hi;by_cases e:b'=b
 ·subst e; rw[h.frozen]; exact k i hi
 ·rw[World.frozen?_of_block (w:=w) (h.block b' e)]; exact k i hi
theorem At.wr(h:Wr b o n w w')(k:At w ao b' o' l)(hb:l=[]\/b'≠b):At w' ao b' o' l :=
 ⟨k.loc,fun i hi=>by
  rcases hb with e | e
  ·subst e; simp at hi
  ·rw[h.other e]; exact k.cell i hi⟩
theorem At.below(h:Below B w w')(k:At w ao b o l)(hb:l=[]\/b < B):At w' ao b o l :=
 ⟨k.loc,fun i hi=>by
  rcases hb with e | e
  ·subst e; simp at hi
  ·rw[h.cell (p:=⟨b,o + i,none⟩) e]; exact k.cell i hi⟩
theorem aI(h:w.cell? ⟨b,o,none⟩=some v):b < w.heap.size:=by
 simp only[World.cell?] at h;by_cases hb:b < w.heap.size
 ·exact hb
 ·rw[Array.getElem?_eq_none (by omega)] at h; simp at h
theorem At.lt(k:At w ao b o l):l=[]\/b < w.heap.size:=by
 cases l with
 | nil=>exact .inl rfl
 | cons x l=>exact .inr (aI (k.cell 0 (by simp)))
theorem At.keep(h:Below w.heap.size w w')(k:At w ao b o l):At w' ao b o l:=k.below h k.lt
theorem At.setCell(k : At w ao b o l)(hi : i < l.length)(x : Int) : At (w.setCell ⟨b, o + i, none⟩ (.int .u64 x)) ao b o (l.set i x) :=
  ⟨by rcases k.loc with e | e
      · subst e; simp at hi
      · exact .inr e, fun j g => by
    rw[List.length_set] at g;have hc := k.cell j g;rw[dy hi];have a := k.cell i hi;simp only[World.cell?, World.setCell, Array.getElem?_modify, if_true] at hc a ⊢
    cases hh : w.heap[b]? with
    | none => rw[hh] at hc; simp at hc
    | some ob =>
      rw[hh] at hc a
      cases ob with
      | cells c e f =>
        simp at hc a ⊢;rw[Array.getElem?_setIfInBounds];by_cases e : j = i
        · subst e
          obtain⟨d, _⟩:= Array.getElem?_eq_some_iff.1 a;simp[d]
        · rw[if_neg (by omega), if_neg e]; exact hc
      | _ => simp at hc⟩
theorem At.drew(h:At w ao b o l):At w.drew ao b o l:=⟨h.loc,h.cell⟩
theorem dB.drew(h:dB w b o n):dB w.drew b o n:=h
theorem Wr.drew(h:Wr b o n w w'):Wr b o n w w'.drew:=⟨h.os,h.tape,h.output,h.size,h.block,h.cell,h.frozen⟩
theorem At.drewN(h:At w ao b o l)(n:Nat):At (w.drewN n) ao b o l:=⟨h.loc,h.cell⟩
theorem Wr.drewN(h:Wr b o n w w')(k:Nat):Wr b o n w (w'.drewN k):=⟨h.os,h.tape,h.output,h.size,h.block,h.cell,h.frozen⟩
def patch(l:List Int)(k:Nat)(m:List Int):List Int:=l.take k ++ (m ++ l.drop (k + m.length))
theorem fj(h:k + m.length<=l.length):(patch l k m).length=l.length:=by simp[patch]; omega
theorem kH(hl:Words l)(hm:Words m):Words (patch l k m):=(hl.take k).append (hm.append (hl.drop _))
theorem p7(h:k + m.length<=l.length)(hi:i < m.length):nth (patch l k m) (k + i)=nth m i:=by
 have e:(l.take k).length=k:=by simp; omega
 rw[patch,bI (by omega),e,Nat.add_sub_cancel_left,cQ hi]
theorem nC(h:k + m.length<=l.length)(hi:i < k\/k + m.length<=i):nth (patch l k m) i=nth l i:=by
 have e:(l.take k).length=k:=by simp; omega
 rcases hi with hi | hi
 ·rw[patch,cQ (by omega),dr hi]
 ·rw[patch,bI (by omega),e,bI (by omega),dC]; congr 1; omega
theorem nY(h:k + m.length<=l.length):val (patch l k m)=val l + 18446744073709551616 ^ k * (val m - val ((l.drop k).take m.length)):=by
 have e:(l.take k).length=k:=by simp; omega
 have b:=bC l k (by omega);have a:=bC (l.drop k) m.length (by simp; omega);rw[List.drop_drop] at a;rw[patch,dY,dY,e,b,a];grind
theorem At.patch(h : At w ao b o l)(hw : Wr b (o + k) n w w')(hm : At w' ao' b (o + k) m)(hn : m.length = n)(c : k + n ≤ l.length) : At w' ao b o (patch l k m) :=
  ⟨by rcases h.loc with e | e
      · left; subst e; simp at c; simp[Go.Proofs.YthfepflplbahkaaGreatDoor.patch, List.eq_nil_of_length_eq_zero (show m.length = 0 by omega)]
      · exact .inr e, fun i hi => by
    rw[fj (by omega)] at hi;by_cases a : k ≤ i ∧ i < k + n
    · obtain⟨j, rfl⟩:= Nat.exists_eq_add_of_le a.1
      rw[p7 (by omega) (by omega), ← hm.cell j (by omega), Nat.add_assoc]
    · rw[nC (by omega) (by omega), hw.cell _ (by omega)]; exact h.cell i hi⟩
theorem At.fL(h:At w ao b o l)(k n:Nat):At w (some ⟨b,o + k,none⟩) b (o + k) ((l.drop k).take n) :=
 ⟨.inr rfl,fun i hi=>by
  simp only[List.length_take,List.length_drop] at hi
  rw[dr (by omega),dC,Nat.add_assoc]; exact h.cell _ (by omega)⟩
theorem dB.fL(h:dB w b o n){m:Nat}(hk:k + m<=n):dB w b (o + k) m:=fun i hi=>by
 rw[Nat.add_assoc]; exact h _ (by omega)
theorem At.sub(k : At w ao b o l)(n : Nat) : At w ao b o (l.take n) :=
  ⟨by rcases k.loc with e | e
      · subst e; exact .inl (by simp)
      · exact .inr e, fun i hi => by
    rw[List.length_take] at hi
    rw[dr (by omega)]; exact k.cell i (by omega)⟩
end
end
section
open Go.RowKit Lim
section
variable {w:World}{g:Nat}{l:List Int}{ops:Array Oper}{rest:List Oper}{o:Oper}{a:Act}
theorem gV:(Tryz.prog.info? 22).map (fun i=>(i.zero,i.size,i.bytes))=some (some (.int .u64 0),1,8):=by kernel_rfl
theorem fV:Tryz.prog.underlying 30=some (.slice 22):=by kernel_rfl
def Row(w:World)(g:Nat)(l:List Int):Prop:=w.heap[g]? = some (.cells (l.map (Value.int .u64)).toArray 22 (0,0))
theorem Row.at(h:Row w g l):At w (some ⟨g,0,none⟩) g 0 l :=
 ⟨.inr rfl,fun i hi=>by
  unfold Row at h;simp only[World.cell?,h]
  simp[bS hi,hi]⟩
theorem Row.free(h:Row w g l)(o n:Nat):dB w g o n:=by
 intro i _;unfold Row at h;simp[World.frozen?,h]
theorem Row.lt(h:Row w g l):g < w.heap.size:=(Array.getElem?_eq_some_iff.1 h).1
structure dE(w w':World)(v:Value)(l:List Int):Prop where
 is:∃ ao b o c,v=.slice ao l.length c/\l.length<=c/\w.heap.size<=b/\At w' ao b o l/\dB w' b o l.length
theorem qE(n:Nat):madeCells (Value.int .u64 0).cells n=((List.replicate n 0).map (Value.int .u64)).toArray:=by
 apply Array.ext
 ·simp[size_madeCells]
 ·intro j a b;simp[madeCells,Value.cells,Nat.mod_one]
theorem cV{Q:Exit->Act->World->Prop}(g:o.guard=none)(l c:Operand)(d:o.op=Op.makeSlice 30 l c)(n:Nat)(L C:Int)(j:a.eval l=.int .i64 L)(hc:a.eval c=.int .i64 C)(hL:L=(n:Int))(hC:C=(n:Int))(hn:n<=17592186044416)(h:∀ w',Row w' w.heap.size (List.replicate n 0)->Below w.heap.size w w'->w'.heap.size=w.heap.size + 1->wpList Tryz.prog ops Q rest (a.put o.dst (.slice (some ⟨w.heap.size,0,none⟩) n n)) w') :
  wpList Tryz.prog ops Q (o :: rest) a w:=by
 obtain⟨i,hi,f,hs,hb⟩:=info_parts gV;refine wpList_plain g fun K e => ?_
 have b:=run_make (P:=Tryz.prog) w 30 22 i (.int .u64 0) fV hi f .i64 .i64 (n:Int) (n:Int) (by omega) (by omega) (by rw[hb]; omega) (by omega);subst hL;subst hC;unfold Oper.wp;simp only[execOp,d,j,hc];simp[b,Result.andThen];refine e _ _ (h _ ?_ ?_ ?_)
 ·show (w.heap.push _)[w.heap.size]? = _
  rw[Array.getElem?_push_size,hs,Nat.mul_one,qE]
 ·exact(Below.refl _ _).alloc (Nat.le_refl _) _
 ·simp
theorem gj{Q:Exit->Act->World->Prop}(q:o.guard=none)(d s:Operand)(A:o.op=.call { callee:=.builtin .copy,args:=#[d,s],argTypes:=#[30,30] })(g dLen dCap sLen sCap:Nat)(sp:Option Addr)(B:a.eval d=.slice (some ⟨g,0,none⟩) dLen dCap)(hs:a.eval s=.slice sp sLen sCap)(lz ls:List Int)(b:Row w g lz)(u:lz.length=dLen)(b' o':Nat)(l:ls.length=sLen)(hle:sLen<=dLen)(p:At w sp b' o' ls)(h:∀ w',Row w' g (ls ++ lz.drop sLen)->Wr g 0 dLen w w'->wpList Tryz.prog ops Q rest (a.put o.dst (goInt sLen)) w'):wpList Tryz.prog ops Q (o :: rest) a w:=by
 obtain⟨i,hi,E,y,hb⟩:=info_parts gV
 have f:(Tryz.prog.info? 22).map (·.size)=some 1:=by rw[hi]; simp[y]
 by_cases z:sLen=0
 ·have D:ls=[]:=List.eq_nil_of_length_eq_zero (by omega);subst D;refine wpList_copy_nothing q d s _ _ A _ fV f _ sp dLen dCap sLen sCap B hs (by subst z; exact Nat.zero_min _) ?_
  have:=h w (by rw[z]; simpa using b) (Wr.refl _ _ _ _);rwa [z] at this
 ·obtain rfl:sp=some ⟨b',o',none⟩:=by
   rcases p.loc with e | e
   ·subst e; simp at l; omega
   ·exact e
  have m:Nat.min sLen dLen=sLen:=Nat.min_eq_left hle
  have hlen:(ls.map (Value.int .u64)).length=sLen:=by simp[l]
  refine wpList_copy_own q d s _ _ A _ fV f g 0 dLen dCap ⟨b',o',none⟩ sLen sCap B hs _ _ b (ls.map (Value.int .u64)) (by rw[m,hlen]) ?_ (by simp[l,u]; omega) (ints_oneCell _ _) ?_
  ·intro j v hv;rw[List.getElem?_map] at hv
   have c:j < ls.length:=by
    rcases Nat.lt_or_ge j ls.length with c | c
    ·exact c
    ·rw[List.getElem?_eq_none c] at hv; simp at hv
   rw[List.getElem?_eq_getElem c] at hv;simp at hv;subst hv;have:=p.cell j c;rw[bS c] at this;rw[<- this];by_cases n:j=0
   ·subst n; exact congrArg w.cell? (by simp[Addr.add])
   ·exact congrArg w.cell? (by simp[Addr.add,n])
  ·rw[hlen]
   have x:Row (w.setRow g (List.take 0 (List.map (Value.int .u64) lz).toArray.toList ++ (List.map (Value.int .u64) ls ++ List.drop (0 + sLen) (List.map (Value.int .u64) lz).toArray.toList)).toArray) g (ls ++ lz.drop sLen):=by
    unfold Row;rw[setRow_heap w g _ _ _ _ b,Nat.zero_add];simp only[List.take_zero,List.nil_append,<- List.map_drop,<- List.map_append]
   refine h _ x ⟨rfl,rfl,rfl,by simp[World.setRow],fun k C=>setRow_other w g k _ C,fun j c => ?_,fun j => ?_⟩
   ·have r:w.heap[g]? = _:=b
    have t:(w.setRow g (List.take 0 (List.map (Value.int .u64) lz).toArray.toList ++ (List.map (Value.int .u64) ls ++ List.drop (0 + sLen) (List.map (Value.int .u64) lz).toArray.toList)).toArray).heap[g]? = _:=x;simp only[World.cell?,r,t];simp;rw[List.getElem?_eq_none (by simp; omega),List.getElem?_eq_none (by omega)];rfl
   ·have r:w.heap[g]? = _:=b
    have t:(w.setRow g (List.take 0 (List.map (Value.int .u64) lz).toArray.toList ++ (List.map (Value.int .u64) ls ++ List.drop (0 + sLen) (List.map (Value.int .u64) lz).toArray.toList)).toArray).heap[g]? = _:=x;simp only[World.frozen?,r,t]
end
end
section
open Go.RowKit Lim
section
variable {x y:Int}{l a b:List Int}
def sgn(x y:Int):Int:=if x < y then -1 else if y < x then 1 else 0
theorem gZ(h:x < y):sgn x y = -1:=by simp[sgn,h]
theorem ko(h:y < x):sgn x y=1:=by simp only[sgn]; rw[if_neg (by omega),if_pos h]
theorem sX(h:x=y):sgn x y=0:=by simp[sgn,h]
theorem fU(l:List Int):val l=nth l 0 + 18446744073709551616 * val l.tail:=by
 cases l with
 | nil=>simp[val,nth]
 | cons x l=>simp[val,nth]
theorem fH(l:List Int)(i:Nat):nth l.tail i=nth l (i + 1):=by
 cases l with
 | nil=>simp[nth]
 | cons x l=>simp[nth]
theorem Lim.Words.tl(h:Words l):Words l.tail:=fun x hx=>h x (List.mem_of_mem_tail hx)
theorem oY:∀ {a b:List Int},(∀ i,nth a i=nth b i)->val a=val b
 | [],b,h=>by rw[fm (l:=b) fun i=>by rw[<- h i,Dq]]; rfl
 | x :: a,b,h=>by
  rw[fU (x :: a),fU b,h 0,List.tail_cons,oY (a:=a) (b:=b.tail) fun i=>by rw[fH,<- h (i + 1),dF]]
theorem ku:∀ (h:Nat) {a b:List Int},Words a->Words b->(∀ i,h < i->nth a i=nth b i)->nth a h < nth b h->val a < val b
 | 0,a,b,_,_,he,hl=>by
  rw[fU a,fU b,oY (a:=a.tail) (b:=b.tail) fun i=>by rw[fH,fH]; exact he _ (by omega)];omega
 | h + 1,a,b,ha,hb,he,hl=>by
  have:=ku h ha.tl hb.tl (fun i hi=>by rw[fH,fH]; exact he _ (by omega)) (by rw[fH,fH]; exact hl);have c:=ha.nth 0; have d:=hb.nth 0;rw[fU a,fU b];omega
theorem sgn_at(e:Words a)(hb:Words b)(h:Nat)(he:∀ i,h < i->nth a i=nth b i)(d:nth a h≠nth b h):sgn (nth a h) (nth b h)=sgn (val a) (val b):=by
 rcases Int.lt_or_gt_of_ne d with c | c
 ·rw[gZ c,gZ (ku h e hb he c)]
 ·rw[ko c,ko (ku h hb e (fun i hi=>(he i hi).symm) c)]
theorem xu(e:Words a)(hb:Words b)(c:aE a≠aE b):sgn (aE a) (aE b)=sgn (val a) (val b):=by
 rcases Nat.lt_or_gt_of_ne c with d | d
 ·rw[gZ (by omega),gZ (dz e hb d)]
 ·rw[ko (by omega),ko (dz hb e d)]
theorem qM(x y:Int)(w:World):Calls Tryz.prog 60 #[.int .i64 x,.int .i64 y] w fun e w'=>e=.returned (.int .i64 (sgn x y))/\w'=w:=by
 rcases Int.lt_trichotomy x y with h | h | h
 ·rw[gZ h];go_enter Tryz.func60,Tryz.ntmps60;go_wp2;go_ret;exact⟨rfl,rfl⟩
 ·rw[sX h]; subst h;go_enter Tryz.func60,Tryz.ntmps60;go_wp2;go_ret;exact⟨rfl,rfl⟩
 ·rw[ko h]
  have b:¬ x < y:=by omega
  go_enter Tryz.func60,Tryz.ntmps60;go_wp2;go_ret;exact⟨rfl,rfl⟩
theorem rJ(x y:Int)(w:World):Calls Tryz.prog 61 #[.int .u64 x,.int .u64 y] w fun e w'=>e=.returned (.int .i64 (sgn x y))/\w'=w:=by
 rcases Int.lt_trichotomy x y with h | h | h
 ·rw[gZ h];go_enter Tryz.func61,Tryz.ntmps61;go_wp2;go_ret;exact⟨rfl,rfl⟩
 ·rw[sX h]; subst h;go_enter Tryz.func61,Tryz.ntmps61;go_wp2;go_ret;exact⟨rfl,rfl⟩
 ·rw[ko h]
  have b:¬ x < y:=by omega
  go_enter Tryz.func61,Tryz.ntmps61;go_wp2;go_ret;exact⟨rfl,rfl⟩
theorem j7{k:IntKind}{a b:Int}(h:a=b):Ending.returned (.int k a)=.returned (.int k b):=by rw[h]
theorem ir(ao:Option Addr)(n c b o:Nat)(ao':Option Addr)(n' c' b' o':Nat)(l d:List Int)(w:World)(U:l.length=n)(A:d.length=n')(hc:n<=c)(B:n'<=c')(O:n<=1099511627776)(F:n'<=1099511627776)(wl:Words l)(p:Words d)(v:At w ao b o l)(g:At w ao' b' o' d) :
  Calls Tryz.prog 26 #[.slice ao n c,.slice ao' n' c'] w fun e w'=>e=.returned (.int .i64 (sgn (val l) (val d)))/\Below w.heap.size w w':=by
 have hn:=bp l
 have G:=bp d;have t1:=bj ao n c l w U hc (by omega) v.cells;have t2:=bj ao' n' c' d w A B (by omega) g.cells
 have q:∀ i,aE l<=i->nth l i=0:=fun i hi=>ft hi
 have m:∀ i,aE d<=i->nth d i=0:=fun i hi=>ft hi
 have s:Hid (aE l≠aE d->sgn (aE l) (aE d)=sgn (val l) (val d)):=xu wl p
 have J:Hid (∀ i,aE l<=i->nth l i=0):=q
 have t:Hid (∀ i,aE d<=i->nth d i=0):=m;clear q m;generalize aE l=N at *;generalize aE d=L at *;go_enter Tryz.func26,Tryz.ntmps26;go_wp2_with fail;refine t1.mono ?_
 rintro e w1 ⟨rfl,rfl⟩;go_wp2_with fail;refine t2.mono ?_
 rintro e I ⟨rfl,rfl⟩;clear t1 t2;by_cases u:N=L
 ·subst u;go_wp2_with fail;go_loopw [25] (fun D wr=>∃ k:Nat,k<=N/\D=.int .i64 k/\Hid (∀ i,N - k<=i->nth l i=nth d i)/\Below I.heap.size I wr) (fun D _=>N - (intOf D).toNat)
  case atStart=>exact⟨0,Nat.zero_le _,rfl,fun i hi=>by rw[J.out i (by omega),t.out i (by omega)],Below.refl _ _⟩
  case round =>
   obtain⟨k,hk,rfl,E,f⟩:=hrel;by_cases X:k < N
   ·have r:=v.keep f
    have j:=g.keep f;rcases v.loc with e | rfl
    ·subst e; simp at hn; omega
    rcases g.loc with e | rfl
    ·subst e; simp at G; omega
    obtain⟨h,Q⟩:∃ h:Nat,N=h + 1 + k:=⟨N - 1 - k,by omega⟩
    have q1:=r.cell h (by omega);have R:=j.cell h (by omega)
    have HN:Hid (N=h + 1 + k):=Q
    have P:(N:Int) - 1 - k=h:=by omega
    have M:Hid (∀ i,h < i->nth l i=nth d i):=fun i hi=>E.out i (by omega)
    have V:Hid (nth l h≠nth d h->sgn (nth l h) (nth d h)=sgn (val l) (val d)):=sgn_at wl p h M.out
    have Z:(h:Int) < N:=by omega
    clear Q E J t s v g r j wl p;generalize hx:nth l h=x at *;generalize hy:nth d h=y at *
    have K:Hid (x=y->nth l h=nth d h):=fun e=>hx.trans (e.trans hy.symm)
    clear hx hy;by_cases z:x=y
    ·have S:Hid (nth l h=nth d h):=K.out z;clear K;subst z;go_wp2_with fail;go_quiet (fail);go_wp2;go_roundw
     case rel=>exact⟨k + 1,by omega,by go_num,fun i hi=>by
      by_cases e:i=h
      ·subst e; exact S.out
      ·exact M.out i (by have:=HN.out; omega),below_drewN f _⟩
     case measure=>simp[intOf]; omega
    ·have T:(x != y)=true:=by rw[bne_iff_ne]; exact z
     go_wp2_with fail;go_quiet (fail);go_wp2_with fail
     have q3:(wr.drewN nq).cell? ⟨b,o + h,none⟩=some (.int .u64 x):=q1
     have q4:(wr.drewN nq).cell? ⟨b',o' + h,none⟩=some (.int .u64 y):=R;have H:=below_drewN f nq;clear q1 R f;generalize wr.drewN nq=W at *;go_quiet ((go_at_call 61; exact Calls.quiet_of_same (rJ _ _ _)));go_wp2;go_ret;exact⟨j7 (V.out z),below_drewN H _⟩
   ·have C:k=N:=by omega
    subst C;go_wp2;go_ret;rw[sX (oY fun i=>E.out i (by omega))];exact⟨rfl,f⟩
 ·have Y:((N:Int) != (L:Int))=true:=by rw[bne_iff_ne]; omega
  go_wp2_with (go_at_call 60; refine(qM _ _ _).mono ?_; rintro e w' ⟨rfl,rfl⟩);go_ret;exact⟨j7 (s.out u),Below.refl _ _⟩
end
end
section
open Go.RowKit Lim
section
variable {n:Nat}
theorem w64(z:Int)(h0:0<=z)(h1:z<=1000):wrap64 z=z:=by
 unfold wrap64; omega
theorem gx(k:Int)(i:Nat)(h0:0<=k)(hk:k<=56)(h:i < 256):wrap64 (k + wrap64 (bitLen i:Int))=k + bitLen i:=by
 have:=bitLen_le8 i h;rw[w64 (bitLen i) (by omega) (by omega),w64 _ (by omega) (by omega)]
theorem iR(x:Int)(b i:Nat)(h:x.toNat / 2 ^ b=i)(hi:i≠0):((bitLen x.toNat:Nat):Int)=b + bitLen i:=by
 rw[bitLen_shift x.toNat b (by rw[h]; exact hi),h]; omega
theorem len64(x:Int)(w:World)(b:0<=x)(c:x < 18446744073709551616) :
  Calls Tryz.prog 139 #[.int .u64 x] w fun e w'=>e=.returned (.int .i64 (bitLen x.toNat))/\w'=w:=by
 by_cases c0:4294967296<=x
 ·by_cases c1:65536<=x / 4294967296
  ·by_cases c2:256<=x / 4294967296 / 65536
   ·go_enter Tryz.func139,Tryz.ntmps139;go_wp2;go_ret;refine⟨j7 ?_,rfl⟩;rw[len8tab_get,gx 56 (x / 4294967296 / 65536 / 256).toNat (by decide) (by decide) (by omega),iR x 56 (x / 4294967296 / 65536 / 256).toNat (by rw[show (2:Nat) ^ 56=72057594037927936 from rfl]; omega) (by omega)];rfl
   ·go_enter Tryz.func139,Tryz.ntmps139;go_wp2;go_ret;refine⟨j7 ?_,rfl⟩;rw[len8tab_get,gx 48 (x / 4294967296 / 65536).toNat (by decide) (by decide) (by omega),iR x 48 (x / 4294967296 / 65536).toNat (by rw[show (2:Nat) ^ 48=281474976710656 from rfl]; omega) (by omega)];rfl
  ·by_cases c2:256<=x / 4294967296
   ·go_enter Tryz.func139,Tryz.ntmps139;go_wp2;go_ret;refine⟨j7 ?_,rfl⟩;rw[len8tab_get,gx 40 (x / 4294967296 / 256).toNat (by decide) (by decide) (by omega),iR x 40 (x / 4294967296 / 256).toNat (by rw[show (2:Nat) ^ 40=1099511627776 from rfl]; omega) (by omega)];rfl
   ·go_enter Tryz.func139,Tryz.ntmps139;go_wp2;go_ret;refine⟨j7 ?_,rfl⟩;rw[len8tab_get,gx 32 (x / 4294967296).toNat (by decide) (by decide) (by omega),iR x 32 (x / 4294967296).toNat (by rw[show (2:Nat) ^ 32=4294967296 from rfl]; omega) (by omega)];rfl
 ·by_cases c1:65536<=x
  ·by_cases c2:256<=x / 65536
   ·go_enter Tryz.func139,Tryz.ntmps139;go_wp2;go_ret;refine⟨j7 ?_,rfl⟩;rw[len8tab_get,gx 24 (x / 65536 / 256).toNat (by decide) (by decide) (by omega),iR x 24 (x / 65536 / 256).toNat (by rw[show (2:Nat) ^ 24=16777216 from rfl]; omega) (by omega)];rfl
   ·go_enter Tryz.func139,Tryz.ntmps139;go_wp2;go_ret;refine⟨j7 ?_,rfl⟩;rw[len8tab_get,gx 16 (x / 65536).toNat (by decide) (by decide) (by omega),iR x 16 (x / 65536).toNat (by rw[show (2:Nat) ^ 16=65536 from rfl]; omega) (by omega)];rfl
  ·by_cases c2:256<=x
   ·go_enter Tryz.func139,Tryz.ntmps139;go_wp2;go_ret;refine⟨j7 ?_,rfl⟩;rw[len8tab_get,gx 8 (x / 256).toNat (by decide) (by decide) (by omega),iR x 8 (x / 256).toNat (by rw[show (2:Nat) ^ 8=256 from rfl]; omega) (by omega)];rfl
   ·go_enter Tryz.func139,Tryz.ntmps139;go_wp2;go_ret;refine⟨j7 ?_,rfl⟩;rw[len8tab_get];have:=bitLen_le8 x.toNat (by omega);rw[w64 (bitLen x.toNat:Int) (by omega) (by omega),w64 _ (by omega) (by omega)]
theorem ni(h:n≠0):1<=bitLen n:=by unfold bitLen; rw[if_neg h]; omega
theorem gX(h:n < 18446744073709551616):bitLen n<=64:=by
 unfold bitLen;split
 ·omega
 ·have:=(Nat.log2_lt (k:=64) ‹_›).2 (by omega); omega
theorem DY(x:Int)(w:World)(c:0<=x)(b:x < 18446744073709551616) :
  Calls Tryz.prog 87 #[.int .u64 x] w fun e w'=>e=.returned (.int .i64 (64 - bitLen x.toNat))/\w'=w:=by
 have f:=gX (n:=x.toNat) (by omega);have t1:=len64 x w c b;generalize bitLen x.toNat=L at *;go_enter Tryz.func87,Tryz.ntmps87;go_wp2_with fail;refine t1.mono ?_
 rintro e d ⟨rfl,rfl⟩;go_wp2;go_ret;exact⟨rfl,rfl⟩
end
end
section
open Go.RowKit Lim
section
variable {y y1 y0 u a q r:Int}
theorem D0(y:Int)(w:World)(h:0 < y)(d:y < 18446744073709551616) :
  Calls Tryz.prog 87 #[.int .u64 y] w fun e w'=>∃ s:Nat,e=.returned (.int .i64 s)/\s<=63/\Hid (9223372036854775808<=y * 2 ^ s/\y * 2 ^ s < 18446744073709551616)/\w'=w:=by
 refine(DY y w (by omega) d).mono ?_
 rintro e w' ⟨rfl,rfl⟩;have g:=gX (n:=y.toNat) (by omega);have f:=ni (n:=y.toNat) (by omega);have hs:=bitLen_spec y.toNat;generalize bitLen y.toNat=L at *;refine⟨64 - L,j7 (by omega),by omega,?_,rfl⟩;have a:=hs.1;have b:=hs.2 (by omega);obtain⟨n,rfl⟩:∃ n:Nat,y=n:=⟨y.toNat,by omega⟩
 rw[Int.toNat_natCast] at a b
 have e1:(2:Nat) ^ L * 2 ^ (64 - L)=18446744073709551616:=by rw[<- Nat.pow_add,show L + (64 - L)=64 from by omega]
 have e2:(2:Nat) ^ (L - 1) * 2 ^ (64 - L)=9223372036854775808:=by rw[<- Nat.pow_add,show L - 1 + (64 - L)=63 from by omega]
 have k1:n * 2 ^ (64 - L) < 2 ^ L * 2 ^ (64 - L):=Nat.mul_lt_mul_of_pos_right a (Nat.two_pow_pos _)
 have k2:2 ^ (L - 1) * 2 ^ (64 - L)<=n * 2 ^ (64 - L):=Nat.mul_le_mul_right _ b;rw[e1] at k1;rw[e2] at k2
 have c:((n * 2 ^ (64 - L):Nat):Int)=(n:Int) * 2 ^ (64 - L):=by rw[Int.natCast_mul,Int.natCast_pow]; rfl
 show _/\_
 rw[<- c];omega
structure eP(y y1 u a q r:Int):Prop where
 eq:q * y1 + r=u
 r0:0<=r
 up:u * 4294967296 + a < (q + 1) * y
 q0:0<=q
 qb:q<=4294967297
theorem eP.start(e:y=y1 * 4294967296 + y0)(c:0<=y0)(h:y0 < 4294967296)(i:2147483648<=y1)(u0:0<=u)(j:u < y)(a0:0<=a)(a1:a < 4294967296) :
  eP y y1 u a (u / y1) (u % y1):=by
 have g:=Int.mul_ediv_add_emod u y1;have d:=Int.emod_nonneg u (show y1≠0 by omega);have f:=Int.emod_lt_of_pos u (show 0 < y1 by omega)
 have b:0<=u / y1:=Int.ediv_nonneg u0 (by omega);generalize u / y1=q at *;generalize u % y1=r at *;refine⟨by rw[Int.mul_comm]; exact g,d,?_,b,?_⟩
 ·have k1:(q + 1) * y=(y1 * q + y1) * 4294967296 + (q + 1) * y0:=by rw[e]; grind
  have k2:0<=(q + 1) * y0:=Int.mul_nonneg (by omega) c;rw[k1]; omega
 ·by_cases hc:q<=4294967297
  ·exact hc
  ·have k:y1 * 4294967298<=y1 * q:=Int.mul_le_mul_of_nonneg_left (by omega) (by omega);omega
theorem eP.big(h:eP y y1 u a q r)(a1:a < 4294967296)(y0:0 < y)(d:u < y)(b:4294967296<=q)(c:0<=y1):eP y y1 u a (q - 1) (r + y1):=by
 have k:y * 4294967296<=y * q:=Int.mul_le_mul_of_nonneg_left b (by omega);have:=h.eq; have:=h.r0; have:=h.qb;refine⟨by rw[Int.sub_mul]; omega,by omega,?_,by omega,by omega⟩;rw[Int.sub_add_cancel,Int.mul_comm q y]; omega
theorem eP.more(h:eP y y1 u a q r)(e:y=y1 * 4294967296 + y0)(u0:0<=u)(a0:0<=a)(f:0<=y1)(hc:4294967296 * r + a < q * y0):eP y y1 u a (q - 1) (r + y1):=by
 have he:=h.eq; have:=h.r0; have:=h.qb; have:=h.q0
 have k:q * y=q * y1 * 4294967296 + q * y0:=by rw[e]; grind
 have b:u * 4294967296 + a < q * y:=by rw[k]; omega
 have d:1<=q:=by
  by_cases c:1<=q
  ·exact c
  ·have:q=0:=by omega
   subst this;simp at b; omega
 refine⟨by rw[Int.sub_mul]; omega,by omega,?_,by omega,by omega⟩;rw[Int.sub_add_cancel]; exact b
structure Dig(y u a q:Int):Prop where
 lo:q * y<=u * 4294967296 + a
 hi:u * 4294967296 + a < (q + 1) * y
 q0:0<=q
 q1:q < 4294967296
theorem eP.dig(h:eP y y1 u a q r)(e:y=y1 * 4294967296 + y0)(d:0 < y)(b:u < y)(a1:a < 4294967296)(hc:q * y0<=4294967296 * r + a):Dig y u a q:=by
 have he:=h.eq
 have k:q * y=q * y1 * 4294967296 + q * y0:=by rw[e]; grind
 have lo:q * y<=u * 4294967296 + a:=by rw[k]; omega
 refine⟨lo,h.up,h.q0,?_⟩;by_cases c:q < 4294967296
 ·exact c
 ·have:4294967296 * y<=q * y:=Int.mul_le_mul_of_nonneg_right (by omega) (by omega);omega
theorem eP.kL(h:eP y y1 u a q r)(e:y=y1 * 4294967296 + y0)(d:0 < y)(b:u < y)(a0:0<=a)(a1:a < 4294967296)(f:0<=y0)(g:y0 < 4294967296)(c:q<=4294967296)(i:4294967296<=r):Dig y u a q :=
 h.dig e d b a1 (by
  have:q * y0<=4294967296 * y0:=Int.mul_le_mul_of_nonneg_right c f
  omega)
theorem Dig.rest(h:Dig y u a q):0<=u * 4294967296 + a - q * y/\u * 4294967296 + a - q * y < y:=by
 have:=h.lo; have h2:=h.hi;rw[Int.add_mul] at h2;omega
theorem ediv64(x S T:Int)(hS:0 < S)(h:S * T=18446744073709551616):x * S / 18446744073709551616=x / T:=by
 rw[<- h,Int.mul_comm S T,Int.mul_ediv_mul_of_pos_left _ _ hS]
theorem oR(a b:Int)(s:Nat)(k:Int)(i:a=k * 2 ^ s)(j:0<=k)(d:a < 18446744073709551616)(c:0<=b)(l:b < 2 ^ s)(h:b < 18446744073709551616):bits .or .u64 a b=a + b:=by
 have m:(0:Int) < 2 ^ s:=Int.pow_pos (by decide)
 have f:0<=a:=by rw[i]; exact Int.mul_nonneg j (Int.le_of_lt m)
 rw[u64_or a b f d c h];obtain⟨k,rfl⟩:=Int.eq_ofNat_of_zero_le j;obtain⟨b,rfl⟩:=Int.eq_ofNat_of_zero_le c
 have e:a.toNat=2 ^ s * k:=by
  have:a=((2 ^ s * k:Nat):Int):=by rw[i,Int.natCast_mul,Int.natCast_pow,Int.mul_comm]; rfl
  rw[this,Int.toNat_natCast]
 have g:b < 2 ^ s:=by
  have:((2 ^ s:Nat):Int)=2 ^ s:=by rw[Int.natCast_pow]; rfl
  omega
 rw[e,Int.toNat_natCast,<- Nat.two_pow_add_eq_or_of_lt g,<- e];omega
theorem yn(hi lo y:Int)(s:Nat)(i:0<=hi)(n:hi < y)(h:0<=lo)(l1:lo < 18446744073709551616)(hs:s<=63)(p:9223372036854775808<=y * 2 ^ s/\y * 2 ^ s < 18446744073709551616) :
  ∃ Y Yh Yl U A A1 A0:Int,IntKind.u64.wrap (y * 2 ^ s)=Y/\Y / 4294967296=Yh/\bits .and .u64 Y 4294967295=Yl/\bits .or .u64 (IntKind.u64.wrap (hi * 2 ^ s)) (lo / 2 ^ (64 - s))=U /\
   IntKind.u64.wrap (lo * 2 ^ s)=A/\A / 4294967296=A1/\bits .and .u64 A 4294967295=A0/\0<=Yl/\Yl < 4294967296/\2147483648<=Yh/\Yh < 4294967296/\0<=U/\U < Y/\Y < 18446744073709551616/\0<=A1/\A1 < 4294967296/\0<=A0/\A0 < 4294967296 /\
   Hid (Y=Yh * 4294967296 + Yl)/\Hid ((U * 4294967296 + A1) * 4294967296 + A0=(hi * 18446744073709551616 + lo) * 2 ^ s/\Y=y * 2 ^ s):=by
 have hS:(0:Int) < 2 ^ s:=Int.pow_pos (by decide)
 have f:(0:Int) < 2 ^ (64 - s):=Int.pow_pos (by decide)
 have d:(2:Int) ^ s * 2 ^ (64 - s)=18446744073709551616:=by rw[<- Int.pow_add,show s + (64 - s)=64 from by omega]; rfl
 have g:(2:Int) ^ s * 1<=2 ^ s * 2 ^ (64 - s):=Int.mul_le_mul_of_nonneg_left (by omega) (Int.le_of_lt hS)
 have e:0<=hi * 2 ^ s:=Int.mul_nonneg i (Int.le_of_lt hS)
 have c:(hi + 1) * 2 ^ s<=y * 2 ^ s:=Int.mul_le_mul_of_nonneg_right (by omega) (Int.le_of_lt hS);rw[Int.add_mul,Int.one_mul] at c
 have j:0<=lo * 2 ^ s:=Int.mul_nonneg h (Int.le_of_lt hS)
 have b:0<=lo / 2 ^ (64 - s):=Int.ediv_nonneg h (Int.le_of_lt f)
 have a:lo / 2 ^ (64 - s) < 2 ^ s:=by
  rw[Int.ediv_lt_iff_lt_mul f,d]; exact l1
 have k:=ediv64 lo (2 ^ s) (2 ^ (64 - s)) hS d
 have l:bits .or .u64 (IntKind.u64.wrap (hi * 2 ^ s)) (lo / 2 ^ (64 - s))=hi * 2 ^ s + lo / 2 ^ (64 - s):=by
  rw[IntKind.wrap_u64,Int.emod_eq_of_lt e (by omega)];exact oR _ _ s hi rfl i (by omega) b a (by omega)
 have m:IntKind.u64.wrap (y * 2 ^ s)=y * 2 ^ s:=by rw[IntKind.wrap_u64]; omega
 have hA:IntKind.u64.wrap (lo * 2 ^ s)=lo * 2 ^ s % 18446744073709551616:=IntKind.wrap_u64 _
 have e3:(hi * 18446744073709551616 + lo) * 2 ^ s=hi * 2 ^ s * 18446744073709551616 + lo * 2 ^ s:=by grind
 rw[l,m,hA];rw[<- k] at b a ⊢;rw[e3];generalize hi * 2 ^ s=H at *;generalize lo * 2 ^ s=o at *;generalize y * 2 ^ s=Y at *;refine⟨Y,_,_,_,_,_,_,rfl,rfl,qO _ (by omega) (by omega),rfl,rfl,rfl,qO _ (by omega) (by omega),by omega,by omega,by omega,by omega,by omega,by omega,by omega,by omega,by omega,by omega,by omega,?_,?_,rfl⟩
 ·show _=_; omega
 ·omega
theorem vZ(U A p V:Int)(h:V=U * 4294967296 + A - p)(b:0<=V)(a:V < 18446744073709551616):IntKind.u64.wrap (IntKind.u64.wrap (IntKind.u64.wrap (U * 4294967296) + A) - IntKind.u64.wrap p)=V:=by
 simp only[IntKind.wrap_u64]; omega
theorem yX(u y:Int)(hu:0<=u)(b:u < 18446744073709551616)(hy:0 < y):IntKind.u64.wrap (u - IntKind.u64.wrap (u / y * y))=u % y:=by
 have a:=Int.mul_ediv_add_emod u y;have d:=Int.emod_nonneg u (show y≠0 by omega);have c:=Int.mul_nonneg (Int.ediv_nonneg hu (Int.le_of_lt hy)) (Int.le_of_lt hy);rw[Int.mul_comm] at a;generalize u / y * y=p at *;generalize u % y=r at *;simp only[IntKind.wrap_u64]; omega
theorem ie(Y b c u a:Int)(hy:Y=b * 4294967296 + c)(g:0<=c)(d:c < 4294967296)(f:2147483648<=b)(h:b < 4294967296)(u0:0<=u)(e:u < Y)(i:Y < 18446744073709551616)(a0:0<=a)(a1:a < 4294967296) :
  IntKind.u64.wrap (u - IntKind.u64.wrap (u / b * b))=u % b/\eP Y b u a (u / b) (u % b)/\u % b < 4294967296 :=
 ⟨yX u b u0 (by omega) (by omega),eP.start hy g d f u0 e a0 a1,by have:=Int.emod_lt_of_pos u (show 0 < b by omega); omega⟩
theorem dt{Y:Int}(h:Dig Y u a q)(b:Y < 18446744073709551616):∃ V:Int,IntKind.u64.wrap (IntKind.u64.wrap (IntKind.u64.wrap (u * 4294967296) + a) - IntKind.u64.wrap (q * Y))=V/\0<=V/\V < Y/\Hid (V=u * 4294967296 + a - q * Y):=by
 have:=h.rest;exact⟨u * 4294967296 + a - q * Y,vZ u a (q * Y) _ rfl this.1 (by omega),this.1,this.2,rfl⟩
theorem ff(hi lo y Y U h d Q V a:Int)(s:Nat)(hy:0 < y)(e:(U * 4294967296 + h) * 4294967296 + d=(hi * 18446744073709551616 + lo) * 2 ^ s)(i:Y=y * 2 ^ s)(j:V=U * 4294967296 + h - Q * Y)(g:Dig Y V d a) :
  Q * 4294967296 + a=(hi * 18446744073709551616 + lo) / y/\(V * 4294967296 + d - a * Y) / 2 ^ s=(hi * 18446744073709551616 + lo) % y:=by
 have hS:(0:Int) < 2 ^ s:=Int.pow_pos (by decide);have f:=g.rest;have k:=g.q0;have l:=g.q1;generalize hN:hi * 18446744073709551616 + lo=N at *
 have key:N * 2 ^ s=(Q * 4294967296 + a) * y * 2 ^ s + (V * 4294967296 + d - a * Y):=by rw[<- e,j,i]; grind
 generalize hR:V * 4294967296 + d - a * Y=R at *
 have hdiv:R=(N - (Q * 4294967296 + a) * y) * 2 ^ s:=by rw[Int.sub_mul]; omega
 generalize hK:Q * 4294967296 + a=K at *;generalize hD:N - K * y=D at *;rw[hdiv] at f;rw[i] at f
 have d0:0<=D:=by
  by_cases c:0<=D
  ·exact c
  ·have:D * 2 ^ s <= -1 * 2 ^ s:=Int.mul_le_mul_of_nonneg_right (by omega) (Int.le_of_lt hS);omega
 have d1:D < y:=Int.lt_of_mul_lt_mul_right f.2 (Int.le_of_lt hS)
 have b:N=y * K + D:=by rw[<- hD,Int.mul_comm y K]; omega
 constructor
 ·have:N / y=K:=by rw[b,Int.add_comm,Int.add_mul_ediv_left _ _ (by omega),Int.ediv_eq_zero_of_lt d0 d1,Int.zero_add]
  omega
 ·rw[hdiv,Int.mul_ediv_cancel _ (by omega),b,Int.add_comm,Int.add_mul_emod_self_left,Int.emod_eq_of_lt d0 d1]
theorem n6(hi lo y:Int)(w:World)(h0:0 < hi)(h1:hi < y)(l0:0<=lo)(l1:lo < 18446744073709551616)(y1:y < 18446744073709551616) :
  Calls Tryz.prog 166 #[.int .u64 hi,.int .u64 lo,.int .u64 y] w fun e w'=>e=.returned (.tuple #[.int .u64 ((hi * 18446744073709551616 + lo) / y),.int .u64 ((hi * 18446744073709551616 + lo) % y)])/\w'=w:=by
 have hb0:(hi == 0)=false:=beq_eq_false_iff_ne.2 (by omega)
 have hb1:(y == 0)=false:=beq_eq_false_iff_ne.2 (by omega);go_enter Tryz.func166,Tryz.ntmps166;go_wp2_with fail;refine(D0 y _ (by omega) y1).mono ?_
 rintro e w' ⟨s,rfl,hs,HS,rfl⟩;obtain⟨Y,n,K,U,A,x,i,e1,e2,e3,e4,e5,e6,e7,f,m,P,O,u0,u1,D,a10,M,T,j,v,z⟩:=yn hi lo y s (by omega) h1 l0 l1 hs HS.out;obtain⟨d2,o,u⟩:=ie Y n K U x v.out f m P O u0 u1 D a10 M;go_wp2_with fail;clear e1 e2 e3 e4 e5 e6 e7 d2 HS hb0 hb1;go_loop [15,16] (fun tq tr=>∃ q r:Int,tq=.int .u64 q/\tr=.int .u64 r/\eP Y n U x q r/\r < 4294967296) (fun tq _=>(intOf tq).toNat)
 case atStart=>exact⟨_,_,rfl,rfl,o,u⟩
 case round =>
  clear o u;obtain⟨q,r,rfl,rfl,g,hr⟩:=hrel;have q0:=g.q0;have qb:=g.qb;have r0:=g.r0;by_cases c1:4294967296<=q
  ·have b:=g.big M (by omega) u1 c1 (by omega);obtain⟨Q,F⟩:∃ Q,q - 1=Q:=⟨_,rfl⟩
   obtain⟨R,I⟩:∃ R,r + n=R:=⟨_,rfl⟩
   rw[F,I] at b;have L:=b.q0
   have J:Q < q:=by omega
   have S:R < 8589934592:=by omega
   have X:=b.r0;by_cases c2:4294967296<=R
   ·have d:Hid (Dig Y U x Q):=b.kL v.out (by omega) u1 (by omega) M f m (by omega) c2;have N:=d.out.q1;obtain⟨V,v1,v2,v3,B⟩:=dt d.out D;obtain⟨d2,o,u⟩:=ie Y n K V i v.out f m P O v2 v3 D T j;obtain⟨l,t⟩:∃ l,l=Q:=⟨_,rfl⟩
    have QQ0:0<=l:=by omega
    have aa:l < 4294967296:=by omega
    have B:Hid (V=U * 4294967296 + x - l * Y):=by rw[t]; exact B
    go_wp2_with fail;rw[<- t];clear v1 d2 t;go_loop [18,16] (fun tq tr=>∃ q r:Int,tq=.int .u64 q/\tr=.int .u64 r/\eP Y n V i q r/\r < 4294967296) (fun tq _=>(intOf tq).toNat)
    case atStart=>exact⟨_,_,rfl,rfl,o,u⟩
    case round =>
     clear o u d;obtain⟨q,r,rfl,rfl,g,hr⟩:=hrel;have q0:=g.q0;have qb:=g.qb;have r0:=g.r0;by_cases c1:4294967296<=q
     ·have b:=g.big j (by omega) v3 c1 (by omega);obtain⟨Q,F⟩:∃ Q,q - 1=Q:=⟨_,rfl⟩
      obtain⟨R,I⟩:∃ R,r + n=R:=⟨_,rfl⟩
      rw[F,I] at b;have L:=b.q0
      have J:Q < q:=by omega
      have S:R < 8589934592:=by omega
      have X:=b.r0;by_cases c2:4294967296<=R
      ·have d:Hid (Dig Y V i Q):=b.kL v.out (by omega) v3 (by omega) j f m (by omega) c2;have N:=d.out.q1;obtain⟨Z,z1,z2,z3,C⟩:=dt d.out D;go_wp2;go_ret2;have c:=ff hi lo y Y U x i l V Q s (by omega) z.out.1 z.out.2 B.out d.out;exact⟨nE c.1 (by rw[<- c.2,<- C.out]),rfl⟩
      ·have E:Hid (eP Y n V i Q R):=b;clear b g;go_wp2;go_round
       case rel=>exact⟨Q,R,rfl,rfl,E.out,by omega⟩
       case measure=>simp[intOf]; omega
     ·obtain⟨p,G⟩:∃ p,q * K=p:=⟨_,rfl⟩
      have p0:0<=p:=by rw[<- G]; exact Int.mul_nonneg q0 f
      have p1:p < 18446744073709551616:=by
       have:=Int.mul_le_mul (show q<=4294967295 by omega) (show K<=4294967295 by omega) f (by decide);omega
      by_cases W:4294967296 * r + i < p
      ·have b:=g.more v.out (by omega) (by omega) (by omega) (by rw[G]; exact W);obtain⟨Q,F⟩:∃ Q,q - 1=Q:=⟨_,rfl⟩
       obtain⟨R,I⟩:∃ R,r + n=R:=⟨_,rfl⟩
       rw[F,I] at b;have L:=b.q0
       have J:Q < q:=by omega
       have S:R < 8589934592:=by omega
       have X:=b.r0;by_cases c2:4294967296<=R
       ·have d:Hid (Dig Y V i Q):=b.kL v.out (by omega) v3 (by omega) j f m (by omega) c2;have N:=d.out.q1;obtain⟨Z,z1,z2,z3,C⟩:=dt d.out D;go_wp2;go_ret2;have c:=ff hi lo y Y U x i l V Q s (by omega) z.out.1 z.out.2 B.out d.out;exact⟨nE c.1 (by rw[<- c.2,<- C.out]),rfl⟩
       ·have E:Hid (eP Y n V i Q R):=b;clear b g;go_wp2;go_round
        case rel=>exact⟨Q,R,rfl,rfl,E.out,by omega⟩
        case measure=>simp[intOf]; omega
      ·have d:Hid (Dig Y V i q):=g.dig v.out (by omega) v3 j (by rw[G]; omega);have N:=d.out.q1;have L:=d.out.q0;clear g
       have H:∃ Q,Q=q:=⟨_,rfl⟩
       obtain⟨Q,rfl⟩:=H;obtain⟨Z,z1,z2,z3,C⟩:=dt d.out D;go_wp2;go_ret2;have c:=ff hi lo y Y U x i l V Q s (by omega) z.out.1 z.out.2 B.out d.out;exact⟨nE c.1 (by rw[<- c.2,<- C.out]),rfl⟩
   ·have E:Hid (eP Y n U x Q R):=b;clear b g;go_wp2;go_round
    case rel=>exact⟨Q,R,rfl,rfl,E.out,by omega⟩
    case measure=>simp[intOf]; omega
  ·obtain⟨p,G⟩:∃ p,q * K=p:=⟨_,rfl⟩
   have p0:0<=p:=by rw[<- G]; exact Int.mul_nonneg q0 f
   have p1:p < 18446744073709551616:=by
    have:=Int.mul_le_mul (show q<=4294967295 by omega) (show K<=4294967295 by omega) f (by decide);omega
   by_cases W:4294967296 * r + x < p
   ·have b:=g.more v.out (by omega) (by omega) (by omega) (by rw[G]; exact W);obtain⟨Q,F⟩:∃ Q,q - 1=Q:=⟨_,rfl⟩
    obtain⟨R,I⟩:∃ R,r + n=R:=⟨_,rfl⟩
    rw[F,I] at b;have L:=b.q0
    have J:Q < q:=by omega
    have S:R < 8589934592:=by omega
    have X:=b.r0;by_cases c2:4294967296<=R
    ·have d:Hid (Dig Y U x Q):=b.kL v.out (by omega) u1 (by omega) M f m (by omega) c2;have N:=d.out.q1;obtain⟨V,v1,v2,v3,B⟩:=dt d.out D;obtain⟨d2,o,u⟩:=ie Y n K V i v.out f m P O v2 v3 D T j;obtain⟨l,t⟩:∃ l,l=Q:=⟨_,rfl⟩
     have QQ0:0<=l:=by omega
     have aa:l < 4294967296:=by omega
     have B:Hid (V=U * 4294967296 + x - l * Y):=by rw[t]; exact B
     go_wp2_with fail;rw[<- t];clear v1 d2 t;go_loop [18,16] (fun tq tr=>∃ q r:Int,tq=.int .u64 q/\tr=.int .u64 r/\eP Y n V i q r/\r < 4294967296) (fun tq _=>(intOf tq).toNat)
     case atStart=>exact⟨_,_,rfl,rfl,o,u⟩
     case round =>
      clear o u d;obtain⟨q,r,rfl,rfl,g,hr⟩:=hrel;have q0:=g.q0;have qb:=g.qb;have r0:=g.r0;by_cases c1:4294967296<=q
      ·have b:=g.big j (by omega) v3 c1 (by omega);obtain⟨Q,F⟩:∃ Q,q - 1=Q:=⟨_,rfl⟩
       obtain⟨R,I⟩:∃ R,r + n=R:=⟨_,rfl⟩
       rw[F,I] at b;have L:=b.q0
       have J:Q < q:=by omega
       have S:R < 8589934592:=by omega
       have X:=b.r0;by_cases c2:4294967296<=R
       ·have d:Hid (Dig Y V i Q):=b.kL v.out (by omega) v3 (by omega) j f m (by omega) c2;have N:=d.out.q1;obtain⟨Z,z1,z2,z3,C⟩:=dt d.out D;go_wp2;go_ret2;have c:=ff hi lo y Y U x i l V Q s (by omega) z.out.1 z.out.2 B.out d.out;exact⟨nE c.1 (by rw[<- c.2,<- C.out]),rfl⟩
       ·have E:Hid (eP Y n V i Q R):=b;clear b g;go_wp2;go_round
        case rel=>exact⟨Q,R,rfl,rfl,E.out,by omega⟩
        case measure=>simp[intOf]; omega
      ·obtain⟨p,G⟩:∃ p,q * K=p:=⟨_,rfl⟩
       have p0:0<=p:=by rw[<- G]; exact Int.mul_nonneg q0 f
       have p1:p < 18446744073709551616:=by
        have:=Int.mul_le_mul (show q<=4294967295 by omega) (show K<=4294967295 by omega) f (by decide);omega
       by_cases W:4294967296 * r + i < p
       ·have b:=g.more v.out (by omega) (by omega) (by omega) (by rw[G]; exact W);obtain⟨Q,F⟩:∃ Q,q - 1=Q:=⟨_,rfl⟩
        obtain⟨R,I⟩:∃ R,r + n=R:=⟨_,rfl⟩
        rw[F,I] at b;have L:=b.q0
        have J:Q < q:=by omega
        have S:R < 8589934592:=by omega
        have X:=b.r0;by_cases c2:4294967296<=R
        ·have d:Hid (Dig Y V i Q):=b.kL v.out (by omega) v3 (by omega) j f m (by omega) c2;have N:=d.out.q1;obtain⟨Z,z1,z2,z3,C⟩:=dt d.out D;go_wp2;go_ret2;have c:=ff hi lo y Y U x i l V Q s (by omega) z.out.1 z.out.2 B.out d.out;exact⟨nE c.1 (by rw[<- c.2,<- C.out]),rfl⟩
        ·have E:Hid (eP Y n V i Q R):=b;clear b g;go_wp2;go_round
         case rel=>exact⟨Q,R,rfl,rfl,E.out,by omega⟩
         case measure=>simp[intOf]; omega
       ·have d:Hid (Dig Y V i q):=g.dig v.out (by omega) v3 j (by rw[G]; omega);have N:=d.out.q1;have L:=d.out.q0;clear g
        have H:∃ Q,Q=q:=⟨_,rfl⟩
        obtain⟨Q,rfl⟩:=H;obtain⟨Z,z1,z2,z3,C⟩:=dt d.out D;go_wp2;go_ret2;have c:=ff hi lo y Y U x i l V Q s (by omega) z.out.1 z.out.2 B.out d.out;exact⟨nE c.1 (by rw[<- c.2,<- C.out]),rfl⟩
    ·have E:Hid (eP Y n U x Q R):=b;clear b g;go_wp2;go_round
     case rel=>exact⟨Q,R,rfl,rfl,E.out,by omega⟩
     case measure=>simp[intOf]; omega
   ·have d:Hid (Dig Y U x q):=g.dig v.out (by omega) u1 M (by rw[G]; omega);have N:=d.out.q1;have L:=d.out.q0;clear g
    have H:∃ Q,Q=q:=⟨_,rfl⟩
    obtain⟨Q,rfl⟩:=H;obtain⟨V,v1,v2,v3,B⟩:=dt d.out D;obtain⟨d2,o,u⟩:=ie Y n K V i v.out f m P O v2 v3 D T j;obtain⟨l,t⟩:∃ l,l=Q:=⟨_,rfl⟩
    have QQ0:0<=l:=by omega
    have aa:l < 4294967296:=by omega
    have B:Hid (V=U * 4294967296 + x - l * Y):=by rw[t]; exact B
    go_wp2_with fail;rw[<- t];clear v1 d2 t;go_loop [18,16] (fun tq tr=>∃ q r:Int,tq=.int .u64 q/\tr=.int .u64 r/\eP Y n V i q r/\r < 4294967296) (fun tq _=>(intOf tq).toNat)
    case atStart=>exact⟨_,_,rfl,rfl,o,u⟩
    case round =>
     clear o u d;obtain⟨q,r,rfl,rfl,g,hr⟩:=hrel;have q0:=g.q0;have qb:=g.qb;have r0:=g.r0;by_cases c1:4294967296<=q
     ·have b:=g.big j (by omega) v3 c1 (by omega);obtain⟨Q,F⟩:∃ Q,q - 1=Q:=⟨_,rfl⟩
      obtain⟨R,I⟩:∃ R,r + n=R:=⟨_,rfl⟩
      rw[F,I] at b;have L:=b.q0
      have J:Q < q:=by omega
      have S:R < 8589934592:=by omega
      have X:=b.r0;by_cases c2:4294967296<=R
      ·have d:Hid (Dig Y V i Q):=b.kL v.out (by omega) v3 (by omega) j f m (by omega) c2;have N:=d.out.q1;obtain⟨Z,z1,z2,z3,C⟩:=dt d.out D;go_wp2;go_ret2;have c:=ff hi lo y Y U x i l V Q s (by omega) z.out.1 z.out.2 B.out d.out;exact⟨nE c.1 (by rw[<- c.2,<- C.out]),rfl⟩
      ·have E:Hid (eP Y n V i Q R):=b;clear b g;go_wp2;go_round
       case rel=>exact⟨Q,R,rfl,rfl,E.out,by omega⟩
       case measure=>simp[intOf]; omega
     ·obtain⟨p,G⟩:∃ p,q * K=p:=⟨_,rfl⟩
      have p0:0<=p:=by rw[<- G]; exact Int.mul_nonneg q0 f
      have p1:p < 18446744073709551616:=by
       have:=Int.mul_le_mul (show q<=4294967295 by omega) (show K<=4294967295 by omega) f (by decide);omega
      by_cases W:4294967296 * r + i < p
      ·have b:=g.more v.out (by omega) (by omega) (by omega) (by rw[G]; exact W);obtain⟨Q,F⟩:∃ Q,q - 1=Q:=⟨_,rfl⟩
       obtain⟨R,I⟩:∃ R,r + n=R:=⟨_,rfl⟩
       rw[F,I] at b;have L:=b.q0
       have J:Q < q:=by omega
       have S:R < 8589934592:=by omega
       have X:=b.r0;by_cases c2:4294967296<=R
       ·have d:Hid (Dig Y V i Q):=b.kL v.out (by omega) v3 (by omega) j f m (by omega) c2;have N:=d.out.q1;obtain⟨Z,z1,z2,z3,C⟩:=dt d.out D;go_wp2;go_ret2;have c:=ff hi lo y Y U x i l V Q s (by omega) z.out.1 z.out.2 B.out d.out;exact⟨nE c.1 (by rw[<- c.2,<- C.out]),rfl⟩
       ·have E:Hid (eP Y n V i Q R):=b;clear b g;go_wp2;go_round
        case rel=>exact⟨Q,R,rfl,rfl,E.out,by omega⟩
        case measure=>simp[intOf]; omega
      ·have d:Hid (Dig Y V i q):=g.dig v.out (by omega) v3 j (by rw[G]; omega);have N:=d.out.q1;have L:=d.out.q0;clear g
       have H:∃ Q,Q=q:=⟨_,rfl⟩
       obtain⟨Q,rfl⟩:=H;obtain⟨Z,z1,z2,z3,C⟩:=dt d.out D;go_wp2;go_ret2;have c:=ff hi lo y Y U x i l V Q s (by omega) z.out.1 z.out.2 B.out d.out;exact⟨nE c.1 (by rw[<- c.2,<- C.out]),rfl⟩
theorem mE(lo y:Int)(w:World)(hy:0 < y)(c:0<=lo)(l1:lo < 18446744073709551616)(y1:y < 18446744073709551616) :
  Calls Tryz.prog 166 #[.int .u64 0,.int .u64 lo,.int .u64 y] w fun e w'=>e=.returned (.tuple #[.int .u64 (lo / y),.int .u64 (lo % y)])/\∃ n,w'=w.drewN n:=by
 have b:(y == 0)=false:=beq_eq_false_iff_ne.2 (by omega);go_enter Tryz.func166,Tryz.ntmps166;go_wp2_with fail;go_quiet (fail);go_wp2;go_ret2;exact⟨rfl,_,rfl⟩
theorem div64(hi lo y:Int)(w:World)(f:0<=hi)(b:hi < y)(a:0<=lo)(l1:lo < 18446744073709551616)(y1:y < 18446744073709551616) :
  Calls Tryz.prog 166 #[.int .u64 hi,.int .u64 lo,.int .u64 y] w fun e w'=>∃ q r:Int,e=.returned (.tuple #[.int .u64 q,.int .u64 r])/\0<=q/\q < 18446744073709551616/\0<=r/\r < y/\Hid (q * y + r=hi * 18446744073709551616 + lo)/\∃ n,w'=w.drewN n:=by
 have fin:∀ N:Int,0<=N->N < y * 18446744073709551616->0<=N / y/\N / y < 18446744073709551616/\0<=N % y/\N % y < y/\Hid (N / y * y + N % y=N):=by
  intro N n0 d;refine⟨Int.ediv_nonneg n0 (by omega),(Int.ediv_lt_iff_lt_mul (by omega)).2 (by rw[Int.mul_comm]; exact d),Int.emod_nonneg _ (by omega),Int.emod_lt_of_pos _ (by omega),?_⟩
  show _=_
  rw[Int.mul_comm]; exact Int.mul_ediv_add_emod N y
 by_cases c:hi=0
 ·subst c;refine(mE lo y w (by omega) a l1 y1).mono ?_
  rintro e w' ⟨rfl,hw⟩;obtain⟨f1,f2,f3,f4,f5⟩:=fin lo a (by omega);exact⟨_,_,rfl,f1,f2,f3,f4,by simpa using f5,hw⟩
 ·refine(n6 hi lo y w (by omega) b a l1 y1).mono ?_
  rintro e w' ⟨rfl,rfl⟩;obtain⟨f1,f2,f3,f4,f5⟩:=fin (hi * 18446744073709551616 + lo) (by omega) (by omega);exact⟨_,_,rfl,f1,f2,f3,f4,f5,0,rfl⟩
end
end
section
open Go.RowKit Lim
section
variable {l:List Int}{h:Nat}
theorem dP(hl:h < l.length):val (l.drop h)=nth l h + 18446744073709551616 * val (l.drop (h + 1)):=by
 rw[List.drop_eq_getElem_cons hl,val,bS hl]
structure ju(lz:List Int)(d:Int)(h:Nat)(lz1:List Int)(left:Int):Prop where
 len:lz1.length=lz.length
 words:Words lz1
 low:∀ i,i < h->nth lz1 i=nth lz i
 val:Lim.val (lz1.drop h) * d + left=Lim.val (lz.drop h)
theorem ju.step{lz lz1:List Int}{d left q r:Int}(hv:ju lz d (h + 1) lz1 left)(a:h < lz.length)(q0:0<=q)(q1:q < 18446744073709551616)(e:q * d + r=left * 18446744073709551616 + nth lz h):ju lz d h (lz1.set h q) r:=by
 have b:=hv.len;refine⟨by simp[b],hv.words.set h q0 q1,fun i hi=>by rw[dy (by omega),if_neg (by omega)]; exact hv.low i (by omega),?_⟩;rw[dP (by simp; omega),dy (by omega),if_pos rfl,List.drop_set,if_pos (by omega),dP a,<- hv.val];grind
theorem gF(s:Option Addr)(j l b I:Nat)(d:Int)(lz:List Int)(w:World)(p:lz.length=b)(H:b<=2199023255552)(o:b<=I)(d0:0 < d)(d1:d < 18446744073709551616)(B:Words lz)(v:At w s j l lz)(t:dB w j l b) :
  Calls Tryz.prog 113 #[.slice s b I,.int .u64 d] w fun e w'=>∃ (left:Int) (lz':List Int),e=.returned (.int .u64 left)/\0<=left/\left < d/\lz'.length=b/\Words lz'/\At w' s j l lz'/\Wr j l b w w'/\val lz' * d + left=val lz:=by
 go_enter Tryz.func113,Tryz.ntmps113;go_wp2;go_loopw [5,10] (fun tc u wr=>∃ (k:Nat) (c:Int) (f:List Int),k<=b/\u=.int .i64 k/\tc=.int .u64 c/\0<=c/\c < d/\ju lz d (b - k) f c/\At wr s j l f/\Wr j l b w wr) (fun _ u _=>b - (intOf u).toNat)
 case atStart=>exact⟨0,0,lz,Nat.zero_le _,rfl,rfl,by decide,d0,⟨rfl,B,fun _ _=>rfl,by simp[<- p,val]⟩,v,Wr.refl _ _ _ _⟩
 case round =>
  obtain⟨k,c,f,O,rfl,rfl,m,n,hinv,g,i⟩:=hrel;have y:=hinv.len;by_cases K:k < b
  ·rcases v.loc with e | rfl
   ·subst e; simp at p; omega
   obtain⟨h,G⟩:∃ h:Nat,b=h + 1 + k:=⟨b - 1 - k,by omega⟩
   have o:=g.cell h (by omega);have M:=i.free t h (by omega);have z:=B.nth h;rw[hinv.low h (by omega)] at o
   have F:(b:Int) - 1 - k=h:=by omega
   have L:(h:Int) < b:=by omega
   obtain⟨x,A⟩:=z
   have J:Hid (ju lz d (h + 1) f c):=by rw[show h + 1=b - k from by omega]; exact hinv
   have N:Hid (b=h + 1 + k):=G;clear G hinv v B;go_wp2_with (go_at_call 166; refine(div64 _ _ _ _ m n x A d1).mono ?_; rintro e w' ⟨q,r,rfl,q0,q1,r0,r1,D,E,rfl⟩);have hn:=N.out;refine⟨⟨k + 1,r,f.set h q,by omega,by go_num,rfl,r0,r1,by rw[show b - (k + 1)=h from by omega]; exact J.out.step (by omega) q0 q1 D.out,?_,?_⟩,by simp[intOf]; omega⟩
   ·exact(g.setCell (by omega) q).drewN E
   ·exact(i.setCell (by omega) (by omega) _).drewN E
  ·have C:k=b:=by omega
   subst C;go_wp2;go_ret;refine⟨c,f,rfl,m,n,by omega,hinv.words,g,i,?_⟩;have:=hinv.val;rwa [Nat.sub_self,List.drop_zero,List.drop_zero] at this
end
end
section
open Go.RowKit Lim
theorem dE.of {w w':World} {l:List Int} {ao:Option Addr} {n c b o:Nat} (hn:n=l.length) (a:n<=c) (f:w.heap.size<=b) (d:At w' ao b o l) (e:dB w' b o n):dE w w' (.slice ao n c) l:=by
 subst hn; exact⟨ao,b,o,c,rfl,a,f,d,e⟩
theorem jj (ao:Option Addr) (n c b o:Nat) (l:List Int) (w:World) (r:l.length=n) (hc:n<=c) (q:n<=1099511627776) (p:At w ao b o l) :
  Calls Tryz.prog 112 #[.slice ao n c] w fun e w'=>e=.returned (.slice (some ⟨w.heap.size,0,none⟩) (aE l) (aE l))/\Row w' w.heap.size (norm l)/\Below w.heap.size w w':=by
 have hn:=bp l;have t1:=bj ao n c l w r hc (by omega) p.cells;have hs:=p.sub (aE l);have i:=aJ l;rw[show l.take (aE l)=norm l from rfl] at hs;generalize aE l=N at *;generalize norm l=L at *;go_enter Tryz.func112,Tryz.ntmps112;go_wp2_with fail;refine t1.mono ?_
 rintro e u ⟨rfl,rfl⟩;clear t1
 go_wp2_with (first
  | (at_make; refine cV rfl _ _ rfl N _ _ rfl rfl rfl rfl (by omega) ?_; intro t g d s; have j:=hs.keep d)
  | (refine gj rfl (.tmp 10) (.tmp 11) rfl _ _ _ _ _ _ rfl rfl _ _ g (by simp) _ _ i (Nat.le_refl _) j ?_; intro v f m))
 go_ret;refine⟨rfl,?_,?_⟩
 ·simpa using f
 ·exact d.trans (m.below (Nat.le_refl _))
end
section
open Go.RowKit Lim
section
variable {lz lb lz1:List Int}{m c:Int}{k:Nat}
theorem Av(z x m c hi lo:Int)(d:0<=z/\z < 18446744073709551616)(hc:0<=c/\c < 18446744073709551616)(a:0<=hi)(f:hi<=18446744073709551614)(b:0<=lo)(e:lo < 18446744073709551616)(g:hi * 18446744073709551616 + lo=x * m)(hb:x * m<=340282366920938463426481119284349108225) :
  0<=hi + (lo + c) / 18446744073709551616/\hi + (lo + c) / 18446744073709551616<=18446744073709551615 /\
  0<=hi + (lo + c) / 18446744073709551616 + (z + (lo + c) % 18446744073709551616) / 18446744073709551616 /\
  hi + (lo + c) / 18446744073709551616 + (z + (lo + c) % 18446744073709551616) / 18446744073709551616<=18446744073709551615 /\
  (z + (lo + c) % 18446744073709551616) % 18446744073709551616 + 18446744073709551616 * (hi + (lo + c) / 18446744073709551616 + (z + (lo + c) % 18446744073709551616) / 18446744073709551616)=z + x * m + c:=by
 omega
def de(lz lb:List Int)(m:Int)(k:Nat)(lz1:List Int)(c:Int):Prop :=
 lz1.length=lz.length/\Words lz1/\(∀ i,k<=i->nth lz1 i=nth lz i)/\val (lz1.take k) + 18446744073709551616 ^ k * c=val (lz.take k) + val (lb.take k) * m
theorem de.step{a c':Int}(h:de lz lb m k lz1 c)(l:k < lz.length)(b:0<=a)(d:a < 18446744073709551616)(e:a + 18446744073709551616 * c'=nth lz k + nth lb k * m + c):de lz lb m (k + 1) (lz1.set k a) c':=by
 obtain⟨f,j,g,o⟩:=h;refine⟨by simp[f],j.set k b d,fun i hi => ?_,?_⟩
 ·rw[dy (by omega),if_neg (by omega)]; exact g i (by omega)
 ·have hb:val (lb.take (k + 1))=val (lb.take k) + 18446744073709551616 ^ k * nth lb k:=by
   by_cases n:k < lb.length
   ·exact du n
   ·rw[List.take_of_length_le (by omega),List.take_of_length_le (by omega),fQ (by omega)]; simp
  rw[du (by simp[f]; omega),du l,hb,List.take_set_of_le (Nat.le_refl _),dy (by omega),if_pos rfl,Int.pow_succ];have:18446744073709551616 ^ k * (a + 18446744073709551616 * c')=18446744073709551616 ^ k * (nth lz k + nth lb k * m + c):=by rw[e]
  grind
theorem de.done{n:Nat}(hn:lz.length=n)(h:de lz lb m k lz1 c)(hc:c=0\/lz.length=k)(r:lb.length<=k)(o:k<=n) :
  val lz1=(val lz + val lb * m) % 18446744073709551616 ^ n:=by
 obtain⟨d,f,j,b⟩:=h;rw[List.take_of_length_le (l:=lb) (by omega)] at b;have a:=dw f;have g:=aL f;rw[d,hn] at a;rcases hc with e | e
 ·subst e
  have q:lz1.drop k=lz.drop k:=lG (by simp[d]) fun i hi=>by rw[dC,dC]; exact j _ (by omega)
  have e1:=bC lz1 k (by omega);have e2:=bC lz k (by omega);rw[q] at e1;have:val lz + val lb * m=val lz1:=by rw[e1,e2]; simp only[Int.mul_zero,Int.add_zero] at b; omega
  rw[this];exact(Int.emod_eq_of_lt g a).symm
 ·have p:k=n:=by omega
  subst p;rw[List.take_of_length_le (l:=lz1) (by omega),List.take_of_length_le (l:=lz) (by omega)] at b;rw[<- b,Int.add_mul_emod_self_left];exact(Int.emod_eq_of_lt g a).symm
theorem ef(D : Option Addr)(n o i cz : Nat)(ab : Option Addr)(bb ob u Y : Nat)(m : Int)(lz lb : List Int)(w : World)(y : lz.length = i)(U : lb.length = u)(hle : u ≤ i)(aa : i ≤ 2199023255552)(s : i ≤ cz)(Q : u ≤ Y)(E : 0 ≤ m)(P : m < 18446744073709551616)(H : Words lz)(R : Words lb)(F : At w D n o lz)(t : dB w n o i)(hb : At w ab bb ob lb)(B : lb = [] ∨ bb ≠ n) :
    Calls Tryz.prog 59 #[.slice D i cz, .slice ab u Y, .int .u64 m] w fun e w' => e = .returned (.tuple #[]) ∧
      ∃ lz', lz'.length = i ∧ Words lz' ∧ At w' D n o lz' ∧ Wr n o i w w' ∧ val lz' = (val lz + val lb * m) % 18446744073709551616 ^ i := by
  go_enter Tryz.func59, Tryz.ntmps59;go_wp2;go_loopw [6, 14] (fun tc z wr => ∃ (k : Nat) (c : Int) (g : List Int), k ≤ u ∧ z = .int .i64 k ∧ tc = .int .u64 c ∧ 0 ≤ c ∧ c < 18446744073709551616 ∧ de lz lb m k g c ∧ At wr D n o g ∧ Wr n o i w wr) (fun _ z _ => u - (intOf z).toNat)
  case atStart => exact⟨0, 0, lz, Nat.zero_le _, rfl, rfl, by decide, by decide, ⟨rfl, H, fun _ _ => rfl, by simp[val]⟩, F, Wr.refl _ _ _ _⟩
  case round =>
    obtain⟨k, c, g, hk, rfl, rfl, p, v, hinv, f, b⟩:= hrel;have x := hinv.1;by_cases hlt : k < u
    · rcases hb.loc with e | rfl
      · subst e; simp at U; omega
      rcases F.loc with e | rfl
      · subst e; simp at y; omega
      have I := hb.wr b B;have Q := I.cell k (by omega);have s := f.cell k (by omega);have L := b.free t k (by omega);have hx := R.nth k;have A := H.nth k;rw[hinv.2.2.1 k (Nat.le_refl _)] at s;obtain⟨T, V⟩:= hx;obtain⟨q, G⟩:= A
      have C : Hid (de lz lb m k g c) := hinv
      have N : Hid (At wr (some ⟨n, o, none⟩) n o g) := f
      have O : Hid (Wr n o i w wr) := b;clear hinv f b I F hb t H R B
      go_wp2_with (first
        | (go_at_call 89; refine(lg _ _ T V E P _).mono ?_; rintro e w' ⟨hi, lo, rfl, h1, h2, h3, h4, h5, rfl⟩)
        | simp only[re _ _ h3 p]
        | simp only[DC _ _ q])
      have S : nth lb k * m ≤ 340282366920938463426481119284349108225 := by
        have := Int.mul_le_mul (show nth lb k ≤ 18446744073709551615 by omega) (show m ≤ 18446744073709551615 by omega) E (by decide);simpa using this
      obtain⟨s1, s2, s3, s4, J⟩:= Av (nth lz k) (nth lb k) m c hi lo ⟨q, G⟩ ⟨p, v⟩ h1 h2 h3 h4 h5 S;rw[Int.add_emod_emod] at J;rw[IntWalk.u64_in _ ⟨s3, s4⟩];refine⟨⟨k + 1, _, _, by omega, by go_num, rfl, s3, by omega, C.out.step (by omega) (Int.emod_nonneg _ (by decide)) (Int.emod_lt_of_pos _ (by decide)) J, N.out.setCell (by omega) _, O.out.setCell (by omega) (by omega) _⟩, by simp[intOf]; omega⟩
    · have X : k = u := by omega
      subst X
      have C : Hid (de lz lb m k g c) := hinv;clear hinv;go_wp2;go_loopw [6, 11] (fun tc z wr => ∃ (j : Nat) (c : Int) (g : List Int), k ≤ j ∧ j ≤ i ∧ z = .int .i64 j ∧ tc = .int .u64 c ∧ 0 ≤ c ∧ c < 18446744073709551616 ∧ de lz lb m j g c ∧ At wr D n o g ∧ Wr n o i w wr) (fun _ z _ => i - (intOf z).toNat)
      case atStart => exact⟨k, c, g, Nat.le_refl _, by omega, rfl, rfl, p, v, C.out, f, b⟩
      case round =>
        clear f b C x p v;obtain⟨j, d, r, hkj, hj, rfl, rfl, M, hd1, hinv, f, b⟩:= hrel;have W := hinv.1;by_cases Z : j < i
        · by_cases hd : d = 0
          · subst hd
            go_wp2;go_end0;refine⟨rfl, r, by omega, hinv.2.1, f, b, ?_⟩;exact de.done (by omega) hinv (.inl rfl) (by omega) (by omega)
          · rcases F.loc with e | rfl
            · subst e; simp at y; omega
            have s := f.cell j (by omega);have L := b.free t j (by omega);have A := H.nth j;rw[hinv.2.2.1 j (Nat.le_refl _)] at s;obtain⟨q, G⟩:= A
            have hdb : (d != 0) = true := by rw[bne_iff_ne]; exact hd
            have C : Hid (de lz lb m j r d) := hinv
            have N : Hid (At wr (some ⟨n, o, none⟩) n o r) := f
            have O : Hid (Wr n o i w wr) := b;clear hinv f b F hb t H R B;go_wp2_with (simp only[re _ _ q M])
            have J : (nth lz j + d) % 18446744073709551616 + 18446744073709551616 * ((nth lz j + d) / 18446744073709551616) = nth lz j + nth lb j * m + d := by
              rw[fQ (l := lb) (by omega)]; omega
            refine⟨⟨j + 1, _, _, by omega, by omega, by go_num, rfl, by omega, by omega, C.out.step (by omega) (Int.emod_nonneg _ (by decide)) (Int.emod_lt_of_pos _ (by decide)) J, N.out.setCell (by omega) _, O.out.setCell (by omega) (by omega) _⟩, by simp[intOf]; omega⟩
        · have K : j = i := by omega
          subst K;go_wp2;go_end0;refine⟨rfl, r, by omega, hinv.2.1, f, b, ?_⟩;exact de.done (by omega) hinv (.inr y) (by omega) (by omega)
end
end
section
open Go.RowKit Lim
section
variable {l:List Int}
theorem qu{n:Int}(h:IsN l n):0<=n/\n < 18446744073709551616 ^ l.length:=by
 rw[<- h.2.2]; exact⟨aL h.1,dw h.1⟩
theorem pow_pos(k:Nat):(0:Int) < 18446744073709551616 ^ k:=Int.pow_pos (by decide)
theorem uC{L L' lz:List Int}{x y:Int}(hL:IsN L x)(a:IsN L' y)(hle:L'.length<=L.length)(hw:Words lz)(hv:val lz=(val (L ++ [0]) + val L' * 1) % 18446744073709551616 ^ (L.length + 1)):IsN (norm lz) (x + y):=by
 have b:=qu hL;have f:=qu a;have c:=gM hle;have d:=pow_pos L.length
 have e:val (L ++ [0]) + val L' * 1=x + y:=by rw[dY,hL.2.2,a.2.2]; simp[val]
 rw[e,Int.emod_eq_of_lt (by omega) (by rw[Int.pow_succ]; omega)] at hv;rw[<- hv];exact b8 hw
theorem ey(n:Nat):Words (List.replicate n 0):=fun x hx=>by rw[List.eq_of_mem_replicate hx]; decide
theorem CP(ao:Option Addr)(n c b o:Nat)(ao':Option Addr)(n' c' b' o':Nat)(l u:List Int)(w:World)(hl:l.length=n)(U:u.length=n')(hc:n<=c)(W:n'<=c')(hbig:n<=1099511627776)(V:n'<=1099511627776)(wl:Words l)(wl':Words u)(ha:At w ao b o l)(P:At w ao' b' o' u) :
  Calls Tryz.prog 23 #[.slice ao n c,.slice ao' n' c'] w fun e w'=>∃ v r,e=.returned v/\dE w w' v r/\IsN r (val l + val u)/\r.length<=n + n' + 1/\Below w.heap.size w w':=by
 have hn:=bp l
 have hn':=bp u;have t1:=bj ao n c l w hl hc (by omega) ha.cells;have t2:=bj ao' n' c' u w U W (by omega) P.cells;have hs:=ha.sub (aE l)
 have D:=P.sub (aE u);have E:=aJ l
 have t:=aJ u;have T:=b8 wl
 have F:=b8 wl';rw[show l.take (aE l)=norm l from rfl] at hs;rw[show u.take (aE u)=norm u from rfl] at D;generalize aE l=N at *;generalize aE u=M at *;generalize norm l=L at *;generalize norm u=S at *;clear ha P;go_enter Tryz.func23,Tryz.ntmps23;go_wp2_with fail;refine t1.mono ?_
 rintro e w1 ⟨rfl,rfl⟩;go_wp2_with fail;refine t2.mono ?_
 rintro e G ⟨rfl,rfl⟩;clear t1 t2;by_cases hlt:N < M
 ·have C:L=[]\/b≠G.heap.size:=by
   rcases hs.lt with e | e
   ·exact .inl e
   ·exact .inr (by omega)
  go_wp2_with (first
   | (at_make; refine cV rfl _ _ rfl (M + 1) _ _ rfl rfl (by omega) (by omega) (by omega) ?_; intro w3 s d hsz; have y:=D.keep d; have B:=hs.keep d)
   | (refine gj rfl (.tmp 23) (.tmp 24) rfl _ _ _ _ _ _ rfl rfl _ _ s (by simp) _ _ t (by omega) y ?_; intro Q f j))
  have q:Row Q G.heap.size (S ++ [0]):=by
   have:=f; rw[List.drop_replicate,show M + 1 - M=1 from by omega] at this; simpa using this
  have x:=B.wr j C;refine(ef _ G.heap.size 0 _ _ _ b o _ _ 1 (S ++ [0]) L Q (by simp[t]) E (by omega) (by omega) (Nat.le_refl _) (Nat.le_refl _) (by decide) (by decide) (F.1.append (ey 1)) T.1 q.at (q.free _ _) x C).mono ?_
  rintro e w5 ⟨rfl,p,I,J,g,m,A⟩
  have Y:IsN (norm p) (_ + _):=uC F T (by omega) J (by rw[A,t]);have H:=m.free (q.free 0 (M + 1));have X:=bp p;have O:=aJ p;have z:=g.sub (aE p);have Z:=(d.trans (j.below (Nat.le_refl _))).trans (m.below (Nat.le_refl _));rw[show p.take (aE p)=norm p from rfl] at z;have t3:=bj (some ⟨G.heap.size,0,none⟩) (M + 1) (M + 1) p w5 I (Nat.le_refl _) (by omega) g.cells;clear q x B y s f j m d g A;generalize aE p=K at *;generalize norm p=R at *;go_wp2_with fail;refine t3.mono ?_
  rintro e w6 ⟨rfl,rfl⟩;go_wp2;go_ret;exact⟨_,R,rfl,dE.of O.symm (Nat.le_refl _) (Nat.le_refl _) z (fun i hi=>H i (by omega)),by rw[Int.add_comm]; exact Y,by omega,Z⟩
 ·have C:S=[]\/b'≠G.heap.size:=by
   rcases D.lt with e | e
   ·exact .inl e
   ·exact .inr (by omega)
  go_wp2_with (first
   | (at_make; refine cV rfl _ _ rfl (N + 1) _ _ rfl rfl (by omega) (by omega) (by omega) ?_; intro w3 s d hsz; have y:=hs.keep d; have B:=D.keep d)
   | (refine gj rfl (.tmp 23) (.tmp 24) rfl _ _ _ _ _ _ rfl rfl _ _ s (by simp) _ _ E (by omega) y ?_; intro Q f j))
  have q:Row Q G.heap.size (L ++ [0]):=by
   have:=f; rw[List.drop_replicate,show N + 1 - N=1 from by omega] at this; simpa using this
  have x:=B.wr j C;refine(ef _ G.heap.size 0 _ _ _ b' o' _ _ 1 (L ++ [0]) S Q (by simp[E]) t (by omega) (by omega) (Nat.le_refl _) (Nat.le_refl _) (by decide) (by decide) (T.1.append (ey 1)) F.1 q.at (q.free _ _) x C).mono ?_
  rintro e w5 ⟨rfl,p,I,J,g,m,A⟩
  have Y:IsN (norm p) (_ + _):=uC T F (by omega) J (by rw[A,E]);have H:=m.free (q.free 0 (N + 1));have X:=bp p;have O:=aJ p;have z:=g.sub (aE p);have Z:=(d.trans (j.below (Nat.le_refl _))).trans (m.below (Nat.le_refl _));rw[show p.take (aE p)=norm p from rfl] at z;have t3:=bj (some ⟨G.heap.size,0,none⟩) (N + 1) (N + 1) p w5 I (Nat.le_refl _) (by omega) g.cells;clear q x B y s f j m d g A;generalize aE p=K at *;generalize norm p=R at *;go_wp2_with fail;refine t3.mono ?_
  rintro e w6 ⟨rfl,rfl⟩;go_wp2;go_ret;exact⟨_,R,rfl,dE.of O.symm (Nat.le_refl _) (Nat.le_refl _) z (fun i hi=>H i (by omega)),Y,by omega,Z⟩
end
end
section
open Go.RowKit Lim
theorem Ab (x y:Int):0<=bor x y/\bor x y<=1:=by unfold bor; split<;>decide
theorem vf (x y:Int) (hx:0<=x/\x < 18446744073709551616) (hy:0<=y/\y < 18446744073709551616):(x - y) % 18446744073709551616=x - y + 18446744073709551616 * bor x y:=by
 unfold bor; split<;>omega
theorem C9 (x y:Int) (hx:0<=x) (a:x < 18446744073709551616) (w:World):(callFunc 168 #[.int .u64 x,.int .u64 (y % 18446744073709551616),.int .u64 0]).run Tryz.prog w =
  .ok (.value (.tuple #[.int .u64 ((x - y % 18446744073709551616) % 18446744073709551616),.int .u64 (bor x (y % 18446744073709551616))])) w :=
 DV x _ hx a (Int.emod_nonneg _ (by decide)) (Int.emod_lt_of_pos _ (by decide)) w
theorem vQ (z x m c hi lo:Int) (a:0<=z/\z < 18446744073709551616) (hc:0<=c/\c < 18446744073709551616) (b:0<=hi) (f:hi<=18446744073709551614) (d:0<=lo) (e:lo < 18446744073709551616) (g:hi * 18446744073709551616 + lo=x * m)
  (hb:x * m<=340282366920938463426481119284349108225) :
  0<=hi + (lo + c) / 18446744073709551616/\hi + (lo + c) / 18446744073709551616<=18446744073709551615 /\
  0<=hi + (lo + c) / 18446744073709551616 + bor z ((lo + c) % 18446744073709551616) /\
  hi + (lo + c) / 18446744073709551616 + bor z ((lo + c) % 18446744073709551616)<=18446744073709551615 /\
  (z - (lo + c) % 18446744073709551616) % 18446744073709551616 + 18446744073709551616 * (-(hi + (lo + c) / 18446744073709551616 + bor z ((lo + c) % 18446744073709551616)))=z + x * -m + -c:=by
 rw[vf z _ a ⟨by omega,by omega⟩,show x * -m = -(x * m) from Int.mul_neg x m];have:=Ab z ((lo + c) % 18446744073709551616);unfold bor at *;split<;>omega
theorem de.fR {lz lb lz1:List Int} {m c:Int} {k n:Nat} (hn:lz.length=n) (h:de lz lb m k lz1 c) (hc:c=0\/lz.length=k) (p:lb.length<=k) (f:k<=n) :
  val lz1 + 18446744073709551616 ^ n * c=val lz + val lb * m:=by
 obtain⟨b,o,d,a⟩:=h;rw[List.take_of_length_le (l:=lb) (by omega)] at a;rcases hc with e | e
 ·subst e
  have j:lz1.drop k=lz.drop k:=lG (by simp[b]) fun i hi=>by rw[dC,dC]; exact d _ (by omega)
  have e1:=bC lz1 k (by omega);have e2:=bC lz k (by omega);rw[j] at e1;simp only[Int.mul_zero,Int.add_zero] at a ⊢;rw[e1,e2]; omega
 ·have g:k=n:=by omega
  subst g;rw[List.take_of_length_le (l:=lz1) (by omega),List.take_of_length_le (l:=lz) (by omega)] at a;exact a
theorem iJ (C : Option Addr) (o p g cz : Nat) (ab : Option Addr) (bb ob z cb : Nat) (m : Int) (lz lb : List Int) (w : World)
    (x : lz.length = g) (hnb : lb.length = z) (hle : z ≤ g) (hbig : g ≤ 2199023255552) (u : g ≤ cz) (V : z ≤ cb) (H : 0 ≤ m) (U : m < 18446744073709551616)
    (L : Words lz) (X : Words lb) (I : At w C o p lz) (y : dB w o p g) (hb : At w ab bb ob lb) (F : lb = [] ∨ bb ≠ o) :
    Calls Tryz.prog 117 #[.slice C g cz, .slice ab z cb, .int .u64 m] w fun e w' => ∃ fR : Int, e = .returned (.int .u64 fR) ∧ 0 ≤ fR ∧ fR < 18446744073709551616 ∧
      ∃ lz', lz'.length = g ∧ Words lz' ∧ At w' C o p lz' ∧ Wr o p g w w' ∧ val lz' = val lz - val lb * m + 18446744073709551616 ^ g * fR := by
  have fin : ∀ (j : Nat) (d : Int) (n : List Int) (wr : World), z ≤ j → j ≤ g → 0 ≤ d → d < 18446744073709551616 → de lz lb (-m) j n (-d) → At wr C o p n → Wr o p g w wr → (d = 0 ∨ g = j) →
      ∃ fR : Int, Ending.returned (.int .u64 d) = .returned (.int .u64 fR) ∧ 0 ≤ fR ∧ fR < 18446744073709551616 ∧
      ∃ lz', lz'.length = g ∧ Words lz' ∧ At wr C o p lz' ∧ Wr o p g w wr ∧ val lz' = val lz - val lb * m + 18446744073709551616 ^ g * fR := by
    intro j d n wr h1 W O h4 K h6 h7 h8;refine⟨d, rfl, O, h4, n, by rw[K.1, x], K.2.1, h6, h7, ?_⟩
    have := K.fR x (by rcases h8 with e | e
                       · left; omega
                       · right; omega) (by omega) W
    rw[Int.mul_neg, Int.mul_neg] at this;omega
  have J := (show Hid _ from fin);clear fin;go_enter Tryz.func117, Tryz.ntmps117;go_wp2;go_loopw [7, 15] (fun tc D wr => ∃ (k : Nat) (c : Int) (i : List Int), k ≤ z ∧ D = .int .i64 k ∧ tc = .int .u64 c ∧ 0 ≤ c ∧ c < 18446744073709551616 ∧ de lz lb (-m) k i (-c) ∧ At wr C o p i ∧ Wr o p g w wr) (fun _ D _ => z - (intOf D).toNat)
  case atStart => exact⟨0, 0, lz, Nat.zero_le _, rfl, rfl, by decide, by decide, ⟨rfl, L, fun _ _ => rfl, by simp[val]⟩, I, Wr.refl _ _ _ _⟩
  case round =>
    obtain⟨k, c, i, hk, rfl, rfl, s, A, hinv, f, b⟩:= hrel;have B := hinv.1;by_cases hlt : k < z
    · rcases hb.loc with e | rfl
      · subst e; simp at hnb; omega
      rcases I.loc with e | rfl
      · subst e; simp at x; omega
      have N := hb.wr b F;have V := N.cell k (by omega);have u := f.cell k (by omega);have R := b.free y k (by omega);have hx := X.nth k;have E := L.nth k;rw[hinv.2.2.1 k (Nat.le_refl _)] at u;obtain⟨Z, hx1⟩:= hx;obtain⟨q, r⟩:= E
      have G : Hid (de lz lb (-m) k i (-c)) := hinv
      have S : Hid (At wr (some ⟨o, p, none⟩) o p i) := f
      have T : Hid (Wr o p g w wr) := b;clear hinv f b N I hb y L X F
      go_wp2_with (first
        | (go_at_call 89; refine(lg _ _ Z hx1 H U _).mono ?_; rintro e w' ⟨hi, lo, rfl, h1, W, O, h4, K, rfl⟩)
        | simp only[re _ _ O s]
        | simp only[C9 _ _ q r])
      have Y : nth lb k * m ≤ 340282366920938463426481119284349108225 := by
        have := Int.mul_le_mul (show nth lb k ≤ 18446744073709551615 by omega) (show m ≤ 18446744073709551615 by omega) H (by decide);simpa using this
      obtain⟨s1, s2, s3, s4, P⟩:= vQ (nth lz k) (nth lb k) m c hi lo ⟨q, r⟩ ⟨s, A⟩ h1 W O h4 K Y;rw[Int.sub_emod_emod] at P;rw[IntWalk.u64_in _ ⟨s3, s4⟩];refine⟨⟨k + 1, _, _, by omega, by go_num, rfl, s3, by omega, G.out.step (by omega) (Int.emod_nonneg _ (by decide)) (Int.emod_lt_of_pos _ (by decide)) P, S.out.setCell (by omega) _, T.out.setCell (by omega) (by omega) _⟩, by simp[intOf]; omega⟩
    · have hkn : k = z := by omega
      subst hkn
      have G : Hid (de lz lb (-m) k i (-c)) := hinv;clear hinv;go_wp2;go_loopw [7, 12] (fun tc D wr => ∃ (j : Nat) (c : Int) (i : List Int), k ≤ j ∧ j ≤ g ∧ D = .int .i64 j ∧ tc = .int .u64 c ∧ 0 ≤ c ∧ c < 18446744073709551616 ∧ de lz lb (-m) j i (-c) ∧ At wr C o p i ∧ Wr o p g w wr) (fun _ D _ => g - (intOf D).toNat)
      case atStart => exact⟨k, c, i, Nat.le_refl _, by omega, rfl, rfl, s, A, G.out, f, b⟩
      case round =>
        clear f b G B s A;obtain⟨j, d, n, M, hj, rfl, rfl, v, t, hinv, f, b⟩:= hrel;have hlen2 := hinv.1;by_cases hlt2 : j < g
        · by_cases hd : d = 0
          · subst hd
            go_wp2;go_ret;exact J.out j 0 n _ M hj v t hinv f b (.inl rfl)
          · rcases I.loc with e | rfl
            · subst e; simp at x; omega
            have u := f.cell j (by omega);have R := b.free y j (by omega);have E := L.nth j;rw[hinv.2.2.1 j (Nat.le_refl _)] at u;obtain⟨q, r⟩:= E
            have hdb : (d != 0) = true := by rw[bne_iff_ne]; exact hd
            have G : Hid (de lz lb (-m) j n (-d)) := hinv
            have S : Hid (At wr (some ⟨o, p, none⟩) o p n) := f
            have T : Hid (Wr o p g w wr) := b;clear hinv f b I hb y L X F;go_wp2_with (simp only[DV _ _ q r v t]);have hbb := Ab (nth lz j) d
            have P : (nth lz j - d) % 18446744073709551616 + 18446744073709551616 * -bor (nth lz j) d = nth lz j + nth lb j * -m + -d := by
              rw[fQ (l := lb) (by omega), vf _ _ ⟨q, r⟩ ⟨v, t⟩]; omega
            refine⟨⟨j + 1, _, _, by omega, by omega, by go_num, rfl, by omega, by omega, G.out.step (by omega) (Int.emod_nonneg _ (by decide)) (Int.emod_lt_of_pos _ (by decide)) P, S.out.setCell (by omega) _, T.out.setCell (by omega) (by omega) _⟩, by simp[intOf]; omega⟩
        · have Q : j = g := by omega
          subst Q;go_wp2;go_ret;exact J.out j d n _ M hj v t hinv f b (.inr rfl)
end
section
open Go.RowKit Lim
theorem BI {L L' lz:List Int} {x y fR:Int} (hL:IsN L x) (a:IsN L' y) (hle:y<=x) (hw:Words lz) (e:lz.length=L.length) (j:0<=fR)
  (hv:val lz=val L - val L' * 1 + 18446744073709551616 ^ L.length * fR):IsN (norm lz) (x - y):=by
 have f:=qu hL;have i:=qu a;have b:=dw hw;have g:=aL hw;have c:=pow_pos L.length;rw[hL.2.2,a.2.2] at hv;rw[e] at b
 have d:fR=0:=by
  by_cases h:0 < fR
  ·have:18446744073709551616 ^ L.length * 1<=18446744073709551616 ^ L.length * fR:=Int.mul_le_mul_of_nonneg_left (by omega) (Int.le_of_lt c);omega
  ·omega
 subst d;have:x - y=val lz:=by rw[hv]; simp
 rw[this];exact b8 hw
theorem sub_lt (ao:Option Addr) (n c b o:Nat) (ao':Option Addr) (n' c' b' o':Nat) (l f:List Int) (w:World) (t:l.length=n) (i:f.length=n') (hc:n<=c) (j:n'<=c') (g:n<=1099511627776) (d:n'<=1099511627776)
  (wl:Words l) (r:Words f) (s:At w ao b o l) (p:At w ao' b' o' f) (m:val l < val f) :
  Calls Tryz.prog 72 #[.slice ao n c,.slice ao' n' c'] w fun e w'=>e=.returned (.tuple #[.slice none 0 0,.int .i64 10])/\Below w.heap.size w w':=by
 have t1:=ir ao n c b o ao' n' c' b' o' l f w t i hc j g d wl r s p;rw[gZ m] at t1;go_enter Tryz.func72,Tryz.ntmps72;go_wp2_with fail;refine t1.mono ?_
 rintro e u ⟨rfl,q⟩;go_wp2_with fail;go_ret2;exact⟨rfl,q⟩
theorem sub_ge (ao:Option Addr) (n c b o:Nat) (ao':Option Addr) (n' c' b' o':Nat) (l d:List Int) (w:World) (Z:l.length=n) (D:d.length=n') (hc:n<=c) (E:n'<=c') (t:n<=1099511627776) (x:n'<=1099511627776)
  (wl:Words l) (B:Words d) (W:At w ao b o l) (z:At w ao' b' o' d) (U:val d<=val l) :
  Calls Tryz.prog 72 #[.slice ao n c,.slice ao' n' c'] w fun e w'=>∃ v r,e=.returned (.tuple #[v,.int .i64 0])/\dE w w' v r/\IsN r (val l - val d)/\r.length<=n/\Below w.heap.size w w':=by
 have t1:=ir ao n c b o ao' n' c' b' o' l d w Z D hc E t x wl B W z
 have hs0:0<=sgn (val l) (val d):=by unfold sgn; split<;>(try split)<;>omega
 have hle:aE d<=aE l:=by
  rcases Nat.lt_or_ge (aE l) (aE d) with h | h
  ·have:=dz wl B h; omega
  ·exact h
 generalize hsg:sgn (val l) (val d)=sg at *;clear hsg;go_enter Tryz.func72,Tryz.ntmps72;go_wp2_with fail;refine t1.mono ?_
 rintro e M ⟨rfl,j⟩;have C:=W.keep j
 have m:=z.keep j;clear t1;go_wp2_with fail;refine(jj ao n c b o l M Z hc t C).mono ?_
 rintro e w2 ⟨rfl,f,y⟩
 have q:=m.keep y
 have u:=q.sub (aE d)
 have V:norm d=[]\/b'≠M.heap.size:=by
  rcases(m.sub (aE d)).lt with e | e
  ·exact .inl e
  ·exact .inr (by omega)
 rw[show d.take (aE d)=norm d from rfl] at u;have t2:=bj ao' n' c' d w2 D E (by omega) q.cells;have hn:=bp l
 have hn':=bp d;have G:=aJ l
 have H:=aJ d;have X:=b8 wl
 have J:=b8 B;clear W z C m q;generalize aE l=N at *;generalize aE d=N' at *;generalize norm l=L at *;generalize norm d=L' at *;go_wp2_with fail;refine t2.mono ?_
 rintro e w3 ⟨rfl,rfl⟩;clear t2;go_wp2_with fail;refine(iJ _ M.heap.size 0 _ _ _ b' o' _ _ 1 L L' w3 G H hle (by omega) (Nat.le_refl _) (Nat.le_refl _) (by decide) (by decide) X.1 J.1 f.at (f.free _ _) u V).mono ?_
 rintro e Y ⟨fR,rfl,P,ho1,s,Q,S,g,A,I⟩
 have HF:IsN (norm s) (_ - _):=BI X J U S (by omega) P (by rw[I,G]);have O:=A.free (f.free 0 N);have hz1:=bp s;have T:=aJ s;have F:=g.sub (aE s);have p:=j.size
 have HB:Below w.heap.size w Y:=(j.trans (y.mono p)).trans (A.below p);rw[show s.take (aE s)=norm s from rfl] at F;have t3:=bj (some ⟨M.heap.size,0,none⟩) N N s Y Q (Nat.le_refl _) (by omega) g.cells;clear u f A g I j y;generalize aE s=K at *;generalize norm s=R at *;go_wp2_with fail;refine t3.mono ?_
 rintro e w5 ⟨rfl,rfl⟩;go_wp2;go_ret2;exact⟨_,R,rfl,dE.of T.symm (Nat.le_refl _) p F (fun i hi=>O i (by omega)),HF,by omega,HB⟩
end
section
open Go.RowKit Lim
section
variable {w w1:World}{v:Value}{l:List Int}
theorem Row.built(w:World)(l:List Int):Row (w.alloc (.cells (l.map (Value.int .u64)).toArray 22)) w.heap.size l:=by
 show (w.heap.push _)[w.heap.size]? = _
 rw[Array.getElem?_push_size]
theorem Row.built1(w:World)(x:Int):Row (w.alloc (.cells #[.int .u64 x] 22)) w.heap.size [x]:=Row.built w [x]
theorem ae(w:World)(o:Obj):Below w.heap.size w (w.alloc o):=(Below.refl _ _).alloc (Nat.le_refl _) _
theorem yW(x:Int)(w:World)(m:0<=x)(j:x < 18446744073709551616) :
  Calls Tryz.prog 25 #[.int .u64 x] w fun e w'=>∃ v r,e=.returned v/\dE w w' v r/\IsN r x/\r.length<=1/\Below w.heap.size w w':=by
 have c:=Row.built1 w x;have hb:=ae w (.cells #[.int .u64 x] 22)
 have hw:Words [x]:=Words.cons m j Words.nil;have t1:=bj (some ⟨w.heap.size,0,none⟩) 1 1 [x] (w.alloc (.cells #[.int .u64 x] 22)) rfl (by decide) (by decide) c.at.cells;have g:=bp [x];have f:=aJ [x];have b:=c.at.sub (aE [x])
 have l:IsN (norm [x]) x:=by have:=b8 hw; rwa [eu] at this
 have d:=c.free 0 1;rw[show [x].take (aE [x])=norm [x] from rfl] at b;rw[List.length_singleton] at g;generalize aE [x]=K at *;generalize norm [x]=R at *;clear c;go_enter Tryz.func25,Tryz.ntmps25;go_wp2_with fail;refine t1.mono ?_
 rintro e n ⟨rfl,rfl⟩;go_wp2;go_ret;exact⟨_,R,rfl,dE.of f.symm (Nat.le_refl _) (Nat.le_refl _) b (fun i hi=>d i (by omega)),l,by omega,hb⟩
theorem div_zero(v:Value)(ao':Option Addr)(n' c' b' o':Nat)(b:List Int)(w:World)(c:b.length=n')(f:n'<=c')(d:n'<=1099511627776)(i:Words b)(g:At w ao' b' o' b)(j:val b=0) :
  Calls Tryz.prog 70 #[v,.slice ao' n' c'] w fun e w'=>e=.returned (.tuple #[.slice none 0 0,.slice none 0 0,.int .i64 11])/\w'=w:=by
 have t1:=bj ao' n' c' b w c f (by omega) g.cells;rw[(bW i).2 j] at t1;go_enter Tryz.func70,Tryz.ntmps70;go_wp2_with fail;refine t1.mono ?_
 rintro e l ⟨rfl,rfl⟩;go_wp2_with fail;go_ret3;exact⟨rfl,rfl⟩
def jC(w w':World)(e:Ending)(x y:Int)(n n':Nat):Prop :=
 ∃ v u r s,e=.returned (.tuple #[v,u,.int .i64 0])/\dE w w' v r/\dE w w' u s/\IsN r (x / y)/\IsN s (x % y)/\r.length<=n/\s.length<=n + n'/\Below w.heap.size w w'
theorem dE.nil(w w':World):dE w w' (.slice none 0 0) []:=⟨none,w.heap.size,0,0,rfl,Nat.le_refl _,Nat.le_refl _,⟨.inl rfl,fun i hi=>by simp at hi⟩,fun i hi=>by simp at hi⟩
theorem je:IsN [] 0:=⟨Words.nil,rfl,rfl⟩
theorem dE.later{f:World}(h:dE w w1 v l)(hb:Below w1.heap.size w1 f):dE w f v l:=by
 obtain⟨k,b,o,c,e,g,m,d,j⟩:=h;refine⟨k,b,o,c,e,g,m,d.keep hb,fun i hi => ?_⟩;have a:=aI (d.cell i hi);rw[hb.frozen (p:=⟨b,o + i,none⟩) a]; exact j i hi
theorem dE.mono{w0:World}(h:dE w w1 v l)(hb:w0.heap.size<=w.heap.size):dE w0 w1 v l:=by
 obtain⟨ao,b,o,c,e,h1,h2,h3,h4⟩:=h;exact⟨ao,b,o,c,e,h1,by omega,h3,h4⟩
theorem div_lt(ao:Option Addr)(n c b o:Nat)(ao':Option Addr)(n' c' b' o':Nat)(l d:List Int)(w:World)(A:l.length=n)(s:d.length=n')(hc:n<=c)(u:n'<=c')(g:n<=1099511627776)(t:n'<=1099511627776)(wl:Words l)(q:Words d)(z:At w ao b o l)(p:At w ao' b' o' d)(i:val l < val d) :
  Calls Tryz.prog 70 #[.slice ao n c,.slice ao' n' c'] w fun e w'=>jC w w' e (val l) (val d) n n':=by
 have y:=aL wl;have hn:=bp l
 have D:=bp d
 have F:aE d≠0:=fun e=>by have:=(bW q).1 e; omega
 have t1:=bj ao' n' c' d w s u (by omega) p.cells
 have m:=p.sub (aE d);rw[show d.take (aE d)=norm d from rfl] at m;have t2:=ir ao n c b o ao' (aE d) (aE d) b' o' l (norm d) w A (aJ d) hc (Nat.le_refl _) g (by omega) wl q.norm z m;rw[cU,gZ i] at t2;have B:=b8 wl;have v:=aJ l
 have E:((aE d:Int) == 0)=false:=beq_eq_false_iff_ne.2 (by omega);go_enter Tryz.func70,Tryz.ntmps70;go_wp2_with fail;refine t1.mono ?_
 rintro e H ⟨rfl,rfl⟩;go_wp2_with fail;refine t2.mono ?_
 rintro e C ⟨rfl,j⟩;go_wp2_with fail;refine(jj ao n c b o l C A hc g (z.keep j)).mono ?_
 rintro e G ⟨rfl,f,x⟩;clear t1 t2;go_wp2;go_ret3;have r:=j.size;exact⟨_,_,[],norm l,rfl,dE.nil _ _,dE.of v.symm (Nat.le_refl _) r f.at (f.free _ _),by rw[Int.ediv_eq_zero_of_lt y i]; exact je,by rw[Int.emod_eq_of_lt y i]; exact B,by simp,by omega,j.trans (x.mono r)⟩
theorem div_one(ao:Option Addr)(n c b o:Nat)(ao':Option Addr)(n' c' b' o':Nat)(l f:List Int)(w:World)(hl:l.length=n)(S:f.length=n')(hc:n<=c)(T:n'<=c')(y:n<=1099511627776)(Y:n'<=1099511627776)(wl:Words l)(H:Words f)(ha:At w ao b o l)(M:At w ao' b' o' f)(V:val f<=val l)(h1:aE f=1) :
  Calls Tryz.prog 70 #[.slice ao n c,.slice ao' n' c'] w fun e w'=>jC w w' e (val l) (val f) n n':=by
 have h0:=aL wl;have hn:=bp l
 have hn':=bp f;have t1:=bj ao' n' c' f w S T (by omega) M.cells
 have j:=M.sub (aE f);rw[show f.take (aE f)=norm f from rfl] at j;have t2:=ir ao n c b o ao' (aE f) (aE f) b' o' l (norm f) w hl (aJ f) hc (Nat.le_refl _) y (by omega) wl H.norm ha j;rw[cU] at t2
 have ab:0<=sgn (val l) (val f):=by unfold sgn; split<;>(try split)<;>omega
 have z:=aJ f
 have C:=b8 H;rw[h1] at t1 t2 z;generalize hN':norm f=L' at *;obtain⟨d,rfl⟩:=List.length_eq_one_iff.1 z
 have hd:val f=d:=by have:=C.2.2; rw[eu] at this; exact this.symm
 have ac:=C.1 d (by simp)
 have G:0 < d:=by
  have h2:=C.2.1;by_cases c:d=0
  ·subst c; simp[aE] at h2
  ·omega
 rw[hd] at V t2 ⊢;rw[hd] at ab;generalize sgn (val l) d=sg at *;rcases j.loc with e | rfl
 ·simp at e
 go_enter Tryz.func70,Tryz.ntmps70;go_wp2_with fail;refine t1.mono ?_
 rintro e w1 ⟨rfl,rfl⟩;go_wp2_with fail;refine t2.mono ?_
 rintro e P ⟨rfl,p⟩;go_wp2_with fail;refine(jj ao n c b o l P hl hc y (ha.keep p)).mono ?_
 rintro e w3 ⟨rfl,g,v⟩;have B:=p.size;have hsz3:=v.size;have E:=((j.keep p).keep v).cell 0 (by simp);rw[cD] at E;rw[Nat.add_zero] at E;have W:=wl.norm;have ag:=cU l;have af:=aJ l;clear t1 t2;generalize aE l=N at *;generalize norm l=L at *;go_wp2_with fail;refine(gF (some ⟨P.heap.size,0,none⟩) P.heap.size 0 N N d L w3 af (by omega) (Nat.le_refl _) G ac.2 W g.at (g.free _ _)).mono ?_
 rintro e w4 ⟨left,m,rfl,D,Q,Z,aa,x,t,F⟩;have X:=t.free (g.free 0 N);have hz1:=bp m;have ad:=aJ m;have I:=x.sub (aE m);have HF:=b8 aa;have U:=t.size;have hlt3:=g.lt;rw[show m.take (aE m)=norm m from rfl] at I;have t3:=bj (some ⟨P.heap.size,0,none⟩) N N m w4 Z (Nat.le_refl _) (by omega) x.cells
 have HB:Below w1.heap.size w1 w4:=(p.trans (v.mono B)).trans (t.below B)
 have ev:val m=val l / d/\left=val l % d:=by
  have hh:=Int.ediv_emod_unique (a:=val l) (b:=d) (r:=left) (q:=val m) G;have:=hh.2 ⟨by rw[<- ag,<- F,Int.mul_comm]; omega,D,Q⟩;exact⟨this.1.symm,this.2.symm⟩
 rw[ev.1] at HF
 have A:Hid (left=val l % d):=ev.2;clear t g F p v j ev;generalize aE m=K at *;generalize norm m=R at *;go_wp2_with fail;refine t3.mono ?_
 rintro e w5 ⟨rfl,rfl⟩;go_wp2_with fail;refine(yW left w5 D (by omega)).mono ?_
 rintro e w6 ⟨u,s,rfl,O,ae,hsl,J⟩;go_wp2;go_ret3;refine⟨_,u,R,s,rfl,(dE.of ad.symm (Nat.le_refl _) B I (fun i hi=>X i (by omega))).later J,O.mono (by omega),HF,by rw[<- A.out]; exact ae,by omega,by omega,HB.trans (J.mono (by omega))⟩
end
end
section
open Go.RowKit Lim
section
variable {l:List Int}{S T v1:Int}
theorem fN(s:Nat)(hs:s<=63):(0:Int) < 2 ^ s/\(2:Int) ^ s < 18446744073709551616/\(2:Int) ^ s * 2 ^ (64 - s)=18446744073709551616/\(0:Int) < 2 ^ (64 - s):=by
 have a:(0:Int) < 2 ^ s:=Int.pow_pos (by decide)
 have b:(2:Nat) ^ s<=2 ^ 63:=Nat.pow_le_pow_right (by decide) hs
 have e:((2 ^ s:Nat):Int)=(2:Int) ^ s:=by rw[Int.natCast_pow]; rfl
 have e2:(2:Nat) ^ 63=9223372036854775808:=by decide
 refine⟨a,by omega,?_,Int.pow_pos (by decide)⟩;rw[<- Int.pow_add,show s + (64 - s)=64 from by omega]; rfl
theorem oJ(ao:Option Addr)(n c b o s:Nat)(l:List Int)(w:World)(E:l.length=n)(hc:n<=c)(F:n<=1099511627776)(hs:s<=63)(wl:Words l)(D:At w ao b o l) :
  Calls Tryz.prog 114 #[.slice ao n c,.int .i64 s] w fun e w'=>∃ lz,e=.returned (.slice (some ⟨w.heap.size,0,none⟩) (n + 1) (n + 1))/\lz.length=n + 1/\Words lz/\At w' (some ⟨w.heap.size,0,none⟩) w.heap.size 0 lz/\dB w' w.heap.size 0 (n + 1)/\w.heap.size < w'.heap.size/\val lz=val l * 2 ^ s/\Below w.heap.size w w':=by
 obtain⟨p1,C,J,I⟩:=fN s hs
 have A:l=[]\/b≠w.heap.size:=by
  rcases D.lt with e | e
  ·exact .inl e
  ·exact .inr (by omega)
 have j:=aL wl;have q:=dw wl
 have z:Hid (0<=val l * 2 ^ s/\val l * 2 ^ s < 18446744073709551616 ^ (n + 1)):=by
  refine⟨Int.mul_nonneg j (Int.le_of_lt p1),?_⟩
  have O:val l * 2 ^ s<=val l * 18446744073709551616:=Int.mul_le_mul_of_nonneg_left (by omega) j;rw[E] at q;rw[Int.pow_succ]; omega
 obtain⟨S,hS⟩:∃ S,(2:Int) ^ s=S:=⟨_,rfl⟩
 rw[hS] at p1 C z ⊢
 have L:IntKind.u64.wrap S=S:=IntWalk.u64_in _ ⟨by omega,by omega⟩;clear J I j q;go_enter Tryz.func114,Tryz.ntmps114;go_wp2_with (at_make; refine cV rfl _ _ rfl (n + 1) _ _ rfl rfl (by omega) (by omega) (by omega) ?_; intro M d g B);have v:=D.keep g;refine(ef _ w.heap.size 0 (n + 1) (n + 1) ao b o n c S (List.replicate (n + 1) 0) l M (by simp) E (by omega) (by omega) (Nat.le_refl _) hc (by omega) C (ey _) wl d.at (d.free _ _) v A).mono ?_
 rintro e G ⟨rfl,lz,x,y,p,f,m⟩;have u:=f.free (d.free 0 (n + 1));have H:=d.lt;have t:=f.size;rw[fm (l:=List.replicate (n + 1) 0) (fun i=>by simp[nth,List.getElem?_replicate]; split<;>rfl),Int.zero_add,Int.emod_eq_of_lt z.out.1 z.out.2] at m;have K:=(show Hid _ from m)
 have N:=g.trans (f.below (Nat.le_refl _))
 have r:w.heap.size < G.heap.size:=by omega
 clear m t B d f g;go_wp2;go_ret;exact⟨lz,rfl,x,y,p,u,r,K.out,N⟩
structure mP(lz:List Int)(S:Int)(h:Nat)(lz1:List Int):Prop where
 len:lz1.length=lz.length
 words:Words lz1
 low:∀ i,i < h->nth lz1 i=nth lz i
 val:Lim.val (lz1.drop h)=Lim.val (lz.drop h) / S
theorem CM(S T:Int)(h:S * T=18446744073709551616)(k:Nat):val (l.drop k) % S=nth l k % S:=by
 by_cases a:k < l.length
 ·rw[dP a,<- h,Int.mul_assoc,Int.add_mul_emod_self_left]
 ·rw[List.drop_of_length_le (by omega),fQ (by omega)]; rfl
theorem mP.step{lz lz1:List Int}{b:Int}{h:Nat}(hS:0 < S)(a:S * T=18446744073709551616)(hv:mP lz S (h + 1) lz1)(c:h < lz.length)(z0:0<=b)(z1:b < 18446744073709551616)(e:b=nth lz h / S + T * (nth lz (h + 1) % S)):mP lz S h (lz1.set h b):=by
 have d:=hv.len;refine⟨by simp[d],hv.words.set h z0 z1,fun i hi=>by rw[dy (by omega),if_neg (by omega)]; exact hv.low i (by omega),?_⟩;rw[dP (by simp; omega),dy (by omega),if_pos rfl,List.drop_set,if_pos (by omega),hv.val,dP c,e,<- CM S T a (h + 1)];generalize Lim.val (lz.drop (h + 1))=Y
 have e1:nth lz h + 18446744073709551616 * Y=nth lz h + S * (T * Y):=by rw[<- a]; grind
 rw[e1,Int.add_mul_ediv_left _ _ (by omega)];have e2:=Int.mul_ediv_add_emod Y S
 have e3:T * Y=T * (S * (Y / S) + Y % S):=by rw[e2]
 rw[e3,<- a];grind
theorem Ag{x y:Int}(s:Nat)(j:S=2 ^ s)(e:T=2 ^ (64 - s))(hs:s<=63)(hx:0<=x/\x < 18446744073709551616) :
  bits .or .u64 (x / S) (IntKind.u64.wrap (y * T))=x / S + T * (y % S)/\0<=x / S + T * (y % S)/\x / S + T * (y % S) < 18446744073709551616:=by
 obtain⟨p1,h,d,c⟩:=fN s hs;rw[<- j] at p1 h d;rw[<- e] at d c
 have a:0<=x / S:=Int.ediv_nonneg hx.1 (Int.le_of_lt p1)
 have f:x / S < T:=by rw[Int.ediv_lt_iff_lt_mul p1,Int.mul_comm,d]; exact hx.2
 have b:=Int.emod_nonneg y (show S≠0 by omega);have m:=Int.emod_lt_of_pos y p1
 have k:IntKind.u64.wrap (y * T)=y % S * T:=by
  rw[IntKind.wrap_u64,<- d,Int.mul_comm y T,Int.mul_comm S T,Int.mul_emod_mul_of_pos _ _ c,Int.mul_comm]
 have g:0<=y % S * T:=Int.mul_nonneg b (Int.le_of_lt c)
 have i:(y % S + 1) * T<=S * T:=Int.mul_le_mul_of_nonneg_right (by omega) (Int.le_of_lt c);rw[Int.add_mul,Int.one_mul,d] at i
 have l:T<=18446744073709551616:=by
  have:1 * T<=S * T:=Int.mul_le_mul_of_nonneg_right (by omega) (Int.le_of_lt c);omega
 rw[k,Int.mul_comm T];refine⟨?_,by omega,by omega⟩;rw[u64_or _ _ a (by omega) g (by omega),Nat.or_comm,<- u64_or _ _ g (by omega) a (by omega)];rw[oR _ _ (64 - s) (y % S) (by rw[e]) b (by omega) a (by rw[<- e]; exact f) (by omega),Int.add_comm]
theorem xe(m:Option Addr)(g i b C s:Nat)(lz:List Int)(w:World)(u:lz.length=b)(B:b<=2199023255552)(l:b<=C)(hs:s<=63)(r:Words lz)(p:At w m g i lz)(n:dB w g i b) :
  Calls Tryz.prog 116 #[.slice m b C,.int .i64 s] w fun e w'=>e=.returned (.tuple #[])/\∃ lz',lz'.length=b/\Words lz'/\At w' m g i lz'/\Wr g i b w w'/\val lz'=val lz / 2 ^ s:=by
 obtain⟨p1,Q,F,P⟩:=fN s hs;go_enter Tryz.func116,Tryz.ntmps116;go_wp2;go_loopw [4,10] (fun tc o wr=>∃ (k:Nat) (c:List Int),k<=b/\o=.int .i64 k/\tc=.int .u64 (nth lz (b - k))/\mP lz (2 ^ s) (b - k) c/\At wr m g i c/\Wr g i b w wr) (fun _ o _=>b - (intOf o).toNat)
 case atStart=>exact⟨0,lz,Nat.zero_le _,rfl,by rw[fQ (by omega)],⟨rfl,r,fun _ _=>rfl,by rw[Nat.sub_zero,List.drop_of_length_le (by omega)]; simp[val]⟩,p,Wr.refl _ _ _ _⟩
 case round =>
  obtain⟨k,c,O,rfl,rfl,hinv,d,f⟩:=hrel;have q:=hinv.len;by_cases E:k < b
  ·rcases p.loc with e | rfl
   ·subst e; simp at u; omega
   obtain⟨h,z⟩:∃ h:Nat,b=h + 1 + k:=⟨b - 1 - k,by omega⟩
   have l:=d.cell h (by omega);have J:=f.free n h (by omega);rw[hinv.low h (by omega)] at l
   have v:(b:Int) - 1 - k=h:=by omega
   have G:(h:Int) < b:=by omega
   have j:b - k=h + 1:=by omega
   rw[j] at hinv ⊢;obtain⟨e1,e2,e3⟩:=Ag (y:=nth lz (h + 1)) s rfl rfl hs (r.nth h)
   have D:Hid (mP lz (2 ^ s) h (c.set h (nth lz h / 2 ^ s + 2 ^ (64 - s) * (nth lz (h + 1) % 2 ^ s)))):=hinv.step p1 F (by omega) e2 e3 rfl
   have L:Hid (b=h + 1 + k):=z;have M:=(show Hid _ from d)
   have N:=(show Hid _ from f)
   have I:Hid (nth lz (b - (k + 1))=nth lz h):=by show _=_; rw[show b - (k + 1)=h from by omega]
   have K:Hid (b - (k + 1)=h):=by show _=_; omega
   clear z hinv p r d f j;generalize nth lz h=x at *;generalize nth lz (h + 1)=y at *
   have A:(64:Int) - s=((64 - s:Nat):Int):=by omega
   go_wp2_with fail;go_region;go_wp2;refine⟨⟨k + 1,_,by omega,by go_num,by rw[I.out],by rw[K.out]; exact D.out,?_,?_⟩,by simp[intOf]; omega⟩
   ·exact(M.out.setCell (by omega) _).drew
   ·exact(N.out.setCell (by omega) (by have:=L.out; omega) _).drew
  ·have t:k=b:=by omega
   subst t;have hv:=hinv.val;rw[Nat.sub_self,List.drop_zero,List.drop_zero] at hv;have H:=(show Hid _ from hv)
   clear hv;go_wp2;go_end0;exact⟨rfl,c,by omega,hinv.words,d,f,H.out⟩
def rX(u v g:Int):Prop:=0<=g/\g < 18446744073709551616/\(g - 1) * v<=u/\u < (g + 1) * v
theorem zC{u v u0 R P:Int}(d:0 < P)(hv:v < (v1 + 1) * P)(b:9223372036854775808<=v1)(hu:u=u0 * 18446744073709551616 * P + R)(e:0<=R)(c:v1<=u0)(a:u < v * 18446744073709551616):rX u v 18446744073709551615:=by
 refine⟨by decide,by decide,?_,by rw[show (18446744073709551615 + 1:Int)=18446744073709551616 from rfl,Int.mul_comm]; exact a⟩
 have k1:v * 18446744073709551614<=(v1 + 1) * P * 18446744073709551614:=Int.mul_le_mul_of_nonneg_right (by omega) (by decide)
 have k2:v1 * P<=u0 * P:=Int.mul_le_mul_of_nonneg_right c (by omega)
 have k3:9223372036854775808 * P<=v1 * P:=Int.mul_le_mul_of_nonneg_right b (by omega)
 have e1:(v1 + 1) * P * 18446744073709551614=v1 * P * 18446744073709551614 + P * 18446744073709551614:=by grind
 have e2:u0 * 18446744073709551616 * P=u0 * P * 18446744073709551616:=by grind
 rw[show (18446744073709551615 - 1:Int)=18446744073709551614 from rfl,Int.mul_comm];omega
theorem su{u v v2 a g rest hi Q:Int}(D:0 < Q)(f:v1 * 18446744073709551616 * Q + v2 * Q<=v)(hv:v < v1 * 18446744073709551616 * Q + (v2 + 1) * Q)(r:9223372036854775808<=v1)(o:0<=v2)(w:v2 < 18446744073709551616)(m:a * (18446744073709551616 * Q)<=u)(hu:u < (a + 1) * (18446744073709551616 * Q))(b:0<=g)(i:g < 18446744073709551616)(k:0<=rest)(x:rest < v1)(he:g * v1 + rest=a)(lo:Int)(l:0<=lo)(z:lo < 18446744073709551616)(hm:hi * 18446744073709551616 + lo=g * v2) :
  (rest < hi->rX u v (g - 1))/\(hi<=rest->rX u v g):=by
 have n:0<=g * v2:=Int.mul_nonneg b o
 have j:g * v2<=g * 18446744073709551615:=Int.mul_le_mul_of_nonneg_left (by omega) b
 have h:0<=hi:=by omega
 have e:hi<=18446744073709551615:=by omega
 obtain⟨X,hX⟩:∃ X,18446744073709551616 * Q=X:=⟨_,rfl⟩
 have A:0 < X:=by omega
 have m1:g * (v1 * 18446744073709551616 * Q + v2 * Q)<=g * v:=Int.mul_le_mul_of_nonneg_left f b
 have m2:g * v<=g * (v1 * 18446744073709551616 * Q + (v2 + 1) * Q):=Int.mul_le_mul_of_nonneg_left (by omega) b
 have e1:g * (v1 * 18446744073709551616 * Q + v2 * Q)=a * X - rest * X + hi * X + lo * Q:=by
  rw[<- hX,<- he];have:g * (v2 * Q)=(hi * 18446744073709551616 + lo) * Q:=by rw[hm]; grind
  grind
 have e2:g * (v1 * 18446744073709551616 * Q + (v2 + 1) * Q)=a * X - rest * X + hi * X + lo * Q + g * Q:=by
  have:g * (v1 * 18446744073709551616 * Q + (v2 + 1) * Q)=g * (v1 * 18446744073709551616 * Q + v2 * Q) + g * Q:=by grind
  rw[this,e1]
 rw[e1] at m1;rw[e2] at m2
 have e3:v1 * 18446744073709551616 * Q=v1 * X:=by rw[<- hX]; grind
 rw[e3] at f;rw[hX] at m hu;rw[Int.add_mul,Int.one_mul] at hu
 have k1:9223372036854775808 * X<=v1 * X:=Int.mul_le_mul_of_nonneg_right r (by omega)
 have k2:(rest + 1) * X<=v1 * X:=Int.mul_le_mul_of_nonneg_right (by omega) (by omega)
 have k3:lo * Q<=18446744073709551615 * Q:=Int.mul_le_mul_of_nonneg_right (by omega) (by omega)
 have y:0<=lo * Q:=Int.mul_nonneg l (by omega)
 have G:g * Q<=18446744073709551615 * Q:=Int.mul_le_mul_of_nonneg_right (by omega) (by omega)
 have C:0<=v2 * Q:=Int.mul_nonneg o (by omega)
 have E:0<=hi * X:=Int.mul_nonneg h (by omega)
 have B:0<=rest * X:=Int.mul_nonneg k (by omega)
 have F:hi * X<=18446744073709551615 * X:=Int.mul_le_mul_of_nonneg_right e (by omega);rw[Int.add_mul,Int.one_mul] at k2;constructor
 ·intro t
  have p:(rest + 1) * X<=hi * X:=Int.mul_le_mul_of_nonneg_right (by omega) (by omega);rw[Int.add_mul,Int.one_mul] at p
  have q:1<=g:=by
   by_cases c:1<=g
   ·exact c
   ·have:g=0:=by omega
    subst this; simp at hm; omega
  have d:hi<=18446744073709551614:=by omega
  have s:hi * X<=18446744073709551614 * X:=Int.mul_le_mul_of_nonneg_right d (by omega);refine⟨by omega,by omega,?_,?_⟩
  ·rw[show (g - 1 - 1) * v=g * v - 2 * v from by grind];omega
  ·rw[show (g - 1 + 1) * v=g * v from by grind];omega
 ·intro hle
  have p:hi * X<=rest * X:=Int.mul_le_mul_of_nonneg_right hle (by omega);refine⟨b,i,?_,?_⟩
  ·rw[Int.sub_mul,Int.one_mul]; omega
  ·rw[Int.add_mul,Int.one_mul]; omega
end
end
section
open Go.RowKit Lim
section
variable {f:FuncId}{args:Array Value}{w:World}{n:Nat}{v:Value}{l:List Int}
theorem rT(hi lo y:Int)(w:World)(d:0<=hi)(b:hi < y)(a:0<=lo)(l1:lo < 18446744073709551616)(y1:y < 18446744073709551616) :
  Calls Tryz.prog 166 #[.int .u64 hi,.int .u64 lo,.int .u64 y] w fun e w'=>e=.returned (.tuple #[.int .u64 ((hi * 18446744073709551616 + lo) / y),.int .u64 ((hi * 18446744073709551616 + lo) % y)])/\∃ n,w'=w.drewN n:=by
 by_cases c:hi=0
 ·subst c;refine(mE lo y w (by omega) a l1 y1).mono ?_
  rintro e w' ⟨rfl,hw⟩;exact⟨by simp,hw⟩
 ·refine(n6 hi lo y w (by omega) b a l1 y1).mono ?_
  rintro e w' ⟨rfl,rfl⟩;exact⟨rfl,0,rfl⟩
theorem nA{P:Program}(h:Calls P f args (w.drewN n) fun e w'=>e=.returned v/\∃ m,w'=(w.drewN n).drewN m):Calls P f args (w.drewN n) fun e w''=>e=.returned v/\∃ m,w''=w.drewN m :=
 h.mono fun _ _ ⟨he,m,hm⟩=>⟨he,n + m,by rw[hm,World.drewN_drewN]⟩
theorem top2(wl:Words l)(hn:l.length=n + 2):(nth l (n + 1) * 18446744073709551616 + nth l n) * 18446744073709551616 ^ n<=val l/\val l < (nth l (n + 1) * 18446744073709551616 + nth l n + 1) * 18446744073709551616 ^ n:=by
 have e1:=bC l n (by omega);have b:=aL (wl.take n);have a:=dw (wl.take n);rw[List.length_take,Nat.min_eq_left (by omega)] at a;rw[dP (by omega),dP (by omega),List.drop_of_length_le (show l.length<=n + 1 + 1 by omega)] at e1
 have e2:(18446744073709551616:Int) ^ n * (nth l n + 18446744073709551616 * (nth l (n + 1) + 18446744073709551616 * val []))=(nth l (n + 1) * 18446744073709551616 + nth l n) * 18446744073709551616 ^ n:=by
  rw[show val []=0 from rfl]; grind
 rw[e2] at e1;rw[Int.add_mul (nth l (n + 1) * 18446744073709551616 + nth l n) 1];omega
theorem vU(Z:Option Addr)(cu T O:Nat)(av:Option Addr)(k cv bv C:Nat)(lu j:List Int)(w:World)(s:lu.length=k + 3)(q:j.length=k + 2)(ab:k<=1099511627776)(wu:Words lu)(D:Words j)(hu:At w Z T O lu)(hv:At w av bv C j)(l:9223372036854775808<=nth j (k + 1))(y:val lu < val j * 18446744073709551616) :
  Calls Tryz.prog 167 #[.slice Z (k + 3) cu,.slice av (k + 2) cv] w fun e w'=>∃ g:Int,e=.returned (.int .u64 g)/\rX (val lu) (val j) g/\Below w.heap.size w w':=by
 obtain⟨i,t⟩:=top2 D q;obtain⟨d,f⟩:=top2 (n:=k + 1) wu s;have c0:=hu.cell (k + 2) (by omega);have c1:=hu.cell (k + 1) (by omega);have d1:=hv.cell (k + 1) (by omega);have d2:=hv.cell k (by omega);have b0:=wu.nth (k + 2);have b1:=wu.nth (k + 1);have e1:=D.nth (k + 1);have e2:=D.nth k;have E:=pow_pos k;have K:=pow_pos (k + 1);rcases hu.loc with e | rfl
 ·subst e; simp at s
 rcases hv.loc with e | rfl
 ·subst e; simp at q
 rw[show k + 1 + 1=k + 2 from rfl] at d f;have I:=(show Hid _ from y)
 clear hu hv wu D y s q;obtain⟨N,B⟩:∃ N,k + 2=N:=⟨_,rfl⟩
 obtain⟨m,hm⟩:∃ m,k + 1=m:=⟨_,rfl⟩
 have hN1:(N:Int) - 1=m:=by omega
 have hN2:(N:Int) - 2=k:=by omega
 have hmN:(m:Int) < N:=by omega
 have hkN:(k:Int) < N:=by omega
 have Y:(m:Int) < (N:Int) + 1:=by omega
 have X:(N:Int) < (N:Int) + 1:=by omega
 have hNb:N<=1099511627778:=by omega
 have aa:m<=N:=by omega
 have hmlt:m < N + 1:=by omega
 have hmi:(m:Int)<=N:=by omega
 have hwm:IntKind.i64.wrap (m:Int)=m:=by rw[IntKind.wrap_i64]; omega
 have hwk:IntKind.i64.wrap (k:Int)=k:=by rw[IntKind.wrap_i64]; omega
 generalize nth lu (k + 2)=u0 at *;generalize nth lu (k + 1)=c at *;generalize nth j (k + 1)=v1 at *;generalize nth j k=v2 at *;generalize val lu=U at *;generalize val j=V at *;by_cases F:v1<=u0
 ·have HN:Hid (rX U V 18446744073709551615):=by
   refine zC (v1:=v1) (u0:=u0) (P:=18446744073709551616 ^ (k + 1)) (R:=U - u0 * 18446744073709551616 * 18446744073709551616 ^ (k + 1)) K ?_ l (by omega) ?_ F I.out
   ·rw[Int.pow_succ];have:(v1 * 18446744073709551616 + v2 + 1) * 18446744073709551616 ^ k<=(v1 * 18446744073709551616 + 18446744073709551616) * 18446744073709551616 ^ k:=Int.mul_le_mul_of_nonneg_right (by omega) (by omega)
    have e:(v1 * 18446744073709551616 + 18446744073709551616) * 18446744073709551616 ^ k=(v1 + 1) * (18446744073709551616 ^ k * 18446744073709551616):=by grind
    omega
   ·have:0<=c * 18446744073709551616 ^ (k + 1):=Int.mul_nonneg b1.1 (by omega);rw[Int.add_mul] at d;omega
  rw[show k + 3=N + 1 from by omega,B] at *;rw[hm] at c1 d1;clear d f i t E K B hm;go_enter Tryz.func167,Tryz.ntmps167;go_wp2_with fail;go_quiet (fail);go_wp2;go_ret;exact⟨_,rfl,HN.out,below_drewN (Below.refl _ _) _⟩
 ·have z:∀ g rest hi lo:Int,0<=g->g < 18446744073709551616->0<=rest->rest < v1->g * v1 + rest=u0 * 18446744073709551616 + c->0<=lo->lo < 18446744073709551616->hi * 18446744073709551616 + lo=g * v2->(rest < hi->rX U V (g - 1))/\(hi<=rest->rX U V g):=by
   intro g rest hi lo h1 h2 h3 h4 h5 h6 h7 h8;refine su (Q:=18446744073709551616 ^ k) E ?_ ?_ l e2.1 e2.2 ?_ ?_ h1 h2 h3 h4 h5 lo h6 h7 h8
   ·rw[Int.add_mul] at i; exact i
   ·have e:(v1 * 18446744073709551616 + v2 + 1) * 18446744073709551616 ^ k=v1 * 18446744073709551616 * 18446744073709551616 ^ k + (v2 + 1) * 18446744073709551616 ^ k:=by grind
    rw[<- e]; exact t
   ·rw[Int.mul_comm 18446744073709551616,<- Int.pow_succ]; exact d
   ·rw[Int.mul_comm 18446744073709551616,<- Int.pow_succ]; exact f
  have r:=(show Hid _ from z)
  have p:=Int.mul_ediv_add_emod (u0 * 18446744073709551616 + c) v1;have W:=Int.emod_nonneg (u0 * 18446744073709551616 + c) (show v1≠0 by omega);have M:=Int.emod_lt_of_pos (u0 * 18446744073709551616 + c) (show 0 < v1 by omega)
  have x:0<=(u0 * 18446744073709551616 + c) / v1:=Int.ediv_nonneg (by omega) (by omega)
  have A:(u0 * 18446744073709551616 + c) / v1 < 18446744073709551616:=by
   rw[Int.ediv_lt_iff_lt_mul (by omega)];have:(u0 + 1) * 18446744073709551616<=v1 * 18446744073709551616:=Int.mul_le_mul_of_nonneg_right (by omega) (by decide);omega
  have tD:=fun wx:World=>rT u0 c v1 wx b0.1 (by omega) b1.1 b1.2 e1.2
  generalize hg:(u0 * 18446744073709551616 + c) / v1=g at *;generalize hr:(u0 * 18446744073709551616 + c) % v1=rest at *;rw[Int.mul_comm] at p;have J:=(show Hid _ from p)
  rw[show k + 3=N + 1 from by omega,B] at *;rw[hm] at c1 d1;clear z p hg hr d f i t E K B hm
  have hge':u0 < v1:=by omega
  go_enter Tryz.func167,Tryz.ntmps167;go_wp2_with fail;go_quiet (fail)
  have G:(w.drewN nq).cell? ⟨T,O + N,none⟩=some (.int .u64 u0):=c0
  have S:(w.drewN nq).cell? ⟨T,O + m,none⟩=some (.int .u64 c):=c1
  have L:(w.drewN nq).cell? ⟨bv,C + m,none⟩=some (.int .u64 v1):=d1
  have u:(w.drewN nq).cell? ⟨bv,C + k,none⟩=some (.int .u64 v2):=d2;have v:=below_drewN (Below.refl w.heap.size w) nq;clear c0 c1 d1 d2;generalize w.drewN nq=W1 at *;go_wp2_with fail;go_quiet ((go_at_call 166; exact nA (tD _)))
  have d2'':(W1.drewN nq).cell? ⟨bv,C + k,none⟩=some (.int .u64 v2):=u;have o:=below_drewN v nq;clear G S L u v tD;generalize W1.drewN nq=W2 at *;go_wp2_with fail;refine(lg g v2 x A e2.1 e2.2 _).mono ?_
  rintro e w3 ⟨hi,lo,rfl,i1,i2,i3,i4,i5,rfl⟩;have b:=r.out g rest hi lo x A W M J.out i3 i4 i5.out;by_cases hc:rest < hi
  ·have H:=(show Hid _ from b.1 hc)
   have hg2:0<=g - 1:=(b.1 hc).1;clear b r;go_wp2;go_ret;exact⟨_,rfl,H.out,o⟩
  ·have H:=(show Hid _ from b.2 (by omega))
   clear b r;go_wp2;go_ret;exact⟨_,rfl,H.out,o⟩
end
end
section
open Go.RowKit Lim
section
variable {L L' lz:List Int}{k:Nat}
theorem zN(hL:Words L)(a:Words L')(b:Words lz)(l:k < L.length)(m:lz.length=L.length + L'.length)(hv:val lz=val (L.take k) * val L') :
  0<=val ((lz.drop k).take (L'.length + 1)) + val L' * nth L k/\val ((lz.drop k).take (L'.length + 1)) + val L' * nth L k < 18446744073709551616 ^ (L'.length + 1):=by
 have d:=dw (hL.take k);have i:=dw a;have h:=aL (hL.take k);have c:=aL a;have n:=aL (b.take k);have g:=aL ((b.drop k).take (L'.length + 1));have h7:=aL ((b.drop k).drop (L'.length + 1));have h8:=hL.nth k;rw[List.length_take,Nat.min_eq_left (by omega)] at d;have e1:=bC lz k (by omega);have e2:=bC (lz.drop k) (L'.length + 1) (by simp; omega);have e:=pow_pos k;have j:=pow_pos L'.length;have f:=pow_pos (L'.length + 1)
 have m1:val (L.take k) * val L'<=18446744073709551616 ^ k * val L':=Int.mul_le_mul_of_nonneg_right (by omega) c
 have m2:(18446744073709551616:Int) ^ k * val (lz.drop k)<=18446744073709551616 ^ k * val L':=by omega
 have m3:val (lz.drop k)<=val L':=Int.le_of_mul_le_mul_left m2 e
 have m4:0<=18446744073709551616 ^ (L'.length + 1) * val ((lz.drop k).drop (L'.length + 1)):=Int.mul_nonneg (Int.le_of_lt f) h7
 have m5:val L' * nth L k<=val L' * 18446744073709551615:=Int.mul_le_mul_of_nonneg_left (by omega) c
 have m6:0<=val L' * nth L k:=Int.mul_nonneg c h8.1;refine⟨by omega,?_⟩;rw[Int.pow_succ];omega
structure kx(L L' lz:List Int)(k:Nat):Prop where
 len:lz.length=L.length + L'.length
 words:Words lz
 val:Lim.val lz=Lim.val (L.take k) * Lim.val L'
theorem kx.step{lw:List Int}(hL:Words L)(b:Words L')(d:k < L.length)(h:kx L L' lz k)(hw:Words lw)(c:lw.length=L'.length + 1)(hv:Lim.val lw=(Lim.val ((lz.drop k).take (L'.length + 1)) + Lim.val L' * nth L k) % 18446744073709551616 ^ (L'.length + 1)):kx L L' (patch lz k lw) (k + 1):=by
 have a:=zN hL b h.words d h.len h.val;rw[Int.emod_eq_of_lt a.1 a.2] at hv;have e:=h.len;refine⟨by rw[fj (by omega)]; exact h.len,kH h.words hw,?_⟩;rw[nY (by omega),c,hv,h.val,du d];grind
theorem pT(ao:Option Addr)(n c b o:Nat)(ao':Option Addr)(n' c' b' o':Nat)(l p:List Int)(w:World)(hl:l.length=n)(U:p.length=n')(hc:n<=c)(V:n'<=c')(hbig:n<=1099511627776)(hbig':n'<=1099511627776)(wl:Words l)(Z:Words p)(Y:At w ao b o l)(I:At w ao' b' o' p) :
  Calls Tryz.prog 24 #[.slice ao n c,.slice ao' n' c'] w fun e w'=>∃ v r,e=.returned v/\dE w w' v r/\IsN r (val l * val p)/\r.length<=n + n'/\Below w.heap.size w w':=by
 have hn:=bp l
 have hn':=bp p;have t1:=bj ao n c l w hl hc (by omega) Y.cells;have t2:=bj ao' n' c' p w U V (by omega) I.cells;have hs:=Y.sub (aE l)
 have A:=I.sub (aE p);have P:=aJ l
 have y:=aJ p;have hI:=b8 wl
 have J:=b8 Z;rw[show l.take (aE l)=norm l from rfl] at hs;rw[show p.take (aE p)=norm p from rfl] at A;generalize aE l=N at *;generalize aE p=d at *;generalize norm l=L at *;generalize norm p=M at *
 have s:L=[]\/b≠w.heap.size:=by
  rcases hs.lt with e | e
  ·exact .inl e
  ·exact .inr (by omega)
 have T:M=[]\/b'≠w.heap.size:=by
  rcases A.lt with e | e
  ·exact .inl e
  ·exact .inr (by omega)
 clear Y I;go_enter Tryz.func24,Tryz.ntmps24;go_wp2_with fail;refine t1.mono ?_
 rintro e w1 ⟨rfl,rfl⟩;go_wp2_with fail;refine t2.mono ?_
 rintro e z ⟨rfl,rfl⟩;clear t1 t2;go_wp2_with (at_make; refine cV rfl _ _ rfl (N + d) _ _ rfl rfl (by omega) (by omega) (by omega) ?_; intro w3 u j hsz);have G:=hs.keep j;have S:=A.keep j;have E:=u.at
 have D:=u.free 0 (N + d);clear hs A u;go_loopw [22] (fun ti wr=>∃ (k:Nat) (f:List Int),k<=N/\ti=.int .i64 k/\kx L M f k/\At wr (some ⟨z.heap.size,0,none⟩) z.heap.size 0 f/\Wr z.heap.size 0 (N + d) w3 wr) (fun ti _=>N - (intOf ti).toNat)
 case atStart=>exact⟨0,_,Nat.zero_le _,rfl,⟨by simp[P,y],ey _,by simp[val,fm (l:=List.replicate (N + d) 0) fun i=>by simp[nth,List.getElem?_replicate]; split<;>rfl]⟩,E,Wr.refl _ _ _ _⟩
 case round =>
  clear E;obtain⟨k,f,hk,rfl,hinv,q,g⟩:=hrel;by_cases hlt:k < N
  ·have hlen:=hinv.len;rcases G.loc with e | rfl
   ·subst e; simp at P; omega
   have s:=s;have hcx:=(G.wr g s).cell k (by omega)
   have C:=S.wr g T;have hx:=hI.1.nth k;have H:=(g.free D).fL (k:=k) (m:=d + 1) (by omega);have t:=(q.drew).fL k (d + 1);rw[Nat.zero_add] at t H
   have hkn:k + d + 1 - k=d + 1:=by omega
   have F:=ef (some ⟨z.heap.size,k,none⟩) z.heap.size k (d + 1) (d + 1) ao' b' o' d d (nth L k) ((f.drop k).take (d + 1)) M wr.drew (by simp; omega) y (by omega) (by omega) (Nat.le_refl _) (Nat.le_refl _) hx.1 hx.2 ((hinv.words.drop k).take _) J.1 t H.drew C.drew T
   have HX:Hid (∀ lw,Words lw->lw.length=d + 1->val lw=(val ((f.drop k).take (d + 1)) + val M * nth L k) % 18446744073709551616 ^ (d + 1)->kx L M (patch f k lw) (k + 1)):=by
    intro lw h1 h2 h3;rw[<- y] at h2 h3;exact kx.step hI.1 J.1 (by omega) hinv h1 h2 h3
   have HA:Hid (At wr.drew (some ⟨z.heap.size,0,none⟩) z.heap.size 0 f):=q.drew
   have HW:Hid (Wr z.heap.size 0 (N + d) w3 wr.drew):=g.drew;clear H t C hinv g q;generalize nth L k=x at *;go_wp2_with fail;go_region_with (go_at_call 59; refine F.mono ?_; rintro e w5 ⟨rfl,lw,hlw,X,Q,B,hvw⟩)
   all_goals go_wp2
   all_goals exact⟨⟨k + 1,patch f k lw,by omega,by go_num,HX.out lw X hlw hvw,HA.out.patch (k:=k) (n:=d + 1) (by rw[Nat.zero_add]; exact B) (by rw[Nat.zero_add]; exact Q) (by omega) (by omega),HW.out.trans (B.mono (by omega) (by omega))⟩,by simp[intOf]; omega⟩
  ·have W:k=N:=by omega
   subst W;have hv:=hinv.val;have hlen:=hinv.len;have hwz:=hinv.words;rw[List.take_of_length_le (by omega),hI.2.2,J.2.2] at hv;have aa:=g.free D;have hz1:=bp f;have hz2:=aJ f;have O:=q.sub (aE f)
   have HF:IsN (norm f) (val l * val p):=by rw[<- hv]; exact b8 hwz
   have HB:=j.trans (g.below (Nat.le_refl _));rw[show f.take (aE f)=norm f from rfl] at O;have t3:=bj (some ⟨z.heap.size,0,none⟩) (k + d) (k + d) f wr (by omega) (Nat.le_refl _) (by omega) q.cells;clear G S q g j hinv hv;generalize aE f=K at *;generalize norm f=R at *;go_wp2_with fail;refine t3.mono ?_
   rintro e w6 ⟨rfl,rfl⟩;go_wp2;go_ret;exact⟨_,R,rfl,dE.of hz2.symm (Nat.le_refl _) (Nat.le_refl _) O (fun i hi=>aa i (by omega)),HF,by omega,HB⟩
end
end
section
open Go.RowKit Lim
section
variable {lu lq lu1:List Int}{V:Int}{q0 k a n:Nat}{w:World}
structure kR(lu:List Int)(V:Int)(q0 k m:Nat)(lq lu1:List Int):Prop where
 CZ:lq.length=q0
 BQ:lu1.length=q0 + (k + 2)
 wq:Words lq
 wu:Words lu1
 eq:val lu=18446744073709551616 ^ m * val (lq.drop m) * V + val lu1
 lt:val lu1 < V * 18446744073709551616 ^ m
theorem kR.fL(h:kR lu V q0 k (a + 1) lq lu1)(n:a < q0)(m:V < 18446744073709551616 ^ (k + 2)) :
  val lu1=val (lu1.take a) + 18446744073709551616 ^ a * val ((lu1.drop a).take (k + 3))/\val ((lu1.drop a).take (k + 3)) < V * 18446744073709551616:=by
 have o:=h.BQ;have e1:=bC lu1 a (by omega);have e2:=bC (lu1.drop a) (k + 3) (by simp; omega);have p:=aL (h.wu.take a);have g:=aL ((h.wu.drop a).take (k + 3));have i:=aL ((h.wu.drop a).drop (k + 3));have f:=h.lt;have b:=pow_pos a
 have d:val ((lu1.drop a).drop (k + 3))=0:=by
  by_cases c:val ((lu1.drop a).drop (k + 3))=0
  ·exact c
  ·have k1:18446744073709551616 ^ (k + 3) * 1<=18446744073709551616 ^ (k + 3) * val ((lu1.drop a).drop (k + 3)):=Int.mul_le_mul_of_nonneg_left (by omega) (Int.le_of_lt (pow_pos _))
   have k2:18446744073709551616 ^ a * 18446744073709551616 ^ (k + 3)<=18446744073709551616 ^ a * val (lu1.drop a):=Int.mul_le_mul_of_nonneg_left (by omega) (Int.le_of_lt b)
   have k3:(V + 1) * 18446744073709551616 ^ (a + 1)<=18446744073709551616 ^ (k + 2) * 18446744073709551616 ^ (a + 1):=Int.mul_le_mul_of_nonneg_right (by omega) (Int.le_of_lt (pow_pos _));rw[Int.add_mul] at k3
   have j:(18446744073709551616:Int) ^ (k + 2) * 18446744073709551616 ^ (a + 1)=18446744073709551616 ^ a * 18446744073709551616 ^ (k + 3):=by rw[<- Int.pow_add,<- Int.pow_add]; congr 1; omega
   have l:=pow_pos (a + 1);omega
 rw[d,Int.mul_zero,Int.add_zero] at e2;rw[e2] at e1;refine⟨e1,?_⟩
 have e:18446744073709551616 ^ a * val ((lu1.drop a).take (k + 3)) < 18446744073709551616 ^ a * (V * 18446744073709551616):=by
  have:18446744073709551616 ^ a * (V * 18446744073709551616)=V * 18446744073709551616 ^ (a + 1):=by rw[Int.pow_succ]; grind
  omega
 exact Int.lt_of_mul_lt_mul_left e (Int.le_of_lt b)
theorem kR.step{d:Int}{nw:List Int}(h:kR lu V q0 k (a + 1) lq lu1)(j:a < q0)(i:V < 18446744073709551616 ^ (k + 2))(d0:0<=d)(d1:d < 18446744073709551616)(wn:Words nw)(hn:nw.length=k + 3)(e:val nw=val ((lu1.drop a).take (k + 3)) - d * V)(e1:val nw < V):kR lu V q0 k a (lq.set a d) (patch lu1 a nw):=by
 have hw:=h.fL j i;have n:=h.BQ;have c:=h.CZ;have b:=nY (l:=lu1) (m:=nw) (k:=a) (by omega);have f:=dw (h.wu.take a);rw[List.length_take,Nat.min_eq_left (by omega)] at f;have g:=pow_pos a;refine⟨by simp[c],by rw[fj (by omega)]; exact n,h.wq.set a d0 d1,kH h.wu wn,?_,?_⟩
 ·rw[h.eq,dP (l:=lq.set a d) (by simp; omega),dy (by omega),if_pos rfl,List.drop_set,if_pos (by omega),b,hn,e,Int.pow_succ];grind
 ·have k1:18446744073709551616 ^ a * (val nw + 1)<=18446744073709551616 ^ a * V:=Int.mul_le_mul_of_nonneg_left (by omega) (Int.le_of_lt g);rw[b,hn,Int.mul_sub,Int.mul_comm V];rw[Int.mul_add] at k1;omega
theorem Db{U g o Z:Int}{x:Int}(hn:rX U V g)(k:V < 18446744073709551616 ^ n)(hx:x=U - V * g + 18446744073709551616 ^ n * o)(x1:x < 18446744073709551616 ^ n)(p:0<=U)(m:0<=o) :
  (o=0->x=U - g * V/\x < V)/\(o≠0->Z=(x + V * 1) % 18446744073709551616 ^ n->1<=g/\Z=U - (g - 1) * V/\Z < V):=by
 obtain⟨g0,g1,l,f⟩:=hn;rw[Int.sub_mul] at l;rw[Int.add_mul] at f;rw[Int.mul_comm V g] at hx;have d:=pow_pos n;constructor
 ·intro h; subst h; omega
 ·intro h i
  have k1:18446744073709551616 ^ n * 1<=18446744073709551616 ^ n * o:=Int.mul_le_mul_of_nonneg_left (by omega) (Int.le_of_lt d)
  have a:o=1:=by
   by_cases c:2<=o
   ·have k2:18446744073709551616 ^ n * 2<=18446744073709551616 ^ n * o:=Int.mul_le_mul_of_nonneg_left c (Int.le_of_lt d);omega
   ·omega
  subst a
  have b:U - g * V < 0:=by omega
  have j:1<=g:=by
   by_cases c:1<=g
   ·exact c
   ·have:g=0:=by omega
    subst this; omega
  have e:x + V * 1=(U - (g - 1) * V) + 18446744073709551616 ^ n * 1:=by rw[hx,Int.sub_mul]; omega
  rw[e,Int.add_mul_emod_self_left,Int.sub_mul,Int.emod_eq_of_lt (by omega) (by omega)] at i;rw[Int.sub_mul];exact⟨j,by omega,by omega⟩
theorem jq{P:Program}{a:Act}{Q:Exit->Act->World->Prop}{c rest:Code}(l:Nat)(J:Act->World->Prop)(μ:Act->World->Nat)(hf:findLabel c l=some (Code.skip.seq rest))(first:(∀ a w,J a w->rest.wp P (Exit.jump l J Q) a w)->c.wp P (Exit.jump l J Q) a w)(pass:∀ a w,J a w->rest.wp P (Exit.jump l (fun a' w'=>J a' w'/\μ a' w' < μ a w) Q) a w):(Code.scope c).wp P Q a w :=
 wp_scope_jumps l J μ hf (first fun a w b=>wp_mono (pass a w b) fun e a' w' h=>by
  cases e with
  | goto l'=>exact⟨h.1,h.2.1⟩
  | _=>exact h) fun a w b=>wp_seq (wp_skip (pass a w b))
theorem qx{l m a:List Int}(h:k + m.length<=l.length)(hm:a.length=m.length):patch (patch l k m) k a=patch l k a:=by
 have e:(l.take k).length=k:=by simp; omega
 unfold patch;rw[List.take_left' e,hm,<- List.append_assoc (l.take k) m,List.drop_left' (by simp; omega)]
theorem dB.below{B:Nat}{w':World}(h:Below B w w'){b o:Nat}(k:dB w b o n)(hb:b < B):dB w' b o n:=fun i hi=>by
 rw[World.frozen?_of_block (w:=w) (h.block b hb)]; exact k i hi
theorem lN(s A cu:Nat)(av:Option Addr)(k q0 cv bv ov:Nat)(lu F:List Int)(w:World)(ad:lu.length=q0 + (k + 2))(V:F.length=k + 2)(hbig:k<=1099511627776)(hbigq:q0<=1099511627776)(hcu:q0 + (k + 2)<=cu)(hcv:k + 2<=cv)(wu:Words lu)(wv:Words F)(hu:At w (some ⟨s,A,none⟩) s A lu)(hfu:dB w s A (q0 + (k + 2)))(hv:At w av bv ov F)(ab:bv≠s)(htop:9223372036854775808<=nth F (k + 1))(hval:val lu < val F * 18446744073709551616 ^ q0) :
  Calls Tryz.prog 115 #[.slice (some ⟨s,A,none⟩) (q0 + (k + 2)) cu,.slice av (k + 2) cv] w fun e w'=>∃ lq lr:List Int,e=.returned (.slice (some ⟨w.heap.size,0,none⟩) q0 q0)/\kR lu (val F) q0 k 0 lq lr/\At w' (some ⟨w.heap.size,0,none⟩) w.heap.size 0 lq/\dB w' w.heap.size 0 q0/\At w' (some ⟨s,A,none⟩) s A lr/\dB w' s A (q0 + (k + 2))/\Below s w w':=by
 go_enter Tryz.func115,Tryz.ntmps115;go_wp2;refine jq 0 (fun a' w'=>∃ (m:Nat) (lq t:List Int) (u8 u9 u10 u11 u12 u13 u14 u15 u16 u17 u18 u19 u20 u21 u22 u23 u24 u25 u26 u27 u28 u29 u30 u31 u32 u33 u34 u35 u36 u37 u38 u39 u40 u41 u42 u43 u44 u45 u46 u47 u48 u49 u50 u51 u52 u53 u54:Value),a'={ tmps:=#[.slice (some ⟨s,A,none⟩) (q0 + (k + 2)) cu,.slice av (k + 2) cv,undef,undef,.slice none 0 0,.int .i64 ((k:Int) + 2),.int .i64 (m:Int),.slice (some ⟨w.heap.size,0,none⟩) q0 q0,u8,u9,u10,u11,u12,u13,u14,u15,u16,u17,u18,u19,u20,u21,u22,u23,u24,u25,u26,u27,u28,u29,u30,u31,u32,u33,u34,u35,u36,u37,u38,u39,u40,u41,u42,u43,u44,u45,u46,u47,u48,u49,u50,u51,u52,u53,u54],defers:=[] }/\m<=q0/\kR lu (val F) q0 k m lq t/\At w' (some ⟨w.heap.size,0,none⟩) w.heap.size 0 lq/\dB w' w.heap.size 0 q0/\At w' (some ⟨s,A,none⟩) s A t/\dB w' s A (q0 + (k + 2))/\At w' av bv ov F/\w.heap.size < w'.heap.size/\Below s w w') (fun a' _=>(intOf (a'.tmps.getD 6 undef)).toNat) rfl ?_ ?_
 ·intro hpass;go_wp2_with (at_make; refine cV rfl _ _ rfl q0 _ _ rfl rfl (by omega) (by omega) (by omega) ?_; intro w1 am f hsz);go_step3
  have T:s < w.heap.size:=by
   rcases hu.lt with e | e
   ·subst e; simp at ad
   ·exact e
  have hI:kR lu (val F) q0 k q0 (List.replicate q0 0) lu:=⟨by simp,ad,ey _,wu,by simp[val],hval⟩
  rename_i K hK;refine hK _ _ (hpass _ _ ⟨q0,List.replicate q0 0,lu,_,_,_,_,_,_,_,_,_,_,_,_,_,_,_,_,_,_,_,_,_,_,_,_,_,_,_,_,_,_,_,_,_,_,_,_,_,_,_,_,_,_,_,_,_,_,_,rfl,Nat.le_refl _,hI,am.at,am.free 0 q0,hu.keep f,dB.below f hfu T,hv.keep f,by omega,f.mono (Nat.le_of_lt T)⟩)
 ·rintro a' wr ⟨m,lq,t,u8,u9,u10,u11,u12,u13,u14,u15,u16,u17,u18,u19,u20,u21,u22,u23,u24,u25,u26,u27,u28,u29,u30,u31,u32,u33,u34,u35,u36,u37,u38,u39,u40,u41,u42,u43,u44,u45,u46,u47,u48,u49,u50,u51,u52,u53,u54,rfl,hm,hinv,hq,hfq,S,E,hv1,ak,hbl⟩;by_cases hm0:m=0
  ·subst hm0;go_wp2;rw[show ∀ J Q b w,Exit.jump 0 J Q .ret b w=Q .ret b w from fun _ _ _ _=>rfl];go_ret;exact⟨lq,t,rfl,hinv,hq,hfq,S,E,hbl⟩
  ·obtain⟨a,rfl⟩:∃ a,m=a + 1:=⟨m - 1,by omega⟩
   have x:=hinv.CZ;have u:=hinv.BQ
   have hk1:a + (k + 2) + 1 - a=k + 3:=by omega
   have hVB:=dw wv;rw[V] at hVB;obtain⟨y,hW2⟩:=hinv.fL (by omega) hVB;have af:=S.fL a (k + 3);have hfwin:=E.fL (k:=a) (m:=k + 3) (by omega)
   have r:((t.drop a).take (k + 3)).length=k + 3:=by simp; omega
   have j:Words ((t.drop a).take (k + 3)):=(hinv.wu.drop a).take (k + 3);have N:=fun wx hx hy=>vU (some ⟨s,A + a,none⟩) (k + 3) s (A + a) av k cv bv ov ((t.drop a).take (k + 3)) F wx r V (by omega) j wv hx hy htop hW2
   have c:=fun d nw=>hinv.step (d:=d) (nw:=nw) (by omega) hVB
   have HH:=(show Hid _ from And.intro y (And.intro r (And.intro j (And.intro x (And.intro u c)))))
   clear hinv y r j x u c
   have e1:((a:Nat):Int) + 1 - 1=a:=by omega
   generalize hL:(t.drop a).take (k + 3)=L at *;go_wp2_with fail;rw[hk1];refine(N _ af hv1).mono ?_
   rintro e w2 ⟨g,rfl,C,f⟩;obtain⟨y,r,j,x,u,c⟩:=HH.out
   have hsz2:w.heap.size < w2.heap.size:=Nat.lt_of_lt_of_le ak f.size
   have T:s < wr.heap.size:=by
    rcases S.lt with e | e
    ·subst e; simp at u
    ·exact e
   have HB2:=(show Hid _ from hbl.trans (f.mono (Nat.le_of_lt T)))
   clear hbl;have aq:=hq.keep f;have aa:=dB.below f hfq ak;have hu2:=S.keep f;have an:=dB.below f E T;have hv2:=hv1.keep f;have hc:=aq.cell a (by omega);have hf:=aa a (by omega);rw[Nat.zero_add] at hc hf;clear N af;have hg0:=C.1;have hg1:=C.2.1;clear y r j x u c hq hfq S E hv1;go_wp2_with fail
   have Y:s≠w.heap.size:=by
    rcases hu.lt with e | e
    ·subst e; simp at ad
    ·omega
   have ae:s<=w.heap.size:=by
    rcases hu.lt with e | e
    ·subst e; simp at ad
    ·omega
   have hbv:bv≠w.heap.size:=by
    rcases hv.lt with e | e
    ·subst e; simp at V
    ·omega
   obtain⟨y,r,j,x,u,c⟩:=HH.out
   have v:Wr w.heap.size 0 q0 w2 (w2.setCell ⟨w.heap.size,a,none⟩ (.int .u64 g)):=(Wr.refl _ _ _ _).setCell (by omega) (by omega) _;have hq3:=aq.setCell (i:=a) (by omega) g;rw[Nat.zero_add] at hq3;generalize w2.setCell ⟨w.heap.size,a,none⟩ (.int .u64 g)=w3 at *;have ah:=v.free aa;have O:=v.free an;have hu3:=hu2.wr v (.inr Y);have ax:=hv2.wr v (.inr hbv)
   have hsz3:w.heap.size < w3.heap.size:=by rw[v.size]; exact hsz2
   have B:=hu3.fL a (k + 3);rw[hL] at B;have G:=O.fL (k:=a) (m:=k + 3) (by omega);refine(iJ (some ⟨s,A + a,none⟩) s (A + a) (k + 3) (k + 3) av bv ov (k + 2) cv g L F w3 r V (by omega) (by omega) (Nat.le_refl _) hcv hg0 hg1 j wv B G ax (.inr ab)).mono ?_
   rintro e w4 ⟨fR,rfl,ho0,ho1,nw,P,aw,aj,q,D⟩;have HB4:=(show Hid _ from(HB2.out.trans (v.below ae)).trans (q.below (Nat.le_refl _)))
   have H:=q.free ah;have U:=q.free O;have ac:=hq3.wr q (.inr (Ne.symm Y));have hv4:=ax.wr q (.inr ab);have ar:=hu3.patch q aj P (by omega)
   have al:w.heap.size < w4.heap.size:=by rw[q.size]; exact hsz3
   have hP:=fj (l:=t) (m:=nw) (k:=a) (by omega)
   have hVB3:val F < 18446744073709551616 ^ (k + 3):=by
    have:=pow_pos (k + 2);rw[Int.pow_succ _ (k + 2)]; omega
   have M:=dw aw;rw[P] at M;have z:=fun Z=>Db (Z:=Z) (n:=k + 3) C hVB3 D M (aL j) ho0
   clear v aa an hu2 hv2 aq ah O hu3 ax B G q hq3;by_cases ho:fR=0
   ·subst ho;have hx:=(z 0).1 rfl;have hJ:=c g nw hg0 hg1 aw P hx.1 hx.2;have HJ:=(show Hid _ from hJ)
    clear hJ hx z c HH y r j x u D M hP;go_wp2_with fail;go_step3;refine And.intro (Eq.refl 0) (And.intro ?_ ?_)
    ·exact⟨a,lq.set a g,patch t a nw,_,_,_,_,_,_,_,_,_,_,_,_,_,_,_,_,_,_,_,_,_,_,_,_,_,_,_,_,_,_,_,_,_,_,_,_,_,_,_,_,_,_,_,_,_,_,_,rfl,by omega,HJ.out,ac,H,ar,U,hv4,al,HB4.out⟩
    ·simp[intOf]
   ·have hg1':1<=g:=((z ((val nw + val F * 1) % 18446744073709551616 ^ (k + 3))).2 ho rfl).1;have X:=ac.cell a (by simp; omega);have ai:=H a (by omega);rw[Nat.zero_add] at X ai;rw[dy (by omega),if_pos rfl] at X;have HN:=(show Hid _ from And.intro z (And.intro c (And.intro x (And.intro u (And.intro y (And.intro r (And.intro j (And.intro hP P))))))))
    clear z c HH y r j x u D M hP
    have hgw:IntKind.u64.wrap (g - 1)=g - 1:=by rw[IntKind.wrap_u64]; omega
    have hob:(fR == 0)=false:=by simpa using ho
    go_wp2_with fail;obtain⟨z,c,x,u,y,r,j,hP,hnl'⟩:=HN.out
    have o:Wr w.heap.size 0 q0 w4 (w4.setCell ⟨w.heap.size,a,none⟩ (.int .u64 (g - 1))):=(Wr.refl _ _ _ _).setCell (by omega) (by omega) _;have hq5:=ac.setCell (i:=a) (by simp; omega) (g - 1);rw[Nat.zero_add,List.set_set] at hq5;generalize w4.setCell ⟨w.heap.size,a,none⟩ (.int .u64 (g - 1))=w5 at *;have ag:=o.free H;have W:=o.free U;have hu5:=ar.wr o (.inr Y);have au:=hv4.wr o (.inr hbv);have ao:=aj.wr o (.inr Y)
    have hsz5:w.heap.size < w5.heap.size:=by rw[o.size]; exact al
    have I:=W.fL (k:=a) (m:=k + 3) (by omega);refine(ef (some ⟨s,A + a,none⟩) s (A + a) (k + 3) (k + 3) av bv ov (k + 2) cv 1 nw F w5 P V (by omega) (by omega) (Nat.le_refl _) hcv (by omega) (by omega) aw wv ao I au (.inr ab)).mono ?_
    rintro e w6 ⟨rfl,n2,ap,hnw6,hat6,p,R⟩;have HB6:=(show Hid _ from(HB4.out.trans (o.below ae)).trans (p.below (Nat.le_refl _)))
    have hfq6:=p.free ag;have hfu6:=p.free W;have hq6:=hq5.wr p (.inr (Ne.symm Y));have hv6:=au.wr p (.inr ab);have hu6:=hu5.patch p hat6 ap (by omega);rw[qx (by omega) (by omega)] at hu6
    have hsz6:w.heap.size < w6.heap.size:=by rw[p.size]; exact hsz5
    have hx:=(z (val n2)).2 ho R;have HJ:=(show Hid _ from c (g - 1) n2 (by omega) (by omega) hnw6 ap hx.2.1 hx.2.2)
    clear hx z c HN y r j x u hP o hq5 ag W hu5 au ao I p ac H ar hv4 U R X ai;go_wp2_with fail;go_step3;refine And.intro (Eq.refl 0) (And.intro ?_ ?_)
    ·exact⟨a,lq.set a (g - 1),patch t a n2,_,_,_,_,_,_,_,_,_,_,_,_,_,_,_,_,_,_,_,_,_,_,_,_,_,_,_,_,_,_,_,_,_,_,_,_,_,_,_,_,_,_,_,_,_,_,_,rfl,by omega,HJ.out,hq6,hfq6,hu6,hfu6,hv6,hsz6,HB6.out⟩
    ·simp[intOf]
end
end
section
open Go.RowKit Lim
section
variable {l L:List Int}{k s:Nat}
theorem Dl(wl:Words l){n:Nat}(hn:l.length=n + 1):nth l n * 18446744073709551616 ^ n<=val l/\val l < (nth l n + 1) * 18446744073709551616 ^ n:=by
 have e1:=bC l n (by omega);have b:=aL (wl.take n);have a:=dw (wl.take n);rw[List.length_take,Nat.min_eq_left (by omega)] at a;rw[dP (by omega),List.drop_of_length_le (show l.length<=n + 1 by omega)] at e1
 have e2:(18446744073709551616:Int) ^ n * (nth l n + 18446744073709551616 * val [])=nth l n * 18446744073709551616 ^ n:=by
  rw[show val []=0 from rfl]; grind
 rw[e2] at e1;rw[Int.add_mul (nth l n) 1];omega
theorem e9{a b p:Int}(hp:0 < p)(h:a * p < b * p):a < b:=Int.lt_of_mul_lt_mul_right h (Int.le_of_lt hp)
theorem sE{a:List Int}(h:Words L)(hL:L.length=k + 2)(f:Words a)(hv:a.length=k + 3)(hs:s<=63)(e:val a=val L * 2 ^ s)(b0:9223372036854775808<=nth L (k + 1) * 2 ^ s)(b1:nth L (k + 1) * 2 ^ s < 18446744073709551616):aE a=k + 2/\9223372036854775808<=nth a (k + 1):=by
 obtain⟨t1,t2⟩:=Dl (n:=k + 1) h hL;obtain⟨p,q⟩:=Dl (n:=k + 2) f hv
 have b:(0:Int) < 2 ^ s:=Int.pow_pos (by decide);have d:=pow_pos (k + 1);have hC:=pow_pos (k + 2)
 have c1:(nth L (k + 1) + 1) * 2 ^ s<=18446744073709551616:=by
  have j:(18446744073709551616:Int)=2 ^ (64 - s) * 2 ^ s:=by rw[<- Int.pow_add,show 64 - s + s=64 by omega]; rfl
  rw[j] at b1 ⊢;have:=e9 b b1;exact Int.mul_le_mul_of_nonneg_right (by omega) (Int.le_of_lt b)
 have c2:val a < 1 * 18446744073709551616 ^ (k + 2):=by
  have k1:val L * 2 ^ s < (nth L (k + 1) + 1) * 18446744073709551616 ^ (k + 1) * 2 ^ s:=Int.mul_lt_mul_of_pos_right t2 b
  have k2:(nth L (k + 1) + 1) * 2 ^ s * 18446744073709551616 ^ (k + 1)<=18446744073709551616 * 18446744073709551616 ^ (k + 1):=Int.mul_le_mul_of_nonneg_right c1 (Int.le_of_lt d);rw[Int.mul_right_comm] at k1;rw[Int.pow_succ _ (k + 1),Int.mul_comm _ 18446744073709551616];omega
 have l:nth a (k + 2) < 1:=e9 hC (by omega)
 have g:nth a (k + 2)=0:=by have:=f.nth (k + 2); omega
 have e1:=bC a (k + 2) (by omega);rw[dP (by omega),List.drop_of_length_le (show a.length<=k + 2 + 1 by omega),g,show val []=0 from rfl] at e1;obtain⟨v1,v2⟩:=Dl (n:=k + 1) (f.take (k + 2)) (by simp; omega);rw[dr (by omega)] at v1 v2
 have m:9223372036854775808 * 18446744073709551616 ^ (k + 1)<=val a:=by
  have k1:nth L (k + 1) * 18446744073709551616 ^ (k + 1) * 2 ^ s<=val L * 2 ^ s:=Int.mul_le_mul_of_nonneg_right t1 (Int.le_of_lt b)
  have k2:9223372036854775808 * 18446744073709551616 ^ (k + 1)<=nth L (k + 1) * 2 ^ s * 18446744073709551616 ^ (k + 1):=Int.mul_le_mul_of_nonneg_right b0 (Int.le_of_lt d);rw[Int.mul_right_comm] at k1;omega
 have o:9223372036854775808 < nth a (k + 1) + 1:=e9 d (by omega);refine⟨jO (by omega) ?_ ?_,by omega⟩
 ·intro i hi;by_cases c:i=k + 2
  ·subst c; exact g
  ·simp[nth,List.getElem?_eq_none (show a.length<=i by omega)]
 ·intro _;rw[show k + 2 - 1=k + 1 from rfl]; omega
theorem Dc{N:Nat}(wl:Words l)(g:l.length=N)(c:Words L)(hL:L.length=k + 2)(b:1<=nth L (k + 1))(h:k + 2<=N) :
  val l * 2 ^ s < val L * 2 ^ s * 18446744073709551616 ^ (N + 1 - (k + 2)):=by
 obtain⟨t1,t2⟩:=Dl (n:=k + 1) c hL
 have f:(0:Int) < 2 ^ s:=Int.pow_pos (by decide);have e:=pow_pos (k + 1);have a:=pow_pos (N + 1 - (k + 2));have d:=dw wl;rw[g] at d
 have k1:1 * 18446744073709551616 ^ (k + 1)<=nth L (k + 1) * 18446744073709551616 ^ (k + 1):=Int.mul_le_mul_of_nonneg_right b (Int.le_of_lt e)
 have k2:18446744073709551616 ^ (k + 1) * 18446744073709551616 ^ (N + 1 - (k + 2))<=val L * 18446744073709551616 ^ (N + 1 - (k + 2)):=Int.mul_le_mul_of_nonneg_right (by omega) (Int.le_of_lt a);rw[<- Int.pow_add,show k + 1 + (N + 1 - (k + 2))=N by omega] at k2;rw[Int.mul_right_comm];exact Int.mul_lt_mul_of_pos_right (by omega) f
theorem zP{x V Q R P:Int}(d:0 < P)(h:0 < V)(e:x * P=Q * (V * P) + R)(r0:0<=R)(r1:R < V * P):Q=x / V/\R / P=x % V:=by
 have f:R=(x - Q * V) * P:=by rw[Int.sub_mul,e,Int.mul_assoc]; omega
 have g:R / P=x - Q * V:=by rw[f,Int.mul_ediv_cancel _ (by omega)]
 have j:0<=x - Q * V:=by rw[<- g]; exact Int.ediv_nonneg r0 (Int.le_of_lt d)
 have i:x - Q * V < V:=e9 d (by rw[<- f]; exact r1);have c:=(Int.ediv_emod_unique (a:=x) (b:=V) (r:=x - Q * V) (q:=Q) h).2 ⟨by rw[Int.mul_comm V]; omega,j,i⟩;exact⟨c.1.symm,by rw[g]; exact c.2.symm⟩
theorem yS(ao:Option Addr)(n c b o:Nat)(ao':Option Addr)(n' c' b' o':Nat)(l d:List Int)(w:World)(hl:l.length=n)(hl':d.length=n')(hc:n<=c)(hc':n'<=c')(hbig:n<=1099511627776)(hbig':n'<=1099511627776)(wl:Words l)(u:Words d)(ha:At w ao b o l)(ha':At w ao' b' o' d)(hge:val d<=val l)(h2:2<=aE d) :
  Calls Tryz.prog 70 #[.slice ao n c,.slice ao' n' c'] w fun e w'=>jC w w' e (val l) (val d) n n':=by
 have h0:=aL wl;have hn:=bp l
 have hn':=bp d
 have hNN:aE d<=aE l:=by
  by_cases c:aE l < aE d
  ·have:=dz wl u c; omega
  ·omega
 have t1:=bj ao' n' c' d w hl' hc' (by omega) ha'.cells
 have v:=ha'.sub (aE d);rw[show d.take (aE d)=norm d from rfl] at v;have t2:=ir ao n c b o ao' (aE d) (aE d) b' o' l (norm d) w hl (aJ d) hc (Nat.le_refl _) (by omega) (by omega) wl u.norm ha v;rw[cU] at t2
 have hs0:0<=sgn (val l) (val d):=by unfold sgn; split<;>(try split)<;>omega
 have f:=aJ d
 have G:=u.norm
 have g:=cU d
 have R:nth (norm d) (aE d - 1)≠0:=by rw[fZ]; exact im (by omega)
 generalize norm d=L' at *;generalize t:aE d=q at *;obtain⟨m,hm⟩:∃ m,q=m + 1:=⟨q - 1,by omega⟩
 rw[show q - 1=m by omega] at R
 have hmi:(q:Int) - 1=m:=by omega
 have hmN:m < q:=by omega
 have hmN':(m:Int) < q:=by omega
 have hty:=G.nth m;rcases v.loc with e | rfl
 ·subst e; simp at f; omega
 generalize sgn (val l) (val d)=sg at *;have H1:=(show Hid _ from And.intro g (And.intro hm (And.intro f (And.intro hge (And.intro hl t)))))
 clear g hm f t;go_enter Tryz.func70,Tryz.ntmps70;go_wp2_with fail;refine t1.mono ?_
 rintro e w1 ⟨rfl,rfl⟩;go_wp2_with fail;refine t2.mono ?_
 rintro e w2 ⟨rfl,r⟩;have hcy:=(v.keep r).cell m (by rw[H1.out.2.2.1]; exact hmN);clear t1 t2;go_wp2_with fail;refine(D0 (nth L' m) w2 (by omega) hty.2).mono ?_
 rintro e w3 ⟨s,rfl,hs,HS,rfl⟩;have ta:=bj ao n c l w3 hl hc (by omega) (ha.keep r).cells;have hsa:=(ha.keep r).sub (aE l);rw[show l.take (aE l)=norm l from rfl] at hsa;have Q:=aJ l;have ab:=wl.norm;have HV:=(show Hid _ from cU l)
 rw[hl] at hn;generalize norm l=L at *;generalize aE l=N at *;clear hcy;go_wp2_with fail;refine ta.mono ?_
 rintro e X ⟨rfl,rfl⟩;clear ta;go_wp2_with fail;refine(oJ ao N N b o s L X Q (Nat.le_refl _) (by omega) hs ab hsa).mono ?_
 rintro e w5 ⟨lu,rfl,hlu,hwu,ac,hfu,Y,W,K⟩;have hs5:=(v.keep r).keep K;have HU:=(show Hid _ from And.intro hlu (And.intro W Q))
 clear hlu W Q;go_wp2_with fail;refine(oJ (some ⟨b',o',none⟩) q q b' o' s L' w5 H1.out.2.2.1 (Nat.le_refl _) (by omega) hs G hs5).mono ?_
 rintro e w6 ⟨P,rfl,hlv,aa,I,hfv,hszv,E,F⟩;obtain⟨k,hk⟩:∃ k,k + 2=q:=⟨q - 2,by omega⟩
 obtain⟨q0,x⟩:∃ q0,q0 + (k + 2)=N + 1:=⟨N + 1 - (k + 2),by omega⟩
 obtain⟨g,hm,f,hge',hl2,t⟩:=H1.out
 have hmk:m=k + 1:=by omega
 have D:=sE (k:=k) G (by omega) aa (by omega) hs E (by rw[<- hmk]; exact HS.out.1) (by rw[<- hmk]; exact HS.out.2);have O:=Dc (s:=s) (N:=N) (k:=k) (l:=L) (L:=L') ab HU.out.2.2 G (by omega) (by rw[<- hmk]; omega) (by omega);rw[<- HU.out.2.1,<- E,show N + 1 - (k + 2)=q0 by omega] at O;have tv:=bj (some ⟨w5.heap.size,0,none⟩) (q + 1) (q + 1) P w6 hlv (Nat.le_refl _) (by omega) I.cells;rw[D.1,hk] at tv;have hsv:=I.sub (aE P);rw[show P.take (aE P)=norm P from rfl] at hsv;have z:=aJ P;rw[D.1] at z;have M:=lN X.heap.size 0 (N + 1) (some ⟨w5.heap.size,0,none⟩) k q0 q w5.heap.size 0 lu (norm P) w6 (by rw[x]; exact HU.out.1) z (by omega) (by omega) (by omega) (by omega) hwu aa.norm (ac.keep F) (by rw[x]; exact dB.below F hfu Y) hsv (by omega) (by rw[fZ]; exact D.2) (by rw[cU]; exact O);rw[x,hk,cU] at M;have HK:=(show Hid _ from And.intro hk (And.intro x (And.intro E hmk)))
 have hq0n:q0<=N:=by omega
 clear g hm f t hk x hmk D O z E hl2;go_wp2_with fail;refine tv.mono ?_
 rintro e w7 ⟨rfl,rfl⟩;clear tv;go_wp2_with fail;refine M.mono ?_
 rintro e w8 ⟨lq,lr,rfl,A,T,hfq,hatr,U,hbd⟩;clear M
 have B:lr.length=N + 1:=by rw[A.BQ]; exact HK.out.2.1
 have V:=(show Hid _ from A)
 have J:=A.wu;clear A;go_wp2_with fail;refine(xe (some ⟨X.heap.size,0,none⟩) X.heap.size 0 (N + 1) (N + 1) s lr w8 B (by omega) (Nat.le_refl _) hs J hatr U).mono ?_
 rintro e w9 ⟨rfl,lz,y,hwz,H,p,C⟩;have S:=T.wr p (.inr (by omega));have Z:=p.free hfq;have hfz9:=p.free U;have tq:=bj (some ⟨w7.heap.size,0,none⟩) q0 q0 lq w9 V.out.CZ (Nat.le_refl _) (by omega) S.cells;have tr:=bj (some ⟨X.heap.size,0,none⟩) (N + 1) (N + 1) lz w9 y (Nat.le_refl _) (by omega) H.cells;have hz1:=bp lz;have hz2:=bp lq;rw[V.out.CZ] at hz2;rw[y] at hz1;have HX:=(show Hid _ from And.intro B (And.intro y C))
 clear B y C;go_wp2_with fail;refine tq.mono ?_
 rintro e w10 ⟨rfl,rfl⟩;go_wp2_with fail;refine tr.mono ?_
 rintro e w11 ⟨rfl,rfl⟩;clear tq tr;go_wp2;go_ret3;have hsq:=S.sub (aE lq);have hsz:=H.sub (aE lz);have j:=r.size;have hsz5:=K.size;have hsz7:=F.size
 have HB:Below w1.heap.size w1 w11:=(((r.trans (K.mono j)).trans (F.mono (by omega))).trans (hbd.mono j)).trans (p.below j);obtain⟨g,hm,f,hge',hl2,t⟩:=H1.out;obtain⟨B,y,C⟩:=HX.out;have he:=V.out.eq;have hlt:=V.out.lt;rw[HU.out.2.1,HV.out,HK.out.2.2.1,g,Int.pow_zero,Int.one_mul,List.drop_zero] at he;rw[HK.out.2.2.1,g,Int.pow_zero,Int.mul_one] at hlt
 have hV:0 < val d:=by
  have:val d≠0:=fun e=>by have:=(bW u).2 e; omega
  have:=aL u;omega
 have hdb:=zP (fN s hs).1 hV he (aL J) hlt;have i1:=b8 V.out.wq;have i2:=b8 hwz;rw[hdb.1] at i1;rw[C,hdb.2] at i2;exact⟨_,_,norm lq,norm lz,rfl,dE.of (aJ lq).symm (Nat.le_refl _) (by omega) hsq (fun i hi=>Z i (by omega)),dE.of (aJ lz).symm (Nat.le_refl _) j hsz (fun i hi=>hfz9 i (by omega)),i1,i2,by rw[aJ]; omega,by rw[aJ]; omega,HB⟩
theorem uG(ao:Option Addr)(n c b o:Nat)(ao':Option Addr)(n' c' b' o':Nat)(l d:List Int)(w:World)(p:l.length=n)(h:d.length=n')(hc:n<=c)(i:n'<=c')(f:n<=1099511627776)(a:n'<=1099511627776)(wl:Words l)(g:Words d)(m:At w ao b o l)(j:At w ao' b' o' d)(k:val d≠0) :
  Calls Tryz.prog 70 #[.slice ao n c,.slice ao' n' c'] w fun e w'=>jC w w' e (val l) (val d) n n':=by
 by_cases q:val l < val d
 ·exact div_lt ao n c b o ao' n' c' b' o' l d w p h hc i f a wl g m j q
 ·have s:aE d≠0:=fun e=>k ((bW g).1 e)
  by_cases r:aE d=1
  ·exact div_one ao n c b o ao' n' c' b' o' l d w p h hc i f a wl g m j (by omega) r
  ·exact yS ao n c b o ao' n' c' b' o' l d w p h hc i f a wl g m j (by omega) (by omega)
theorem r7(ao:Option Addr)(n c b o:Nat)(ao':Option Addr)(n' c' b' o':Nat)(ad:Option Addr)(g A M N:Nat)(l p i:List Int)(w:World)(hl:l.length=n)(t:p.length=n')(y:i.length=g)(hc:n<=c)(z:n'<=c')(B:g<=A)(O:n<=274877906944)(x:n'<=274877906944)(F:g<=274877906944)(wl:Words l)(K:Words p)(wd:Words i)(Z:At w ao b o l)(D:At w ao' b' o' p)(G:At w ad M N i)(I:val i≠0) :
  Calls Tryz.prog 93 #[.slice ao n c,.slice ao' n' c',.slice ad g A] w fun e w'=>jC w w' e (val l * val p) (val i) (n + n') g:=by
 go_enter Tryz.func93,Tryz.ntmps93;go_wp2_with fail;refine(pT ao n c b o ao' n' c' b' o' l p w hl t hc z (by omega) (by omega) wl K Z D).mono ?_
 rintro e Y ⟨v,r,rfl,s,L,hlen,d⟩;obtain⟨Q,S,or',R,rfl,J,T,j,_⟩:=s.is;have m:=G.keep d;have f:=d.size;have t2:=uG Q r.length R S or' ad g A M N r i Y rfl y J B (by omega) (by omega) L.1 wd j m I;rw[L.2.2] at t2;go_wp2_with fail;refine t2.mono ?_
 rintro e w2 ⟨q,u,X,W,rfl,V,hu,H,E,U,P,C⟩;go_wp2;go_ret3;exact⟨q,u,X,W,rfl,V.mono f,hu.mono f,H,E,by omega,by omega,d.trans (C.mono f)⟩
end
end
section
open Go.RowKit Lim
section
variable {w:World}{B:Nat}{v:Value}{l l1:List Int}{c m c0:Int}
def eh(w:World)(B:Nat)(v:Value)(l:List Int):Prop:=w.ownsRow B 22 1 v l.length (l.map (Value.int .u64))
theorem eh.open(h:eh w B v l):∃ ao c,v=.slice ao l.length c/\l.length<=c/\c<=maxLen/\∃ g,(l=[]\/ao=some ⟨g,0,none⟩)/\B<=g/\At w ao g 0 l/\dB w g 0 l.length:=by
 obtain⟨_,b⟩:=h;rcases b with⟨rfl,h0⟩ | ⟨g,cap,cur,rfl,hB,hh,hle,hmx,hsz,htk⟩
 ·have e:l=[]:=List.eq_nil_of_length_eq_zero h0;subst e;exact⟨none,0,rfl,Nat.le_refl _,by decide,B,.inl rfl,Nat.le_refl _,⟨.inl rfl,fun i hi=>by simp at hi⟩,fun i hi=>by simp at hi⟩
 ·refine⟨some ⟨g,0,none⟩,cap,rfl,hle,hmx,g,.inr rfl,hB,⟨.inr rfl,fun i hi => ?_⟩,fun i hi => ?_⟩
  ·have e:cur.toList[i]? = some (.int .u64 (nth l i)):=by
    have a:(cur.toList.take (l.length * 1))[i]? = some (.int .u64 (nth l i)):=by
     rw[htk,List.getElem?_map,List.getElem?_eq_getElem hi,bS hi]; rfl
    rwa [Nat.mul_one,List.getElem?_take_of_lt hi] at a
   simp only[World.cell?,hh];simpa using e
  ·simp[World.frozen?,hh]
theorem eh.setCell(h:eh w B v l){c g:Nat}(hv:v=.slice (some ⟨g,0,none⟩) l.length c){i:Nat}(hi:i < l.length)(x:Int):eh (w.setCell ⟨g,0 + i,none⟩ (.int .u64 x)) B v (l.set i x):=by
 obtain⟨_,a⟩:=h;refine⟨by simp,?_⟩;rcases a with⟨rfl,h0⟩ | ⟨g',cap,cur,rfl,hB,hh,hle,hmx,hsz,htk⟩
 ·omega
 ·simp only[Value.slice.injEq,Option.some.injEq,Addr.mk.injEq,and_true,true_and] at hv;obtain⟨rfl,rfl⟩:=hv;right;refine⟨g',cap,cur.setIfInBounds i (.int .u64 x),by simp,hB,?_,by simpa using hle,hmx,by simpa using hsz,?_⟩
  ·simp only[World.setCell,Array.getElem?_modify,if_true,hh,Nat.zero_add];simp
  ·rw[List.length_set,Nat.mul_one] at *;rw[Array.toList_setIfInBounds,List.map_set,<- htk,List.take_set]
theorem eh.new{w':World}(h:eh w' w.heap.size v l):dE w w' v l:=by
 obtain⟨ao,c,rfl,hc,_,g,_,hg,hat,hf⟩:=h.open;exact⟨ao,g,0,c,rfl,hc,hg,hat,hf⟩
structure mI(l:List Int)(m c0:Int)(k:Nat)(l1:List Int)(c:Int):Prop where
 len:l1.length=l.length
 words:Words l1
 high:∀ i,k<=i->nth l1 i=nth l i
 val:Lim.val (l1.take k) + 18446744073709551616 ^ k * c=Lim.val (l.take k) * m + c0
theorem mI.step{a c':Int}{k:Nat}(h:mI l m c0 k l1 c)(g:k < l.length)(b:0<=a)(d:a < 18446744073709551616)(e:a + 18446744073709551616 * c'=nth l k * m + c):mI l m c0 (k + 1) (l1.set k a) c':=by
 have f:=h.len;refine⟨by simp[f],h.words.set k b d,fun i hi=>by rw[dy (by omega),if_neg (by omega)]; exact h.high i (by omega),?_⟩;have j:=h.val;rw[du (by simp[f]; omega),du g,List.take_set_of_le (Nat.le_refl _),dy (by omega),if_pos rfl,Int.pow_succ];have:18446744073709551616 ^ k * (a + 18446744073709551616 * c')=18446744073709551616 ^ k * (nth l k * m + c):=by rw[e]
 grind
theorem nV(n:Nat)(w:World)(hn:n<=19):Calls Tryz.prog 161 #[.int .i64 n] w fun e w'=>e=.returned (.int .u64 (10 ^ n))/\w'=w:=by
 go_enter Tryz.func161,Tryz.ntmps161;go_wp2;go_loop [3,5] (fun g c=>∃ (k:Nat) (p:Int),k<=n/\c=.int .i64 k/\g=.int .u64 p/\Hid (p=10 ^ k)) (fun _ c=>n - (intOf c).toNat)
 case atStart=>exact⟨0,1,Nat.zero_le _,rfl,rfl,rfl⟩
 case round =>
  obtain⟨k,p,l,rfl,rfl,b⟩:=hrel;by_cases f:k < n
  ·have i:(1:Int)<=p:=by rw[b.out]; exact Int.pow_pos (by decide)
   have j:p<=1000000000000000000:=by
    rw[b.out];have:(10:Nat) ^ k<=10 ^ 18:=Nat.pow_le_pow_right (by decide) (by omega)
    have e:((10 ^ k:Nat):Int)=(10:Int) ^ k:=by rw[Int.natCast_pow]; rfl
    rw[<- e]; omega
   go_wp2;go_round
   case rel=>exact⟨k + 1,p * 10,by omega,by go_num,rfl,by show _=_; rw[Int.pow_succ,<- b.out]⟩
   case measure=>simp[intOf]; omega
  ·have d:k=n:=by omega
   subst d;go_wp2;go_ret;exact⟨j7 b.out,rfl⟩
theorem wP(hc:c≠0):aE (l ++ [c])=(l ++ [c]).length:=by
 apply jO (Nat.le_refl _)
 ·intro i hi; exact fQ hi
 ·intro _; rw[List.length_append,List.length_singleton,Nat.add_sub_cancel,bI (Nat.le_refl _),Nat.sub_self,cD]; exact hc
theorem uo{r:List Int}(wl:Words l)(wr:Words r)(hlen:r.length=l.length)(hv:val r=val l * m + c)(hm:0 < m)(hc:0<=c)(hn:aE l=l.length):aE r=r.length:=by
 have d:=bp r;by_cases h:l.length=0
 ·omega
 have g:=fy wl (by omega);have e:=gW wr;have a:=aL wl
 have f:val l * 1<=val l * m:=Int.mul_le_mul_of_nonneg_left (by omega) a;by_cases b:aE r < r.length
 ·have:=gM (show aE r<=aE l - 1 by omega);omega
 ·omega
theorem mI.fin(h:mI l m c0 l.length l1 c):Lim.val (l1 ++ [c])=Lim.val l * m + c0:=by
 have a:=h.val;rw[List.take_of_length_le (by rw[h.len]; exact Nat.le_refl _),List.take_of_length_le (Nat.le_refl _)] at a;rw[dY,eu,h.len]; exact a
theorem oH(B:Nat)(v:Value)(l:List Int)(m c0:Int)(w:World)(hB:B<=w.heap.size)(b:eh w B v l)(H:l.length<=1099511627776)(wl:Words l)(G:0<=m)(P:m < 18446744073709551616)(z:0<=c0)(L:c0 < 18446744073709551616) :
  Calls Tryz.prog 206 #[v,.int .u64 m,.int .u64 c0] w fun e w'=>∃ v' r,e=.returned v'/\eh w' B v' r/\Words r/\val r=val l * m + c0/\r.length<=l.length + 1/\(aE l=l.length->0 < m->aE r=r.length)/\Below B w w':=by
 obtain⟨i0,hi,M,U,V⟩:=info_parts gV;obtain⟨ao,cap,rfl,J,hmax,g,p,hBg,_,_⟩:=b.open
 have S:∃ n,n=l.length:=⟨_,rfl⟩
 obtain⟨n,hn⟩:=S
 have O:n<=l.length:=by omega
 have hn2:l.length<=n:=by omega
 have s:Hid (n=l.length):=hn;rw[<- hn] at b H J ⊢;clear hn;go_enter Tryz.func206,Tryz.ntmps206;go_wp2;go_loopw [2,13] (fun tc R wr=>∃ (k:Nat) (c:Int) (l1:List Int),k<=n/\R=.int .i64 k/\tc=.int .u64 c/\0<=c/\c < 18446744073709551616/\mI l m c0 k l1 c/\eh wr B (.slice ao n cap) l1/\Below B w wr) (fun _ R _=>n - (intOf R).toNat)
 case atStart=>exact⟨0,c0,l,Nat.zero_le _,rfl,rfl,z,L,⟨rfl,wl,fun _ _=>rfl,by simp[val]⟩,b,Below.refl _ _⟩
 case round =>
  clear b;obtain⟨k,c,l1,hk,rfl,rfl,q,F,hinv,b,d⟩:=hrel;have f:=hinv.len;by_cases hlt:k < n
  ·rcases p with e | rfl
   ·subst e; simp at O; omega
   obtain⟨ao',c',e',_,_,X,o,I,D,C⟩:=b.open;simp only[Value.slice.injEq] at e';obtain⟨rfl,e1,rfl⟩:=e'
   have T:X=g:=by
    rcases o with e | e
    ·subst e; simp at e1; omega
    ·simpa using e.symm
   subst T;have E:=D.cell k (by omega);have Q:=C k (by omega);rw[Nat.zero_add] at E Q;rw[hinv.high k (Nat.le_refl _)] at E;obtain⟨W,Y⟩:=wl.nth k
   have HI:Hid (mI l m c0 k l1 c):=hinv
   have HM:Hid (eh wr B (.slice (some ⟨X,0,none⟩) n cap) l1):=b
   have HB:Hid (Below B w wr):=d
   have HE:Hid (n=l1.length):=e1;clear hinv b d D C o e1 wl
   go_wp2_with (first
    | (go_at_call 89; refine(lg _ _ W Y G P _).mono ?_; rintro e w' ⟨N,lo,rfl,h1,h2,h3,h4,h5,rfl⟩)
    | simp only[re _ _ h3 q])
   have hxm:nth l k * m<=340282366920938463426481119284349108225:=by
    have:=Int.mul_le_mul (show nth l k<=18446744073709551615 by omega) (show m<=18446744073709551615 by omega) G (by decide);simpa using this
   have h5':=h5.out
   have e5:(lo + c) % 18446744073709551616 + 18446744073709551616 * (N + (lo + c) / 18446744073709551616)=nth l k * m + c:=by omega
   have HN:=HM.out.setCell (c:=cap) (g:=X) (by rw[<- HE.out]) (i:=k) (by omega) ((lo + c) % 18446744073709551616);rw[Nat.zero_add] at HN;go_roundw
   case rel=>exact⟨k + 1,_,_,by omega,by go_num,rfl,by omega,by omega,HI.out.step (by omega) (Int.emod_nonneg _ (by decide)) (Int.emod_lt_of_pos _ (by decide)) e5,HN,HB.out.setCell I _⟩
   case measure=>simp[intOf]; omega
  ·have Z:k=n:=by omega
   subst Z
   have HF:Hid (val (l1 ++ [c])=val l * m + c0):=by rw[s.out] at hinv; exact hinv.fin
   have x:=hinv.words;by_cases hc:c=0
   ·subst hc;go_wp2;go_ret
    have A:val l1=val l * m + c0:=by rw[<- HF.out,dY]; simp[val]
    refine⟨_,l1,rfl,b,x,A,by omega,fun h1 h2=>uo wl x (by omega) A h2 z (by omega),d⟩
   ·have hcb:(c != 0)=true:=by rw[bne_iff_ne]; exact hc
    have K:wr.ownsRow B 22 1 (.slice ao k cap) k (l1.map (Value.int .u64)):=by have:=b; unfold eh at this; rwa [f,<- s.out] at this
    have hsz:=d.size;go_wp2_with (at_builtin; refine wpList_append_own _ rfl _ _ 30 rfl B 22 i0 (.int .u64 0) 1 8 fV hi M U V rfl (by decide) _ _ _ rfl (K.alloc _) ⟨wr.heap.size,0,none⟩ 1 1 [.int .u64 c] rfl rfl ?c1 ?c2 ?c3 ?c4 ?c5 ?_)
    case c1=>exact cell_one_new _ _ _
    case c2=>intro u hu; simp at hu; subst hu; rfl
    case c3=>unfold maxLen; omega
    case c4=>omega
    case c5=>simp; omega
    intro v' w1 t y _;go_wp2;go_ret
    have hM:eh w1 B v' (l1 ++ [c]):=by
     unfold eh;rw[List.length_append,f,<- s.out,List.map_append]; exact t
    refine⟨_,l1 ++ [c],rfl,hM,x.append (Words.cons q F Words.nil),HF.out,by simp; omega,fun _ _=>wP hc,?_⟩
    exact(d.alloc (by omega) _).grown y (by simp; omega) (by
     intro g1 j;rcases p with e | rfl
     ·subst e;rcases b.2 with⟨e2,_⟩ | ⟨g2,cap2,cur2,e2,hB2,_⟩
      ·rw[e2] at j; simp[Value.ownBlock] at j
      ·rw[e2] at j; simp[Value.ownBlock] at j; omega
     ·simp[Value.ownBlock] at j; omega)
end
end
section
open Go.RowKit Lim
section
variable {w:World}{l:List Int}{ops:Array Oper}{rest:List Oper}
theorem eh.cell{B g n c:Nat}(h:eh w B (.slice (some ⟨g,0,none⟩) n c) l){i:Nat}(hi:i < l.length):w.cell? ⟨g,i,none⟩=some (.int .u64 (nth l i))/\w.frozen? ⟨g,i,none⟩=false:=by
 obtain⟨o,p,e,_,_,m,a,_,d,b⟩:=h.open;simp only[Value.slice.injEq] at e;obtain⟨rfl,_,_⟩:=e
 have k:m=g:=by
  rcases a with e | e
  ·subst e; simp at hi
  ·simpa using e.symm
 subst k;have f:=d.cell i hi;have j:=b i hi;rw[Nat.zero_add] at f j;exact⟨f,j⟩
theorem wI{o:Oper}{a:Act}{Q:Exit->Act->World->Prop}(h:o.guard=none)(l c:Operand)(d:o.op=Op.makeSlice 30 l c)(n m:Nat)(L C:Int)(k:a.eval l=.int .i64 L)(hc:a.eval c=.int .i64 C)(hL:L=(n:Int))(hC:C=(m:Int))(e:n<=m)(hn:m<=17592186044416)(j:∀ w',eh w' w.heap.size (.slice (some ⟨w.heap.size,0,none⟩) n m) (List.replicate n 0)->Below w.heap.size w w'->w'.heap.size=w.heap.size + 1->wpList Tryz.prog ops Q rest (a.put o.dst (.slice (some ⟨w.heap.size,0,none⟩) n m)) w') :
  wpList Tryz.prog ops Q (o :: rest) a w:=by
 obtain⟨i,hi,g,hs,hb⟩:=info_parts gV;refine wpList_plain h fun K f => ?_
 have b:=run_make (P:=Tryz.prog) w 30 22 i (.int .u64 0) fV hi g .i64 .i64 (n:Int) (m:Int) (by omega) (by omega) (by rw[hb]; omega) (by omega);subst hL;subst hC;unfold Oper.wp;simp only[execOp,d,k,hc];simp[b,Result.andThen];refine f _ _ (j _ ⟨by simp,.inr ⟨w.heap.size,m,((List.replicate m 0).map (Value.int .u64)).toArray,by simp,Nat.le_refl _,?_,by simpa using e,by unfold maxLen; omega,by simp,?_⟩⟩ ?_ ?_)
 ·show (w.heap.push _)[w.heap.size]? = _
  rw[Array.getElem?_push_size,hs,Nat.mul_one,qE]
 ·simp; omega
 ·exact(Below.refl _ _).alloc (Nat.le_refl _) _
 ·simp
theorem vP(n:Nat)(w:World)(hn:n<=4096) :
  Calls Tryz.prog 165 #[.int .i64 n] w fun e w'=>∃ v r,e=.returned (.tuple #[v,.int .i64 0])/\dE w w' v r/\IsN r (10 ^ n)/\r.length<=n + 2/\Below w.heap.size w w':=by
 obtain⟨q,S⟩:∃ q:Nat,q=n / 19:=⟨_,rfl⟩
 obtain⟨t,K⟩:∃ t:Nat,t=n % 19:=⟨_,rfl⟩
 have W:(n:Int) / 19=q:=by omega
 have M:(n:Int) % 19=t:=by omega
 have N:t < 19:=by omega
 have V:Hid (n=19 * q + t):=by show _=_; omega
 have T:q<=n:=by omega
 clear S K
 have Q:decide ((n:Int) < 0)=false:=by simp
 have R:decide (4096 < (n:Int))=false:=by simp; omega
 go_enter Tryz.func165,Tryz.ntmps165;go_wp2_with (at_make; refine wI rfl _ _ rfl 1 (q + 1) _ _ rfl rfl rfl (by omega) (by omega) (by omega) ?_; intro w1 b m j; have I:=b.cell (i:=0) (by simp); obtain⟨F,H⟩:=I);have A:=b.setCell (c:=q + 1) (g:=w.heap.size) rfl (i:=0) (by simp) 1;rw[show (List.replicate 1 (0:Int)).set 0 1=[1] from rfl,Nat.add_zero] at A;have D:=m.setCell (p:=⟨w.heap.size,0,none⟩) (Nat.le_refl _) (.int .u64 1);clear b m F H;go_loopw [4,19] (fun Y G wr=>∃ (k:Nat) (l:List Int),k<=q/\G=.int .i64 k/\eh wr w.heap.size Y l/\Words l/\Hid (aE l=l.length)/\Hid (val l=10 ^ (19 * k))/\l.length<=k + 1/\Below w.heap.size w wr) (fun _ G _=>q - (intOf G).toNat)
 case atStart=>exact⟨0,[1],Nat.zero_le _,rfl,A,Words.cons (by decide) (by decide) Words.nil,rfl,rfl,by simp,D⟩
 case round =>
  clear A D j;obtain⟨k,l,Z,rfl,hm,wl,E,hv,hlen,o⟩:=hrel;have j:=o.size;by_cases P:k < q
  ·go_wp2_with (go_at_call 206; refine(oH w.heap.size _ l 10000000000000000000 0 _ j hm (by omega) wl (by decide) (by decide) (by decide) (by decide)).mono ?_; rintro e X ⟨J,r,rfl,u,y,f,x,s,d⟩);have e1:=hv.out;have e2:=s E.out (by decide);go_roundw
   case rel=>exact⟨k + 1,r,by omega,by go_num,u,y,e2,by show _=_; rw[f,e1,Int.add_zero,show 19 * (k + 1)=19 * k + 19 from by omega,Int.pow_add]; rfl,by omega,o.trans d⟩
   case measure=>simp[intOf]; omega
  ·have B:k=q:=by omega
   have O:Hid (k=q):=B;clear B
   have C:(0:Int) < 10 ^ t:=Int.pow_pos (by decide)
   have z:(10:Int) ^ t < 18446744073709551616:=by
    have:(10:Nat) ^ t<=10 ^ 18:=Nat.pow_le_pow_right (by decide) (by omega)
    have e:((10 ^ t:Nat):Int)=(10:Int) ^ t:=by rw[Int.natCast_pow]; rfl
    have e2:(10:Nat) ^ 18=1000000000000000000:=by decide
    omega
   have L:=nV t wr (by omega);generalize hp:(10:Int) ^ t=p at *
   have U:Hid ((10:Int) ^ t=p):=hp;clear hp;go_wp2_with fail;refine L.mono ?_
   rintro e w4 ⟨rfl,rfl⟩;go_wp2_with fail;refine(oH w.heap.size _ l p 0 _ j hm (by omega) wl (by omega) z (by decide) (by decide)).mono ?_
   rintro e X ⟨J,r,rfl,u,y,f,x,s,d⟩;have e1:=hv.out;have e2:=s E.out C
   have e3:val r=10 ^ n:=by rw[f,e1,Int.add_zero,V.out,Int.pow_add,U.out,O.out]
   clear f;go_wp2;go_ret2;exact⟨J,r,rfl,u.new,⟨y,e2,e3⟩,by omega,o.trans d⟩
end
end
section
open Go.RowKit Lim
end
section
open Go.RowKit Lim
section
variable {w w':World}{ao:Option Addr}{b o:Nat}{l:List Int}
structure AtB(w:World)(ao:Option Addr)(b o:Nat)(l:List Int):Prop where
 loc:l=[]\/ao=some ⟨b,o,none⟩
 cell:∀ i,i < l.length->w.cell? ⟨b,o + i,none⟩=some (.int .u8 (nth l i))
theorem AtB.lt(k:AtB w ao b o l):l=[]\/b < w.heap.size:=by
 cases l with
 | nil=>exact .inl rfl
 | cons x l=>exact .inr (aI (k.cell 0 (by simp)))
theorem AtB.keep(h:Below w.heap.size w w')(k:AtB w ao b o l):AtB w' ao b o l :=
 ⟨k.loc,fun i hi=>by
  rcases k.lt with e | e
  ·subst e; simp at hi
  ·rw[h.cell (p:=⟨b,o + i,none⟩) e]; exact k.cell i hi⟩
theorem AtB.wr{n:Nat}(h:Wr b o n w w'){b' o':Nat}(k:AtB w ao b' o' l)(hb:l=[]\/b'≠b):AtB w' ao b' o' l :=
 ⟨k.loc,fun i hi=>by
  rcases hb with e | e
  ·subst e; simp at hi
  ·rw[h.other e]; exact k.cell i hi⟩
theorem AtB.setCell(k : AtB w ao b o l){i:Nat}(hi : i < l.length)(x : Int) : AtB (w.setCell ⟨b, o + i, none⟩ (.int .u8 x)) ao b o (l.set i x) :=
  ⟨by rcases k.loc with e | e
      · subst e; simp at hi
      · exact .inr e, fun j g => by
    rw[List.length_set] at g;have hc := k.cell j g;rw[dy hi];have a := k.cell i hi;simp only[World.cell?, World.setCell, Array.getElem?_modify, if_true] at hc a ⊢
    cases hh : w.heap[b]? with
    | none => rw[hh] at hc; simp at hc
    | some ob =>
      rw[hh] at hc a
      cases ob with
      | cells c e f =>
        simp at hc a ⊢;rw[Array.getElem?_setIfInBounds];by_cases e : j = i
        · subst e
          obtain⟨d, _⟩:= Array.getElem?_eq_some_iff.1 a;simp[d]
        · rw[if_neg (by omega), if_neg e]; exact hc
      | _ => simp at hc⟩
structure CQ(w w':World)(v:Value)(l:List Int):Prop where
 is:∃ ao b o c,v=.slice ao l.length c/\l.length<=c/\w.heap.size<=b/\AtB w' ao b o l/\dB w' b o l.length
def a7(l:List Int):Prop:=∀ x∈l,0<=x/\x < 256
theorem a7.nth(h:a7 l)(i:Nat):0<=nth l i/\nth l i < 256:=by
 by_cases hi:i < l.length
 ·exact h _ (ll hi)
 ·rw[fQ (by omega)]; decide
def bM:List Int->Int
 | []=>0
 | x :: l=>x * 256 ^ l.length + bM l
theorem bL(h:a7 l):0<=bM l/\bM l < 256 ^ l.length:=by
 induction l with
 | nil=>simp[bM]
 | cons x l ih =>
  have c:=ih (fun y hy=>h y (List.mem_cons_of_mem _ hy));have b:=h x List.mem_cons_self
  have a:(0:Int) < 256 ^ l.length:=Int.pow_pos (by decide)
  have d:0<=x * 256 ^ l.length:=Int.mul_nonneg b.1 (Int.le_of_lt a)
  have e:x * 256 ^ l.length<=255 * 256 ^ l.length:=Int.mul_le_mul_of_nonneg_right (by omega) (Int.le_of_lt a);rw[bM,List.length_cons,Int.pow_succ]; omega
def IsB(l:List Int)(n:Int):Prop:=a7 l/\(l≠[]->nth l 0≠0)/\bM l=n
theorem mJ:∀ {a b:List Int},a7 a->a7 b->a.length=b.length->bM a=bM b->a=b
 | [],[],_,_,_,_=>rfl
 | x :: a,y :: b,ha,hb,hl,hv=>by
  have ha':a7 a:=fun z g=>ha z (List.mem_cons_of_mem _ g)
  have f:a7 b:=fun z g=>hb z (List.mem_cons_of_mem _ g)
  have d:a.length=b.length:=by simpa using hl
  have i:=bL ha';have j:=bL f;rw[bM,bM,d] at hv;rw[d] at i
  have h:(0:Int) < 256 ^ b.length:=Int.pow_pos (by decide)
  have e:x=y:=by
   rcases Int.lt_trichotomy x y with c | c | c
   ·have:(x + 1) * 256 ^ b.length<=y * 256 ^ b.length:=Int.mul_le_mul_of_nonneg_right (by omega) (Int.le_of_lt h);rw[Int.add_mul] at this; omega
   ·exact c
   ·have:(y + 1) * 256 ^ b.length<=x * 256 ^ b.length:=Int.mul_le_mul_of_nonneg_right (by omega) (Int.le_of_lt h);rw[Int.add_mul] at this; omega
  subst e;rw[mJ ha' f d (by omega)]
theorem uU(h:a7 l)(a:l≠[])(b:nth l 0≠0):256 ^ (l.length - 1)<=bM l:=by
 cases l with
 | nil=>exact absurd rfl a
 | cons x l =>
  rw[cD] at b;have f:=h x List.mem_cons_self;have e:=bL (l:=l) (fun z c=>h z (List.mem_cons_of_mem _ c))
  have d:(0:Int) < 256 ^ l.length:=Int.pow_pos (by decide);have:1 * 256 ^ l.length<=x * 256 ^ l.length:=Int.mul_le_mul_of_nonneg_right (by omega) (Int.le_of_lt d);rw[bM,List.length_cons,Nat.add_sub_cancel]; omega
theorem gH{a:Nat}(h:a<=b):(256:Int) ^ a<=256 ^ b:=by
 have:(256:Nat) ^ a<=256 ^ b:=Nat.pow_le_pow_right (by decide) h
 have e1:((256 ^ a:Nat):Int)=(256:Int) ^ a:=by rw[Int.natCast_pow]; rfl
 have e2:((256 ^ b:Nat):Int)=(256:Int) ^ b:=by rw[Int.natCast_pow]; rfl
 omega
theorem mK{a b:List Int}{n:Int}(c:IsB a n)(hb:IsB b n):a=b:=by
 apply mJ c.1 hb.1
 ·have key:∀ {a b:List Int},IsB a n->IsB b n->¬ a.length < b.length:=by
   intro a b c hb d;have f:=(bL c.1).2;have g:=uU hb.1 (fun e=>by subst e; simp at d) (hb.2.1 (fun e=>by subst e; simp at d));rw[c.2.2] at f;rw[hb.2.2] at g;have:=gH (show a.length<=b.length - 1 by omega);omega
  have f:=key c hb;have g:=key hb c;omega
 ·rw[c.2.2,hb.2.2]
end
end
section
open Go.RowKit Lim
section
variable {l:List Int}{i:Nat}
theorem bpow(k:Nat):(18446744073709551616:Int) ^ k=((2 ^ (64 * k):Nat):Int):=by
 rw[Nat.pow_mul,Int.natCast_pow]; rfl
theorem Af(wl:Words l)(hn:aE l≠0):bitLen (val l).toNat=64 * (aE l - 1) + bitLen (nth l (aE l - 1)).toNat:=by
 have f:=aL wl;have hs:=bC (norm l) (aE l - 1) (by rw[aJ]; omega)
 have g:(norm l).drop (aE l - 1)=[nth l (aE l - 1)]:=by
  apply lG
  ·simp[aJ]; omega
  ·intro i hi;simp[aJ] at hi;have:i=0:=by omega
   subst this;rw[dC,fZ,cD]; rfl
 rw[g,eu,cU] at hs;have b:=dw (wl.norm.take (aE l - 1));have e:=aL (wl.norm.take (aE l - 1));rw[List.length_take,aJ,Nat.min_eq_left (by omega)] at b;have d:=wl.nth (aE l - 1);have h:=im hn;generalize nth l (aE l - 1)=x at *;generalize val ((norm l).take (aE l - 1))=y at *;generalize aE l - 1=k at *;rw[bpow] at hs b;obtain⟨x,rfl⟩:=Int.eq_ofNat_of_zero_le d.1;obtain⟨y,rfl⟩:=Int.eq_ofNat_of_zero_le e;obtain⟨v,hv⟩:=Int.eq_ofNat_of_zero_le f;rw[hv] at hs ⊢
 have c:v / 2 ^ (64 * k)=x:=by
  have a:v=y + 2 ^ (64 * k) * x:=by
   have:(v:Int)=((y + 2 ^ (64 * k) * x:Nat):Int):=by rw[hs,Int.natCast_add,Int.natCast_mul]
   exact Int.ofNat.inj this
  rw[a,Nat.add_mul_div_left _ _ (Nat.two_pow_pos _),Nat.div_eq_of_lt (by omega),Nat.zero_add]
 rw[Int.toNat_natCast,Int.toNat_natCast,bitLen_shift v (64 * k) (by rw[c]; omega),c]
theorem qB(ao:Option Addr)(n c b o:Nat)(l:List Int)(w:World)(t:l.length=n)(hc:n<=c)(p:n<=1099511627776)(wl:Words l)(g:At w ao b o l) :
  Calls Tryz.prog 55 #[.slice ao n c] w fun e w'=>e=.returned (.int .i64 (bitLen (val l).toNat))/\Below w.heap.size w w':=by
 have hn:=bp l;have t1:=bj ao n c l w t hc (by omega) g.cells;by_cases f:aE l=0
 ·rw[f] at t1
  have hv:(val l).toNat=0:=by rw[(bW wl).1 f]; rfl
  rw[hv,show bitLen 0=0 from rfl];go_enter Tryz.func55,Tryz.ntmps55;go_wp2_with fail;refine t1.mono ?_
  rintro e r ⟨rfl,rfl⟩;go_wp2_with fail;go_ret;exact⟨rfl,Below.refl _ _⟩
 ·have i:=Af wl f;have hx:=wl.nth (aE l - 1);have d:=g.cell (aE l - 1) (by omega);have m:=gX (n:=(nth l (aE l - 1)).toNat) (by omega);have t2:=fun q=>DY (nth l (aE l - 1)) q hx.1 hx.2
  rcases g.loc with e | rfl
  ·subst e; simp[aE] at f
  rw[i];generalize nth l (aE l - 1)=x at *;generalize bitLen x.toNat=L at *;clear i g;obtain⟨k,j⟩:∃ k,aE l=k + 1:=⟨aE l - 1,by omega⟩
  rw[j] at t1 d hn ⊢;rw[Nat.add_sub_cancel] at d ⊢;clear j f
  have s:(k:Int) < (k:Int) + 1:=by omega
  go_enter Tryz.func55,Tryz.ntmps55;go_wp2_with fail;refine t1.mono ?_
  rintro e r ⟨rfl,rfl⟩;clear t1;go_wp2_with fail;refine(t2 _).mono ?_
  rintro e u ⟨rfl,rfl⟩;go_wp2;go_ret;exact⟨j7 (by omega),Below.refl _ _⟩
theorem zj:IsN [] 0:=⟨Words.nil,rfl,rfl⟩
structure zW(lb:List Int)(m k:Nat)(lz:List Int):Prop where
 len:lz.length=m
 words:Words lz
 val:Lim.val lz=bM (lb.drop (lb.length - k))
theorem oB(h:i < l.length):bM (l.drop i)=nth l i * 256 ^ (l.length - 1 - i) + bM (l.drop (i + 1)):=by
 rw[List.drop_eq_getElem_cons h,bM,bS h,List.length_drop,show l.length - (i + 1)=l.length - 1 - i from by omega]
theorem a7.drop(h:a7 l)(k:Nat):a7 (l.drop k):=fun x hx=>h x (List.mem_of_mem_drop hx)
theorem CY(h:i < l.length)(x:Int):val (l.set i x)=val l + 18446744073709551616 ^ i * (x - nth l i):=by
 have e1:=bC (l.set i x) i (by simp; omega);have e2:=bC l i (by omega);rw[List.take_set_of_le (Nat.le_refl _),List.drop_set,if_neg (by omega),Nat.sub_self] at e1;rw[List.drop_eq_getElem_cons h,List.set_cons_zero,val] at e1;rw[List.drop_eq_getElem_cons h,val] at e2;rw[e1,e2,bS h]; grind
theorem Be(wl:Words l)(h:i < l.length){P:Int}(e:val l < 18446744073709551616 ^ i * P):nth l i < P:=by
 have e2:=bC l i (by omega);rw[List.drop_eq_getElem_cons h,val] at e2;have c:=aL (wl.take i);have f:=aL (wl.drop (i + 1));have a:=pow_pos i
 have d:0<=18446744073709551616 ^ i * (18446744073709551616 * val (l.drop (i + 1))):=Int.mul_nonneg (Int.le_of_lt a) (by omega);rw[Int.mul_add] at e2
 have b:18446744073709551616 ^ i * nth l i < 18446744073709551616 ^ i * P:=by rw[bS h]; omega
 exact Int.lt_of_mul_lt_mul_left b (Int.le_of_lt a)
theorem jV(k:Nat):(256:Int) ^ k=18446744073709551616 ^ (k / 8) * 2 ^ (8 * (k % 8)):=by
 have e:(18446744073709551616:Int)=256 ^ 8:=by decide
 have e2:(2:Int) ^ (8 * (k % 8))=256 ^ (k % 8):=by rw[Int.pow_mul]; rfl
 rw[e,e2,<- Int.pow_mul,<- Int.pow_add]; congr 1; omega
theorem Dy{lb lz:List Int}{m k:Nat}(hb:a7 lb)(hm:(lb.length + 7) / 8=m)(h:zW lb m k lz)(n:k < lb.length) :
  bits .or .u64 (nth lz (k / 8)) (IntKind.u64.wrap (nth lb (lb.length - 1 - k) * 2 ^ (8 * (k % 8))))=nth lz (k / 8) + nth lb (lb.length - 1 - k) * 2 ^ (8 * (k % 8)) /\
  zW lb m (k + 1) (lz.set (k / 8) (nth lz (k / 8) + nth lb (lb.length - 1 - k) * 2 ^ (8 * (k % 8)))):=by
 have g:=h.len;have hx:=hb.nth (lb.length - 1 - k);have c:=bL (hb.drop (lb.length - k));rw[List.length_drop,show lb.length - (lb.length - k)=k from by omega] at c;have hv:=h.val;have b:=h.words.nth (k / 8);have d:=Be h.words (i:=k / 8) (by omega) (P:=2 ^ (8 * (k % 8))) (by rw[<- jV,hv]; exact c.2)
 have hS:(0:Int) < 2 ^ (8 * (k % 8)):=Int.pow_pos (by decide)
 have j:(2:Int) ^ (8 * (k % 8)) * 256<=18446744073709551616:=by
  have:(2:Nat) ^ (8 * (k % 8))<=2 ^ 56:=Nat.pow_le_pow_right (by decide) (by omega)
  have e:((2 ^ (8 * (k % 8)):Nat):Int)=(2:Int) ^ (8 * (k % 8)):=by rw[Int.natCast_pow]; rfl
  have e2:(2:Nat) ^ 56=72057594037927936:=by decide
  omega
 have a:0<=nth lb (lb.length - 1 - k) * 2 ^ (8 * (k % 8)):=Int.mul_nonneg hx.1 (Int.le_of_lt hS)
 have f:nth lb (lb.length - 1 - k) * 2 ^ (8 * (k % 8))<=255 * 2 ^ (8 * (k % 8)):=Int.mul_le_mul_of_nonneg_right (by omega) (Int.le_of_lt hS);constructor
 ·rw[IntKind.wrap_u64,Int.emod_eq_of_lt a (by omega)];rw[u64_or _ _ b.1 b.2 a (by omega),Nat.or_comm,<- u64_or _ _ a (by omega) b.1 b.2];rw[oR _ _ (8 * (k % 8)) _ rfl hx.1 (by omega) b.1 d b.2,Int.add_comm]
 ·refine⟨by simp[g],h.words.set _ (by omega) (by omega),?_⟩;rw[CY (by omega),hv,show lb.length - (k + 1)=lb.length - 1 - k from by omega,oB (l:=lb) (i:=lb.length - 1 - k) (by omega),show lb.length - 1 - k + 1=lb.length - k from by omega,show lb.length - 1 - (lb.length - 1 - k)=k from by omega,jV k];grind
theorem CV(ao:Option Addr)(n c b o:Nat)(lb:List Int)(w:World)(f:lb.length=n)(hn:0 < n)(d:AtB w ao b o lb)(g:nth lb 0=0) :
  Calls Tryz.prog 256 #[.slice ao n c] w fun e w'=>e=.returned (.tuple #[.slice none 0 0,.int .i64 13])/\w'=w:=by
 rcases d.loc with e | rfl
 ·subst e; simp at f; omega
 have hc:=d.cell 0 (by omega);rw[g,Nat.add_zero] at hc;go_enter Tryz.func256,Tryz.ntmps256;go_wp2;go_ret2;exact⟨rfl,rfl⟩
theorem xj(ao:Option Addr)(n c b o:Nat)(lb:List Int)(w:World)(F:lb.length=n)(R:n<=1099511627776)(D:a7 lb)(B:AtB w ao b o lb)(L:0 < n->nth lb 0≠0) :
  Calls Tryz.prog 256 #[.slice ao n c] w fun e w'=>∃ v r,e=.returned (.tuple #[v,.int .i64 0])/\dE w w' v r/\IsN r (bM lb)/\r.length<=n/\Below w.heap.size w w':=by
 obtain⟨m,hm⟩:∃ m:Nat,((n:Int) + 7) / 8=m:=⟨(n + 7) / 8,by omega⟩
 have U:m<=n:=by omega
 have E:lb=[]\/b≠w.heap.size:=by
  rcases B.lt with e | e
  ·exact .inl e
  ·exact .inr (by omega)
 by_cases hn:0 < n
 ·rcases B.loc with e | rfl
  ·subst e; simp at F; omega
  have hc:=B.cell 0 (by omega);rw[Nat.add_zero] at hc
  have u:(nth lb 0 == 0)=false:=beq_eq_false_iff_ne.2 (L hn)
  have s:nth lb 0≠0:=L hn;have V:=(show Hid _ from s)
  clear s L;go_enter Tryz.func256,Tryz.ntmps256;go_wp2_with (at_make; refine cV rfl _ _ rfl m _ _ rfl rfl (by omega) (by omega) (by omega) ?_; intro Q d f K);have p:=B.keep f;clear hc u;go_loopw [22] (fun N wr=>∃ (k:Nat) (l:List Int),k<=n/\N=.int .i64 k/\zW lb m k l/\At wr (some ⟨w.heap.size,0,none⟩) w.heap.size 0 l/\Wr w.heap.size 0 m Q wr) (fun N _=>n - (intOf N).toNat)
  case atStart=>exact⟨0,_,Nat.zero_le _,rfl,⟨by simp,ey _,by rw[Nat.sub_zero,List.drop_length,fm fun i=>by simp[nth,List.getElem?_replicate]; split<;>rfl]; rfl⟩,d.at,Wr.refl _ _ _ _⟩
  case round =>
   obtain⟨k,l,hk,rfl,hinv,q,g⟩:=hrel;have hlen:=hinv.len;by_cases hlt:k < n
   ·obtain⟨i,hi⟩:∃ i:Nat,(k:Int) / 8=i:=⟨k / 8,by omega⟩
    obtain⟨j,hj⟩:∃ j:Nat,(k:Int) % 8=j:=⟨k % 8,by omega⟩
    obtain⟨h,hh⟩:∃ h:Nat,(n:Int) - 1 - k=h:=⟨n - 1 - k,by omega⟩
    have aa:(i:Int) < m:=by omega
    have T:(h:Int) < n:=by omega
    have hj1:j < 8:=by omega
    have u:=q.cell i (by omega);have hcb:=(p.wr g E).cell h (by omega);have H:=g.free (d.free 0 m) i (by omega);rw[Nat.zero_add] at u H;have C:=Dy D (m:=m) (by omega) hinv (by omega);rw[show k / 8=i from by omega,show k % 8=j from by omega,show lb.length - 1 - k=h from by omega] at C;obtain⟨A,t⟩:=C;have HS:=(show Hid _ from t)
    have Y:=(show Hid _ from q)
    have Z:=(show Hid _ from g)
    have W:=D.nth h;clear t q g hinv d p D;generalize nth l i=z at *;generalize nth lb h=x at *;go_wp2_with fail;go_region;go_wp2;rw[Nat.mul_comm j 8,A];refine⟨⟨k + 1,_,by omega,by go_num,HS.out,?_,?_⟩,by simp[intOf]; omega⟩
    ·have:=(Y.out.setCell (i:=i) (by omega) (z + x * 2 ^ (8 * j))).drew;rwa [Nat.zero_add] at this
    ·exact(Z.out.setCell (by omega) (by omega) _).drew
   ·have P:k=n:=by omega
    subst P;have hv:=hinv.val;rw[<- F,Nat.sub_self,List.drop_zero] at hv;have M:=g.free (d.free 0 m);have X:=f.trans (g.below (Nat.le_refl _));have G:=bL D;have I:=uU D (fun e=>by subst e; simp at F; omega) V.out
    have y:aE l=l.length:=by
     have h1:=bp l;by_cases c:aE l < l.length
     ·have h2:=gW hinv.words;have h3:=gM (show aE l<=m - 1 by omega)
      have h4:(18446744073709551616:Int) ^ (m - 1)<=256 ^ (lb.length - 1):=by
       rw[show (18446744073709551616:Int)=256 ^ 8 from by decide,<- Int.pow_mul];exact gH (by omega)
      rw[hv] at h2;omega
     ·omega
    have S:IsN l (bM lb):=⟨hinv.words,y,hv⟩
    clear hinv d g f p hv G I y;go_wp2;go_ret2;exact⟨_,l,rfl,dE.of hlen.symm (Nat.le_refl _) (Nat.le_refl _) q M,S,by omega,X⟩
 ·have O:n=0:=by omega
  subst O
  have e0:lb=[]:=List.eq_nil_of_length_eq_zero F;subst e0
  have J:m=0:=by omega
  subst J;clear hm B E;go_enter Tryz.func256,Tryz.ntmps256;go_wp2_with (at_make; refine cV rfl _ _ rfl 0 _ _ rfl rfl (by omega) (by omega) (by omega) ?_; intro Q d f K);refine wp_loop_rounds 1 ?_
  rw[rounds_succ];go_wp2;go_ret2;exact⟨_,[],rfl,dE.of rfl (Nat.le_refl _) (Nat.le_refl _) d.at (d.free _ _),zj,by simp,f⟩
end
end
section
open Go.RowKit Lim
theorem zy {a b:Nat} (h:a<=b):(10:Int) ^ a<=10 ^ b:=by
 have:(10:Nat) ^ a<=10 ^ b:=Nat.pow_le_pow_right (by decide) h
 have e1:((10 ^ a:Nat):Int)=(10:Int) ^ a:=by rw[Int.natCast_pow]; rfl
 have e2:((10 ^ b:Nat):Int)=(10:Int) ^ b:=by rw[Int.natCast_pow]; rfl
 omega
end
section
open Go.RowKit Lim
end
section
open Go.RowKit Lim
section
variable {w w':World}{ao ao':Option Addr}{n c n' c' g:Nat}{x y:Int}{v:Value}{r l:List Int}{fn:Func}{p:Tmp}{tmps:Array Value}
structure aV(w:World)(ao:Option Addr)(n c:Nat)(x:Int):Prop where
 ex:∃ b o l,l.length=n/\n<=c/\Words l/\At w ao b o l/\val l=x
structure dW(w:World)(ao:Option Addr)(n c:Nat)(x:Int):Prop where
 ex:∃ b o l,l.length=n/\n<=c/\IsN l x/\At w ao b o l
theorem dW.a(h:dW w ao n c x):aV w ao n c x:=by
 obtain⟨b,o,l,h1,h2,h3,h4⟩:=h.ex;exact⟨b,o,l,h1,h2,h3.1,h4,h3.2.2⟩
theorem aV.keep(h:aV w ao n c x)(hb:Below w.heap.size w w'):aV w' ao n c x:=by
 obtain⟨b,o,l,h1,h2,h3,h4,h5⟩:=h.ex;exact⟨b,o,l,h1,h2,h3,h4.keep hb,h5⟩
theorem dW.keep(h:dW w ao n c x)(hb:Below w.heap.size w w'):dW w' ao n c x:=by
 obtain⟨b,o,l,h1,h2,h3,h4⟩:=h.ex;exact⟨b,o,l,h1,h2,h3,h4.keep hb⟩
theorem aV.px(h:aV w ao n c x):0<=x:=by
 obtain⟨b,o,l,h1,h2,h3,h4,h5⟩:=h.ex;rw[<- h5]; exact aL h3
theorem dW.eqv(h:dW w ao n c x)(e:x=y):dW w ao n c y:=e▸h
theorem Ao(w:World):dW w none 0 0 0:=⟨0,0,[],rfl,Nat.le_refl _,je,.inl rfl,fun i hi=>by simp at hi⟩
theorem dE.o(h:dE w w' v r)(hI:IsN r x):∃ a c,v=.slice a r.length c/\dW w' a r.length c x:=by
 obtain⟨ao,b,o,c,e,h1,h2,h3,h4⟩:=h.is;exact⟨ao,c,e,b,o,r,rfl,h1,hI,h3⟩
theorem aj{wa:World}(b:Below w.heap.size w wa)(h:Below wa.heap.size wa w'):Below w.heap.size w w':=b.trans (h.mono b.size)
theorem nMul(h:aV w ao n c x)(q:aV w ao' n' c' y)(hn:n<=1099511627776)(j:n'<=1099511627776) :
  Calls Tryz.prog 24 #[.slice ao n c,.slice ao' n' c'] w fun e w'=>∃ a k d,e=.returned (.slice a k d)/\dW w' a k d (x * y)/\k<=n + n'/\Below w.heap.size w w':=by
 obtain⟨b,o,l,t,A,u,z,rfl⟩:=h.ex;obtain⟨B,C,F,g,p,i,m,rfl⟩:=q.ex;refine(pT ao n c b o ao' n' c' B C l F w t g A p hn j u i z m).mono ?_
 rintro e w' ⟨v,r,rfl,f,E,hlen,D⟩;obtain⟨a,d,rfl,s⟩:=f.o E;exact⟨a,_,d,rfl,s,hlen,D⟩
theorem nCmp(h:aV w ao n c x)(j:aV w ao' n' c' y)(hn:n<=1099511627776)(d:n'<=1099511627776) :
  Calls Tryz.prog 26 #[.slice ao n c,.slice ao' n' c'] w fun e w'=>e=.returned (.int .i64 (sgn x y))/\Below w.heap.size w w':=by
 obtain⟨b,o,l,m,t,q,r,rfl⟩:=h.ex;obtain⟨k,p,s,g,i,a,f,rfl⟩:=j.ex;exact ir ao n c b o ao' n' c' k p l s w m g t i hn d q a r f
theorem nDiv(h:aV w ao n c x)(C:aV w ao' n' c' y)(hn:n<=1099511627776)(m:n'<=1099511627776)(q:y≠0) :
  Calls Tryz.prog 70 #[.slice ao n c,.slice ao' n' c'] w fun e w'=>∃ a k d a' k' d',e=.returned (.tuple #[.slice a k d,.slice a' k' d',.int .i64 0])/\dW w' a k d (x / y)/\dW w' a' k' d' (x % y)/\k<=n/\k'<=n + n'/\Below w.heap.size w w':=by
 obtain⟨b,o,l,E,H,F,G,rfl⟩:=h.ex;obtain⟨I,J,M,g,B,j,p,rfl⟩:=C.ex;refine(uG ao n c b o ao' n' c' I J l M w E g H B hn m F j G p q).mono ?_
 rintro e w' ⟨v,u,r,s,rfl,f,A,L,N,i,t,K⟩;obtain⟨a,d,rfl,D⟩:=f.o L;obtain⟨a',d',rfl,z⟩:=A.o N;exact⟨a,_,d,a',_,d',rfl,D,z,i,t,K⟩
theorem yH(g:aV w ao' n' c' y)(b:n'<=1099511627776)(j:y=0) :
  Calls Tryz.prog 70 #[v,.slice ao' n' c'] w fun e w'=>e=.returned (.tuple #[.slice none 0 0,.slice none 0 0,.int .i64 11])/\w'=w:=by
 obtain⟨i,h,k,d,f,a,c,rfl⟩:=g.ex;exact div_zero v ao' n' c' i h k w d f b a c j
theorem rL{ad:Option Addr}{b f:Nat}{z:Int}(h:aV w ao n c x)(j:aV w ao' n' c' y)(o:aV w ad b f z)(hn:n<=274877906944)(m:n'<=274877906944)(i:b<=274877906944)(l:z=0) :
  Calls Tryz.prog 93 #[.slice ao n c,.slice ao' n' c',.slice ad b f] w fun e w'=>e=.returned (.tuple #[.slice none 0 0,.slice none 0 0,.int .i64 11])/\Below w.heap.size w w':=by
 go_enter Tryz.func93,Tryz.ntmps93;go_wp2_with fail;refine(nMul h j (by omega) (by omega)).mono ?_
 rintro e r ⟨a,k,d,rfl,p,s,g⟩;go_wp2_with fail;refine(yH (o.keep g) (by omega) l).mono ?_
 rintro e q ⟨rfl,rfl⟩;go_wp2;go_ret3;exact⟨rfl,g⟩
theorem nBits(h:aV w ao n c x)(hn:n<=1099511627776) :
  Calls Tryz.prog 55 #[.slice ao n c] w fun e w'=>e=.returned (.int .i64 (bitLen x.toNat))/\Below w.heap.size w w':=by
 obtain⟨b,o,l,a,g,d,f,rfl⟩:=h.ex;exact qB ao n c b o l w a g hn d f
theorem nPow(n:Nat)(hn:n<=4096) :
  Calls Tryz.prog 165 #[.int .i64 n] w fun e w'=>∃ a k d,e=.returned (.tuple #[.slice a k d,.int .i64 0])/\dW w' a k d (10 ^ n)/\k<=n + 2/\Below w.heap.size w w':=by
 refine(vP n w hn).mono ?_
 rintro e w' ⟨v,r,rfl,b,g,hlen,f⟩;obtain⟨a,d,rfl,c⟩:=b.o g;exact⟨a,_,d,rfl,c,hlen,f⟩
theorem rB(x:Int)(hx:0<=x):(bitLen x.toNat=0)<->x=0:=by
 constructor
 ·intro h;by_cases e:x.toNat=0
  ·omega
  ·have:=ni e; omega
 ·intro h; subst h; rfl
structure Slot(w:World)(g:Nat)(v:Value)(t:TypeId):Prop where
 blk:w.heap[g]? = some (.cells #[v] t (0,0))
theorem Slot.cell{t:TypeId}(h:Slot w g v t):w.cell? ⟨g,0,none⟩=some v:=cell_of_one h.blk
theorem Slot.free{t:TypeId}(h:Slot w g v t):w.frozen? ⟨g,0,none⟩=false:=free_of_one h.blk
theorem Slot.lt{t:TypeId}(h:Slot w g v t):g < w.heap.size:=lt_of_block h.blk
theorem Slot.keep{t:TypeId}(h:Slot w g v t)(hb:Below w.heap.size w w'):Slot w' g v t:=⟨by rw[hb.block g h.lt]; exact h.blk⟩
theorem Slot.put{t:TypeId}(h:Slot w g v t)(u:Value):Slot (w.setCell ⟨g,0,none⟩ u) g u t:=⟨one_setCell h.blk⟩
theorem eJ(w:World)(v:Value)(t:TypeId):Slot (w.alloc (.cells #[v] t)) w.heap.size v t:=⟨by
 show (w.heap.push _)[w.heap.size]? = _
 rw[Array.getElem?_push_size]⟩
theorem Slot.alloc{t:TypeId}(h:Slot w g v t)(o:Obj):Slot (w.alloc o) g v t:=h.keep (ae w o)
theorem lV(w:World)(o:Obj)(v:Value)(t:TypeId):Slot ((w.alloc o).alloc (.cells #[v] t)) (w.heap.size + 1) v t:=by
 have:=eJ (w.alloc o) v t;rwa [show (w.alloc o).heap.size=w.heap.size + 1 by simp] at this
theorem mh(w:World)(o o':Obj):Below w.heap.size w ((w.alloc o).alloc o'):=aj (ae w o) (ae _ o')
theorem At.put{b o:Nat}(k:At w ao b o l){t:TypeId}(s:Slot w g v t)(hv:∀ x,v≠.int .u64 x)(u:Value):At (w.setCell ⟨g,0,none⟩ u) ao b o l :=
 ⟨k.loc,fun i hi=>by
  have hc:=k.cell i hi;by_cases e:b=g
  ·subst e
   have c:o + i=0->False:=fun a=>by
    rw[a,s.cell] at hc;exact hv _ (Option.some.inj hc)
   have hs:=s.blk;simp only[World.cell?,hs] at hc;have:o + i < 1:=by
    have:=(Array.getElem?_eq_some_iff.1 hc).1;simpa using this
   exact(c (by omega)).elim
  ·rw[World.cell?_of_block (w:=w) (Below.heap_setCell w _ u b e)]; exact hc⟩
theorem dW.put(h:dW w ao n c x){t:TypeId}(s:Slot w g v t)(hv:∀ x,v≠.int .u64 x)(u:Value):dW (w.setCell ⟨g,0,none⟩ u) ao n c x:=by
 obtain⟨b,o,l,h1,h2,h3,h4⟩:=h.ex;exact⟨b,o,l,h1,h2,h3,h4.put s hv u⟩
theorem pE:∀ x,Value.slice ao n c≠.int .u64 x:=fun _ h=>by cases h
theorem qP{W w1:World}(b:Below w.heap.size w W)(h:Below W.heap.size W w1)(hg:w.heap.size<=g)(u:Value):Below w.heap.size w (w1.setCell ⟨g,0,none⟩ u):=(aj b h).setCell hg u
theorem Slot.drew{t:TypeId}(h:Slot w g v t):Slot w.drew g v t:=⟨h.blk⟩
theorem aV.drew(h:aV w ao n c x):aV w.drew ao n c x:=by
 obtain⟨b,o,l,h1,h2,h3,h4,h5⟩:=h.ex;exact⟨b,o,l,h1,h2,h3,h4.drew,h5⟩
theorem AO:(Tryz.prog.info? 32).map (·.size)=some 1:=by kernel_rfl
theorem wj : ∃ f, Tryz.prog.underlying 32 = some (.struct f) := by
  cases h : Tryz.prog.underlying 32 with
  | none => exact absurd h (by have : (Tryz.prog.underlying 32).isSome = true := by kernel_rfl
                               intro e; rw[e] at this; simp at this)
  | some d =>
    have : (match Tryz.prog.underlying 32 with | some (.struct _) => true | _ => false) = true := by kernel_rfl
    rw[h] at this
    cases d <;> first | exact⟨_, rfl⟩ | simp at this
theorem qH{t:TypeId}(s:Slot w g v t):(loadVar 32 ⟨g,0,none⟩).run Tryz.prog w=.ok (.agg #[v]) w:=by
 obtain⟨f,hu⟩:=wj;exact run_loadVar_row w g t 32 #[v] (0,0) _ s.blk hu rfl AO
theorem ly(h:fn.results=#[.cell p 32]){t:TypeId}(b:tmps.getD p undef=.pointer (some ⟨g,0,none⟩))(s:Slot w g v t) :
  (results fn tmps).run Tryz.prog w=.ok (.agg #[v]) w:=by
 have a:tmps[p]?.getD undef=.pointer (some ⟨g,0,none⟩):=by simpa using b
 simp[results,h,a,asAddr,qH s]
theorem qw{u:Tmp}(h:fn.results=#[.tmp u,.cell p 32]){x:Value}{t:TypeId}(c:tmps.getD p undef=.pointer (some ⟨g,0,none⟩))(hu:tmps.getD u undef=x)(s:Slot w g v t) :
  (results fn tmps).run Tryz.prog w=.ok (.tuple #[x,.agg #[v]]) w:=by
 have b:tmps[p]?.getD undef=.pointer (some ⟨g,0,none⟩):=by simpa using c
 have a:tmps[u]?.getD undef=x:=by simpa using hu
 simp[results,h,b,a,asAddr,qH s]
end
end
end Go.Proofs.YthfepflplbahkaaGreatDoor
