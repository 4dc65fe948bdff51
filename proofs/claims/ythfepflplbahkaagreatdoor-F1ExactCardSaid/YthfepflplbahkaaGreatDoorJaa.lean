/- Several texts, joined: Num, Trim, Bits, Mem, Own, Cmp, Len, Div64, DivS, Norm, AddT, Add, TakeT, Sub, DivOne, DivL, Guess, Mul, DivLong, DivM, Scale, Pow, Help, ByteMem, FromB, Digits, Parse, Nm. -/
import Derived.Test.YthfepflplbahkaaGreatDoorChecked
import Derived.WalkKit
import Derived.WalkSpells
import Derived.WalkLawsBesides
import Derived.Laws.Externs
import Derived.Laws.MathBits
import Derived.Laws.CopyOwn
import Derived.Deep.QuietTactic
import Derived.BigQuiet
import Derived.Deep.RegionWith
import Derived.ScopeJumps
import Derived.WalkSmall
import Derived.OneCell
set_option maxRecDepth 100000
set_option maxHeartbeats 8000000
namespace Go.Proofs.YthfepflplbahkaaGreatDoor
section
namespace Lim
section
variable {l a b:List Int}{i k:Nat}{x n:Int}
def nth(l:List Int)(i:Nat):Int:=l.getD i 0
def val:List Int->Int
 | []=>0
 | x :: l=>x + 18446744073709551616 * val l
def Words(l:List Int):Prop:=∀ x∈l,0<=x/\x < 18446744073709551616
def aJ:List Int->Nat
 | []=>0
 | x :: l=>if aJ l=0 then (if x=0 then 0 else 1) else aJ l + 1
def norm(l:List Int):List Int:=l.take (aJ l)
def IsN(l:List Int)(n:Int):Prop:=Words l/\aJ l=l.length/\val l=n
theorem zC(i:Nat):nth [] i=0:=by simp[nth]
theorem bW(x:Int)(l:List Int):nth (x :: l) 0=x:=by simp[nth]
theorem cV(x:Int)(l:List Int)(i:Nat):nth (x :: l) (i + 1)=nth l i:=by simp[nth]
theorem gZ(h:l.length<=i):nth l i=0:=by
 simp[nth,List.getElem?_eq_none h]
theorem bT(h:i < l.length):nth l i=l[i]:=by
 simp[nth,List.getElem?_eq_getElem h]
theorem lC(h:i < l.length):nth l i∈l:=by
 rw[bT h]; exact List.getElem_mem h
theorem Words.nth(h:Words l)(i:Nat):0<=nth l i/\nth l i < 18446744073709551616:=by
 by_cases hi:i < l.length
 ·exact h _ (lC hi)
 ·rw[gZ (by omega)]; decide
theorem Words.nil:Words []:=fun _ h=>by simp at h
theorem Words.cons(h0:0<=x)(h1:x < 18446744073709551616)(h:Words l):Words (x :: l):=by
 intro y hy;rcases List.mem_cons.1 hy with e | e
 ·subst e; exact⟨h0,h1⟩
 ·exact h y e
theorem Words.tail(h:Words (x :: l)):Words l:=fun y hy=>h y (List.mem_cons_of_mem _ hy)
theorem Words.head(h:Words (x :: l)):0<=x/\x < 18446744073709551616:=h x (List.mem_cons_self)
theorem Words.take(h:Words l)(k:Nat):Words (l.take k):=fun x hx=>h x (List.mem_of_mem_take hx)
theorem Words.drop(h:Words l)(k:Nat):Words (l.drop k):=fun x hx=>h x (List.mem_of_mem_drop hx)
theorem Words.append(ha:Words a)(hb:Words b):Words (a ++ b):=by
 intro x hx;rcases List.mem_append.1 hx with e | e
 ·exact ha x e
 ·exact hb x e
theorem dq(h:i < k):nth (l.take k) i=nth l i:=by
 simp[nth,h]
theorem dX(l:List Int)(k i:Nat):nth (l.drop k) i=nth l (k + i):=by
 simp[nth,List.getElem?_drop]
theorem dz(h:i < a.length):nth (a ++ b) i=nth a i:=by
 simp[nth,List.getElem?_append_left h]
theorem bV(h:a.length<=i):nth (a ++ b) i=nth b (i - a.length):=by
 simp[nth,List.getElem?_append_right h]
theorem nY(hl:a.length=b.length)(h:∀ i,i < a.length->nth a i=nth b i):a=b:=by
 apply List.ext_getElem hl;intro i h1 h2;have:=h i h1;rwa [bT h1,bT h2] at this
theorem ep(a:k < l.length):nth (l.set k x) i=if i=k then x else nth l i:=by
 simp only[nth,List.getD_eq_getElem?_getD,List.getElem?_set];by_cases h:k=i
 ·subst h; simp[a]
 ·simp[h,show ¬ i=k from fun e=>h e.symm]
theorem Words.set(h:Words l)(k:Nat)(h0:0<=x)(h1:x < 18446744073709551616):Words (l.set k x):=by
 intro y hy;rcases List.mem_or_eq_of_mem_set hy with e | e
 ·exact h y e
 ·subst e; exact⟨h0,h1⟩
theorem dF(h:k < l.length):l.take (k + 1)=l.take k ++ [nth l k]:=by
 rw[bT h,List.take_succ_eq_append_getElem h]
theorem aQ(h:Words l):0<=val l:=by
 induction l with
 | nil=>simp[val]
 | cons x l ih=>have:=h.head; have:=ih h.tail; simp only[val]; omega
theorem eB(a b:List Int):val (a ++ b)=val a + 18446744073709551616 ^ a.length * val b:=by
 induction a with
 | nil=>simp[val]
 | cons x a ih=>simp only[List.cons_append,val,ih,List.length_cons,Int.pow_succ]; grind
theorem ee(h:Words l):val l < 18446744073709551616 ^ l.length:=by
 induction l with
 | nil=>simp[val]
 | cons x l ih =>
  have:=h.head; have:=ih h.tail;simp only[val,List.length_cons,Int.pow_succ]; omega
theorem fK(x:Int):val [x]=x:=by simp[val]
theorem ed(h:k < l.length):val (l.take (k + 1))=val (l.take k) + 18446744073709551616 ^ k * nth l k:=by
 rw[dF h,eB,fK,List.length_take,Nat.min_eq_left (by omega)]
theorem bP(l:List Int)(k:Nat)(h:k<=l.length):val l=val (l.take k) + 18446744073709551616 ^ k * val (l.drop k):=by
 conv=>lhs; rw[<- List.take_append_drop k l]
 rw[eB,List.length_take,Nat.min_eq_left h]
theorem bJ(l:List Int):aJ l<=l.length:=by
 induction l with
 | nil=>simp[aJ]
 | cons x l ih=>simp only[aJ,List.length_cons]; split<;>(try split)<;>omega
theorem im:aJ l=0<->∀ i,nth l i=0:=by
 induction l with
 | nil=>simp[aJ,nth]
 | cons x l ih =>
  simp only[aJ];constructor
  ·intro h i;by_cases e:aJ l=0
   ·by_cases a:x=0
    ·cases i with
     | zero=>rw[bW,a]
     | succ i=>rw[cV]; exact ih.1 e i
    ·simp[e,a] at h
   ·simp[e] at h
  ·intro h
   have c:x=0:=by have:=h 0; rwa [bW] at this
   have b:aJ l=0:=ih.2 fun i=>by have:=h (i + 1); rwa [cV] at this
   simp[b,c]
theorem lp(d:k<=l.length)(b:∀ i,k<=i->nth l i=0)(c:k≠0->nth l (k - 1)≠0):aJ l=k:=by
 induction l generalizing k with
 | nil=>simp[aJ] at *; omega
 | cons x l ih =>
  cases k with
  | zero =>
   have:aJ (x :: l)=0:=im.2 fun i=>b i (Nat.zero_le _)
   exact this
  | succ k =>
   have e:aJ l=k:=ih (by simpa using d) (fun i hi=>by have:=b (i + 1) (by omega); rwa [cV] at this) (fun a=>by
    have:=c (by omega); rw[show k + 1 - 1=(k - 1) + 1 from by omega,cV] at this; exact this)
   simp only[aJ,e];by_cases a:k=0
   ·subst a;have:=c (by omega); rw[show (0 + 1 - 1)=0 from rfl,bW] at this;simp[this]
   ·simp[a]
theorem fN(h : aJ l ≤ i) : nth l i = 0 := by
  induction l generalizing i with
  | nil => simp[nth]
  | cons x l ih =>
    simp only[aJ] at h;by_cases e : aJ l = 0
    · simp only[e, if_true] at h
      cases i with
      | zero => by_cases a : x = 0
                · rw[bW, a]
                · simp[a] at h
      | succ i => rw[cV]; exact im.1 e i
    · simp only[e, if_false] at h
      cases i with
      | zero => omega
      | succ i => rw[cV]; exact ih (by omega)
theorem ko(h:aJ l≠0):nth l (aJ l - 1)≠0:=by
 induction l with
 | nil=>simp[aJ] at h
 | cons x l ih =>
  simp only[aJ] at h ⊢;by_cases e:aJ l=0
  ·simp only[e,if_true] at h ⊢;by_cases a:x=0
   ·simp[a] at h
   ·simp[a,bW]
  ·simp only[e,if_false] at h ⊢;have:=ih e;rw[show aJ l + 1 - 1=(aJ l - 1) + 1 from by omega,cV]; exact this
theorem aM(l:List Int):(norm l).length=aJ l:=by
 rw[norm,List.length_take,Nat.min_eq_left (bJ l)]
theorem iz(l:List Int)(i:Nat):nth (norm l) i=nth l i:=by
 by_cases h:i < aJ l
 ·exact dq h
 ·rw[gZ (by rw[aM]; omega),fN (by omega)]
theorem Words.norm(h:Words l):Words (norm l):=h.take _
theorem rv(l:List Int):aJ (norm l)=(norm l).length:=by
 rw[aM];apply lp (by rw[aM]; omega)
 ·intro i hi; rw[iz]; exact fN hi
 ·intro h; rw[iz]; exact ko h
theorem gI(h:∀ i,nth l i=0):val l=0:=by
 induction l with
 | nil=>rfl
 | cons x l ih =>
  have h0:=h 0; rw[bW] at h0;rw[val,h0,ih fun i=>by have:=h (i + 1); rwa [cV] at this]; rfl
theorem dh(l:List Int):val (norm l)=val l:=by
 rw[bP l (aJ l) (bJ l),gI (l:=l.drop (aJ l)) fun i=>by rw[dX]; exact fN (by omega)];simp[norm]
theorem cI(h:Words l):IsN (norm l) (val l):=⟨h.norm,rv l,dh l⟩
theorem Ii(h:IsN l n):norm l=l:=by
 rw[norm,h.2.1]; exact List.take_of_length_le (Nat.le_refl _)
theorem rR(h:Words l)(hn:aJ l≠0):0 < val l:=by
 induction l with
 | nil=>simp[aJ] at hn
 | cons x l ih =>
  have hx:=h.head; have hv:=aQ h.tail;simp only[val];by_cases e:aJ l=0
  ·simp only[aJ,e,if_true] at hn;have:x≠0:=by intro a; simp[a] at hn
   omega
  ·have:=ih h.tail e; omega
theorem cy(h:Words l):aJ l=0<->val l=0:=by
 constructor
 ·intro e; exact gI (im.1 e)
 ·intro e;by_cases n:aJ l=0
  ·exact n
  ·have:=rR h n; omega
theorem ft(h:Words l)(hn:aJ l≠0):18446744073709551616 ^ (aJ l - 1)<=val l:=by
 have e:=dh l;have a:=aM l;have hw:=h.norm;have hs:=bP (norm l) (aJ l - 1) (by omega)
 have b:(norm l).drop (aJ l - 1)=[nth l (aJ l - 1)]:=by
  apply nY
  ·simp[a]; omega
  ·intro i hi;simp[a] at hi;have:i=0:=by omega
   subst this;rw[dX,iz,bW]; rfl
 have f:=aQ (hw.take (aJ l - 1));have hx:=h.nth (aJ l - 1);have d:=ko hn
 have c:(0:Int) < 18446744073709551616 ^ (aJ l - 1):=Int.pow_pos (by decide);rw[b,fK] at hs;have:18446744073709551616 ^ (aJ l - 1) * 1<=18446744073709551616 ^ (aJ l - 1) * nth l (aJ l - 1):=Int.mul_le_mul_of_nonneg_left (by omega) (Int.le_of_lt c);omega
theorem jH(h:Words l):val l < 18446744073709551616 ^ aJ l:=by
 have:=ee h.norm;rwa [dh,aM] at this
theorem val_inj:∀ {a b:List Int},Words a->Words b->a.length=b.length->val a=val b->a=b
 | [],[],_,_,_,_=>rfl
 | x :: a,y :: b,ha,hb,hl,hv=>by
  have h1:=ha.head; have c:=hb.head;simp only[val] at hv
  have e:x=y:=by omega
  have e2:val a=val b:=by omega
  rw[e,val_inj ha.tail hb.tail (by simpa using hl) e2]
theorem jq{a b:Nat}(h:a<=b):(18446744073709551616:Int) ^ a<=18446744073709551616 ^ b:=by
 obtain⟨d,rfl⟩:=Nat.exists_eq_add_of_le h;rw[Int.pow_add]
 have c:(0:Int) < 18446744073709551616 ^ a:=Int.pow_pos (by decide)
 have e:(0:Int) < 18446744073709551616 ^ d:=Int.pow_pos (by decide);have:(18446744073709551616:Int) ^ a * 1<=18446744073709551616 ^ a * 18446744073709551616 ^ d:=Int.mul_le_mul_of_nonneg_left (by omega) (Int.le_of_lt c);omega
theorem de(ha:Words a)(hb:Words b)(h:aJ a < aJ b):val a < val b:=by
 have h1:=jH ha;have h2:=ft hb (by omega);have:=jq (show aJ a<=aJ b - 1 by omega);omega
theorem oQ(ha:Words a)(hb:Words b)(h:val a=val b):aJ a=aJ b:=by
 rcases Nat.lt_trichotomy (aJ a) (aJ b) with h1 | h1 | h1
 ·have:=de ha hb h1; omega
 ·exact h1
 ·have:=de hb ha h1; omega
theorem xy(ha:IsN a n)(hb:IsN b n):a=b:=by
 apply val_inj ha.1 hb.1
 ·rw[<- ha.2.1,<- hb.2.1]; exact oQ ha.1 hb.1 (ha.2.2.trans hb.2.2.symm)
 ·exact ha.2.2.trans hb.2.2.symm
theorem Ip(ha:Words a)(hb:Words b):norm a=norm b<->val a=val b:=by
 constructor
 ·intro h; rw[<- dh a,<- dh b,h]
 ·intro h; exact xy (n:=val b) (h▸cI ha) (cI hb)
end
end Lim
end
section
open Go.RowKit Lim
def Cells (w:World) (ao:Option Addr) (l:List Int):Prop :=
 l=[]\/∃ b o,ao=some ⟨b,o,none⟩/\∀ i,i < l.length->w.cell? ⟨b,o + i,none⟩=some (.int .u64 (nth l i))
theorem bL (ao:Option Addr) (n c:Nat) (l:List Int) (w:World) (hl:l.length=n) (hc:n<=c) (hb:n<=4398046511104) (aa:Cells w ao l) :
  Calls Tryz.prog 58 #[.slice ao n c] w fun e w'=>e=.returned (.slice ao (aJ l) (aJ l))/\w'=w:=by
 go_enter Tryz.func58,Tryz.ntmps58;go_wp2;go_loop [3] (fun t=>∃ k:Nat,k<=n/\t=.int .i64 k/\Hid (∀ i,k<=i->nth l i=0)) (fun t=>(intOf t).toNat)
 case atStart=>exact⟨n,Nat.le_refl _,rfl,fun i hi=>gZ (by omega)⟩
 case round =>
  obtain⟨k,hk,rfl,hz⟩:=hrel;by_cases hk0:0 < k
  ·rcases aa with e | ⟨b,o,rfl,aa⟩
   ·subst e; simp at hl; omega
   ·have hcx:=aa (k - 1) (by omega)
    have hcy:w.cell? ⟨b,o + k - 1,none⟩=some (.int .u64 (nth l (k - 1))):=by rw[<- hcx]; congr 2; omega
    clear aa;go_wp2
    ·go_round
     case rel=>exact⟨k - 1,by omega,by go_num,fun i hi=>by
      by_cases e:i=k - 1
      ·subst e; exact beq_iff_eq.1 (by assumption)
      ·exact hz.out i (by omega)⟩
     case measure=>simp[intOf]; omega
    ·go_ret;rw[lp (k:=k) (by omega) hz.out (fun _=>beq_eq_false_iff_ne.1 (by assumption))];exact⟨rfl,rfl⟩
  ·go_wp2;go_ret;rw[lp (k:=k) (by omega) hz.out (fun _=>by omega)];exact⟨rfl,rfl⟩
end
section
open Go.RowKit Lim
def bor (x y:Int):Int:=if x < y then 1 else 0
theorem uo (x y:Int) (hx:0<=x) (hy:0<=y) (w:World):(callFunc 90 #[.int .u64 x,.int .u64 y,.int .u64 0]).run Tryz.prog w =
  .ok (.value (.tuple #[.int .u64 ((x + y) % 18446744073709551616),.int .u64 ((x + y) / 18446744073709551616)])) w:=by
 obtain⟨x,rfl⟩:=Int.eq_ofNat_of_zero_le hx;obtain⟨y,rfl⟩:=Int.eq_ofNat_of_zero_le hy;rw[run_callFunc_extern Tryz.func90 (by kernel_rfl) (by kernel_rfl) (by kernel_rfl) (e:=add64Entry) (by kernel_rfl),run_add64 (P:=Tryz.prog) x y 0 (by omega) (by omega) (by omega) (by omega),Int.add_zero];rfl
theorem FR (x y:Int) (hx:0<=x) (w:World):(callFunc 90 #[.int .u64 x,.int .u64 (y % 18446744073709551616),.int .u64 0]).run Tryz.prog w =
  .ok (.value (.tuple #[.int .u64 ((x + y % 18446744073709551616) % 18446744073709551616),.int .u64 ((x + y % 18446744073709551616) / 18446744073709551616)])) w :=
 uo x _ hx (Int.emod_nonneg _ (by decide)) w
theorem Ie (x y:Int) (hx:0<=x) (b:x < 18446744073709551616) (hy:0<=y) (a:y < 18446744073709551616) (w:World):(callFunc 168 #[.int .u64 x,.int .u64 y,.int .u64 0]).run Tryz.prog w =
  .ok (.value (.tuple #[.int .u64 ((x - y) % 18446744073709551616),.int .u64 (bor x y)])) w:=by
 obtain⟨x,rfl⟩:=Int.eq_ofNat_of_zero_le hx;obtain⟨y,rfl⟩:=Int.eq_ofNat_of_zero_le hy
 have this:(callFunc 168 #[.int .u64 (x:Int),.int .u64 (y:Int),.int .u64 0]).run Tryz.prog w =
   .ok (.value (.tuple #[.int .u64 (((x + 18446744073709551616 - y - 0) % 18446744073709551616:Nat):Int),.int .u64 ((if x < y + 0 then 1 else 0:Nat):Int)])) w:=by kernel_rfl
 rw[this]
 have e1:(((x + 18446744073709551616 - y - 0) % 18446744073709551616:Nat):Int)=((x:Int) - y) % 18446744073709551616:=by omega
 have e2:((if x < y + 0 then 1 else 0:Nat):Int)=bor x y:=by unfold bor; split<;>split<;>omega
 rw[e1,e2]
theorem qo {k k':IntKind} {a b c d:Int} (h:a=b) (h':c=d):Ending.returned (.tuple #[.int k a,.int k' c])=.returned (.tuple #[.int k b,.int k' d]):=by rw[h,h']
theorem u4 (z:Int) (h0:0<=z) (h1:z < 18446744073709551616):bits .and .u64 z 4294967295=z % 4294967296:=and_low32 z h0 h1
theorem mul64 (x y:Int) (hx:0<=x) (ab:x < 18446744073709551616) (hy:0<=y) (aa:y < 18446744073709551616) (w:World) :
  Calls Tryz.prog 89 #[.int .u64 x,.int .u64 y] w fun e w'=>e=.returned (.tuple #[.int .u64 (x * y / 18446744073709551616),.int .u64 (x * y % 18446744073709551616)])/\w'=w:=by
 go_enter Tryz.func89,Tryz.ntmps89;go_wp2;go_ret2;refine⟨qo ?_ ?_,rfl⟩
 ·show IntKind.u64.wrap (IntKind.u64.wrap (IntKind.u64.wrap (x / 4294967296 * (y / 4294967296)) + IntKind.u64.wrap (IntKind.u64.wrap (x / 4294967296 * bits BinOp.and IntKind.u64 y 4294967295) + IntKind.u64.wrap (bits BinOp.and IntKind.u64 x 4294967295 * bits BinOp.and IntKind.u64 y 4294967295) / 4294967296) / 4294967296) + IntKind.u64.wrap (bits BinOp.and IntKind.u64 (IntKind.u64.wrap (IntKind.u64.wrap (x / 4294967296 * bits BinOp.and IntKind.u64 y 4294967295) + IntKind.u64.wrap (bits BinOp.and IntKind.u64 x 4294967295 * bits BinOp.and IntKind.u64 y 4294967295) / 4294967296)) 4294967295 + IntKind.u64.wrap (bits BinOp.and IntKind.u64 x 4294967295 * (y / 4294967296))) / 4294967296)=_
  simp only[IntKind.wrap_u64];rw[u4 x hx ab,u4 y hy aa,u4 _ (Int.emod_nonneg _ (by decide)) (Int.emod_lt_of_pos _ (by decide))];exact mul64_arith x y hx ab hy aa
 ·show IntKind.u64.wrap (x * y)=_
  rw[IntKind.wrap_u64]
theorem oA (x y:Int) (hx:0<=x) (b:x < 18446744073709551616) (hy:0<=y) (a:y < 18446744073709551616) (w:World) :
  Calls Tryz.prog 89 #[.int .u64 x,.int .u64 y] w fun e w'=>∃ hi lo:Int,e=.returned (.tuple #[.int .u64 hi,.int .u64 lo])/\0<=hi/\hi<=18446744073709551614/\0<=lo/\lo < 18446744073709551616/\Hid (hi * 18446744073709551616 + lo=x * y)/\w'=w:=by
 refine(mul64 x y hx b hy a w).mono ?_
 rintro e w' ⟨rfl,rfl⟩
 have c:0<=x * y:=Int.mul_nonneg hx hy
 have d:x * y<=18446744073709551615 * 18446744073709551615:=Int.mul_le_mul (by omega) (by omega) hy (by decide);exact⟨_,_,rfl,by omega,by omega,by omega,by omega,by show _=_; omega,rfl⟩
end
section
open Go.RowKit Lim
section
variable {w w1 w':World}{ao ao':Option Addr}{b o n o' n' i k B b':Nat}{l m:List Int}{v:Value}
structure At(w:World)(ao:Option Addr)(b o:Nat)(l:List Int):Prop where
 loc:l=[]\/ao=some ⟨b,o,none⟩
 cell:∀ i,i < l.length->w.cell? ⟨b,o + i,none⟩=some (.int .u64 (nth l i))
theorem At.cells(h:At w ao b o l):Cells w ao l:=by
 rcases h.loc with e | e
 ·exact .inl e
 ·exact .inr ⟨b,o,e,h.cell⟩
theorem Cells.at(h:Cells w ao l):∃ b o,At w ao b o l:=by
 rcases h with e | ⟨b,o,e,h⟩
 ·exact⟨0,0,.inl e,fun i hi=>by subst e; simp at hi⟩
 ·exact⟨b,o,.inr e,h⟩
def dW(w:World)(b o n:Nat):Prop:=∀ i,i < n->w.frozen? ⟨b,o + i,none⟩=false
structure Wr(b o n:Nat)(w w':World):Prop where
 os:w'.os=w.os
 tape:w'.tape=w.tape
 output:w'.output=w.output
 size:w'.heap.size=w.heap.size
 block:∀ k,k≠b->w'.heap[k]? = w.heap[k]?
 cell:∀ i,(i < o\/o + n<=i)->w'.cell? ⟨b,i,none⟩=w.cell? ⟨b,i,none⟩
 frozen:∀ i,w'.frozen? ⟨b,i,none⟩=w.frozen? ⟨b,i,none⟩
theorem Wr.refl(b o n:Nat)(w:World):Wr b o n w w:=⟨rfl,rfl,rfl,rfl,fun _ _=>rfl,fun _ _=>rfl,fun _=>rfl⟩
theorem Wr.trans{w2:World}(h:Wr b o n w w1)(k:Wr b o n w1 w2):Wr b o n w w2 :=
 ⟨k.os.trans h.os,k.tape.trans h.tape,k.output.trans h.output,k.size.trans h.size,fun i hi=>(k.block i hi).trans (h.block i hi),fun i hi=>(k.cell i hi).trans (h.cell i hi),fun i=>(k.frozen i).trans (h.frozen i)⟩
theorem Wr.mono(h:Wr b o n w w')(h1:o'<=o)(h2:o + n<=o' + n'):Wr b o' n' w w' :=
 ⟨h.os,h.tape,h.output,h.size,h.block,fun i hi=>h.cell i (by omega),h.frozen⟩
theorem Wr.setCell(h:Wr b o n w w1)(e:o<=i)(c:i < o + n)(v:Value):Wr b o n w (w1.setCell ⟨b,i,none⟩ v) :=
 h.trans ⟨rfl,rfl,rfl,by simp[World.setCell],fun k a=>Below.heap_setCell _ _ _ _ a,fun j d=>by
   simp only[World.cell?,World.setCell,Array.getElem?_modify,if_true]
   cases hh:w1.heap[b]? with
   | none=>simp
   | some ob =>
    cases ob<;>simp
    rw[Array.getElem?_setIfInBounds,if_neg (by omega)],fun j=>by
   simp only[World.frozen?,World.setCell,Array.getElem?_modify,if_true]
   cases hh:w1.heap[b]? with
   | none=>simp
   | some ob=>cases ob<;>simp⟩
theorem Wr.other(h:Wr b o n w w')(hk:k≠b):w'.cell? ⟨k,i,none⟩=w.cell? ⟨k,i,none⟩:=World.cell?_of_block (w:=w) (h.block k hk)
theorem Wr.below(h:Wr b o n w w')(hB:B<=b):Below B w w' :=
 ⟨h.os,h.tape,h.output,by rw[h.size]; exact Nat.le_refl _,fun k hk=>h.block k (by omega)⟩
theorem Wr.free(h:Wr b o n w w')(k:dW w b' o' n'):dW w' b' o' n':=by
 intro i hi;by_cases e:b'=b
 ·subst e; rw[h.frozen]; exact k i hi
 ·rw[World.frozen?_of_block (w:=w) (h.block b' e)]; exact k i hi
theorem At.wr(h:Wr b o n w w')(k:At w ao b' o' l)(hb:l=[]\/b'≠b):At w' ao b' o' l :=
 ⟨k.loc,fun i hi=>by
  rcases hb with e | e
  ·subst e; simp at hi
  ·rw[h.other e]; exact k.cell i hi⟩
theorem At.wr_out(h:Wr b o n w w')(k:At w ao b' o' l)(hb:o' + l.length<=o\/o + n<=o'):At w' ao b' o' l :=
 ⟨k.loc,fun i hi=>by
  by_cases e:b'=b
  ·subst e; rw[h.cell _ (by omega)]; exact k.cell i hi
  ·rw[h.other e]; exact k.cell i hi⟩
theorem At.below(h:Below B w w')(k:At w ao b o l)(hb:l=[]\/b < B):At w' ao b o l :=
 ⟨k.loc,fun i hi=>by
  rcases hb with e | e
  ·subst e; simp at hi
  ·rw[h.cell (p:=⟨b,o + i,none⟩) e]; exact k.cell i hi⟩
theorem aK(h:w.cell? ⟨b,o,none⟩=some v):b < w.heap.size:=by
 simp only[World.cell?] at h;by_cases hb:b < w.heap.size
 ·exact hb
 ·rw[Array.getElem?_eq_none (by omega)] at h; simp at h
theorem At.lt(k:At w ao b o l):l=[]\/b < w.heap.size:=by
 cases l with
 | nil=>exact .inl rfl
 | cons x l=>exact .inr (aK (k.cell 0 (by simp)))
theorem At.keep(h:Below w.heap.size w w')(k:At w ao b o l):At w' ao b o l:=k.below h k.lt
theorem At.setCell(k : At w ao b o l)(hi : i < l.length)(x : Int) : At (w.setCell ⟨b, o + i, none⟩ (.int .u64 x)) ao b o (l.set i x) :=
  ⟨by rcases k.loc with e | e
      · subst e; simp at hi
      · exact .inr e, fun j g => by
    rw[List.length_set] at g;have hc := k.cell j g;rw[ep hi];have a := k.cell i hi;simp only[World.cell?, World.setCell, Array.getElem?_modify, if_true] at hc a ⊢
    cases hh : w.heap[b]? with
    | none => rw[hh] at hc; simp at hc
    | some ob =>
      rw[hh] at hc a
      cases ob with
      | cells c e f =>
        simp at hc a ⊢;rw[Array.getElem?_setIfInBounds];by_cases e : j = i
        · subst e
          obtain⟨d, _⟩:= Array.getElem?_eq_some_iff.1 a;simp[d]
        · rw[if_neg (by omega), if_neg e]; exact hc
      | _ => simp at hc⟩
theorem At.drew(h:At w ao b o l):At w.drew ao b o l:=⟨h.loc,h.cell⟩
theorem dW.drew(h:dW w b o n):dW w.drew b o n:=h
theorem Wr.drew(h:Wr b o n w w'):Wr b o n w w'.drew:=⟨h.os,h.tape,h.output,h.size,h.block,h.cell,h.frozen⟩
theorem At.drewN(h:At w ao b o l)(n:Nat):At (w.drewN n) ao b o l:=⟨h.loc,h.cell⟩
theorem dW.drewN(h:dW w b o n)(k:Nat):dW (w.drewN k) b o n:=h
theorem Wr.drewN(h:Wr b o n w w')(k:Nat):Wr b o n w (w'.drewN k):=⟨h.os,h.tape,h.output,h.size,h.block,h.cell,h.frozen⟩
def patch(l:List Int)(k:Nat)(m:List Int):List Int:=l.take k ++ (m ++ l.drop (k + m.length))
theorem gE(h:k + m.length<=l.length):(patch l k m).length=l.length:=by simp[patch]; omega
theorem nM(hl:Words l)(hm:Words m):Words (patch l k m):=(hl.take k).append (hm.append (hl.drop _))
theorem rI(h:k + m.length<=l.length)(hi:i < m.length):nth (patch l k m) (k + i)=nth m i:=by
 have e:(l.take k).length=k:=by simp; omega
 rw[patch,bV (by omega),e,Nat.add_sub_cancel_left,dz hi]
theorem qx(h:k + m.length<=l.length)(hi:i < k\/k + m.length<=i):nth (patch l k m) i=nth l i:=by
 have e:(l.take k).length=k:=by simp; omega
 rcases hi with hi | hi
 ·rw[patch,dz (by omega),dq hi]
 ·rw[patch,bV (by omega),e,bV (by omega),dX]; congr 1; omega
theorem qM(h:k + m.length<=l.length):val (patch l k m)=val l + 18446744073709551616 ^ k * (val m - val ((l.drop k).take m.length)):=by
 have e:(l.take k).length=k:=by simp; omega
 have b:=bP l k (by omega);have a:=bP (l.drop k) m.length (by simp; omega);rw[List.drop_drop] at a;rw[patch,eB,eB,e,b,a];grind
theorem At.patch(h : At w ao b o l)(hw : Wr b (o + k) n w w')(hm : At w' ao' b (o + k) m)(hn : m.length = n)(c : k + n ≤ l.length) : At w' ao b o (patch l k m) :=
  ⟨by rcases h.loc with e | e
      · left; subst e; simp at c; simp[Go.Proofs.YthfepflplbahkaaGreatDoor.patch, List.eq_nil_of_length_eq_zero (show m.length = 0 by omega)]
      · exact .inr e, fun i hi => by
    rw[gE (by omega)] at hi;by_cases a : k ≤ i ∧ i < k + n
    · obtain⟨j, rfl⟩:= Nat.exists_eq_add_of_le a.1
      rw[rI (by omega) (by omega), ← hm.cell j (by omega), Nat.add_assoc]
    · rw[qx (by omega) (by omega), hw.cell _ (by omega)]; exact h.cell i hi⟩
theorem At.gO(h:At w ao b o l)(k n:Nat):At w (some ⟨b,o + k,none⟩) b (o + k) ((l.drop k).take n) :=
 ⟨.inr rfl,fun i hi=>by
  simp only[List.length_take,List.length_drop] at hi
  rw[dq (by omega),dX,Nat.add_assoc]; exact h.cell _ (by omega)⟩
theorem dW.gO(h:dW w b o n){m:Nat}(hk:k + m<=n):dW w b (o + k) m:=fun i hi=>by
 rw[Nat.add_assoc]; exact h _ (by omega)
theorem At.sub(k : At w ao b o l)(n : Nat) : At w ao b o (l.take n) :=
  ⟨by rcases k.loc with e | e
      · subst e; exact .inl (by simp)
      · exact .inr e, fun i hi => by
    rw[List.length_take] at hi
    rw[dq (by omega)]; exact k.cell i (by omega)⟩
end
end
section
open Go.RowKit Lim
section
variable {w:World}{g:Nat}{l:List Int}{ops:Array Oper}{rest:List Oper}{o:Oper}{a:Act}
theorem iB:(Tryz.prog.info? 22).map (fun i=>(i.zero,i.size,i.bytes))=some (some (.int .u64 0),1,8):=by kernel_rfl
theorem iC:Tryz.prog.underlying 30=some (.slice 22):=by kernel_rfl
def Row(w:World)(g:Nat)(l:List Int):Prop:=w.heap[g]? = some (.cells (l.map (Value.int .u64)).toArray 22 (0,0))
theorem Row.at(h:Row w g l):At w (some ⟨g,0,none⟩) g 0 l :=
 ⟨.inr rfl,fun i hi=>by
  unfold Row at h;simp only[World.cell?,h]
  simp[bT hi,hi]⟩
theorem Row.free(h:Row w g l)(o n:Nat):dW w g o n:=by
 intro i _;unfold Row at h;simp[World.frozen?,h]
theorem Row.lt(h:Row w g l):g < w.heap.size:=(Array.getElem?_eq_some_iff.1 h).1
structure ey(w w':World)(v:Value)(l:List Int):Prop where
 is:∃ ao b o c,v=.slice ao l.length c/\l.length<=c/\w.heap.size<=b/\At w' ao b o l/\dW w' b o l.length
theorem pJ(n:Nat):madeCells (Value.int .u64 0).cells n=((List.replicate n 0).map (Value.int .u64)).toArray:=by
 apply Array.ext
 ·simp[size_madeCells]
 ·intro j b a;simp[madeCells,Value.cells,Nat.mod_one]
theorem dB{Q:Exit->Act->World->Prop}(j:o.guard=none)(l c:Operand)(e:o.op=Op.makeSlice 30 l c)(n:Nat)(L C:Int)(f:a.eval l=.int .i64 L)(hc:a.eval c=.int .i64 C)(hL:L=(n:Int))(hC:C=(n:Int))(hn:n<=17592186044416)(h:∀ w',Row w' w.heap.size (List.replicate n 0)->Below w.heap.size w w'->w'.heap.size=w.heap.size + 1->wpList Tryz.prog ops Q rest (a.put o.dst (.slice (some ⟨w.heap.size,0,none⟩) n n)) w') :
  wpList Tryz.prog ops Q (o :: rest) a w:=by
 obtain⟨i,hi,g,hs,hb⟩:=info_parts iB;refine wpList_plain j fun K d => ?_
 have b:=run_make (P:=Tryz.prog) w 30 22 i (.int .u64 0) iC hi g .i64 .i64 (n:Int) (n:Int) (by omega) (by omega) (by rw[hb]; omega) (by omega);subst hL;subst hC;unfold Oper.wp;simp only[execOp,e,f,hc];simp[b,Result.andThen];refine d _ _ (h _ ?_ ?_ ?_)
 ·show (w.heap.push _)[w.heap.size]? = _
  rw[Array.getElem?_push_size,hs,Nat.mul_one,pJ]
 ·exact(Below.refl _ _).alloc (Nat.le_refl _) _
 ·simp
theorem iY{Q:Exit->Act->World->Prop}(m:o.guard=none)(d s:Operand)(B:o.op=.call { callee:=.builtin .copy,args:=#[d,s],argTypes:=#[30,30] })(g dLen dCap sLen sCap:Nat)(sp:Option Addr)(A:a.eval d=.slice (some ⟨g,0,none⟩) dLen dCap)(hs:a.eval s=.slice sp sLen sCap)(lz ls:List Int)(b:Row w g lz)(u:lz.length=dLen)(b' o':Nat)(l:ls.length=sLen)(hle:sLen<=dLen)(q:At w sp b' o' ls)(h:∀ w',Row w' g (ls ++ lz.drop sLen)->Wr g 0 dLen w w'->wpList Tryz.prog ops Q rest (a.put o.dst (goInt sLen)) w'):wpList Tryz.prog ops Q (o :: rest) a w:=by
 obtain⟨i,hi,E,r,hb⟩:=info_parts iB
 have f:(Tryz.prog.info? 22).map (·.size)=some 1:=by rw[hi]; simp[r]
 by_cases t:sLen=0
 ·have D:ls=[]:=List.eq_nil_of_length_eq_zero (by omega);subst D;refine wpList_copy_nothing m d s _ _ B _ iC f _ sp dLen dCap sLen sCap A hs (by subst t; exact Nat.zero_min _) ?_
  have:=h w (by rw[t]; simpa using b) (Wr.refl _ _ _ _);rwa [t] at this
 ·obtain rfl:sp=some ⟨b',o',none⟩:=by
   rcases q.loc with e | e
   ·subst e; simp at l; omega
   ·exact e
  have n:Nat.min sLen dLen=sLen:=Nat.min_eq_left hle
  have hlen:(ls.map (Value.int .u64)).length=sLen:=by simp[l]
  refine wpList_copy_own m d s _ _ B _ iC f g 0 dLen dCap ⟨b',o',none⟩ sLen sCap A hs _ _ b (ls.map (Value.int .u64)) (by rw[n,hlen]) ?_ (by simp[l,u]; omega) (ints_oneCell _ _) ?_
  ·intro j v hv;rw[List.getElem?_map] at hv
   have c:j < ls.length:=by
    rcases Nat.lt_or_ge j ls.length with c | c
    ·exact c
    ·rw[List.getElem?_eq_none c] at hv; simp at hv
   rw[List.getElem?_eq_getElem c] at hv;simp at hv;subst hv;have:=q.cell j c;rw[bT c] at this;rw[<- this];by_cases p:j=0
   ·subst p; exact congrArg w.cell? (by simp[Addr.add])
   ·exact congrArg w.cell? (by simp[Addr.add,p])
  ·rw[hlen]
   have z:Row (w.setRow g (List.take 0 (List.map (Value.int .u64) lz).toArray.toList ++ (List.map (Value.int .u64) ls ++ List.drop (0 + sLen) (List.map (Value.int .u64) lz).toArray.toList)).toArray) g (ls ++ lz.drop sLen):=by
    unfold Row;rw[setRow_heap w g _ _ _ _ b,Nat.zero_add];simp only[List.take_zero,List.nil_append,<- List.map_drop,<- List.map_append]
   refine h _ z ⟨rfl,rfl,rfl,by simp[World.setRow],fun k C=>setRow_other w g k _ C,fun j c => ?_,fun j => ?_⟩
   ·have y:w.heap[g]? = _:=b
    have x:(w.setRow g (List.take 0 (List.map (Value.int .u64) lz).toArray.toList ++ (List.map (Value.int .u64) ls ++ List.drop (0 + sLen) (List.map (Value.int .u64) lz).toArray.toList)).toArray).heap[g]? = _:=z;simp only[World.cell?,y,x];simp;rw[List.getElem?_eq_none (by simp; omega),List.getElem?_eq_none (by omega)];rfl
   ·have y:w.heap[g]? = _:=b
    have x:(w.setRow g (List.take 0 (List.map (Value.int .u64) lz).toArray.toList ++ (List.map (Value.int .u64) ls ++ List.drop (0 + sLen) (List.map (Value.int .u64) lz).toArray.toList)).toArray).heap[g]? = _:=z;simp only[World.frozen?,y,x]
end
end
section
open Go.RowKit Lim
section
variable {x y:Int}{l a b:List Int}
def sgn(x y:Int):Int:=if x < y then -1 else if y < x then 1 else 0
theorem jD(h:x < y):sgn x y = -1:=by simp[sgn,h]
theorem kL(h:y < x):sgn x y=1:=by simp only[sgn]; rw[if_neg (by omega),if_pos h]
theorem sw(h:x=y):sgn x y=0:=by simp[sgn,h]
theorem iE(l:List Int):val l=nth l 0 + 18446744073709551616 * val l.tail:=by
 cases l with
 | nil=>simp[val,nth]
 | cons x l=>simp[val,nth]
theorem gS(l:List Int)(i:Nat):nth l.tail i=nth l (i + 1):=by
 cases l with
 | nil=>simp[nth]
 | cons x l=>simp[nth]
theorem Lim.Words.tl(h:Words l):Words l.tail:=fun x hx=>h x (List.mem_of_mem_tail hx)
theorem rJ:∀ {a b:List Int},(∀ i,nth a i=nth b i)->val a=val b
 | [],b,h=>by rw[gI (l:=b) fun i=>by rw[<- h i,zC]]; rfl
 | x :: a,b,h=>by
  rw[iE (x :: a),iE b,h 0,List.tail_cons,rJ (a:=a) (b:=b.tail) fun i=>by rw[gS,<- h (i + 1),cV]]
theorem mW:∀ (h:Nat) {a b:List Int},Words a->Words b->(∀ i,h < i->nth a i=nth b i)->nth a h < nth b h->val a < val b
 | 0,a,b,_,_,he,hl=>by
  rw[iE a,iE b,rJ (a:=a.tail) (b:=b.tail) fun i=>by rw[gS,gS]; exact he _ (by omega)];omega
 | h + 1,a,b,ha,hb,he,hl=>by
  have:=mW h ha.tl hb.tl (fun i hi=>by rw[gS,gS]; exact he _ (by omega)) (by rw[gS,gS]; exact hl);have d:=ha.nth 0; have c:=hb.nth 0;rw[iE a,iE b];omega
theorem sgn_at(e:Words a)(hb:Words b)(h:Nat)(he:∀ i,h < i->nth a i=nth b i)(d:nth a h≠nth b h):sgn (nth a h) (nth b h)=sgn (val a) (val b):=by
 rcases Int.lt_or_gt_of_ne d with c | c
 ·rw[jD c,jD (mW h e hb he c)]
 ·rw[kL c,kL (mW h hb e (fun i hi=>(he i hi).symm) c)]
theorem C8(e:Words a)(hb:Words b)(d:aJ a≠aJ b):sgn (aJ a) (aJ b)=sgn (val a) (val b):=by
 rcases Nat.lt_or_gt_of_ne d with c | c
 ·rw[jD (by omega),jD (de e hb c)]
 ·rw[kL (by omega),kL (de hb e c)]
theorem uL(x y:Int)(w:World):Calls Tryz.prog 60 #[.int .i64 x,.int .i64 y] w fun e w'=>e=.returned (.int .i64 (sgn x y))/\w'=w:=by
 rcases Int.lt_trichotomy x y with h | h | h
 ·rw[jD h];go_enter Tryz.func60,Tryz.ntmps60;go_wp2;go_ret;exact⟨rfl,rfl⟩
 ·rw[sw h]; subst h;go_enter Tryz.func60,Tryz.ntmps60;go_wp2;go_ret;exact⟨rfl,rfl⟩
 ·rw[kL h]
  have h':¬ x < y:=by omega
  go_enter Tryz.func60,Tryz.ntmps60;go_wp2;go_ret;exact⟨rfl,rfl⟩
theorem uw(x y:Int)(w:World):Calls Tryz.prog 61 #[.int .u64 x,.int .u64 y] w fun e w'=>e=.returned (.int .i64 (sgn x y))/\w'=w:=by
 rcases Int.lt_trichotomy x y with h | h | h
 ·rw[jD h];go_enter Tryz.func61,Tryz.ntmps61;go_wp2;go_ret;exact⟨rfl,rfl⟩
 ·rw[sw h]; subst h;go_enter Tryz.func61,Tryz.ntmps61;go_wp2;go_ret;exact⟨rfl,rfl⟩
 ·rw[kL h]
  have h':¬ x < y:=by omega
  go_enter Tryz.func61,Tryz.ntmps61;go_wp2;go_ret;exact⟨rfl,rfl⟩
theorem mN{k:IntKind}{a b:Int}(h:a=b):Ending.returned (.int k a)=.returned (.int k b):=by rw[h]
theorem jT(ao:Option Addr)(n c b o:Nat)(ao':Option Addr)(n' c' b' o':Nat)(l l':List Int)(w:World)(hl:l.length=n)(hl':l'.length=n')(hc:n<=c)(hc':n'<=c')(hbig:n<=1099511627776)(hbig':n'<=1099511627776)(wl:Words l)(wl':Words l')(ha:At w ao b o l)(ha':At w ao' b' o' l') :
  Calls Tryz.prog 26 #[.slice ao n c,.slice ao' n' c'] w fun e w'=>e=.returned (.int .i64 (sgn (val l) (val l')))/\Below w.heap.size w w':=by
 have hn:=bJ l
 have hn':=bJ l';have t1:=bL ao n c l w hl hc (by omega) ha.cells;have t2:=bL ao' n' c' l' w hl' hc' (by omega) ha'.cells
 have hab:∀ i,aJ l<=i->nth l i=0:=fun i hi=>fN hi
 have hab':∀ i,aJ l'<=i->nth l' i=0:=fun i hi=>fN hi
 have hsn:Hid (aJ l≠aJ l'->sgn (aJ l) (aJ l')=sgn (val l) (val l')):=C8 wl wl'
 have H0:Hid (∀ i,aJ l<=i->nth l i=0):=hab
 have H0':Hid (∀ i,aJ l'<=i->nth l' i=0):=hab';clear hab hab';generalize aJ l=N at *;generalize aJ l'=N' at *;go_enter Tryz.func26,Tryz.ntmps26;go_wp2_with fail;refine t1.mono ?_
 rintro e w1 ⟨rfl,rfl⟩;go_wp2_with fail;refine t2.mono ?_
 rintro e w2 ⟨rfl,rfl⟩;clear t1 t2;by_cases hne:N=N'
 ·subst hne;go_wp2_with fail;go_loopw [25] (fun ti wr=>∃ k:Nat,k<=N/\ti=.int .i64 k/\Hid (∀ i,N - k<=i->nth l i=nth l' i)/\Below w2.heap.size w2 wr) (fun ti _=>N - (intOf ti).toNat)
  case atStart=>exact⟨0,Nat.zero_le _,rfl,fun i hi=>by rw[H0.out i (by omega),H0'.out i (by omega)],Below.refl _ _⟩
  case round =>
   obtain⟨k,hk,rfl,hz,hbe⟩:=hrel;by_cases hlt:k < N
   ·have hat:=ha.keep hbe
    have hat':=ha'.keep hbe;rcases ha.loc with e | rfl
    ·subst e; simp at hn; omega
    rcases ha'.loc with e | rfl
    ·subst e; simp at hn'; omega
    obtain⟨h,hh⟩:∃ h:Nat,N=h + 1 + k:=⟨N - 1 - k,by omega⟩
    have q1:=hat.cell h (by omega);have q2:=hat'.cell h (by omega)
    have HN:Hid (N=h + 1 + k):=hh
    have hidx:(N:Int) - 1 - k=h:=by omega
    have HZ:Hid (∀ i,h < i->nth l i=nth l' i):=fun i hi=>hz.out i (by omega)
    have HS:Hid (nth l h≠nth l' h->sgn (nth l h) (nth l' h)=sgn (val l) (val l')):=sgn_at wl wl' h HZ.out
    have hh0:(h:Int) < N:=by omega
    clear hh hz H0 H0' hsn ha ha' hat hat' wl wl';generalize hx:nth l h=x at *;generalize hy:nth l' h=y at *
    have HX:Hid (x=y->nth l h=nth l' h):=fun e=>hx.trans (e.trans hy.symm)
    clear hx hy;by_cases hd:x=y
    ·have HY:Hid (nth l h=nth l' h):=HX.out hd;clear HX;subst hd;go_wp2_with fail;go_quiet (fail);go_wp2;go_roundw
     case rel=>exact⟨k + 1,by omega,by go_num,fun i hi=>by
      by_cases e:i=h
      ·subst e; exact HY.out
      ·exact HZ.out i (by have:=HN.out; omega),below_drewN hbe _⟩
     case measure=>simp[intOf]; omega
    ·have hd':(x != y)=true:=by rw[bne_iff_ne]; exact hd
     go_wp2_with fail;go_quiet (fail);go_wp2_with fail
     have q3:(wr.drewN nq).cell? ⟨b,o + h,none⟩=some (.int .u64 x):=q1
     have q4:(wr.drewN nq).cell? ⟨b',o' + h,none⟩=some (.int .u64 y):=q2;have hbf:=below_drewN hbe nq;clear q1 q2 hbe;generalize wr.drewN nq=W at *;go_quiet ((go_at_call 61; exact Calls.quiet_of_same (uw _ _ _)));go_wp2;go_ret;exact⟨mN (HS.out hd),below_drewN hbf _⟩
   ·have hkN:k=N:=by omega
    subst hkN;go_wp2;go_ret;rw[sw (rJ fun i=>hz.out i (by omega))];exact⟨rfl,hbe⟩
 ·have hb1:((N:Int) != (N':Int))=true:=by rw[bne_iff_ne]; omega
  go_wp2_with (go_at_call 60; refine(uL _ _ _).mono ?_; rintro e w' ⟨rfl,rfl⟩);go_ret;exact⟨mN (hsn.out hne),Below.refl _ _⟩
end
end
section
open Go.RowKit Lim
section
variable {n:Nat}
theorem w64(z:Int)(h0:0<=z)(h1:z<=1000):wrap64 z=z:=by
 unfold wrap64; omega
theorem iO(k:Int)(i:Nat)(h0:0<=k)(hk:k<=56)(h:i < 256):wrap64 (k + wrap64 (bitLen i:Int))=k + bitLen i:=by
 have:=bitLen_le8 i h;rw[w64 (bitLen i) (by omega) (by omega),w64 _ (by omega) (by omega)]
theorem kF(x:Int)(b i:Nat)(h:x.toNat / 2 ^ b=i)(hi:i≠0):((bitLen x.toNat:Nat):Int)=b + bitLen i:=by
 rw[bitLen_shift x.toNat b (by rw[h]; exact hi),h]; omega
theorem len64(x:Int)(w:World)(h0:0<=x)(h1:x < 18446744073709551616) :
  Calls Tryz.prog 139 #[.int .u64 x] w fun e w'=>e=.returned (.int .i64 (bitLen x.toNat))/\w'=w:=by
 by_cases c0:4294967296<=x
 ·by_cases c1:65536<=x / 4294967296
  ·by_cases c2:256<=x / 4294967296 / 65536
   ·go_enter Tryz.func139,Tryz.ntmps139;go_wp2;go_ret;refine⟨mN ?_,rfl⟩;rw[len8tab_get,iO 56 (x / 4294967296 / 65536 / 256).toNat (by decide) (by decide) (by omega),kF x 56 (x / 4294967296 / 65536 / 256).toNat (by rw[show (2:Nat) ^ 56=72057594037927936 from rfl]; omega) (by omega)];rfl
   ·go_enter Tryz.func139,Tryz.ntmps139;go_wp2;go_ret;refine⟨mN ?_,rfl⟩;rw[len8tab_get,iO 48 (x / 4294967296 / 65536).toNat (by decide) (by decide) (by omega),kF x 48 (x / 4294967296 / 65536).toNat (by rw[show (2:Nat) ^ 48=281474976710656 from rfl]; omega) (by omega)];rfl
  ·by_cases c2:256<=x / 4294967296
   ·go_enter Tryz.func139,Tryz.ntmps139;go_wp2;go_ret;refine⟨mN ?_,rfl⟩;rw[len8tab_get,iO 40 (x / 4294967296 / 256).toNat (by decide) (by decide) (by omega),kF x 40 (x / 4294967296 / 256).toNat (by rw[show (2:Nat) ^ 40=1099511627776 from rfl]; omega) (by omega)];rfl
   ·go_enter Tryz.func139,Tryz.ntmps139;go_wp2;go_ret;refine⟨mN ?_,rfl⟩;rw[len8tab_get,iO 32 (x / 4294967296).toNat (by decide) (by decide) (by omega),kF x 32 (x / 4294967296).toNat (by rw[show (2:Nat) ^ 32=4294967296 from rfl]; omega) (by omega)];rfl
 ·by_cases c1:65536<=x
  ·by_cases c2:256<=x / 65536
   ·go_enter Tryz.func139,Tryz.ntmps139;go_wp2;go_ret;refine⟨mN ?_,rfl⟩;rw[len8tab_get,iO 24 (x / 65536 / 256).toNat (by decide) (by decide) (by omega),kF x 24 (x / 65536 / 256).toNat (by rw[show (2:Nat) ^ 24=16777216 from rfl]; omega) (by omega)];rfl
   ·go_enter Tryz.func139,Tryz.ntmps139;go_wp2;go_ret;refine⟨mN ?_,rfl⟩;rw[len8tab_get,iO 16 (x / 65536).toNat (by decide) (by decide) (by omega),kF x 16 (x / 65536).toNat (by rw[show (2:Nat) ^ 16=65536 from rfl]; omega) (by omega)];rfl
  ·by_cases c2:256<=x
   ·go_enter Tryz.func139,Tryz.ntmps139;go_wp2;go_ret;refine⟨mN ?_,rfl⟩;rw[len8tab_get,iO 8 (x / 256).toNat (by decide) (by decide) (by omega),kF x 8 (x / 256).toNat (by rw[show (2:Nat) ^ 8=256 from rfl]; omega) (by omega)];rfl
   ·go_enter Tryz.func139,Tryz.ntmps139;go_wp2;go_ret;refine⟨mN ?_,rfl⟩;rw[len8tab_get];have:=bitLen_le8 x.toNat (by omega);rw[w64 (bitLen x.toNat:Int) (by omega) (by omega),w64 _ (by omega) (by omega)]
theorem qa(h:n≠0):1<=bitLen n:=by unfold bitLen; rw[if_neg h]; omega
theorem jL(h:n < 18446744073709551616):bitLen n<=64:=by
 unfold bitLen;split
 ·omega
 ·have:=(Nat.log2_lt (k:=64) ‹_›).2 (by omega); omega
theorem Hy(x:Int)(w:World)(h0:0<=x)(h1:x < 18446744073709551616) :
  Calls Tryz.prog 87 #[.int .u64 x] w fun e w'=>e=.returned (.int .i64 (64 - bitLen x.toNat))/\w'=w:=by
 have hl:=jL (n:=x.toNat) (by omega);have t1:=len64 x w h0 h1;generalize bitLen x.toNat=L at *;go_enter Tryz.func87,Tryz.ntmps87;go_wp2_with fail;refine t1.mono ?_
 rintro e w1 ⟨rfl,rfl⟩;go_wp2;go_ret;exact⟨rfl,rfl⟩
end
end
section
open Go.RowKit Lim
section
variable {y y1 y0 u a q r:Int}
theorem Iy(y:Int)(w:World)(h:0 < y)(d:y < 18446744073709551616) :
  Calls Tryz.prog 87 #[.int .u64 y] w fun e w'=>∃ s:Nat,e=.returned (.int .i64 s)/\s<=63/\Hid (9223372036854775808<=y * 2 ^ s/\y * 2 ^ s < 18446744073709551616)/\w'=w:=by
 refine(Hy y w (by omega) d).mono ?_
 rintro e w' ⟨rfl,rfl⟩;have f:=jL (n:=y.toNat) (by omega);have g:=qa (n:=y.toNat) (by omega);have hs:=bitLen_spec y.toNat;generalize bitLen y.toNat=L at *;refine⟨64 - L,mN (by omega),by omega,?_,rfl⟩;have b:=hs.1;have a:=hs.2 (by omega);obtain⟨n,rfl⟩:∃ n:Nat,y=n:=⟨y.toNat,by omega⟩
 rw[Int.toNat_natCast] at b a
 have e1:(2:Nat) ^ L * 2 ^ (64 - L)=18446744073709551616:=by rw[<- Nat.pow_add,show L + (64 - L)=64 from by omega]
 have e2:(2:Nat) ^ (L - 1) * 2 ^ (64 - L)=9223372036854775808:=by rw[<- Nat.pow_add,show L - 1 + (64 - L)=63 from by omega]
 have k1:n * 2 ^ (64 - L) < 2 ^ L * 2 ^ (64 - L):=Nat.mul_lt_mul_of_pos_right b (Nat.two_pow_pos _)
 have k2:2 ^ (L - 1) * 2 ^ (64 - L)<=n * 2 ^ (64 - L):=Nat.mul_le_mul_right _ a;rw[e1] at k1;rw[e2] at k2
 have c:((n * 2 ^ (64 - L):Nat):Int)=(n:Int) * 2 ^ (64 - L):=by rw[Int.natCast_mul,Int.natCast_pow]; rfl
 show _/\_
 rw[<- c];omega
structure fU(y y1 u a q r:Int):Prop where
 eq:q * y1 + r=u
 r0:0<=r
 up:u * 4294967296 + a < (q + 1) * y
 q0:0<=q
 qb:q<=4294967297
theorem fU.start(e:y=y1 * 4294967296 + y0)(d:0<=y0)(j:y0 < 4294967296)(h:2147483648<=y1)(u0:0<=u)(i:u < y)(a0:0<=a)(a1:a < 4294967296) :
  fU y y1 u a (u / y1) (u % y1):=by
 have c:=Int.mul_ediv_add_emod u y1;have f:=Int.emod_nonneg u (show y1≠0 by omega);have g:=Int.emod_lt_of_pos u (show 0 < y1 by omega)
 have b:0<=u / y1:=Int.ediv_nonneg u0 (by omega);generalize u / y1=q at *;generalize u % y1=r at *;refine⟨by rw[Int.mul_comm]; exact c,f,?_,b,?_⟩
 ·have k1:(q + 1) * y=(y1 * q + y1) * 4294967296 + (q + 1) * y0:=by rw[e]; grind
  have k2:0<=(q + 1) * y0:=Int.mul_nonneg (by omega) d;rw[k1]; omega
 ·by_cases hc:q<=4294967297
  ·exact hc
  ·have k:y1 * 4294967298<=y1 * q:=Int.mul_le_mul_of_nonneg_left (by omega) (by omega);omega
theorem fU.big(h:fU y y1 u a q r)(a1:a < 4294967296)(y0:0 < y)(d:u < y)(b:4294967296<=q)(c:0<=y1):fU y y1 u a (q - 1) (r + y1):=by
 have k:y * 4294967296<=y * q:=Int.mul_le_mul_of_nonneg_left b (by omega);have:=h.eq; have:=h.r0; have:=h.qb;refine⟨by rw[Int.sub_mul]; omega,by omega,?_,by omega,by omega⟩;rw[Int.sub_add_cancel,Int.mul_comm q y]; omega
theorem fU.more(h:fU y y1 u a q r)(e:y=y1 * 4294967296 + y0)(u0:0<=u)(a0:0<=a)(f:0<=y1)(hc:4294967296 * r + a < q * y0):fU y y1 u a (q - 1) (r + y1):=by
 have he:=h.eq; have:=h.r0; have:=h.qb; have:=h.q0
 have k:q * y=q * y1 * 4294967296 + q * y0:=by rw[e]; grind
 have b:u * 4294967296 + a < q * y:=by rw[k]; omega
 have d:1<=q:=by
  by_cases c:1<=q
  ·exact c
  ·have:q=0:=by omega
   subst this;simp at b; omega
 refine⟨by rw[Int.sub_mul]; omega,by omega,?_,by omega,by omega⟩;rw[Int.sub_add_cancel]; exact b
structure Dig(y u a q:Int):Prop where
 lo:q * y<=u * 4294967296 + a
 hi:u * 4294967296 + a < (q + 1) * y
 q0:0<=q
 q1:q < 4294967296
theorem fU.dig(h:fU y y1 u a q r)(e:y=y1 * 4294967296 + y0)(d:0 < y)(b:u < y)(a1:a < 4294967296)(hc:q * y0<=4294967296 * r + a):Dig y u a q:=by
 have he:=h.eq
 have k:q * y=q * y1 * 4294967296 + q * y0:=by rw[e]; grind
 have lo:q * y<=u * 4294967296 + a:=by rw[k]; omega
 refine⟨lo,h.up,h.q0,?_⟩;by_cases c:q < 4294967296
 ·exact c
 ·have:4294967296 * y<=q * y:=Int.mul_le_mul_of_nonneg_right (by omega) (by omega);omega
theorem fU.nL(h:fU y y1 u a q r)(e:y=y1 * 4294967296 + y0)(f:0 < y)(c:u < y)(a0:0<=a)(a1:a < 4294967296)(b:0<=y0)(i:y0 < 4294967296)(d:q<=4294967296)(g:4294967296<=r):Dig y u a q :=
 h.dig e f c a1 (by
  have:q * y0<=4294967296 * y0:=Int.mul_le_mul_of_nonneg_right d b
  omega)
theorem Dig.rest(h:Dig y u a q):0<=u * 4294967296 + a - q * y/\u * 4294967296 + a - q * y < y:=by
 have:=h.lo; have h2:=h.hi;rw[Int.add_mul] at h2;omega
theorem ediv64(x S T:Int)(hS:0 < S)(h:S * T=18446744073709551616):x * S / 18446744073709551616=x / T:=by
 rw[<- h,Int.mul_comm S T,Int.mul_ediv_mul_of_pos_left _ _ hS]
theorem pW(a b:Int)(s:Nat)(k:Int)(i:a=k * 2 ^ s)(j:0<=k)(d:a < 18446744073709551616)(c:0<=b)(m:b < 2 ^ s)(h:b < 18446744073709551616):bits .or .u64 a b=a + b:=by
 have l:(0:Int) < 2 ^ s:=Int.pow_pos (by decide)
 have f:0<=a:=by rw[i]; exact Int.mul_nonneg j (Int.le_of_lt l)
 rw[u64_or a b f d c h];obtain⟨k,rfl⟩:=Int.eq_ofNat_of_zero_le j;obtain⟨b,rfl⟩:=Int.eq_ofNat_of_zero_le c
 have e:a.toNat=2 ^ s * k:=by
  have:a=((2 ^ s * k:Nat):Int):=by rw[i,Int.natCast_mul,Int.natCast_pow,Int.mul_comm]; rfl
  rw[this,Int.toNat_natCast]
 have g:b < 2 ^ s:=by
  have:((2 ^ s:Nat):Int)=2 ^ s:=by rw[Int.natCast_pow]; rfl
  omega
 rw[e,Int.toNat_natCast,<- Nat.two_pow_add_eq_or_of_lt g,<- e];omega
theorem Bo(hi lo y:Int)(s:Nat)(g:0<=hi)(p:hi < y)(f:0<=lo)(l1:lo < 18446744073709551616)(hs:s<=63)(n:9223372036854775808<=y * 2 ^ s/\y * 2 ^ s < 18446744073709551616) :
  ∃ Y Yh Yl U A A1 A0:Int,IntKind.u64.wrap (y * 2 ^ s)=Y/\Y / 4294967296=Yh/\bits .and .u64 Y 4294967295=Yl/\bits .or .u64 (IntKind.u64.wrap (hi * 2 ^ s)) (lo / 2 ^ (64 - s))=U /\
   IntKind.u64.wrap (lo * 2 ^ s)=A/\A / 4294967296=A1/\bits .and .u64 A 4294967295=A0/\0<=Yl/\Yl < 4294967296/\2147483648<=Yh/\Yh < 4294967296/\0<=U/\U < Y/\Y < 18446744073709551616/\0<=A1/\A1 < 4294967296/\0<=A0/\A0 < 4294967296 /\
   Hid (Y=Yh * 4294967296 + Yl)/\Hid ((U * 4294967296 + A1) * 4294967296 + A0=(hi * 18446744073709551616 + lo) * 2 ^ s/\Y=y * 2 ^ s):=by
 have hS:(0:Int) < 2 ^ s:=Int.pow_pos (by decide)
 have h:(0:Int) < 2 ^ (64 - s):=Int.pow_pos (by decide)
 have d:(2:Int) ^ s * 2 ^ (64 - s)=18446744073709551616:=by rw[<- Int.pow_add,show s + (64 - s)=64 from by omega]; rfl
 have i:(2:Int) ^ s * 1<=2 ^ s * 2 ^ (64 - s):=Int.mul_le_mul_of_nonneg_left (by omega) (Int.le_of_lt hS)
 have e:0<=hi * 2 ^ s:=Int.mul_nonneg g (Int.le_of_lt hS)
 have c:(hi + 1) * 2 ^ s<=y * 2 ^ s:=Int.mul_le_mul_of_nonneg_right (by omega) (Int.le_of_lt hS);rw[Int.add_mul,Int.one_mul] at c
 have l:0<=lo * 2 ^ s:=Int.mul_nonneg f (Int.le_of_lt hS)
 have b:0<=lo / 2 ^ (64 - s):=Int.ediv_nonneg f (Int.le_of_lt h)
 have a:lo / 2 ^ (64 - s) < 2 ^ s:=by
  rw[Int.ediv_lt_iff_lt_mul h,d]; exact l1
 have k:=ediv64 lo (2 ^ s) (2 ^ (64 - s)) hS d
 have j:bits .or .u64 (IntKind.u64.wrap (hi * 2 ^ s)) (lo / 2 ^ (64 - s))=hi * 2 ^ s + lo / 2 ^ (64 - s):=by
  rw[IntKind.wrap_u64,Int.emod_eq_of_lt e (by omega)];exact pW _ _ s hi rfl g (by omega) b a (by omega)
 have m:IntKind.u64.wrap (y * 2 ^ s)=y * 2 ^ s:=by rw[IntKind.wrap_u64]; omega
 have hA:IntKind.u64.wrap (lo * 2 ^ s)=lo * 2 ^ s % 18446744073709551616:=IntKind.wrap_u64 _
 have e3:(hi * 18446744073709551616 + lo) * 2 ^ s=hi * 2 ^ s * 18446744073709551616 + lo * 2 ^ s:=by grind
 rw[j,m,hA];rw[<- k] at b a ⊢;rw[e3];generalize hi * 2 ^ s=H at *;generalize lo * 2 ^ s=o at *;generalize y * 2 ^ s=Y at *;refine⟨Y,_,_,_,_,_,_,rfl,rfl,u4 _ (by omega) (by omega),rfl,rfl,rfl,u4 _ (by omega) (by omega),by omega,by omega,by omega,by omega,by omega,by omega,by omega,by omega,by omega,by omega,by omega,?_,?_,rfl⟩
 ·show _=_; omega
 ·omega
theorem AM(U A p V:Int)(h:V=U * 4294967296 + A - p)(a:0<=V)(b:V < 18446744073709551616):IntKind.u64.wrap (IntKind.u64.wrap (IntKind.u64.wrap (U * 4294967296) + A) - IntKind.u64.wrap p)=V:=by
 simp only[IntKind.wrap_u64]; omega
theorem Dh(u y:Int)(hu:0<=u)(a:u < 18446744073709551616)(hy:0 < y):IntKind.u64.wrap (u - IntKind.u64.wrap (u / y * y))=u % y:=by
 have b:=Int.mul_ediv_add_emod u y;have c:=Int.emod_nonneg u (show y≠0 by omega);have d:=Int.mul_nonneg (Int.ediv_nonneg hu (Int.le_of_lt hy)) (Int.le_of_lt hy);rw[Int.mul_comm] at b;generalize u / y * y=p at *;generalize u % y=r at *;simp only[IntKind.wrap_u64]; omega
theorem jY(Y b c u a:Int)(hy:Y=b * 4294967296 + c)(d:0<=c)(g:c < 4294967296)(e:2147483648<=b)(h:b < 4294967296)(u0:0<=u)(f:u < Y)(i:Y < 18446744073709551616)(a0:0<=a)(a1:a < 4294967296) :
  IntKind.u64.wrap (u - IntKind.u64.wrap (u / b * b))=u % b/\fU Y b u a (u / b) (u % b)/\u % b < 4294967296 :=
 ⟨Dh u b u0 (by omega) (by omega),fU.start hy d g e u0 f a0 a1,by have:=Int.emod_lt_of_pos u (show 0 < b by omega); omega⟩
theorem eb{Y:Int}(h:Dig Y u a q)(b:Y < 18446744073709551616):∃ V:Int,IntKind.u64.wrap (IntKind.u64.wrap (IntKind.u64.wrap (u * 4294967296) + a) - IntKind.u64.wrap (q * Y))=V/\0<=V/\V < Y/\Hid (V=u * 4294967296 + a - q * Y):=by
 have:=h.rest;exact⟨u * 4294967296 + a - q * Y,AM u a (q * Y) _ rfl this.1 (by omega),this.1,this.2,rfl⟩
theorem gF(hi lo y Y U i d Q V a:Int)(s:Nat)(hy:0 < y)(e:(U * 4294967296 + i) * 4294967296 + d=(hi * 18446744073709551616 + lo) * 2 ^ s)(h:Y=y * 2 ^ s)(j:V=U * 4294967296 + i - Q * Y)(f:Dig Y V d a) :
  Q * 4294967296 + a=(hi * 18446744073709551616 + lo) / y/\(V * 4294967296 + d - a * Y) / 2 ^ s=(hi * 18446744073709551616 + lo) % y:=by
 have hS:(0:Int) < 2 ^ s:=Int.pow_pos (by decide);have g:=f.rest;have l:=f.q0;have k:=f.q1;generalize hN:hi * 18446744073709551616 + lo=N at *
 have key:N * 2 ^ s=(Q * 4294967296 + a) * y * 2 ^ s + (V * 4294967296 + d - a * Y):=by rw[<- e,j,h]; grind
 generalize hR:V * 4294967296 + d - a * Y=R at *
 have hdiv:R=(N - (Q * 4294967296 + a) * y) * 2 ^ s:=by rw[Int.sub_mul]; omega
 generalize hK:Q * 4294967296 + a=K at *;generalize hD:N - K * y=D at *;rw[hdiv] at g;rw[h] at g
 have d0:0<=D:=by
  by_cases c:0<=D
  ·exact c
  ·have:D * 2 ^ s <= -1 * 2 ^ s:=Int.mul_le_mul_of_nonneg_right (by omega) (Int.le_of_lt hS);omega
 have d1:D < y:=Int.lt_of_mul_lt_mul_right g.2 (Int.le_of_lt hS)
 have b:N=y * K + D:=by rw[<- hD,Int.mul_comm y K]; omega
 constructor
 ·have:N / y=K:=by rw[b,Int.add_comm,Int.add_mul_ediv_left _ _ (by omega),Int.ediv_eq_zero_of_lt d0 d1,Int.zero_add]
  omega
 ·rw[hdiv,Int.mul_ediv_cancel _ (by omega),b,Int.add_comm,Int.add_mul_emod_self_left,Int.emod_eq_of_lt d0 d1]
theorem qO(hi lo y:Int)(w:World)(h0:0 < hi)(h1:hi < y)(l0:0<=lo)(l1:lo < 18446744073709551616)(y1:y < 18446744073709551616) :
  Calls Tryz.prog 166 #[.int .u64 hi,.int .u64 lo,.int .u64 y] w fun e w'=>e=.returned (.tuple #[.int .u64 ((hi * 18446744073709551616 + lo) / y),.int .u64 ((hi * 18446744073709551616 + lo) % y)])/\w'=w:=by
 have hb0:(hi == 0)=false:=beq_eq_false_iff_ne.2 (by omega)
 have hb1:(y == 0)=false:=beq_eq_false_iff_ne.2 (by omega);go_enter Tryz.func166,Tryz.ntmps166;go_wp2_with fail;refine(Iy y _ (by omega) y1).mono ?_
 rintro e w' ⟨s,rfl,hs,HS,rfl⟩;obtain⟨Y,Yh,Yl,U,A,A1,A0,e1,e2,e3,e4,e5,e6,e7,yl0,yl1,yh0,yh1,u0,u1,yy,a10,a11,a00,a01,HY,HF⟩:=Bo hi lo y s (by omega) h1 l0 l1 hs HS.out;obtain⟨d2,hD0,hr0⟩:=jY Y Yh Yl U A1 HY.out yl0 yl1 yh0 yh1 u0 u1 yy a10 a11;go_wp2_with fail;clear e1 e2 e3 e4 e5 e6 e7 d2 HS hb0 hb1;go_loop [15,16] (fun tq tr=>∃ q r:Int,tq=.int .u64 q/\tr=.int .u64 r/\fU Y Yh U A1 q r/\r < 4294967296) (fun tq _=>(intOf tq).toNat)
 case atStart=>exact⟨_,_,rfl,rfl,hD0,hr0⟩
 case round =>
  clear hD0 hr0;obtain⟨q,r,rfl,rfl,hD,hr⟩:=hrel;have q0:=hD.q0;have qb:=hD.qb;have r0:=hD.r0;by_cases c1:4294967296<=q
  ·have aa:=hD.big a11 (by omega) u1 c1 (by omega);obtain⟨Q,hQ⟩:∃ Q,q - 1=Q:=⟨_,rfl⟩
   obtain⟨R,hR⟩:∃ R,r + Yh=R:=⟨_,rfl⟩
   rw[hQ,hR] at aa;have Q0:=aa.q0
   have Qlt:Q < q:=by omega
   have Rb:R < 8589934592:=by omega
   have R0:=aa.r0;by_cases c2:4294967296<=R
   ·have HD:Hid (Dig Y U A1 Q):=aa.nL HY.out (by omega) u1 (by omega) a11 yl0 yl1 (by omega) c2;have Q1:=HD.out.q1;obtain⟨V,v1,v2,v3,HV⟩:=eb HD.out yy;obtain⟨d2,hD0,hr0⟩:=jY Y Yh Yl V A0 HY.out yl0 yl1 yh0 yh1 v2 v3 yy a00 a01;obtain⟨QQ,hQQ⟩:∃ QQ,QQ=Q:=⟨_,rfl⟩
    have QQ0:0<=QQ:=by omega
    have QQ1:QQ < 4294967296:=by omega
    have HV:Hid (V=U * 4294967296 + A1 - QQ * Y):=by rw[hQQ]; exact HV
    go_wp2_with fail;rw[<- hQQ];clear v1 d2 hQQ;go_loop [18,16] (fun tq tr=>∃ q r:Int,tq=.int .u64 q/\tr=.int .u64 r/\fU Y Yh V A0 q r/\r < 4294967296) (fun tq _=>(intOf tq).toNat)
    case atStart=>exact⟨_,_,rfl,rfl,hD0,hr0⟩
    case round =>
     clear hD0 hr0 HD;obtain⟨q,r,rfl,rfl,hD,hr⟩:=hrel;have q0:=hD.q0;have qb:=hD.qb;have r0:=hD.r0;by_cases c1:4294967296<=q
     ·have aa:=hD.big a01 (by omega) v3 c1 (by omega);obtain⟨Q,hQ⟩:∃ Q,q - 1=Q:=⟨_,rfl⟩
      obtain⟨R,hR⟩:∃ R,r + Yh=R:=⟨_,rfl⟩
      rw[hQ,hR] at aa;have Q0:=aa.q0
      have Qlt:Q < q:=by omega
      have Rb:R < 8589934592:=by omega
      have R0:=aa.r0;by_cases c2:4294967296<=R
      ·have HD:Hid (Dig Y V A0 Q):=aa.nL HY.out (by omega) v3 (by omega) a01 yl0 yl1 (by omega) c2;have Q1:=HD.out.q1;obtain⟨Z,z1,z2,z3,HZ⟩:=eb HD.out yy;go_wp2;go_ret2;have ab:=gF hi lo y Y U A1 A0 QQ V Q s (by omega) HF.out.1 HF.out.2 HV.out HD.out;exact⟨qo ab.1 (by rw[<- ab.2,<- HZ.out]),rfl⟩
      ·have HR:Hid (fU Y Yh V A0 Q R):=aa;clear aa hD;go_wp2;go_round
       case rel=>exact⟨Q,R,rfl,rfl,HR.out,by omega⟩
       case measure=>simp[intOf]; omega
     ·obtain⟨p,hp⟩:∃ p,q * Yl=p:=⟨_,rfl⟩
      have p0:0<=p:=by rw[<- hp]; exact Int.mul_nonneg q0 yl0
      have p1:p < 18446744073709551616:=by
       have:=Int.mul_le_mul (show q<=4294967295 by omega) (show Yl<=4294967295 by omega) yl0 (by decide);omega
      by_cases c3:4294967296 * r + A0 < p
      ·have aa:=hD.more HY.out (by omega) (by omega) (by omega) (by rw[hp]; exact c3);obtain⟨Q,hQ⟩:∃ Q,q - 1=Q:=⟨_,rfl⟩
       obtain⟨R,hR⟩:∃ R,r + Yh=R:=⟨_,rfl⟩
       rw[hQ,hR] at aa;have Q0:=aa.q0
       have Qlt:Q < q:=by omega
       have Rb:R < 8589934592:=by omega
       have R0:=aa.r0;by_cases c2:4294967296<=R
       ·have HD:Hid (Dig Y V A0 Q):=aa.nL HY.out (by omega) v3 (by omega) a01 yl0 yl1 (by omega) c2;have Q1:=HD.out.q1;obtain⟨Z,z1,z2,z3,HZ⟩:=eb HD.out yy;go_wp2;go_ret2;have ab:=gF hi lo y Y U A1 A0 QQ V Q s (by omega) HF.out.1 HF.out.2 HV.out HD.out;exact⟨qo ab.1 (by rw[<- ab.2,<- HZ.out]),rfl⟩
       ·have HR:Hid (fU Y Yh V A0 Q R):=aa;clear aa hD;go_wp2;go_round
        case rel=>exact⟨Q,R,rfl,rfl,HR.out,by omega⟩
        case measure=>simp[intOf]; omega
      ·have HD:Hid (Dig Y V A0 q):=hD.dig HY.out (by omega) v3 a01 (by rw[hp]; omega);have Q1:=HD.out.q1;have Q0:=HD.out.q0;clear hD
       have hqq:∃ Q,Q=q:=⟨_,rfl⟩
       obtain⟨Q,rfl⟩:=hqq;obtain⟨Z,z1,z2,z3,HZ⟩:=eb HD.out yy;go_wp2;go_ret2;have ab:=gF hi lo y Y U A1 A0 QQ V Q s (by omega) HF.out.1 HF.out.2 HV.out HD.out;exact⟨qo ab.1 (by rw[<- ab.2,<- HZ.out]),rfl⟩
   ·have HR:Hid (fU Y Yh U A1 Q R):=aa;clear aa hD;go_wp2;go_round
    case rel=>exact⟨Q,R,rfl,rfl,HR.out,by omega⟩
    case measure=>simp[intOf]; omega
  ·obtain⟨p,hp⟩:∃ p,q * Yl=p:=⟨_,rfl⟩
   have p0:0<=p:=by rw[<- hp]; exact Int.mul_nonneg q0 yl0
   have p1:p < 18446744073709551616:=by
    have:=Int.mul_le_mul (show q<=4294967295 by omega) (show Yl<=4294967295 by omega) yl0 (by decide);omega
   by_cases c3:4294967296 * r + A1 < p
   ·have aa:=hD.more HY.out (by omega) (by omega) (by omega) (by rw[hp]; exact c3);obtain⟨Q,hQ⟩:∃ Q,q - 1=Q:=⟨_,rfl⟩
    obtain⟨R,hR⟩:∃ R,r + Yh=R:=⟨_,rfl⟩
    rw[hQ,hR] at aa;have Q0:=aa.q0
    have Qlt:Q < q:=by omega
    have Rb:R < 8589934592:=by omega
    have R0:=aa.r0;by_cases c2:4294967296<=R
    ·have HD:Hid (Dig Y U A1 Q):=aa.nL HY.out (by omega) u1 (by omega) a11 yl0 yl1 (by omega) c2;have Q1:=HD.out.q1;obtain⟨V,v1,v2,v3,HV⟩:=eb HD.out yy;obtain⟨d2,hD0,hr0⟩:=jY Y Yh Yl V A0 HY.out yl0 yl1 yh0 yh1 v2 v3 yy a00 a01;obtain⟨QQ,hQQ⟩:∃ QQ,QQ=Q:=⟨_,rfl⟩
     have QQ0:0<=QQ:=by omega
     have QQ1:QQ < 4294967296:=by omega
     have HV:Hid (V=U * 4294967296 + A1 - QQ * Y):=by rw[hQQ]; exact HV
     go_wp2_with fail;rw[<- hQQ];clear v1 d2 hQQ;go_loop [18,16] (fun tq tr=>∃ q r:Int,tq=.int .u64 q/\tr=.int .u64 r/\fU Y Yh V A0 q r/\r < 4294967296) (fun tq _=>(intOf tq).toNat)
     case atStart=>exact⟨_,_,rfl,rfl,hD0,hr0⟩
     case round =>
      clear hD0 hr0 HD;obtain⟨q,r,rfl,rfl,hD,hr⟩:=hrel;have q0:=hD.q0;have qb:=hD.qb;have r0:=hD.r0;by_cases c1:4294967296<=q
      ·have aa:=hD.big a01 (by omega) v3 c1 (by omega);obtain⟨Q,hQ⟩:∃ Q,q - 1=Q:=⟨_,rfl⟩
       obtain⟨R,hR⟩:∃ R,r + Yh=R:=⟨_,rfl⟩
       rw[hQ,hR] at aa;have Q0:=aa.q0
       have Qlt:Q < q:=by omega
       have Rb:R < 8589934592:=by omega
       have R0:=aa.r0;by_cases c2:4294967296<=R
       ·have HD:Hid (Dig Y V A0 Q):=aa.nL HY.out (by omega) v3 (by omega) a01 yl0 yl1 (by omega) c2;have Q1:=HD.out.q1;obtain⟨Z,z1,z2,z3,HZ⟩:=eb HD.out yy;go_wp2;go_ret2;have ab:=gF hi lo y Y U A1 A0 QQ V Q s (by omega) HF.out.1 HF.out.2 HV.out HD.out;exact⟨qo ab.1 (by rw[<- ab.2,<- HZ.out]),rfl⟩
       ·have HR:Hid (fU Y Yh V A0 Q R):=aa;clear aa hD;go_wp2;go_round
        case rel=>exact⟨Q,R,rfl,rfl,HR.out,by omega⟩
        case measure=>simp[intOf]; omega
      ·obtain⟨p,hp⟩:∃ p,q * Yl=p:=⟨_,rfl⟩
       have p0:0<=p:=by rw[<- hp]; exact Int.mul_nonneg q0 yl0
       have p1:p < 18446744073709551616:=by
        have:=Int.mul_le_mul (show q<=4294967295 by omega) (show Yl<=4294967295 by omega) yl0 (by decide);omega
       by_cases c3:4294967296 * r + A0 < p
       ·have aa:=hD.more HY.out (by omega) (by omega) (by omega) (by rw[hp]; exact c3);obtain⟨Q,hQ⟩:∃ Q,q - 1=Q:=⟨_,rfl⟩
        obtain⟨R,hR⟩:∃ R,r + Yh=R:=⟨_,rfl⟩
        rw[hQ,hR] at aa;have Q0:=aa.q0
        have Qlt:Q < q:=by omega
        have Rb:R < 8589934592:=by omega
        have R0:=aa.r0;by_cases c2:4294967296<=R
        ·have HD:Hid (Dig Y V A0 Q):=aa.nL HY.out (by omega) v3 (by omega) a01 yl0 yl1 (by omega) c2;have Q1:=HD.out.q1;obtain⟨Z,z1,z2,z3,HZ⟩:=eb HD.out yy;go_wp2;go_ret2;have ab:=gF hi lo y Y U A1 A0 QQ V Q s (by omega) HF.out.1 HF.out.2 HV.out HD.out;exact⟨qo ab.1 (by rw[<- ab.2,<- HZ.out]),rfl⟩
        ·have HR:Hid (fU Y Yh V A0 Q R):=aa;clear aa hD;go_wp2;go_round
         case rel=>exact⟨Q,R,rfl,rfl,HR.out,by omega⟩
         case measure=>simp[intOf]; omega
       ·have HD:Hid (Dig Y V A0 q):=hD.dig HY.out (by omega) v3 a01 (by rw[hp]; omega);have Q1:=HD.out.q1;have Q0:=HD.out.q0;clear hD
        have hqq:∃ Q,Q=q:=⟨_,rfl⟩
        obtain⟨Q,rfl⟩:=hqq;obtain⟨Z,z1,z2,z3,HZ⟩:=eb HD.out yy;go_wp2;go_ret2;have ab:=gF hi lo y Y U A1 A0 QQ V Q s (by omega) HF.out.1 HF.out.2 HV.out HD.out;exact⟨qo ab.1 (by rw[<- ab.2,<- HZ.out]),rfl⟩
    ·have HR:Hid (fU Y Yh U A1 Q R):=aa;clear aa hD;go_wp2;go_round
     case rel=>exact⟨Q,R,rfl,rfl,HR.out,by omega⟩
     case measure=>simp[intOf]; omega
   ·have HD:Hid (Dig Y U A1 q):=hD.dig HY.out (by omega) u1 a11 (by rw[hp]; omega);have Q1:=HD.out.q1;have Q0:=HD.out.q0;clear hD
    have hqq:∃ Q,Q=q:=⟨_,rfl⟩
    obtain⟨Q,rfl⟩:=hqq;obtain⟨V,v1,v2,v3,HV⟩:=eb HD.out yy;obtain⟨d2,hD0,hr0⟩:=jY Y Yh Yl V A0 HY.out yl0 yl1 yh0 yh1 v2 v3 yy a00 a01;obtain⟨QQ,hQQ⟩:∃ QQ,QQ=Q:=⟨_,rfl⟩
    have QQ0:0<=QQ:=by omega
    have QQ1:QQ < 4294967296:=by omega
    have HV:Hid (V=U * 4294967296 + A1 - QQ * Y):=by rw[hQQ]; exact HV
    go_wp2_with fail;rw[<- hQQ];clear v1 d2 hQQ;go_loop [18,16] (fun tq tr=>∃ q r:Int,tq=.int .u64 q/\tr=.int .u64 r/\fU Y Yh V A0 q r/\r < 4294967296) (fun tq _=>(intOf tq).toNat)
    case atStart=>exact⟨_,_,rfl,rfl,hD0,hr0⟩
    case round =>
     clear hD0 hr0 HD;obtain⟨q,r,rfl,rfl,hD,hr⟩:=hrel;have q0:=hD.q0;have qb:=hD.qb;have r0:=hD.r0;by_cases c1:4294967296<=q
     ·have aa:=hD.big a01 (by omega) v3 c1 (by omega);obtain⟨Q,hQ⟩:∃ Q,q - 1=Q:=⟨_,rfl⟩
      obtain⟨R,hR⟩:∃ R,r + Yh=R:=⟨_,rfl⟩
      rw[hQ,hR] at aa;have Q0:=aa.q0
      have Qlt:Q < q:=by omega
      have Rb:R < 8589934592:=by omega
      have R0:=aa.r0;by_cases c2:4294967296<=R
      ·have HD:Hid (Dig Y V A0 Q):=aa.nL HY.out (by omega) v3 (by omega) a01 yl0 yl1 (by omega) c2;have Q1:=HD.out.q1;obtain⟨Z,z1,z2,z3,HZ⟩:=eb HD.out yy;go_wp2;go_ret2;have ab:=gF hi lo y Y U A1 A0 QQ V Q s (by omega) HF.out.1 HF.out.2 HV.out HD.out;exact⟨qo ab.1 (by rw[<- ab.2,<- HZ.out]),rfl⟩
      ·have HR:Hid (fU Y Yh V A0 Q R):=aa;clear aa hD;go_wp2;go_round
       case rel=>exact⟨Q,R,rfl,rfl,HR.out,by omega⟩
       case measure=>simp[intOf]; omega
     ·obtain⟨p,hp⟩:∃ p,q * Yl=p:=⟨_,rfl⟩
      have p0:0<=p:=by rw[<- hp]; exact Int.mul_nonneg q0 yl0
      have p1:p < 18446744073709551616:=by
       have:=Int.mul_le_mul (show q<=4294967295 by omega) (show Yl<=4294967295 by omega) yl0 (by decide);omega
      by_cases c3:4294967296 * r + A0 < p
      ·have aa:=hD.more HY.out (by omega) (by omega) (by omega) (by rw[hp]; exact c3);obtain⟨Q,hQ⟩:∃ Q,q - 1=Q:=⟨_,rfl⟩
       obtain⟨R,hR⟩:∃ R,r + Yh=R:=⟨_,rfl⟩
       rw[hQ,hR] at aa;have Q0:=aa.q0
       have Qlt:Q < q:=by omega
       have Rb:R < 8589934592:=by omega
       have R0:=aa.r0;by_cases c2:4294967296<=R
       ·have HD:Hid (Dig Y V A0 Q):=aa.nL HY.out (by omega) v3 (by omega) a01 yl0 yl1 (by omega) c2;have Q1:=HD.out.q1;obtain⟨Z,z1,z2,z3,HZ⟩:=eb HD.out yy;go_wp2;go_ret2;have ab:=gF hi lo y Y U A1 A0 QQ V Q s (by omega) HF.out.1 HF.out.2 HV.out HD.out;exact⟨qo ab.1 (by rw[<- ab.2,<- HZ.out]),rfl⟩
       ·have HR:Hid (fU Y Yh V A0 Q R):=aa;clear aa hD;go_wp2;go_round
        case rel=>exact⟨Q,R,rfl,rfl,HR.out,by omega⟩
        case measure=>simp[intOf]; omega
      ·have HD:Hid (Dig Y V A0 q):=hD.dig HY.out (by omega) v3 a01 (by rw[hp]; omega);have Q1:=HD.out.q1;have Q0:=HD.out.q0;clear hD
       have hqq:∃ Q,Q=q:=⟨_,rfl⟩
       obtain⟨Q,rfl⟩:=hqq;obtain⟨Z,z1,z2,z3,HZ⟩:=eb HD.out yy;go_wp2;go_ret2;have ab:=gF hi lo y Y U A1 A0 QQ V Q s (by omega) HF.out.1 HF.out.2 HV.out HD.out;exact⟨qo ab.1 (by rw[<- ab.2,<- HZ.out]),rfl⟩
theorem p6(lo y:Int)(w:World)(hy:0 < y)(l0:0<=lo)(l1:lo < 18446744073709551616)(y1:y < 18446744073709551616) :
  Calls Tryz.prog 166 #[.int .u64 0,.int .u64 lo,.int .u64 y] w fun e w'=>e=.returned (.tuple #[.int .u64 (lo / y),.int .u64 (lo % y)])/\∃ n,w'=w.drewN n:=by
 have aa:(y == 0)=false:=beq_eq_false_iff_ne.2 (by omega);go_enter Tryz.func166,Tryz.ntmps166;go_wp2_with fail;go_quiet (fail);go_wp2;go_ret2;exact⟨rfl,_,rfl⟩
theorem div64(hi lo y:Int)(w:World)(d:0<=hi)(b:hi < y)(a:0<=lo)(l1:lo < 18446744073709551616)(y1:y < 18446744073709551616) :
  Calls Tryz.prog 166 #[.int .u64 hi,.int .u64 lo,.int .u64 y] w fun e w'=>∃ q r:Int,e=.returned (.tuple #[.int .u64 q,.int .u64 r])/\0<=q/\q < 18446744073709551616/\0<=r/\r < y/\Hid (q * y + r=hi * 18446744073709551616 + lo)/\∃ n,w'=w.drewN n:=by
 have fin:∀ N:Int,0<=N->N < y * 18446744073709551616->0<=N / y/\N / y < 18446744073709551616/\0<=N % y/\N % y < y/\Hid (N / y * y + N % y=N):=by
  intro N n0 n1;refine⟨Int.ediv_nonneg n0 (by omega),(Int.ediv_lt_iff_lt_mul (by omega)).2 (by rw[Int.mul_comm]; exact n1),Int.emod_nonneg _ (by omega),Int.emod_lt_of_pos _ (by omega),?_⟩
  show _=_
  rw[Int.mul_comm]; exact Int.mul_ediv_add_emod N y
 by_cases c:hi=0
 ·subst c;refine(p6 lo y w (by omega) a l1 y1).mono ?_
  rintro e w' ⟨rfl,hw⟩;obtain⟨f1,f2,f3,f4,f5⟩:=fin lo a (by omega);exact⟨_,_,rfl,f1,f2,f3,f4,by simpa using f5,hw⟩
 ·refine(qO hi lo y w (by omega) b a l1 y1).mono ?_
  rintro e w' ⟨rfl,rfl⟩;obtain⟨f1,f2,f3,f4,f5⟩:=fin (hi * 18446744073709551616 + lo) (by omega) (by omega);exact⟨_,_,rfl,f1,f2,f3,f4,f5,0,rfl⟩
end
end
section
open Go.RowKit Lim
section
variable {l:List Int}{h:Nat}
theorem eN(hl:h < l.length):val (l.drop h)=nth l h + 18446744073709551616 * val (l.drop (h + 1)):=by
 rw[List.drop_eq_getElem_cons hl,val,bT hl]
structure mj(lz:List Int)(d:Int)(h:Nat)(lz1:List Int)(left:Int):Prop where
 len:lz1.length=lz.length
 words:Words lz1
 low:∀ i,i < h->nth lz1 i=nth lz i
 val:Lim.val (lz1.drop h) * d + left=Lim.val (lz.drop h)
theorem mj.step{lz lz1:List Int}{d left q r:Int}(hv:mj lz d (h + 1) lz1 left)(a:h < lz.length)(q0:0<=q)(q1:q < 18446744073709551616)(e:q * d + r=left * 18446744073709551616 + nth lz h):mj lz d h (lz1.set h q) r:=by
 have b:=hv.len;refine⟨by simp[b],hv.words.set h q0 q1,fun i hi=>by rw[ep (by omega),if_neg (by omega)]; exact hv.low i (by omega),?_⟩;rw[eN (by simp; omega),ep (by omega),if_pos rfl,List.drop_set,if_pos (by omega),eN a,<- hv.val];grind
theorem jd(az:Option Addr)(bz oz nz cz:Nat)(d:Int)(lz:List Int)(w:World)(hnz:lz.length=nz)(hbig:nz<=2199023255552)(hcz:nz<=cz)(d0:0 < d)(d1:d < 18446744073709551616)(wz:Words lz)(hz:At w az bz oz lz)(hfz:dW w bz oz nz) :
  Calls Tryz.prog 113 #[.slice az nz cz,.int .u64 d] w fun e w'=>∃ (left:Int) (lz':List Int),e=.returned (.int .u64 left)/\0<=left/\left < d/\lz'.length=nz/\Words lz'/\At w' az bz oz lz'/\Wr bz oz nz w w'/\val lz' * d + left=val lz:=by
 go_enter Tryz.func113,Tryz.ntmps113;go_wp2;go_loopw [5,10] (fun tc ti wr=>∃ (k:Nat) (c:Int) (lz1:List Int),k<=nz/\ti=.int .i64 k/\tc=.int .u64 c/\0<=c/\c < d/\mj lz d (nz - k) lz1 c/\At wr az bz oz lz1/\Wr bz oz nz w wr) (fun _ ti _=>nz - (intOf ti).toNat)
 case atStart=>exact⟨0,0,lz,Nat.zero_le _,rfl,rfl,by decide,d0,⟨rfl,wz,fun _ _=>rfl,by simp[<- hnz,val]⟩,hz,Wr.refl _ _ _ _⟩
 case round =>
  obtain⟨k,c,lz1,hk,rfl,rfl,hc0,hc1,hinv,hat,hwr⟩:=hrel;have hlen1:=hinv.len;by_cases hlt:k < nz
  ·rcases hz.loc with e | rfl
   ·subst e; simp at hnz; omega
   obtain⟨h,hh⟩:∃ h:Nat,nz=h + 1 + k:=⟨nz - 1 - k,by omega⟩
   have hcz:=hat.cell h (by omega);have hfr:=hwr.free hfz h (by omega);have hzz:=wz.nth h;rw[hinv.low h (by omega)] at hcz
   have hidx:(nz:Int) - 1 - k=h:=by omega
   have hh0:(h:Int) < nz:=by omega
   obtain⟨hz0,hz1⟩:=hzz
   have HI:Hid (mj lz d (h + 1) lz1 c):=by rw[show h + 1=nz - k from by omega]; exact hinv
   have HN:Hid (nz=h + 1 + k):=hh;clear hh hinv hz wz;go_wp2_with (go_at_call 166; refine(div64 _ _ _ _ hc0 hc1 hz0 hz1 d1).mono ?_; rintro e w' ⟨q,r,rfl,q0,q1,r0,r1,hqr,nd,rfl⟩);have hn:=HN.out;refine⟨⟨k + 1,r,lz1.set h q,by omega,by go_num,rfl,r0,r1,by rw[show nz - (k + 1)=h from by omega]; exact HI.out.step (by omega) q0 q1 hqr.out,?_,?_⟩,by simp[intOf]; omega⟩
   ·exact(hat.setCell (by omega) q).drewN nd
   ·exact(hwr.setCell (by omega) (by omega) _).drewN nd
  ·have hkn:k=nz:=by omega
   subst hkn;go_wp2;go_ret;refine⟨c,lz1,rfl,hc0,hc1,by omega,hinv.words,hat,hwr,?_⟩;have:=hinv.val;rwa [Nat.sub_self,List.drop_zero,List.drop_zero] at this
end
end
section
open Go.RowKit Lim
theorem ey.of {w w':World} {l:List Int} {ao:Option Addr} {n c b o:Nat} (hn:n=l.length) (f:n<=c) (a:w.heap.size<=b) (e:At w' ao b o l) (d:dW w' b o n):ey w w' (.slice ao n c) l:=by
 subst hn; exact⟨ao,b,o,c,rfl,f,a,e,d⟩
theorem jG (ao:Option Addr) (n c b o:Nat) (l:List Int) (w:World) (hl:l.length=n) (hc:n<=c) (ag:n<=1099511627776) (ha:At w ao b o l) :
  Calls Tryz.prog 112 #[.slice ao n c] w fun e w'=>e=.returned (.slice (some ⟨w.heap.size,0,none⟩) (aJ l) (aJ l))/\Row w' w.heap.size (norm l)/\Below w.heap.size w w':=by
 have hn:=bJ l;have t1:=bL ao n c l w hl hc (by omega) ha.cells;have hs:=ha.sub (aJ l);have af:=aM l;rw[show l.take (aJ l)=norm l from rfl] at hs;generalize aJ l=N at *;generalize norm l=L at *;go_enter Tryz.func112,Tryz.ntmps112;go_wp2_with fail;refine t1.mono ?_
 rintro e w1 ⟨rfl,rfl⟩;clear t1
 go_wp2_with (first
  | (at_make; refine dB rfl _ _ rfl N _ _ rfl rfl rfl rfl (by omega) ?_; intro w2 ac aa hsz; have ad:=hs.keep aa)
  | (refine iY rfl (.tmp 10) (.tmp 11) rfl _ _ _ _ _ _ rfl rfl _ _ ac (by simp) _ _ af (Nat.le_refl _) ad ?_; intro w3 ab ae))
 go_ret;refine⟨rfl,?_,?_⟩
 ·simpa using ab
 ·exact aa.trans (ae.below (Nat.le_refl _))
end
section
open Go.RowKit Lim
section
variable {lz lb lz1:List Int}{m c:Int}{k:Nat}
theorem DI(z x m c hi lo:Int)(f:0<=z/\z < 18446744073709551616)(hc:0<=c/\c < 18446744073709551616)(g:0<=hi)(a:hi<=18446744073709551614)(e:0<=lo)(d:lo < 18446744073709551616)(b:hi * 18446744073709551616 + lo=x * m)(hb:x * m<=340282366920938463426481119284349108225) :
  0<=hi + (lo + c) / 18446744073709551616/\hi + (lo + c) / 18446744073709551616<=18446744073709551615 /\
  0<=hi + (lo + c) / 18446744073709551616 + (z + (lo + c) % 18446744073709551616) / 18446744073709551616 /\
  hi + (lo + c) / 18446744073709551616 + (z + (lo + c) % 18446744073709551616) / 18446744073709551616<=18446744073709551615 /\
  (z + (lo + c) % 18446744073709551616) % 18446744073709551616 + 18446744073709551616 * (hi + (lo + c) / 18446744073709551616 + (z + (lo + c) % 18446744073709551616) / 18446744073709551616)=z + x * m + c:=by
 omega
def dN(lz lb:List Int)(m:Int)(k:Nat)(lz1:List Int)(c:Int):Prop :=
 lz1.length=lz.length/\Words lz1/\(∀ i,k<=i->nth lz1 i=nth lz i)/\val (lz1.take k) + 18446744073709551616 ^ k * c=val (lz.take k) + val (lb.take k) * m
theorem dN.step{a c':Int}(h:dN lz lb m k lz1 c)(j:k < lz.length)(d:0<=a)(b:a < 18446744073709551616)(e:a + 18446744073709551616 * c'=nth lz k + nth lb k * m + c):dN lz lb m (k + 1) (lz1.set k a) c':=by
 obtain⟨f,g,n,o⟩:=h;refine⟨by simp[f],g.set k d b,fun i hi => ?_,?_⟩
 ·rw[ep (by omega),if_neg (by omega)]; exact n i (by omega)
 ·have hb:val (lb.take (k + 1))=val (lb.take k) + 18446744073709551616 ^ k * nth lb k:=by
   by_cases l:k < lb.length
   ·exact ed l
   ·rw[List.take_of_length_le (by omega),List.take_of_length_le (by omega),gZ (by omega)]; simp
  rw[ed (by simp[f]; omega),ed j,hb,List.take_set_of_le (Nat.le_refl _),ep (by omega),if_pos rfl,Int.pow_succ];have:18446744073709551616 ^ k * (a + 18446744073709551616 * c')=18446744073709551616 ^ k * (nth lz k + nth lb k * m + c):=by rw[e]
  grind
theorem dN.done{n:Nat}(hn:lz.length=n)(h:dN lz lb m k lz1 c)(hc:c=0\/lz.length=k)(r:lb.length<=k)(q:k<=n) :
  val lz1=(val lz + val lb * m) % 18446744073709551616 ^ n:=by
 obtain⟨g,d,o,b⟩:=h;rw[List.take_of_length_le (l:=lb) (by omega)] at b;have a:=ee d;have f:=aQ d;rw[g,hn] at a;rcases hc with e | e
 ·subst e
  have j:lz1.drop k=lz.drop k:=nY (by simp[g]) fun i hi=>by rw[dX,dX]; exact o _ (by omega)
  have e1:=bP lz1 k (by omega);have e2:=bP lz k (by omega);rw[j] at e1;have:val lz + val lb * m=val lz1:=by rw[e1,e2]; simp only[Int.mul_zero,Int.add_zero] at b; omega
  rw[this];exact(Int.emod_eq_of_lt f a).symm
 ·have p:k=n:=by omega
  subst p;rw[List.take_of_length_le (l:=lz1) (by omega),List.take_of_length_le (l:=lz) (by omega)] at b;rw[<- b,Int.add_mul_emod_self_left];exact(Int.emod_eq_of_lt f a).symm
theorem fo(az : Option Addr)(bz oz nz cz : Nat)(ab : Option Addr)(bb ob nb cb : Nat)(m : Int)(lz lb : List Int)(w : World)(hnz : lz.length = nz)(hnb : lb.length = nb)(hle : nb ≤ nz)(hbig : nz ≤ 2199023255552)(hcz : nz ≤ cz)(hcb : nb ≤ cb)(hm0 : 0 ≤ m)(hm1 : m < 18446744073709551616)(wz : Words lz)(wb : Words lb)(hz : At w az bz oz lz)(hfz : dW w bz oz nz)(hb : At w ab bb ob lb)(hne : lb = [] ∨ bb ≠ bz) :
    Calls Tryz.prog 59 #[.slice az nz cz, .slice ab nb cb, .int .u64 m] w fun e w' => e = .returned (.tuple #[]) ∧
      ∃ lz', lz'.length = nz ∧ Words lz' ∧ At w' az bz oz lz' ∧ Wr bz oz nz w w' ∧ val lz' = (val lz + val lb * m) % 18446744073709551616 ^ nz := by
  go_enter Tryz.func59, Tryz.ntmps59;go_wp2;go_loopw [6, 14] (fun tc ti wr => ∃ (k : Nat) (c : Int) (ad : List Int), k ≤ nb ∧ ti = .int .i64 k ∧ tc = .int .u64 c ∧ 0 ≤ c ∧ c < 18446744073709551616 ∧ dN lz lb m k ad c ∧ At wr az bz oz ad ∧ Wr bz oz nz w wr) (fun _ ti _ => nb - (intOf ti).toNat)
  case atStart => exact⟨0, 0, lz, Nat.zero_le _, rfl, rfl, by decide, by decide, ⟨rfl, wz, fun _ _ => rfl, by simp[val]⟩, hz, Wr.refl _ _ _ _⟩
  case round =>
    obtain⟨k, c, ad, hk, rfl, rfl, hc0, hc1, hinv, ac, aa⟩:= hrel;have hlen1 := hinv.1;by_cases hlt : k < nb
    · rcases hb.loc with e | rfl
      · subst e; simp at hnb; omega
      rcases hz.loc with e | rfl
      · subst e; simp at hnz; omega
      have hb' := hb.wr aa hne;have hcb := hb'.cell k (by omega);have hcz := ac.cell k (by omega);have hfr := aa.free hfz k (by omega);have hx := wb.nth k;have hzz := wz.nth k;rw[hinv.2.2.1 k (Nat.le_refl _)] at hcz;obtain⟨hx0, hx1⟩:= hx;obtain⟨hz0, hz1⟩:= hzz
      have HI : Hid (dN lz lb m k ad c) := hinv
      have HA : Hid (At wr (some ⟨bz, oz, none⟩) bz oz ad) := ac
      have HW : Hid (Wr bz oz nz w wr) := aa;clear hinv ac aa hb' hz hb hfz wz wb hne
      go_wp2_with (first
        | (go_at_call 89; refine(oA _ _ hx0 hx1 hm0 hm1 _).mono ?_; rintro e w' ⟨hi, lo, rfl, h1, h2, h3, h4, h5, rfl⟩)
        | simp only[uo _ _ h3 hc0]
        | simp only[FR _ _ hz0])
      have hxm : nth lb k * m ≤ 340282366920938463426481119284349108225 := by
        have := Int.mul_le_mul (show nth lb k ≤ 18446744073709551615 by omega) (show m ≤ 18446744073709551615 by omega) hm0 (by decide);simpa using this
      obtain⟨s1, s2, s3, s4, s5⟩:= DI (nth lz k) (nth lb k) m c hi lo ⟨hz0, hz1⟩ ⟨hc0, hc1⟩ h1 h2 h3 h4 h5 hxm;rw[Int.add_emod_emod] at s5;rw[IntWalk.u64_in _ ⟨s3, s4⟩];refine⟨⟨k + 1, _, _, by omega, by go_num, rfl, s3, by omega, HI.out.step (by omega) (Int.emod_nonneg _ (by decide)) (Int.emod_lt_of_pos _ (by decide)) s5, HA.out.setCell (by omega) _, HW.out.setCell (by omega) (by omega) _⟩, by simp[intOf]; omega⟩
    · have hkn : k = nb := by omega
      subst hkn
      have HI : Hid (dN lz lb m k ad c) := hinv;clear hinv;go_wp2;go_loopw [6, 11] (fun tc ti wr => ∃ (j : Nat) (c : Int) (ad : List Int), k ≤ j ∧ j ≤ nz ∧ ti = .int .i64 j ∧ tc = .int .u64 c ∧ 0 ≤ c ∧ c < 18446744073709551616 ∧ dN lz lb m j ad c ∧ At wr az bz oz ad ∧ Wr bz oz nz w wr) (fun _ ti _ => nz - (intOf ti).toNat)
      case atStart => exact⟨k, c, ad, Nat.le_refl _, by omega, rfl, rfl, hc0, hc1, HI.out, ac, aa⟩
      case round =>
        clear ac aa HI hlen1 hc0 hc1;obtain⟨j, d, lz2, hkj, hj, rfl, rfl, hd0, hd1, hinv, ac, aa⟩:= hrel;have hlen2 := hinv.1;by_cases hlt2 : j < nz
        · by_cases hd : d = 0
          · subst hd
            go_wp2;go_end0;refine⟨rfl, lz2, by omega, hinv.2.1, ac, aa, ?_⟩;exact dN.done (by omega) hinv (.inl rfl) (by omega) (by omega)
          · rcases hz.loc with e | rfl
            · subst e; simp at hnz; omega
            have hcz := ac.cell j (by omega);have hfr := aa.free hfz j (by omega);have hzz := wz.nth j;rw[hinv.2.2.1 j (Nat.le_refl _)] at hcz;obtain⟨hz0, hz1⟩:= hzz
            have hdb : (d != 0) = true := by rw[bne_iff_ne]; exact hd
            have HI : Hid (dN lz lb m j lz2 d) := hinv
            have HA : Hid (At wr (some ⟨bz, oz, none⟩) bz oz lz2) := ac
            have HW : Hid (Wr bz oz nz w wr) := aa;clear hinv ac aa hz hb hfz wz wb hne;go_wp2_with (simp only[uo _ _ hz0 hd0])
            have s5 : (nth lz j + d) % 18446744073709551616 + 18446744073709551616 * ((nth lz j + d) / 18446744073709551616) = nth lz j + nth lb j * m + d := by
              rw[gZ (l := lb) (by omega)]; omega
            refine⟨⟨j + 1, _, _, by omega, by omega, by go_num, rfl, by omega, by omega, HI.out.step (by omega) (Int.emod_nonneg _ (by decide)) (Int.emod_lt_of_pos _ (by decide)) s5, HA.out.setCell (by omega) _, HW.out.setCell (by omega) (by omega) _⟩, by simp[intOf]; omega⟩
        · have hjn : j = nz := by omega
          subst hjn;go_wp2;go_end0;refine⟨rfl, lz2, by omega, hinv.2.1, ac, aa, ?_⟩;exact dN.done (by omega) hinv (.inr hnz) (by omega) (by omega)
end
end
section
open Go.RowKit Lim
section
variable {l:List Int}
theorem sR{n:Int}(h:IsN l n):0<=n/\n < 18446744073709551616 ^ l.length:=by
 rw[<- h.2.2]; exact⟨aQ h.1,ee h.1⟩
theorem pow_pos(k:Nat):(0:Int) < 18446744073709551616 ^ k:=Int.pow_pos (by decide)
theorem yT{L L' lz:List Int}{x y:Int}(hL:IsN L x)(a:IsN L' y)(hle:L'.length<=L.length)(hw:Words lz)(hv:val lz=(val (L ++ [0]) + val L' * 1) % 18446744073709551616 ^ (L.length + 1)):IsN (norm lz) (x + y):=by
 have f:=sR hL;have b:=sR a;have d:=jq hle;have c:=pow_pos L.length
 have e:val (L ++ [0]) + val L' * 1=x + y:=by rw[eB,hL.2.2,a.2.2]; simp[val]
 rw[e,Int.emod_eq_of_lt (by omega) (by rw[Int.pow_succ]; omega)] at hv;rw[<- hv];exact cI hw
theorem fI(n:Nat):Words (List.replicate n 0):=fun x hx=>by rw[List.eq_of_mem_replicate hx]; decide
theorem yz(ao:Option Addr)(n c b o:Nat)(ao':Option Addr)(n' c' b' o':Nat)(l l':List Int)(w:World)(hl:l.length=n)(hl':l'.length=n')(hc:n<=c)(hc':n'<=c')(hbig:n<=1099511627776)(hbig':n'<=1099511627776)(wl:Words l)(wl':Words l')(ha:At w ao b o l)(ha':At w ao' b' o' l') :
  Calls Tryz.prog 23 #[.slice ao n c,.slice ao' n' c'] w fun e w'=>∃ v r,e=.returned v/\ey w w' v r/\IsN r (val l + val l')/\r.length<=n + n' + 1/\Below w.heap.size w w':=by
 have hn:=bJ l
 have hn':=bJ l';have t1:=bL ao n c l w hl hc (by omega) ha.cells;have t2:=bL ao' n' c' l' w hl' hc' (by omega) ha'.cells;have hs:=ha.sub (aJ l)
 have hs':=ha'.sub (aJ l');have hnl:=aM l
 have hnl':=aM l';have hI:=cI wl
 have hI':=cI wl';rw[show l.take (aJ l)=norm l from rfl] at hs;rw[show l'.take (aJ l')=norm l' from rfl] at hs';generalize aJ l=N at *;generalize aJ l'=N' at *;generalize norm l=L at *;generalize norm l'=L' at *;clear ha ha';go_enter Tryz.func23,Tryz.ntmps23;go_wp2_with fail;refine t1.mono ?_
 rintro e w1 ⟨rfl,rfl⟩;go_wp2_with fail;refine t2.mono ?_
 rintro e w2 ⟨rfl,rfl⟩;clear t1 t2;by_cases hlt:N < N'
 ·have hne:L=[]\/b≠w2.heap.size:=by
   rcases hs.lt with e | e
   ·exact .inl e
   ·exact .inr (by omega)
  go_wp2_with (first
   | (at_make; refine dB rfl _ _ rfl (N' + 1) _ _ rfl rfl (by omega) (by omega) (by omega) ?_; intro w3 hrow aa hsz; have hs3:=hs'.keep aa; have hs4:=hs.keep aa)
   | (refine iY rfl (.tmp 23) (.tmp 24) rfl _ _ _ _ _ _ rfl rfl _ _ hrow (by simp) _ _ hnl' (by omega) hs3 ?_; intro w4 ac ae))
  have hr4:Row w4 w2.heap.size (L' ++ [0]):=by
   have:=ac; rw[List.drop_replicate,show N' + 1 - N'=1 from by omega] at this; simpa using this
  have hs5:=hs4.wr ae hne;refine(fo _ w2.heap.size 0 _ _ _ b o _ _ 1 (L' ++ [0]) L w4 (by simp[hnl']) hnl (by omega) (by omega) (Nat.le_refl _) (Nat.le_refl _) (by decide) (by decide) (hI'.1.append (fI 1)) hI.1 hr4.at (hr4.free _ _) hs5 hne).mono ?_
  rintro e w5 ⟨rfl,lz,hlz,hwz,ab,ad,hvz⟩
  have HF:IsN (norm lz) (_ + _):=yT hI' hI (by omega) hwz (by rw[hvz,hnl']);have hfz:=ad.free (hr4.free 0 (N' + 1));have hz1:=bJ lz;have hz2:=aM lz;have hz3:=ab.sub (aJ lz);have HB:=(aa.trans (ae.below (Nat.le_refl _))).trans (ad.below (Nat.le_refl _));rw[show lz.take (aJ lz)=norm lz from rfl] at hz3;have t3:=bL (some ⟨w2.heap.size,0,none⟩) (N' + 1) (N' + 1) lz w5 hlz (Nat.le_refl _) (by omega) ab.cells;clear hr4 hs5 hs4 hs3 hrow ac ae ad aa ab hvz;generalize aJ lz=K at *;generalize norm lz=R at *;go_wp2_with fail;refine t3.mono ?_
  rintro e w6 ⟨rfl,rfl⟩;go_wp2;go_ret;exact⟨_,R,rfl,ey.of hz2.symm (Nat.le_refl _) (Nat.le_refl _) hz3 (fun i hi=>hfz i (by omega)),by rw[Int.add_comm]; exact HF,by omega,HB⟩
 ·have hne:L'=[]\/b'≠w2.heap.size:=by
   rcases hs'.lt with e | e
   ·exact .inl e
   ·exact .inr (by omega)
  go_wp2_with (first
   | (at_make; refine dB rfl _ _ rfl (N + 1) _ _ rfl rfl (by omega) (by omega) (by omega) ?_; intro w3 hrow aa hsz; have hs3:=hs.keep aa; have hs4:=hs'.keep aa)
   | (refine iY rfl (.tmp 23) (.tmp 24) rfl _ _ _ _ _ _ rfl rfl _ _ hrow (by simp) _ _ hnl (by omega) hs3 ?_; intro w4 ac ae))
  have hr4:Row w4 w2.heap.size (L ++ [0]):=by
   have:=ac; rw[List.drop_replicate,show N + 1 - N=1 from by omega] at this; simpa using this
  have hs5:=hs4.wr ae hne;refine(fo _ w2.heap.size 0 _ _ _ b' o' _ _ 1 (L ++ [0]) L' w4 (by simp[hnl]) hnl' (by omega) (by omega) (Nat.le_refl _) (Nat.le_refl _) (by decide) (by decide) (hI.1.append (fI 1)) hI'.1 hr4.at (hr4.free _ _) hs5 hne).mono ?_
  rintro e w5 ⟨rfl,lz,hlz,hwz,ab,ad,hvz⟩
  have HF:IsN (norm lz) (_ + _):=yT hI hI' (by omega) hwz (by rw[hvz,hnl]);have hfz:=ad.free (hr4.free 0 (N + 1));have hz1:=bJ lz;have hz2:=aM lz;have hz3:=ab.sub (aJ lz);have HB:=(aa.trans (ae.below (Nat.le_refl _))).trans (ad.below (Nat.le_refl _));rw[show lz.take (aJ lz)=norm lz from rfl] at hz3;have t3:=bL (some ⟨w2.heap.size,0,none⟩) (N + 1) (N + 1) lz w5 hlz (Nat.le_refl _) (by omega) ab.cells;clear hr4 hs5 hs4 hs3 hrow ac ae ad aa ab hvz;generalize aJ lz=K at *;generalize norm lz=R at *;go_wp2_with fail;refine t3.mono ?_
  rintro e w6 ⟨rfl,rfl⟩;go_wp2;go_ret;exact⟨_,R,rfl,ey.of hz2.symm (Nat.le_refl _) (Nat.le_refl _) hz3 (fun i hi=>hfz i (by omega)),HF,by omega,HB⟩
end
end
section
open Go.RowKit Lim
theorem DG (x y:Int):0<=bor x y/\bor x y<=1:=by unfold bor; split<;>decide
theorem ye (x y:Int) (hx:0<=x/\x < 18446744073709551616) (hy:0<=y/\y < 18446744073709551616):(x - y) % 18446744073709551616=x - y + 18446744073709551616 * bor x y:=by
 unfold bor; split<;>omega
theorem EZ (x y:Int) (hx:0<=x) (a:x < 18446744073709551616) (w:World):(callFunc 168 #[.int .u64 x,.int .u64 (y % 18446744073709551616),.int .u64 0]).run Tryz.prog w =
  .ok (.value (.tuple #[.int .u64 ((x - y % 18446744073709551616) % 18446744073709551616),.int .u64 (bor x (y % 18446744073709551616))])) w :=
 Ie x _ hx a (Int.emod_nonneg _ (by decide)) (Int.emod_lt_of_pos _ (by decide)) w
theorem Az (z x m c hi lo:Int) (a:0<=z/\z < 18446744073709551616) (hc:0<=c/\c < 18446744073709551616) (g:0<=hi) (b:hi<=18446744073709551614) (f:0<=lo) (e:lo < 18446744073709551616) (d:hi * 18446744073709551616 + lo=x * m)
  (hb:x * m<=340282366920938463426481119284349108225) :
  0<=hi + (lo + c) / 18446744073709551616/\hi + (lo + c) / 18446744073709551616<=18446744073709551615 /\
  0<=hi + (lo + c) / 18446744073709551616 + bor z ((lo + c) % 18446744073709551616) /\
  hi + (lo + c) / 18446744073709551616 + bor z ((lo + c) % 18446744073709551616)<=18446744073709551615 /\
  (z - (lo + c) % 18446744073709551616) % 18446744073709551616 + 18446744073709551616 * (-(hi + (lo + c) / 18446744073709551616 + bor z ((lo + c) % 18446744073709551616)))=z + x * -m + -c:=by
 rw[ye z _ a ⟨by omega,by omega⟩,show x * -m = -(x * m) from Int.mul_neg x m];have:=DG z ((lo + c) % 18446744073709551616);unfold bor at *;split<;>omega
theorem dN.iu {lz lb lz1:List Int} {m c:Int} {k n:Nat} (hn:lz.length=n) (h:dN lz lb m k lz1 c) (hc:c=0\/lz.length=k) (p:lb.length<=k) (g:k<=n) :
  val lz1 + 18446744073709551616 ^ n * c=val lz + val lb * m:=by
 obtain⟨j,o,d,a⟩:=h;rw[List.take_of_length_le (l:=lb) (by omega)] at a;rcases hc with e | e
 ·subst e
  have b:lz1.drop k=lz.drop k:=nY (by simp[j]) fun i hi=>by rw[dX,dX]; exact d _ (by omega)
  have e1:=bP lz1 k (by omega);have e2:=bP lz k (by omega);rw[b] at e1;simp only[Int.mul_zero,Int.add_zero] at a ⊢;rw[e1,e2]; omega
 ·have f:k=n:=by omega
  subst f;rw[List.take_of_length_le (l:=lz1) (by omega),List.take_of_length_le (l:=lz) (by omega)] at a;exact a
theorem kE (az : Option Addr) (bz oz nz cz : Nat) (ab : Option Addr) (bb ob nb cb : Nat) (m : Int) (lz lb : List Int) (w : World)
    (hnz : lz.length = nz) (hnb : lb.length = nb) (hle : nb ≤ nz) (hbig : nz ≤ 2199023255552) (hcz : nz ≤ cz) (hcb : nb ≤ cb) (hm0 : 0 ≤ m) (hm1 : m < 18446744073709551616)
    (wz : Words lz) (wb : Words lb) (hz : At w az bz oz lz) (hfz : dW w bz oz nz) (hb : At w ab bb ob lb) (hne : lb = [] ∨ bb ≠ bz) :
    Calls Tryz.prog 117 #[.slice az nz cz, .slice ab nb cb, .int .u64 m] w fun e w' => ∃ iu : Int, e = .returned (.int .u64 iu) ∧ 0 ≤ iu ∧ iu < 18446744073709551616 ∧
      ∃ lz', lz'.length = nz ∧ Words lz' ∧ At w' az bz oz lz' ∧ Wr bz oz nz w w' ∧ val lz' = val lz - val lb * m + 18446744073709551616 ^ nz * iu := by
  have fin : ∀ (j : Nat) (d : Int) (lz2 : List Int) (wr : World), nb ≤ j → j ≤ nz → 0 ≤ d → d < 18446744073709551616 → dN lz lb (-m) j lz2 (-d) → At wr az bz oz lz2 → Wr bz oz nz w wr → (d = 0 ∨ nz = j) →
      ∃ iu : Int, Ending.returned (.int .u64 d) = .returned (.int .u64 iu) ∧ 0 ≤ iu ∧ iu < 18446744073709551616 ∧
      ∃ lz', lz'.length = nz ∧ Words lz' ∧ At wr az bz oz lz' ∧ Wr bz oz nz w wr ∧ val lz' = val lz - val lb * m + 18446744073709551616 ^ nz * iu := by
    intro j d lz2 wr h1 h2 h3 h4 h5 h6 h7 h8;refine⟨d, rfl, h3, h4, lz2, by rw[h5.1, hnz], h5.2.1, h6, h7, ?_⟩
    have := h5.iu hnz (by rcases h8 with e | e
                            · left; omega
                            · right; omega) (by omega) h2
    rw[Int.mul_neg, Int.mul_neg] at this;omega
  have FIN := (show Hid _ from fin);clear fin;go_enter Tryz.func117, Tryz.ntmps117;go_wp2;go_loopw [7, 15] (fun tc ti wr => ∃ (k : Nat) (c : Int) (lz1 : List Int), k ≤ nb ∧ ti = .int .i64 k ∧ tc = .int .u64 c ∧ 0 ≤ c ∧ c < 18446744073709551616 ∧ dN lz lb (-m) k lz1 (-c) ∧ At wr az bz oz lz1 ∧ Wr bz oz nz w wr) (fun _ ti _ => nb - (intOf ti).toNat)
  case atStart => exact⟨0, 0, lz, Nat.zero_le _, rfl, rfl, by decide, by decide, ⟨rfl, wz, fun _ _ => rfl, by simp[val]⟩, hz, Wr.refl _ _ _ _⟩
  case round =>
    obtain⟨k, c, lz1, hk, rfl, rfl, hc0, hc1, hinv, hat, aa⟩:= hrel;have hlen1 := hinv.1;by_cases hlt : k < nb
    · rcases hb.loc with e | rfl
      · subst e; simp at hnb; omega
      rcases hz.loc with e | rfl
      · subst e; simp at hnz; omega
      have hb' := hb.wr aa hne;have hcb := hb'.cell k (by omega);have hcz := hat.cell k (by omega);have hfr := aa.free hfz k (by omega);have hx := wb.nth k;have hzz := wz.nth k;rw[hinv.2.2.1 k (Nat.le_refl _)] at hcz;obtain⟨hx0, hx1⟩:= hx;obtain⟨hz0, hz1⟩:= hzz
      have HI : Hid (dN lz lb (-m) k lz1 (-c)) := hinv
      have HA : Hid (At wr (some ⟨bz, oz, none⟩) bz oz lz1) := hat
      have HW : Hid (Wr bz oz nz w wr) := aa;clear hinv hat aa hb' hz hb hfz wz wb hne
      go_wp2_with (first
        | (go_at_call 89; refine(oA _ _ hx0 hx1 hm0 hm1 _).mono ?_; rintro e w' ⟨hi, lo, rfl, h1, h2, h3, h4, h5, rfl⟩)
        | simp only[uo _ _ h3 hc0]
        | simp only[EZ _ _ hz0 hz1])
      have hxm : nth lb k * m ≤ 340282366920938463426481119284349108225 := by
        have := Int.mul_le_mul (show nth lb k ≤ 18446744073709551615 by omega) (show m ≤ 18446744073709551615 by omega) hm0 (by decide);simpa using this
      obtain⟨s1, s2, s3, s4, s5⟩:= Az (nth lz k) (nth lb k) m c hi lo ⟨hz0, hz1⟩ ⟨hc0, hc1⟩ h1 h2 h3 h4 h5 hxm;rw[Int.sub_emod_emod] at s5;rw[IntWalk.u64_in _ ⟨s3, s4⟩];refine⟨⟨k + 1, _, _, by omega, by go_num, rfl, s3, by omega, HI.out.step (by omega) (Int.emod_nonneg _ (by decide)) (Int.emod_lt_of_pos _ (by decide)) s5, HA.out.setCell (by omega) _, HW.out.setCell (by omega) (by omega) _⟩, by simp[intOf]; omega⟩
    · have hkn : k = nb := by omega
      subst hkn
      have HI : Hid (dN lz lb (-m) k lz1 (-c)) := hinv;clear hinv;go_wp2;go_loopw [7, 12] (fun tc ti wr => ∃ (j : Nat) (c : Int) (lz1 : List Int), k ≤ j ∧ j ≤ nz ∧ ti = .int .i64 j ∧ tc = .int .u64 c ∧ 0 ≤ c ∧ c < 18446744073709551616 ∧ dN lz lb (-m) j lz1 (-c) ∧ At wr az bz oz lz1 ∧ Wr bz oz nz w wr) (fun _ ti _ => nz - (intOf ti).toNat)
      case atStart => exact⟨k, c, lz1, Nat.le_refl _, by omega, rfl, rfl, hc0, hc1, HI.out, hat, aa⟩
      case round =>
        clear hat aa HI hlen1 hc0 hc1;obtain⟨j, d, lz2, hkj, hj, rfl, rfl, hd0, hd1, hinv, hat, aa⟩:= hrel;have hlen2 := hinv.1;by_cases hlt2 : j < nz
        · by_cases hd : d = 0
          · subst hd
            go_wp2;go_ret;exact FIN.out j 0 lz2 _ hkj hj hd0 hd1 hinv hat aa (.inl rfl)
          · rcases hz.loc with e | rfl
            · subst e; simp at hnz; omega
            have hcz := hat.cell j (by omega);have hfr := aa.free hfz j (by omega);have hzz := wz.nth j;rw[hinv.2.2.1 j (Nat.le_refl _)] at hcz;obtain⟨hz0, hz1⟩:= hzz
            have hdb : (d != 0) = true := by rw[bne_iff_ne]; exact hd
            have HI : Hid (dN lz lb (-m) j lz2 (-d)) := hinv
            have HA : Hid (At wr (some ⟨bz, oz, none⟩) bz oz lz2) := hat
            have HW : Hid (Wr bz oz nz w wr) := aa;clear hinv hat aa hz hb hfz wz wb hne;go_wp2_with (simp only[Ie _ _ hz0 hz1 hd0 hd1]);have hbb := DG (nth lz j) d
            have s5 : (nth lz j - d) % 18446744073709551616 + 18446744073709551616 * -bor (nth lz j) d = nth lz j + nth lb j * -m + -d := by
              rw[gZ (l := lb) (by omega), ye _ _ ⟨hz0, hz1⟩ ⟨hd0, hd1⟩]; omega
            refine⟨⟨j + 1, _, _, by omega, by omega, by go_num, rfl, by omega, by omega, HI.out.step (by omega) (Int.emod_nonneg _ (by decide)) (Int.emod_lt_of_pos _ (by decide)) s5, HA.out.setCell (by omega) _, HW.out.setCell (by omega) (by omega) _⟩, by simp[intOf]; omega⟩
        · have hjn : j = nz := by omega
          subst hjn;go_wp2;go_ret;exact FIN.out j d lz2 _ hkj hj hd0 hd1 hinv hat aa (.inr rfl)
end
section
open Go.RowKit Lim
theorem GB {L L' lz:List Int} {x y iu:Int} (hL:IsN L x) (a:IsN L' y) (hle:y<=x) (hw:Words lz) (c:lz.length=L.length) (i:0<=iu)
  (hv:val lz=val L - val L' * 1 + 18446744073709551616 ^ L.length * iu):IsN (norm lz) (x - y):=by
 have j:=sR hL;have f:=sR a;have e:=ee hw;have g:=aQ hw;have d:=pow_pos L.length;rw[hL.2.2,a.2.2] at hv;rw[c] at e
 have b:iu=0:=by
  by_cases h:0 < iu
  ·have:18446744073709551616 ^ L.length * 1<=18446744073709551616 ^ L.length * iu:=Int.mul_le_mul_of_nonneg_left (by omega) (Int.le_of_lt d);omega
  ·omega
 subst b;have:x - y=val lz:=by rw[hv]; simp
 rw[this];exact cI hw
theorem sub_lt (ao:Option Addr) (n c b o:Nat) (ao':Option Addr) (n' c' b' o':Nat) (l l':List Int) (w:World) (hl:l.length=n) (hl':l'.length=n') (hc:n<=c) (hc':n'<=c') (ab:n<=1099511627776) (aa:n'<=1099511627776)
  (wl:Words l) (wl':Words l') (ha:At w ao b o l) (ha':At w ao' b' o' l') (hlt:val l < val l') :
  Calls Tryz.prog 72 #[.slice ao n c,.slice ao' n' c'] w fun e w'=>e=.returned (.tuple #[.slice none 0 0,.int .i64 10])/\Below w.heap.size w w':=by
 have t1:=jT ao n c b o ao' n' c' b' o' l l' w hl hl' hc hc' ab aa wl wl' ha ha';rw[jD hlt] at t1;go_enter Tryz.func72,Tryz.ntmps72;go_wp2_with fail;refine t1.mono ?_
 rintro e w1 ⟨rfl,hb1⟩;go_wp2_with fail;go_ret2;exact⟨rfl,hb1⟩
theorem DR (ao:Option Addr) (n c b o:Nat) (ao':Option Addr) (n' c' b' o':Nat) (l l':List Int) (w:World) (hl:l.length=n) (hl':l'.length=n') (hc:n<=c) (hc':n'<=c') (hbig:n<=1099511627776) (hbig':n'<=1099511627776)
  (wl:Words l) (wl':Words l') (ha:At w ao b o l) (ha':At w ao' b' o' l') (hge:val l'<=val l) :
  Calls Tryz.prog 72 #[.slice ao n c,.slice ao' n' c'] w fun e w'=>∃ v r,e=.returned (.tuple #[v,.int .i64 0])/\ey w w' v r/\IsN r (val l - val l')/\r.length<=n/\Below w.heap.size w w':=by
 have t1:=jT ao n c b o ao' n' c' b' o' l l' w hl hl' hc hc' hbig hbig' wl wl' ha ha'
 have hs0:0<=sgn (val l) (val l'):=by unfold sgn; split<;>(try split)<;>omega
 have hle:aJ l'<=aJ l:=by
  rcases Nat.lt_or_ge (aJ l) (aJ l') with h | h
  ·have:=de wl wl' h; omega
  ·exact h
 generalize hsg:sgn (val l) (val l')=sg at *;clear hsg;go_enter Tryz.func72,Tryz.ntmps72;go_wp2_with fail;refine t1.mono ?_
 rintro e w1 ⟨rfl,hb1⟩;have ha1:=ha.keep hb1
 have ha1':=ha'.keep hb1;clear t1;go_wp2_with fail;refine(jG ao n c b o l w1 hl hc hbig ha1).mono ?_
 rintro e w2 ⟨rfl,hrow,hb2⟩
 have ha2':=ha1'.keep hb2
 have hs':=ha2'.sub (aJ l')
 have hne:norm l'=[]\/b'≠w1.heap.size:=by
  rcases(ha1'.sub (aJ l')).lt with e | e
  ·exact .inl e
  ·exact .inr (by omega)
 rw[show l'.take (aJ l')=norm l' from rfl] at hs';have t2:=bL ao' n' c' l' w2 hl' hc' (by omega) ha2'.cells;have hn:=bJ l
 have hn':=bJ l';have hnl:=aM l
 have hnl':=aM l';have hI:=cI wl
 have hI':=cI wl';clear ha ha' ha1 ha1' ha2';generalize aJ l=N at *;generalize aJ l'=N' at *;generalize norm l=L at *;generalize norm l'=L' at *;go_wp2_with fail;refine t2.mono ?_
 rintro e w3 ⟨rfl,rfl⟩;clear t2;go_wp2_with fail;refine(kE _ w1.heap.size 0 _ _ _ b' o' _ _ 1 L L' w3 hnl hnl' hle (by omega) (Nat.le_refl _) (Nat.le_refl _) (by decide) (by decide) hI.1 hI'.1 hrow.at (hrow.free _ _) hs' hne).mono ?_
 rintro e w4 ⟨iu,rfl,ho0,ho1,lz,hlz,hwz,hatz,hwr,hvz⟩
 have HF:IsN (norm lz) (_ - _):=GB hI hI' hge hwz (by omega) ho0 (by rw[hvz,hnl]);have hfz:=hwr.free (hrow.free 0 N);have hz1:=bJ lz;have hz2:=aM lz;have hz3:=hatz.sub (aJ lz);have hsz1:=hb1.size
 have HB:Below w.heap.size w w4:=(hb1.trans (hb2.mono hsz1)).trans (hwr.below hsz1);rw[show lz.take (aJ lz)=norm lz from rfl] at hz3;have t3:=bL (some ⟨w1.heap.size,0,none⟩) N N lz w4 hlz (Nat.le_refl _) (by omega) hatz.cells;clear hs' hrow hwr hatz hvz hb1 hb2;generalize aJ lz=K at *;generalize norm lz=R at *;go_wp2_with fail;refine t3.mono ?_
 rintro e w5 ⟨rfl,rfl⟩;go_wp2;go_ret2;exact⟨_,R,rfl,ey.of hz2.symm (Nat.le_refl _) hsz1 hz3 (fun i hi=>hfz i (by omega)),HF,by omega,HB⟩
end
section
open Go.RowKit Lim
section
variable {w w1:World}{v:Value}{l:List Int}
theorem Row.built(w:World)(l:List Int):Row (w.alloc (.cells (l.map (Value.int .u64)).toArray 22)) w.heap.size l:=by
 show (w.heap.push _)[w.heap.size]? = _
 rw[Array.getElem?_push_size]
theorem Row.kW(w:World)(x:Int):Row (w.alloc (.cells #[.int .u64 x] 22)) w.heap.size [x]:=Row.built w [x]
theorem Row.xh(w:World)(x y:Int):Row (w.alloc (.cells #[.int .u64 x,.int .u64 y] 22)) w.heap.size [x,y]:=Row.built w [x,y]
theorem ae(w:World)(o:Obj):Below w.heap.size w (w.alloc o):=(Below.refl _ _).alloc (Nat.le_refl _) _
theorem wO(x:Int)(w:World)(h0:0<=x)(h1:x < 18446744073709551616) :
  Calls Tryz.prog 25 #[.int .u64 x] w fun e w'=>∃ v r,e=.returned v/\ey w w' v r/\IsN r x/\r.length<=1/\Below w.heap.size w w':=by
 have hr:=Row.kW w x;have hb:=ae w (.cells #[.int .u64 x] 22)
 have hw:Words [x]:=Words.cons h0 h1 Words.nil;have t1:=bL (some ⟨w.heap.size,0,none⟩) 1 1 [x] (w.alloc (.cells #[.int .u64 x] 22)) rfl (by decide) (by decide) hr.at.cells;have hz1:=bJ [x];have hz2:=aM [x];have aa:=hr.at.sub (aJ [x])
 have HF:IsN (norm [x]) x:=by have:=cI hw; rwa [fK] at this
 have hfz:=hr.free 0 1;rw[show [x].take (aJ [x])=norm [x] from rfl] at aa;rw[List.length_singleton] at hz1;generalize aJ [x]=K at *;generalize norm [x]=R at *;clear hr;go_enter Tryz.func25,Tryz.ntmps25;go_wp2_with fail;refine t1.mono ?_
 rintro e w6 ⟨rfl,rfl⟩;go_wp2;go_ret;exact⟨_,R,rfl,ey.of hz2.symm (Nat.le_refl _) (Nat.le_refl _) aa (fun i hi=>hfz i (by omega)),HF,by omega,hb⟩
theorem div_zero(v:Value)(ao':Option Addr)(n' c' b' o':Nat)(l':List Int)(w:World)(hl':l'.length=n')(hc':n'<=c')(hbig':n'<=1099511627776)(wl':Words l')(ha':At w ao' b' o' l')(h0:val l'=0) :
  Calls Tryz.prog 70 #[v,.slice ao' n' c'] w fun e w'=>e=.returned (.tuple #[.slice none 0 0,.slice none 0 0,.int .i64 11])/\w'=w:=by
 have t1:=bL ao' n' c' l' w hl' hc' (by omega) ha'.cells;rw[(cy wl').2 h0] at t1;go_enter Tryz.func70,Tryz.ntmps70;go_wp2_with fail;refine t1.mono ?_
 rintro e w1 ⟨rfl,rfl⟩;go_wp2_with fail;go_ret3;exact⟨rfl,rfl⟩
def ke(w w':World)(e:Ending)(x y:Int)(n n':Nat):Prop :=
 ∃ v u r s,e=.returned (.tuple #[v,u,.int .i64 0])/\ey w w' v r/\ey w w' u s/\IsN r (x / y)/\IsN s (x % y)/\r.length<=n/\s.length<=n + n'/\Below w.heap.size w w'
theorem ey.nil(w w':World):ey w w' (.slice none 0 0) []:=⟨none,w.heap.size,0,0,rfl,Nat.le_refl _,Nat.le_refl _,⟨.inl rfl,fun i hi=>by simp at hi⟩,fun i hi=>by simp at hi⟩
theorem l4:IsN [] 0:=⟨Words.nil,rfl,rfl⟩
theorem ey.later{w2:World}(h:ey w w1 v l)(hb:Below w1.heap.size w1 w2):ey w w2 v l:=by
 obtain⟨g,b,o,c,e,k,f,d,j⟩:=h;refine⟨g,b,o,c,e,k,f,d.keep hb,fun i hi => ?_⟩;have a:=aK (d.cell i hi);rw[hb.frozen (p:=⟨b,o + i,none⟩) a]; exact j i hi
theorem ey.mono{w0:World}(h:ey w w1 v l)(hb:w0.heap.size<=w.heap.size):ey w0 w1 v l:=by
 obtain⟨ao,b,o,c,e,h1,h2,h3,h4⟩:=h;exact⟨ao,b,o,c,e,h1,by omega,h3,h4⟩
theorem div_lt(ao:Option Addr)(n c b o:Nat)(ao':Option Addr)(n' c' b' o':Nat)(l l':List Int)(w:World)(hl:l.length=n)(hl':l'.length=n')(hc:n<=c)(hc':n'<=c')(hbig:n<=1099511627776)(hbig':n'<=1099511627776)(wl:Words l)(wl':Words l')(ha:At w ao b o l)(ha':At w ao' b' o' l')(hlt:val l < val l') :
  Calls Tryz.prog 70 #[.slice ao n c,.slice ao' n' c'] w fun e w'=>ke w w' e (val l) (val l') n n':=by
 have h0:=aQ wl;have hn:=bJ l
 have hn':=bJ l'
 have hk0:aJ l'≠0:=fun e=>by have:=(cy wl').1 e; omega
 have t1:=bL ao' n' c' l' w hl' hc' (by omega) ha'.cells
 have hs':=ha'.sub (aJ l');rw[show l'.take (aJ l')=norm l' from rfl] at hs';have t2:=jT ao n c b o ao' (aJ l') (aJ l') b' o' l (norm l') w hl (aM l') hc (Nat.le_refl _) hbig (by omega) wl wl'.norm ha hs';rw[dh,jD hlt] at t2;have HI:=cI wl;have hnl:=aM l
 have hnb:((aJ l':Int) == 0)=false:=beq_eq_false_iff_ne.2 (by omega);go_enter Tryz.func70,Tryz.ntmps70;go_wp2_with fail;refine t1.mono ?_
 rintro e w1 ⟨rfl,rfl⟩;go_wp2_with fail;refine t2.mono ?_
 rintro e w2 ⟨rfl,hb2⟩;go_wp2_with fail;refine(jG ao n c b o l w2 hl hc hbig (ha.keep hb2)).mono ?_
 rintro e w3 ⟨rfl,hrow,hb3⟩;clear t1 t2;go_wp2;go_ret3;have hsz:=hb2.size;exact⟨_,_,[],norm l,rfl,ey.nil _ _,ey.of hnl.symm (Nat.le_refl _) hsz hrow.at (hrow.free _ _),by rw[Int.ediv_eq_zero_of_lt h0 hlt]; exact l4,by rw[Int.emod_eq_of_lt h0 hlt]; exact HI,by simp,by omega,hb2.trans (hb3.mono hsz)⟩
theorem div_one(ao:Option Addr)(n c b o:Nat)(ao':Option Addr)(n' c' b' o':Nat)(l l':List Int)(w:World)(hl:l.length=n)(hl':l'.length=n')(hc:n<=c)(hc':n'<=c')(hbig:n<=1099511627776)(hbig':n'<=1099511627776)(wl:Words l)(wl':Words l')(ha:At w ao b o l)(ha':At w ao' b' o' l')(hge:val l'<=val l)(h1:aJ l'=1) :
  Calls Tryz.prog 70 #[.slice ao n c,.slice ao' n' c'] w fun e w'=>ke w w' e (val l) (val l') n n':=by
 have h0:=aQ wl;have hn:=bJ l
 have hn':=bJ l';have t1:=bL ao' n' c' l' w hl' hc' (by omega) ha'.cells
 have hs':=ha'.sub (aJ l');rw[show l'.take (aJ l')=norm l' from rfl] at hs';have t2:=jT ao n c b o ao' (aJ l') (aJ l') b' o' l (norm l') w hl (aM l') hc (Nat.le_refl _) hbig (by omega) wl wl'.norm ha hs';rw[dh] at t2
 have hs0:0<=sgn (val l) (val l'):=by unfold sgn; split<;>(try split)<;>omega
 have hnl':=aM l'
 have hI':=cI wl';rw[h1] at t1 t2 hnl';generalize hN':norm l'=L' at *;obtain⟨d,rfl⟩:=List.length_eq_one_iff.1 hnl'
 have hd:val l'=d:=by have:=hI'.2.2; rw[fK] at this; exact this.symm
 have hdw:=hI'.1 d (by simp)
 have hd0:0 < d:=by
  have h2:=hI'.2.1;by_cases c:d=0
  ·subst c; simp[aJ] at h2
  ·omega
 rw[hd] at hge t2 ⊢;rw[hd] at hs0;generalize sgn (val l) d=sg at *;rcases hs'.loc with e | rfl
 ·simp at e
 go_enter Tryz.func70,Tryz.ntmps70;go_wp2_with fail;refine t1.mono ?_
 rintro e w1 ⟨rfl,rfl⟩;go_wp2_with fail;refine t2.mono ?_
 rintro e w2 ⟨rfl,hb2⟩;go_wp2_with fail;refine(jG ao n c b o l w2 hl hc hbig (ha.keep hb2)).mono ?_
 rintro e w3 ⟨rfl,hrow,hb3⟩;have hsz:=hb2.size;have hsz3:=hb3.size;have hcd:=((hs'.keep hb2).keep hb3).cell 0 (by simp);rw[bW] at hcd;rw[Nat.add_zero] at hcd;have hwn:=wl.norm;have hvn:=dh l;have hnl:=aM l;clear t1 t2;generalize aJ l=N at *;generalize norm l=L at *;go_wp2_with fail;refine(jd (some ⟨w2.heap.size,0,none⟩) w2.heap.size 0 N N d L w3 hnl (by omega) (Nat.le_refl _) hd0 hdw.2 hwn hrow.at (hrow.free _ _)).mono ?_
 rintro e w4 ⟨left,lz,rfl,hf0,hf1,hlz,hwz,hatz,hwr,hvz⟩;have hfz:=hwr.free (hrow.free 0 N);have hz1:=bJ lz;have hz2:=aM lz;have hz3:=hatz.sub (aJ lz);have HF:=cI hwz;have hrow4:=hwr.size;have hlt3:=hrow.lt;rw[show lz.take (aJ lz)=norm lz from rfl] at hz3;have t3:=bL (some ⟨w2.heap.size,0,none⟩) N N lz w4 hlz (Nat.le_refl _) (by omega) hatz.cells
 have HB:Below w1.heap.size w1 w4:=(hb2.trans (hb3.mono hsz)).trans (hwr.below hsz)
 have ev:val lz=val l / d/\left=val l % d:=by
  have hh:=Int.ediv_emod_unique (a:=val l) (b:=d) (r:=left) (q:=val lz) hd0;have:=hh.2 ⟨by rw[<- hvn,<- hvz,Int.mul_comm]; omega,hf0,hf1⟩;exact⟨this.1.symm,this.2.symm⟩
 rw[ev.1] at HF
 have hleft:Hid (left=val l % d):=ev.2;clear hwr hrow hvz hb2 hb3 hs' ev;generalize aJ lz=K at *;generalize norm lz=R at *;go_wp2_with fail;refine t3.mono ?_
 rintro e w5 ⟨rfl,rfl⟩;go_wp2_with fail;refine(wO left w5 hf0 (by omega)).mono ?_
 rintro e w6 ⟨u,s,rfl,hnew,hIs,hsl,hb6⟩;go_wp2;go_ret3;refine⟨_,u,R,s,rfl,(ey.of hz2.symm (Nat.le_refl _) hsz hz3 (fun i hi=>hfz i (by omega))).later hb6,hnew.mono (by omega),HF,by rw[<- hleft.out]; exact hIs,by omega,by omega,HB.trans (hb6.mono (by omega))⟩
end
end
section
open Go.RowKit Lim
section
variable {l:List Int}{S T v1:Int}
theorem ic(s:Nat)(hs:s<=63):(0:Int) < 2 ^ s/\(2:Int) ^ s < 18446744073709551616/\(2:Int) ^ s * 2 ^ (64 - s)=18446744073709551616/\(0:Int) < 2 ^ (64 - s):=by
 have a:(0:Int) < 2 ^ s:=Int.pow_pos (by decide)
 have b:(2:Nat) ^ s<=2 ^ 63:=Nat.pow_le_pow_right (by decide) hs
 have e:((2 ^ s:Nat):Int)=(2:Int) ^ s:=by rw[Int.natCast_pow]; rfl
 have e2:(2:Nat) ^ 63=9223372036854775808:=by decide
 refine⟨a,by omega,?_,Int.pow_pos (by decide)⟩;rw[<- Int.pow_add,show s + (64 - s)=64 from by omega]; rfl
theorem qU(ao:Option Addr)(n c b o s:Nat)(l:List Int)(w:World)(hl:l.length=n)(hc:n<=c)(hbig:n<=1099511627776)(hs:s<=63)(wl:Words l)(ha:At w ao b o l) :
  Calls Tryz.prog 114 #[.slice ao n c,.int .i64 s] w fun e w'=>∃ lz,e=.returned (.slice (some ⟨w.heap.size,0,none⟩) (n + 1) (n + 1))/\lz.length=n + 1/\Words lz/\At w' (some ⟨w.heap.size,0,none⟩) w.heap.size 0 lz/\dW w' w.heap.size 0 (n + 1)/\w.heap.size < w'.heap.size/\val lz=val l * 2 ^ s/\Below w.heap.size w w':=by
 obtain⟨p1,p2,p3,p4⟩:=ic s hs
 have hne:l=[]\/b≠w.heap.size:=by
  rcases ha.lt with e | e
  ·exact .inl e
  ·exact .inr (by omega)
 have ae:=aQ wl;have ai:=ee wl
 have HV:Hid (0<=val l * 2 ^ s/\val l * 2 ^ s < 18446744073709551616 ^ (n + 1)):=by
  refine⟨Int.mul_nonneg ae (Int.le_of_lt p1),?_⟩
  have h1:val l * 2 ^ s<=val l * 18446744073709551616:=Int.mul_le_mul_of_nonneg_left (by omega) ae;rw[hl] at ai;rw[Int.pow_succ]; omega
 obtain⟨S,hS⟩:∃ S,(2:Int) ^ s=S:=⟨_,rfl⟩
 rw[hS] at p1 p2 HV ⊢
 have hwr:IntKind.u64.wrap S=S:=IntWalk.u64_in _ ⟨by omega,by omega⟩;clear p3 p4 ae ai;go_enter Tryz.func114,Tryz.ntmps114;go_wp2_with (at_make; refine dB rfl _ _ rfl (n + 1) _ _ rfl rfl (by omega) (by omega) (by omega) ?_; intro w1 aa ac aj);have am:=ha.keep ac;refine(fo _ w.heap.size 0 (n + 1) (n + 1) ao b o n c S (List.replicate (n + 1) 0) l w1 (by simp) hl (by omega) (by omega) (Nat.le_refl _) hc (by omega) p2 (fI _) wl aa.at (aa.free _ _) am hne).mono ?_
 rintro e w2 ⟨rfl,lz,hlz,al,af,ab,ad⟩;have ak:=ab.free (aa.free 0 (n + 1));have hlt:=aa.lt;have ah:=ab.size;rw[gI (l:=List.replicate (n + 1) 0) (fun i=>by simp[nth,List.getElem?_replicate]; split<;>rfl),Int.zero_add,Int.emod_eq_of_lt HV.out.1 HV.out.2] at ad;have HZ:=(show Hid _ from ad)
 have HB:=ac.trans (ab.below (Nat.le_refl _))
 have ag:w.heap.size < w2.heap.size:=by omega
 clear ad ah aj aa ab ac;go_wp2;go_ret;exact⟨lz,rfl,hlz,al,af,ak,ag,HZ.out,HB⟩
structure pH(lz:List Int)(S:Int)(h:Nat)(lz1:List Int):Prop where
 len:lz1.length=lz.length
 words:Words lz1
 low:∀ i,i < h->nth lz1 i=nth lz i
 val:Lim.val (lz1.drop h)=Lim.val (lz.drop h) / S
theorem Fp(S T:Int)(h:S * T=18446744073709551616)(k:Nat):val (l.drop k) % S=nth l k % S:=by
 by_cases a:k < l.length
 ·rw[eN a,<- h,Int.mul_assoc,Int.add_mul_emod_self_left]
 ·rw[List.drop_of_length_le (by omega),gZ (by omega)]; rfl
theorem pH.step{lz lz1:List Int}{b:Int}{h:Nat}(hS:0 < S)(a:S * T=18446744073709551616)(hv:pH lz S (h + 1) lz1)(d:h < lz.length)(z0:0<=b)(z1:b < 18446744073709551616)(e:b=nth lz h / S + T * (nth lz (h + 1) % S)):pH lz S h (lz1.set h b):=by
 have c:=hv.len;refine⟨by simp[c],hv.words.set h z0 z1,fun i hi=>by rw[ep (by omega),if_neg (by omega)]; exact hv.low i (by omega),?_⟩;rw[eN (by simp; omega),ep (by omega),if_pos rfl,List.drop_set,if_pos (by omega),hv.val,eN d,e,<- Fp S T a (h + 1)];generalize Lim.val (lz.drop (h + 1))=Y
 have e1:nth lz h + 18446744073709551616 * Y=nth lz h + S * (T * Y):=by rw[<- a]; grind
 rw[e1,Int.add_mul_ediv_left _ _ (by omega)];have e2:=Int.mul_ediv_add_emod Y S
 have e3:T * Y=T * (S * (Y / S) + Y % S):=by rw[e2]
 rw[e3,<- a];grind
theorem BD{x y:Int}(s:Nat)(i:S=2 ^ s)(e:T=2 ^ (64 - s))(hs:s<=63)(hx:0<=x/\x < 18446744073709551616) :
  bits .or .u64 (x / S) (IntKind.u64.wrap (y * T))=x / S + T * (y % S)/\0<=x / S + T * (y % S)/\x / S + T * (y % S) < 18446744073709551616:=by
 obtain⟨p1,h,b,d⟩:=ic s hs;rw[<- i] at p1 h b;rw[<- e] at b d
 have a:0<=x / S:=Int.ediv_nonneg hx.1 (Int.le_of_lt p1)
 have f:x / S < T:=by rw[Int.ediv_lt_iff_lt_mul p1,Int.mul_comm,b]; exact hx.2
 have c:=Int.emod_nonneg y (show S≠0 by omega);have k:=Int.emod_lt_of_pos y p1
 have j:IntKind.u64.wrap (y * T)=y % S * T:=by
  rw[IntKind.wrap_u64,<- b,Int.mul_comm y T,Int.mul_comm S T,Int.mul_emod_mul_of_pos _ _ d,Int.mul_comm]
 have g:0<=y % S * T:=Int.mul_nonneg c (Int.le_of_lt d)
 have m:(y % S + 1) * T<=S * T:=Int.mul_le_mul_of_nonneg_right (by omega) (Int.le_of_lt d);rw[Int.add_mul,Int.one_mul,b] at m
 have l:T<=18446744073709551616:=by
  have:1 * T<=S * T:=Int.mul_le_mul_of_nonneg_right (by omega) (Int.le_of_lt d);omega
 rw[j,Int.mul_comm T];refine⟨?_,by omega,by omega⟩;rw[u64_or _ _ a (by omega) g (by omega),Nat.or_comm,<- u64_or _ _ g (by omega) a (by omega)];rw[pW _ _ (64 - s) (y % S) (by rw[e]) c (by omega) a (by rw[<- e]; exact f) (by omega),Int.add_comm]
theorem Ah(az:Option Addr)(bz oz nz cz s:Nat)(lz:List Int)(w:World)(hnz:lz.length=nz)(hbig:nz<=2199023255552)(hcz:nz<=cz)(hs:s<=63)(wz:Words lz)(hz:At w az bz oz lz)(hfz:dW w bz oz nz) :
  Calls Tryz.prog 116 #[.slice az nz cz,.int .i64 s] w fun e w'=>e=.returned (.tuple #[])/\∃ lz',lz'.length=nz/\Words lz'/\At w' az bz oz lz'/\Wr bz oz nz w w'/\val lz'=val lz / 2 ^ s:=by
 obtain⟨p1,p2,p3,p4⟩:=ic s hs;go_enter Tryz.func116,Tryz.ntmps116;go_wp2;go_loopw [4,10] (fun tc ti wr=>∃ (k:Nat) (lz1:List Int),k<=nz/\ti=.int .i64 k/\tc=.int .u64 (nth lz (nz - k))/\pH lz (2 ^ s) (nz - k) lz1/\At wr az bz oz lz1/\Wr bz oz nz w wr) (fun _ ti _=>nz - (intOf ti).toNat)
 case atStart=>exact⟨0,lz,Nat.zero_le _,rfl,by rw[gZ (by omega)],⟨rfl,wz,fun _ _=>rfl,by rw[Nat.sub_zero,List.drop_of_length_le (by omega)]; simp[val]⟩,hz,Wr.refl _ _ _ _⟩
 case round =>
  obtain⟨k,lz1,hk,rfl,rfl,hinv,hat,hwr⟩:=hrel;have hlen1:=hinv.len;by_cases hlt:k < nz
  ·rcases hz.loc with e | rfl
   ·subst e; simp at hnz; omega
   obtain⟨h,hh⟩:∃ h:Nat,nz=h + 1 + k:=⟨nz - 1 - k,by omega⟩
   have hcz:=hat.cell h (by omega);have hfr:=hwr.free hfz h (by omega);rw[hinv.low h (by omega)] at hcz
   have hidx:(nz:Int) - 1 - k=h:=by omega
   have hh0:(h:Int) < nz:=by omega
   have hab:nz - k=h + 1:=by omega
   rw[hab] at hinv ⊢;obtain⟨e1,e2,e3⟩:=BD (y:=nth lz (h + 1)) s rfl rfl hs (wz.nth h)
   have HS:Hid (pH lz (2 ^ s) h (lz1.set h (nth lz h / 2 ^ s + 2 ^ (64 - s) * (nth lz (h + 1) % 2 ^ s)))):=hinv.step p1 p3 (by omega) e2 e3 rfl
   have HN:Hid (nz=h + 1 + k):=hh;have HA:=(show Hid _ from hat)
   have HW:=(show Hid _ from hwr)
   have HX:Hid (nth lz (nz - (k + 1))=nth lz h):=by show _=_; rw[show nz - (k + 1)=h from by omega]
   have HY:Hid (nz - (k + 1)=h):=by show _=_; omega
   clear hh hinv hz wz hat hwr hab;generalize nth lz h=x at *;generalize nth lz (h + 1)=y at *
   have hb64:(64:Int) - s=((64 - s:Nat):Int):=by omega
   go_wp2_with fail;go_region;go_wp2;refine⟨⟨k + 1,_,by omega,by go_num,by rw[HX.out],by rw[HY.out]; exact HS.out,?_,?_⟩,by simp[intOf]; omega⟩
   ·exact(HA.out.setCell (by omega) _).drew
   ·exact(HW.out.setCell (by omega) (by have:=HN.out; omega) _).drew
  ·have hkn:k=nz:=by omega
   subst hkn;have hv:=hinv.val;rw[Nat.sub_self,List.drop_zero,List.drop_zero] at hv;have HV:=(show Hid _ from hv)
   clear hv;go_wp2;go_end0;exact⟨rfl,lz1,by omega,hinv.words,hat,hwr,HV.out⟩
def uN(u v g:Int):Prop:=0<=g/\g < 18446744073709551616/\(g - 1) * v<=u/\u < (g + 1) * v
theorem Ey{u v u0 R P:Int}(d:0 < P)(hv:v < (v1 + 1) * P)(c:9223372036854775808<=v1)(hu:u=u0 * 18446744073709551616 * P + R)(e:0<=R)(b:v1<=u0)(a:u < v * 18446744073709551616):uN u v 18446744073709551615:=by
 refine⟨by decide,by decide,?_,by rw[show (18446744073709551615 + 1:Int)=18446744073709551616 from rfl,Int.mul_comm]; exact a⟩
 have k1:v * 18446744073709551614<=(v1 + 1) * P * 18446744073709551614:=Int.mul_le_mul_of_nonneg_right (by omega) (by decide)
 have k2:v1 * P<=u0 * P:=Int.mul_le_mul_of_nonneg_right b (by omega)
 have k3:9223372036854775808 * P<=v1 * P:=Int.mul_le_mul_of_nonneg_right c (by omega)
 have e1:(v1 + 1) * P * 18446744073709551614=v1 * P * 18446744073709551614 + P * 18446744073709551614:=by grind
 have e2:u0 * 18446744073709551616 * P=u0 * P * 18446744073709551616:=by grind
 rw[show (18446744073709551615 - 1:Int)=18446744073709551614 from rfl,Int.mul_comm];omega
theorem xp{u v v2 b g rest hi Q:Int}(B:0 < Q)(e:v1 * 18446744073709551616 * Q + v2 * Q<=v)(hv:v < v1 * 18446744073709551616 * Q + (v2 + 1) * Q)(A:9223372036854775808<=v1)(o:0<=v2)(x:v2 < 18446744073709551616)(i:b * (18446744073709551616 * Q)<=u)(hu:u < (b + 1) * (18446744073709551616 * Q))(a:0<=g)(k:g < 18446744073709551616)(m:0<=rest)(s:rest < v1)(he:g * v1 + rest=b)(lo:Int)(l:0<=lo)(y:lo < 18446744073709551616)(hm:hi * 18446744073709551616 + lo=g * v2) :
  (rest < hi->uN u v (g - 1))/\(hi<=rest->uN u v g):=by
 have p:0<=g * v2:=Int.mul_nonneg a o
 have j:g * v2<=g * 18446744073709551615:=Int.mul_le_mul_of_nonneg_left (by omega) a
 have f:0<=hi:=by omega
 have h:hi<=18446744073709551615:=by omega
 obtain⟨X,hX⟩:∃ X,18446744073709551616 * Q=X:=⟨_,rfl⟩
 have t:0 < X:=by omega
 have m1:g * (v1 * 18446744073709551616 * Q + v2 * Q)<=g * v:=Int.mul_le_mul_of_nonneg_left e a
 have m2:g * v<=g * (v1 * 18446744073709551616 * Q + (v2 + 1) * Q):=Int.mul_le_mul_of_nonneg_left (by omega) a
 have e1:g * (v1 * 18446744073709551616 * Q + v2 * Q)=b * X - rest * X + hi * X + lo * Q:=by
  rw[<- hX,<- he];have:g * (v2 * Q)=(hi * 18446744073709551616 + lo) * Q:=by rw[hm]; grind
  grind
 have e2:g * (v1 * 18446744073709551616 * Q + (v2 + 1) * Q)=b * X - rest * X + hi * X + lo * Q + g * Q:=by
  have:g * (v1 * 18446744073709551616 * Q + (v2 + 1) * Q)=g * (v1 * 18446744073709551616 * Q + v2 * Q) + g * Q:=by grind
  rw[this,e1]
 rw[e1] at m1;rw[e2] at m2
 have e3:v1 * 18446744073709551616 * Q=v1 * X:=by rw[<- hX]; grind
 rw[e3] at e;rw[hX] at i hu;rw[Int.add_mul,Int.one_mul] at hu
 have k1:9223372036854775808 * X<=v1 * X:=Int.mul_le_mul_of_nonneg_right A (by omega)
 have k2:(rest + 1) * X<=v1 * X:=Int.mul_le_mul_of_nonneg_right (by omega) (by omega)
 have k3:lo * Q<=18446744073709551615 * Q:=Int.mul_le_mul_of_nonneg_right (by omega) (by omega)
 have r:0<=lo * Q:=Int.mul_nonneg l (by omega)
 have k4:g * Q<=18446744073709551615 * Q:=Int.mul_le_mul_of_nonneg_right (by omega) (by omega)
 have D:0<=v2 * Q:=Int.mul_nonneg o (by omega)
 have F:0<=hi * X:=Int.mul_nonneg f (by omega)
 have E:0<=rest * X:=Int.mul_nonneg m (by omega)
 have C:hi * X<=18446744073709551615 * X:=Int.mul_le_mul_of_nonneg_right h (by omega);rw[Int.add_mul,Int.one_mul] at k2;constructor
 ·intro w
  have q:(rest + 1) * X<=hi * X:=Int.mul_le_mul_of_nonneg_right (by omega) (by omega);rw[Int.add_mul,Int.one_mul] at q
  have n:1<=g:=by
   by_cases c:1<=g
   ·exact c
   ·have:g=0:=by omega
    subst this; simp at hm; omega
  have d:hi<=18446744073709551614:=by omega
  have z:hi * X<=18446744073709551614 * X:=Int.mul_le_mul_of_nonneg_right d (by omega);refine⟨by omega,by omega,?_,?_⟩
  ·rw[show (g - 1 - 1) * v=g * v - 2 * v from by grind];omega
  ·rw[show (g - 1 + 1) * v=g * v from by grind];omega
 ·intro hle
  have q:hi * X<=rest * X:=Int.mul_le_mul_of_nonneg_right hle (by omega);refine⟨a,k,?_,?_⟩
  ·rw[Int.sub_mul,Int.one_mul]; omega
  ·rw[Int.add_mul,Int.one_mul]; omega
end
end
section
open Go.RowKit Lim
section
variable {f:FuncId}{args:Array Value}{w:World}{n:Nat}{v:Value}{l:List Int}
theorem uX(hi lo y:Int)(w:World)(d:0<=hi)(b:hi < y)(a:0<=lo)(l1:lo < 18446744073709551616)(y1:y < 18446744073709551616) :
  Calls Tryz.prog 166 #[.int .u64 hi,.int .u64 lo,.int .u64 y] w fun e w'=>e=.returned (.tuple #[.int .u64 ((hi * 18446744073709551616 + lo) / y),.int .u64 ((hi * 18446744073709551616 + lo) % y)])/\∃ n,w'=w.drewN n:=by
 by_cases c:hi=0
 ·subst c;refine(p6 lo y w (by omega) a l1 y1).mono ?_
  rintro e w' ⟨rfl,hw⟩;exact⟨by simp,hw⟩
 ·refine(qO hi lo y w (by omega) b a l1 y1).mono ?_
  rintro e w' ⟨rfl,rfl⟩;exact⟨rfl,0,rfl⟩
theorem qy{P:Program}(h:Calls P f args (w.drewN n) fun e w'=>e=.returned v/\∃ m,w'=(w.drewN n).drewN m):Calls P f args (w.drewN n) fun e w''=>e=.returned v/\∃ m,w''=w.drewN m :=
 h.mono fun _ _ ⟨he,m,hm⟩=>⟨he,n + m,by rw[hm,World.drewN_drewN]⟩
theorem top2(wl:Words l)(hn:l.length=n + 2):(nth l (n + 1) * 18446744073709551616 + nth l n) * 18446744073709551616 ^ n<=val l/\val l < (nth l (n + 1) * 18446744073709551616 + nth l n + 1) * 18446744073709551616 ^ n:=by
 have e1:=bP l n (by omega);have b:=aQ (wl.take n);have a:=ee (wl.take n);rw[List.length_take,Nat.min_eq_left (by omega)] at a;rw[eN (by omega),eN (by omega),List.drop_of_length_le (show l.length<=n + 1 + 1 by omega)] at e1
 have e2:(18446744073709551616:Int) ^ n * (nth l n + 18446744073709551616 * (nth l (n + 1) + 18446744073709551616 * val []))=(nth l (n + 1) * 18446744073709551616 + nth l n) * 18446744073709551616 ^ n:=by
  rw[show val []=0 from rfl]; grind
 rw[e2] at e1;rw[Int.add_mul (nth l (n + 1) * 18446744073709551616 + nth l n) 1];omega
theorem zN(au:Option Addr)(cu bu ou:Nat)(av:Option Addr)(k cv bv ov:Nat)(lu lv:List Int)(w:World)(hlu:lu.length=k + 3)(hlv:lv.length=k + 2)(hbig:k<=1099511627776)(wu:Words lu)(wv:Words lv)(hu:At w au bu ou lu)(hv:At w av bv ov lv)(htop:9223372036854775808<=nth lv (k + 1))(hlt:val lu < val lv * 18446744073709551616) :
  Calls Tryz.prog 167 #[.slice au (k + 3) cu,.slice av (k + 2) cv] w fun e w'=>∃ g:Int,e=.returned (.int .u64 g)/\uN (val lu) (val lv) g/\Below w.heap.size w w':=by
 obtain⟨tv1,tv2⟩:=top2 wv hlv;obtain⟨tu1,tu2⟩:=top2 (n:=k + 1) wu hlu;have c0:=hu.cell (k + 2) (by omega);have c1:=hu.cell (k + 1) (by omega);have d1:=hv.cell (k + 1) (by omega);have d2:=hv.cell k (by omega);have b0:=wu.nth (k + 2);have b1:=wu.nth (k + 1);have e1:=wv.nth (k + 1);have e2:=wv.nth k;have hQ:=pow_pos k;have hP:=pow_pos (k + 1);rcases hu.loc with e | rfl
 ·subst e; simp at hlu
 rcases hv.loc with e | rfl
 ·subst e; simp at hlv
 rw[show k + 1 + 1=k + 2 from rfl] at tu1 tu2;have HLT:=(show Hid _ from hlt)
 clear hu hv wu wv hlt hlu hlv;obtain⟨N,hN⟩:∃ N,k + 2=N:=⟨_,rfl⟩
 obtain⟨m,hm⟩:∃ m,k + 1=m:=⟨_,rfl⟩
 have hN1:(N:Int) - 1=m:=by omega
 have hN2:(N:Int) - 2=k:=by omega
 have hmN:(m:Int) < N:=by omega
 have hkN:(k:Int) < N:=by omega
 have hmN1:(m:Int) < (N:Int) + 1:=by omega
 have hNN1:(N:Int) < (N:Int) + 1:=by omega
 have hNb:N<=1099511627778:=by omega
 have hmle:m<=N:=by omega
 have hmlt:m < N + 1:=by omega
 have hmi:(m:Int)<=N:=by omega
 have hwm:IntKind.i64.wrap (m:Int)=m:=by rw[IntKind.wrap_i64]; omega
 have hwk:IntKind.i64.wrap (k:Int)=k:=by rw[IntKind.wrap_i64]; omega
 generalize nth lu (k + 2)=u0 at *;generalize nth lu (k + 1)=u1 at *;generalize nth lv (k + 1)=v1 at *;generalize nth lv k=v2 at *;generalize val lu=U at *;generalize val lv=V at *;by_cases hge:v1<=u0
 ·have HN:Hid (uN U V 18446744073709551615):=by
   refine Ey (v1:=v1) (u0:=u0) (P:=18446744073709551616 ^ (k + 1)) (R:=U - u0 * 18446744073709551616 * 18446744073709551616 ^ (k + 1)) hP ?_ htop (by omega) ?_ hge HLT.out
   ·rw[Int.pow_succ];have:(v1 * 18446744073709551616 + v2 + 1) * 18446744073709551616 ^ k<=(v1 * 18446744073709551616 + 18446744073709551616) * 18446744073709551616 ^ k:=Int.mul_le_mul_of_nonneg_right (by omega) (by omega)
    have e:(v1 * 18446744073709551616 + 18446744073709551616) * 18446744073709551616 ^ k=(v1 + 1) * (18446744073709551616 ^ k * 18446744073709551616):=by grind
    omega
   ·have:0<=u1 * 18446744073709551616 ^ (k + 1):=Int.mul_nonneg b1.1 (by omega);rw[Int.add_mul] at tu1;omega
  rw[show k + 3=N + 1 from by omega,hN] at *;rw[hm] at c1 d1;clear tu1 tu2 tv1 tv2 hQ hP hN hm;go_enter Tryz.func167,Tryz.ntmps167;go_wp2_with fail;go_quiet (fail);go_wp2;go_ret;exact⟨_,rfl,HN.out,below_drewN (Below.refl _ _) _⟩
 ·have hND:∀ g rest hi lo:Int,0<=g->g < 18446744073709551616->0<=rest->rest < v1->g * v1 + rest=u0 * 18446744073709551616 + u1->0<=lo->lo < 18446744073709551616->hi * 18446744073709551616 + lo=g * v2->(rest < hi->uN U V (g - 1))/\(hi<=rest->uN U V g):=by
   intro g rest hi lo h1 h2 h3 h4 h5 h6 h7 h8;refine xp (Q:=18446744073709551616 ^ k) hQ ?_ ?_ htop e2.1 e2.2 ?_ ?_ h1 h2 h3 h4 h5 lo h6 h7 h8
   ·rw[Int.add_mul] at tv1; exact tv1
   ·have e:(v1 * 18446744073709551616 + v2 + 1) * 18446744073709551616 ^ k=v1 * 18446744073709551616 * 18446744073709551616 ^ k + (v2 + 1) * 18446744073709551616 ^ k:=by grind
    rw[<- e]; exact tv2
   ·rw[Int.mul_comm 18446744073709551616,<- Int.pow_succ]; exact tu1
   ·rw[Int.mul_comm 18446744073709551616,<- Int.pow_succ]; exact tu2
  have HND:=(show Hid _ from hND)
  have hqr:=Int.mul_ediv_add_emod (u0 * 18446744073709551616 + u1) v1;have hr0:=Int.emod_nonneg (u0 * 18446744073709551616 + u1) (show v1≠0 by omega);have hr1:=Int.emod_lt_of_pos (u0 * 18446744073709551616 + u1) (show 0 < v1 by omega)
  have hg0:0<=(u0 * 18446744073709551616 + u1) / v1:=Int.ediv_nonneg (by omega) (by omega)
  have hg1:(u0 * 18446744073709551616 + u1) / v1 < 18446744073709551616:=by
   rw[Int.ediv_lt_iff_lt_mul (by omega)];have:(u0 + 1) * 18446744073709551616<=v1 * 18446744073709551616:=Int.mul_le_mul_of_nonneg_right (by omega) (by decide);omega
  have tD:=fun wx:World=>uX u0 u1 v1 wx b0.1 (by omega) b1.1 b1.2 e1.2
  generalize hg:(u0 * 18446744073709551616 + u1) / v1=g at *;generalize hr:(u0 * 18446744073709551616 + u1) % v1=rest at *;rw[Int.mul_comm] at hqr;have HQR:=(show Hid _ from hqr)
  rw[show k + 3=N + 1 from by omega,hN] at *;rw[hm] at c1 d1;clear hND hqr hg hr tu1 tu2 tv1 tv2 hQ hP hN hm
  have hge':u0 < v1:=by omega
  go_enter Tryz.func167,Tryz.ntmps167;go_wp2_with fail;go_quiet (fail)
  have c0':(w.drewN nq).cell? ⟨bu,ou + N,none⟩=some (.int .u64 u0):=c0
  have c1':(w.drewN nq).cell? ⟨bu,ou + m,none⟩=some (.int .u64 u1):=c1
  have d1':(w.drewN nq).cell? ⟨bv,ov + m,none⟩=some (.int .u64 v1):=d1
  have d2':(w.drewN nq).cell? ⟨bv,ov + k,none⟩=some (.int .u64 v2):=d2;have hbW:=below_drewN (Below.refl w.heap.size w) nq;clear c0 c1 d1 d2;generalize w.drewN nq=W1 at *;go_wp2_with fail;go_quiet ((go_at_call 166; exact qy (tD _)))
  have d2'':(W1.drewN nq).cell? ⟨bv,ov + k,none⟩=some (.int .u64 v2):=d2';have hbW2:=below_drewN hbW nq;clear c0' c1' d1' d2' hbW tD;generalize W1.drewN nq=W2 at *;go_wp2_with fail;refine(oA g v2 hg0 hg1 e2.1 e2.2 _).mono ?_
  rintro e w3 ⟨hi,lo,rfl,i1,i2,i3,i4,i5,rfl⟩;have aa:=HND.out g rest hi lo hg0 hg1 hr0 hr1 HQR.out i3 i4 i5.out;by_cases hc:rest < hi
  ·have HF:=(show Hid _ from aa.1 hc)
   have hg2:0<=g - 1:=(aa.1 hc).1;clear aa HND;go_wp2;go_ret;exact⟨_,rfl,HF.out,hbW2⟩
  ·have HF:=(show Hid _ from aa.2 (by omega))
   clear aa HND;go_wp2;go_ret;exact⟨_,rfl,HF.out,hbW2⟩
end
end
section
open Go.RowKit Lim
section
variable {L L' lz:List Int}{k:Nat}
theorem DD(hL:Words L)(a:Words L')(c:Words lz)(j:k < L.length)(l:lz.length=L.length + L'.length)(hv:val lz=val (L.take k) * val L') :
  0<=val ((lz.drop k).take (L'.length + 1)) + val L' * nth L k/\val ((lz.drop k).take (L'.length + 1)) + val L' * nth L k < 18446744073709551616 ^ (L'.length + 1):=by
 have f:=ee (hL.take k);have g:=ee a;have n:=aQ (hL.take k);have b:=aQ a;have m:=aQ (c.take k);have h:=aQ ((c.drop k).take (L'.length + 1));have h7:=aQ ((c.drop k).drop (L'.length + 1));have h8:=hL.nth k;rw[List.length_take,Nat.min_eq_left (by omega)] at f;have e1:=bP lz k (by omega);have e2:=bP (lz.drop k) (L'.length + 1) (by simp; omega);have d:=pow_pos k;have i:=pow_pos L'.length;have e:=pow_pos (L'.length + 1)
 have m1:val (L.take k) * val L'<=18446744073709551616 ^ k * val L':=Int.mul_le_mul_of_nonneg_right (by omega) b
 have m2:(18446744073709551616:Int) ^ k * val (lz.drop k)<=18446744073709551616 ^ k * val L':=by omega
 have m3:val (lz.drop k)<=val L':=Int.le_of_mul_le_mul_left m2 d
 have m4:0<=18446744073709551616 ^ (L'.length + 1) * val ((lz.drop k).drop (L'.length + 1)):=Int.mul_nonneg (Int.le_of_lt e) h7
 have m5:val L' * nth L k<=val L' * 18446744073709551615:=Int.mul_le_mul_of_nonneg_left (by omega) b
 have m6:0<=val L' * nth L k:=Int.mul_nonneg b h8.1;refine⟨by omega,?_⟩;rw[Int.pow_succ];omega
structure mu(L L' lz:List Int)(k:Nat):Prop where
 len:lz.length=L.length + L'.length
 words:Words lz
 val:Lim.val lz=Lim.val (L.take k) * Lim.val L'
theorem mu.step{lw:List Int}(hL:Words L)(c:Words L')(d:k < L.length)(h:mu L L' lz k)(hw:Words lw)(b:lw.length=L'.length + 1)(hv:Lim.val lw=(Lim.val ((lz.drop k).take (L'.length + 1)) + Lim.val L' * nth L k) % 18446744073709551616 ^ (L'.length + 1)):mu L L' (patch lz k lw) (k + 1):=by
 have a:=DD hL c h.words d h.len h.val;rw[Int.emod_eq_of_lt a.1 a.2] at hv;have e:=h.len;refine⟨by rw[gE (by omega)]; exact h.len,nM h.words hw,?_⟩;rw[qM (by omega),b,hv,h.val,ed d];grind
theorem oB(ao:Option Addr)(n c b o:Nat)(ao':Option Addr)(n' c' b' o':Nat)(l l':List Int)(w:World)(hl:l.length=n)(hl':l'.length=n')(hc:n<=c)(hc':n'<=c')(hbig:n<=1099511627776)(hbig':n'<=1099511627776)(wl:Words l)(wl':Words l')(ha:At w ao b o l)(ha':At w ao' b' o' l') :
  Calls Tryz.prog 24 #[.slice ao n c,.slice ao' n' c'] w fun e w'=>∃ v r,e=.returned v/\ey w w' v r/\IsN r (val l * val l')/\r.length<=n + n'/\Below w.heap.size w w':=by
 have hn:=bJ l
 have hn':=bJ l';have t1:=bL ao n c l w hl hc (by omega) ha.cells;have t2:=bL ao' n' c' l' w hl' hc' (by omega) ha'.cells;have hs:=ha.sub (aJ l)
 have hs':=ha'.sub (aJ l');have hnl:=aM l
 have hnl':=aM l';have hI:=cI wl
 have hI':=cI wl';rw[show l.take (aJ l)=norm l from rfl] at hs;rw[show l'.take (aJ l')=norm l' from rfl] at hs';generalize aJ l=N at *;generalize aJ l'=N' at *;generalize norm l=L at *;generalize norm l'=L' at *
 have hneL:L=[]\/b≠w.heap.size:=by
  rcases hs.lt with e | e
  ·exact .inl e
  ·exact .inr (by omega)
 have hne:L'=[]\/b'≠w.heap.size:=by
  rcases hs'.lt with e | e
  ·exact .inl e
  ·exact .inr (by omega)
 clear ha ha';go_enter Tryz.func24,Tryz.ntmps24;go_wp2_with fail;refine t1.mono ?_
 rintro e w1 ⟨rfl,rfl⟩;go_wp2_with fail;refine t2.mono ?_
 rintro e w2 ⟨rfl,rfl⟩;clear t1 t2;go_wp2_with (at_make; refine dB rfl _ _ rfl (N + N') _ _ rfl rfl (by omega) (by omega) (by omega) ?_; intro w3 hrow hbel hsz);have hs3:=hs.keep hbel;have hs4:=hs'.keep hbel;have hat0:=hrow.at
 have hfr0:=hrow.free 0 (N + N');clear hs hs' hrow;go_loopw [22] (fun ti wr=>∃ (k:Nat) (lz:List Int),k<=N/\ti=.int .i64 k/\mu L L' lz k/\At wr (some ⟨w2.heap.size,0,none⟩) w2.heap.size 0 lz/\Wr w2.heap.size 0 (N + N') w3 wr) (fun ti _=>N - (intOf ti).toNat)
 case atStart=>exact⟨0,_,Nat.zero_le _,rfl,⟨by simp[hnl,hnl'],fI _,by simp[val,gI (l:=List.replicate (N + N') 0) fun i=>by simp[nth,List.getElem?_replicate]; split<;>rfl]⟩,hat0,Wr.refl _ _ _ _⟩
 case round =>
  clear hat0;obtain⟨k,lz,hk,rfl,hinv,hat,hwr⟩:=hrel;by_cases hlt:k < N
  ·have hlen:=hinv.len;rcases hs3.loc with e | rfl
   ·subst e; simp at hnl; omega
   have hneL:=hneL;have hcx:=(hs3.wr hwr hneL).cell k (by omega)
   have hat':=hs4.wr hwr hne;have hx:=hI.1.nth k;have hfr:=(hwr.free hfr0).gO (k:=k) (m:=N' + 1) (by omega);have hwin:=(hat.drew).gO k (N' + 1);rw[Nat.zero_add] at hwin hfr
   have hkn:k + N' + 1 - k=N' + 1:=by omega
   have hcall:=fo (some ⟨w2.heap.size,k,none⟩) w2.heap.size k (N' + 1) (N' + 1) ao' b' o' N' N' (nth L k) ((lz.drop k).take (N' + 1)) L' wr.drew (by simp; omega) hnl' (by omega) (by omega) (Nat.le_refl _) (Nat.le_refl _) hx.1 hx.2 ((hinv.words.drop k).take _) hI'.1 hwin hfr.drew hat'.drew hne
   have HX:Hid (∀ lw,Words lw->lw.length=N' + 1->val lw=(val ((lz.drop k).take (N' + 1)) + val L' * nth L k) % 18446744073709551616 ^ (N' + 1)->mu L L' (patch lz k lw) (k + 1)):=by
    intro lw h1 h2 h3;rw[<- hnl'] at h2 h3;exact mu.step hI.1 hI'.1 (by omega) hinv h1 h2 h3
   have HA:Hid (At wr.drew (some ⟨w2.heap.size,0,none⟩) w2.heap.size 0 lz):=hat.drew
   have HW:Hid (Wr w2.heap.size 0 (N + N') w3 wr.drew):=hwr.drew;clear hfr hwin hat' hinv hwr hat;generalize nth L k=x at *;go_wp2_with fail;go_region_with (go_at_call 59; refine hcall.mono ?_; rintro e w5 ⟨rfl,lw,hlw,hww,hatw,hwrw,hvw⟩)
   all_goals go_wp2
   all_goals exact⟨⟨k + 1,patch lz k lw,by omega,by go_num,HX.out lw hww hlw hvw,HA.out.patch (k:=k) (n:=N' + 1) (by rw[Nat.zero_add]; exact hwrw) (by rw[Nat.zero_add]; exact hatw) (by omega) (by omega),HW.out.trans (hwrw.mono (by omega) (by omega))⟩,by simp[intOf]; omega⟩
  ·have hkN:k=N:=by omega
   subst hkN;have hv:=hinv.val;have hlen:=hinv.len;have hwz:=hinv.words;rw[List.take_of_length_le (by omega),hI.2.2,hI'.2.2] at hv;have hfz:=hwr.free hfr0;have hz1:=bJ lz;have hz2:=aM lz;have hz3:=hat.sub (aJ lz)
   have HF:IsN (norm lz) (val l * val l'):=by rw[<- hv]; exact cI hwz
   have HB:=hbel.trans (hwr.below (Nat.le_refl _));rw[show lz.take (aJ lz)=norm lz from rfl] at hz3;have t3:=bL (some ⟨w2.heap.size,0,none⟩) (k + N') (k + N') lz wr (by omega) (Nat.le_refl _) (by omega) hat.cells;clear hs3 hs4 hat hwr hbel hinv hv;generalize aJ lz=K at *;generalize norm lz=R at *;go_wp2_with fail;refine t3.mono ?_
   rintro e w6 ⟨rfl,rfl⟩;go_wp2;go_ret;exact⟨_,R,rfl,ey.of hz2.symm (Nat.le_refl _) (Nat.le_refl _) hz3 (fun i hi=>hfz i (by omega)),HF,by omega,HB⟩
end
end
section
open Go.RowKit Lim
section
variable {lu lq lu1:List Int}{V:Int}{q0 k a n:Nat}{w:World}
structure nI(lu:List Int)(V:Int)(q0 k m:Nat)(lq lu1:List Int):Prop where
 G7:lq.length=q0
 FJ:lu1.length=q0 + (k + 2)
 wq:Words lq
 wu:Words lu1
 eq:val lu=18446744073709551616 ^ m * val (lq.drop m) * V + val lu1
 lt:val lu1 < V * 18446744073709551616 ^ m
theorem nI.gO(h:nI lu V q0 k (a + 1) lq lu1)(i:a < q0)(n:V < 18446744073709551616 ^ (k + 2)) :
  val lu1=val (lu1.take a) + 18446744073709551616 ^ a * val ((lu1.drop a).take (k + 3))/\val ((lu1.drop a).take (k + 3)) < V * 18446744073709551616:=by
 have j:=h.FJ;have e1:=bP lu1 a (by omega);have e2:=bP (lu1.drop a) (k + 3) (by simp; omega);have m:=aQ (h.wu.take a);have o:=aQ ((h.wu.drop a).take (k + 3));have g:=aQ ((h.wu.drop a).drop (k + 3));have d:=h.lt;have b:=pow_pos a
 have e:val ((lu1.drop a).drop (k + 3))=0:=by
  by_cases c:val ((lu1.drop a).drop (k + 3))=0
  ·exact c
  ·have k1:18446744073709551616 ^ (k + 3) * 1<=18446744073709551616 ^ (k + 3) * val ((lu1.drop a).drop (k + 3)):=Int.mul_le_mul_of_nonneg_left (by omega) (Int.le_of_lt (pow_pos _))
   have k2:18446744073709551616 ^ a * 18446744073709551616 ^ (k + 3)<=18446744073709551616 ^ a * val (lu1.drop a):=Int.mul_le_mul_of_nonneg_left (by omega) (Int.le_of_lt b)
   have k3:(V + 1) * 18446744073709551616 ^ (a + 1)<=18446744073709551616 ^ (k + 2) * 18446744073709551616 ^ (a + 1):=Int.mul_le_mul_of_nonneg_right (by omega) (Int.le_of_lt (pow_pos _));rw[Int.add_mul] at k3
   have k4:(18446744073709551616:Int) ^ (k + 2) * 18446744073709551616 ^ (a + 1)=18446744073709551616 ^ a * 18446744073709551616 ^ (k + 3):=by rw[<- Int.pow_add,<- Int.pow_add]; congr 1; omega
   have l:=pow_pos (a + 1);omega
 rw[e,Int.mul_zero,Int.add_zero] at e2;rw[e2] at e1;refine⟨e1,?_⟩
 have f:18446744073709551616 ^ a * val ((lu1.drop a).take (k + 3)) < 18446744073709551616 ^ a * (V * 18446744073709551616):=by
  have:18446744073709551616 ^ a * (V * 18446744073709551616)=V * 18446744073709551616 ^ (a + 1):=by rw[Int.pow_succ]; grind
  omega
 exact Int.lt_of_mul_lt_mul_left f (Int.le_of_lt b)
theorem nI.step{d:Int}{nw:List Int}(h:nI lu V q0 k (a + 1) lq lu1)(f:a < q0)(n:V < 18446744073709551616 ^ (k + 2))(d0:0<=d)(d1:d < 18446744073709551616)(wn:Words nw)(hn:nw.length=k + 3)(e:val nw=val ((lu1.drop a).take (k + 3)) - d * V)(e1:val nw < V):nI lu V q0 k a (lq.set a d) (patch lu1 a nw):=by
 have hw:=h.gO f n;have g:=h.FJ;have c:=h.G7;have b:=qM (l:=lu1) (m:=nw) (k:=a) (by omega);have i:=ee (h.wu.take a);rw[List.length_take,Nat.min_eq_left (by omega)] at i;have j:=pow_pos a;refine⟨by simp[c],by rw[gE (by omega)]; exact g,h.wq.set a d0 d1,nM h.wu wn,?_,?_⟩
 ·rw[h.eq,eN (l:=lq.set a d) (by simp; omega),ep (by omega),if_pos rfl,List.drop_set,if_pos (by omega),b,hn,e,Int.pow_succ];grind
 ·have k1:18446744073709551616 ^ a * (val nw + 1)<=18446744073709551616 ^ a * V:=Int.mul_le_mul_of_nonneg_left (by omega) (Int.le_of_lt j);rw[b,hn,Int.mul_sub,Int.mul_comm V];rw[Int.mul_add] at k1;omega
theorem F4{U g o Z:Int}{x:Int}(hn:uN U V g)(f:V < 18446744073709551616 ^ n)(hx:x=U - V * g + 18446744073709551616 ^ n * o)(x1:x < 18446744073709551616 ^ n)(l:0<=U)(k:0<=o) :
  (o=0->x=U - g * V/\x < V)/\(o≠0->Z=(x + V * 1) % 18446744073709551616 ^ n->1<=g/\Z=U - (g - 1) * V/\Z < V):=by
 obtain⟨g0,g1,n1,n2⟩:=hn;rw[Int.sub_mul] at n1;rw[Int.add_mul] at n2;rw[Int.mul_comm V g] at hx;have d:=pow_pos n;constructor
 ·intro h; subst h; omega
 ·intro h i
  have k1:18446744073709551616 ^ n * 1<=18446744073709551616 ^ n * o:=Int.mul_le_mul_of_nonneg_left (by omega) (Int.le_of_lt d)
  have a:o=1:=by
   by_cases c:2<=o
   ·have k2:18446744073709551616 ^ n * 2<=18446744073709551616 ^ n * o:=Int.mul_le_mul_of_nonneg_left c (Int.le_of_lt d);omega
   ·omega
  subst a
  have b:U - g * V < 0:=by omega
  have j:1<=g:=by
   by_cases c:1<=g
   ·exact c
   ·have:g=0:=by omega
    subst this; omega
  have e:x + V * 1=(U - (g - 1) * V) + 18446744073709551616 ^ n * 1:=by rw[hx,Int.sub_mul]; omega
  rw[e,Int.add_mul_emod_self_left,Int.sub_mul,Int.emod_eq_of_lt (by omega) (by omega)] at i;rw[Int.sub_mul];exact⟨j,by omega,by omega⟩
theorem lE{P:Program}{a:Act}{Q:Exit->Act->World->Prop}{c rest:Code}(l:Nat)(J:Act->World->Prop)(μ:Act->World->Nat)(hf:findLabel c l=some (Code.skip.seq rest))(first:(∀ a w,J a w->rest.wp P (Exit.jump l J Q) a w)->c.wp P (Exit.jump l J Q) a w)(pass:∀ a w,J a w->rest.wp P (Exit.jump l (fun a' w'=>J a' w'/\μ a' w' < μ a w) Q) a w):(Code.scope c).wp P Q a w :=
 wp_scope_jumps l J μ hf (first fun a w b=>wp_mono (pass a w b) fun e a' w' h=>by
  cases e with
  | goto l'=>exact⟨h.1,h.2.1⟩
  | _=>exact h) fun a w b=>wp_seq (wp_skip (pass a w b))
theorem tQ{l m a:List Int}(h:k + m.length<=l.length)(hm:a.length=m.length):patch (patch l k m) k a=patch l k a:=by
 have e:(l.take k).length=k:=by simp; omega
 unfold patch;rw[List.take_left' e,hm,<- List.append_assoc (l.take k) m,List.drop_left' (by simp; omega)]
theorem dW.below{B:Nat}{w':World}(h:Below B w w'){b o:Nat}(k:dW w b o n)(hb:b < B):dW w' b o n:=fun i hi=>by
 rw[World.frozen?_of_block (w:=w) (h.block b hb)]; exact k i hi
theorem pP(bu ou cu:Nat)(av:Option Addr)(k q0 cv bv ov:Nat)(lu lv:List Int)(w:World)(hlu:lu.length=q0 + (k + 2))(hlv:lv.length=k + 2)(hbig:k<=1099511627776)(hbigq:q0<=1099511627776)(hcu:q0 + (k + 2)<=cu)(hcv:k + 2<=cv)(wu:Words lu)(wv:Words lv)(hu:At w (some ⟨bu,ou,none⟩) bu ou lu)(hfu:dW w bu ou (q0 + (k + 2)))(hv:At w av bv ov lv)(hne:bv≠bu)(htop:9223372036854775808<=nth lv (k + 1))(hval:val lu < val lv * 18446744073709551616 ^ q0) :
  Calls Tryz.prog 115 #[.slice (some ⟨bu,ou,none⟩) (q0 + (k + 2)) cu,.slice av (k + 2) cv] w fun e w'=>∃ lq lr:List Int,e=.returned (.slice (some ⟨w.heap.size,0,none⟩) q0 q0)/\nI lu (val lv) q0 k 0 lq lr/\At w' (some ⟨w.heap.size,0,none⟩) w.heap.size 0 lq/\dW w' w.heap.size 0 q0/\At w' (some ⟨bu,ou,none⟩) bu ou lr/\dW w' bu ou (q0 + (k + 2))/\Below bu w w':=by
 go_enter Tryz.func115,Tryz.ntmps115;go_wp2;refine lE 0 (fun a' w'=>∃ (m:Nat) (lq lu1:List Int) (u8 u9 u10 u11 u12 u13 u14 u15 u16 u17 u18 u19 u20 u21 u22 u23 u24 u25 u26 u27 u28 u29 u30 u31 u32 u33 u34 u35 u36 u37 u38 u39 u40 u41 u42 u43 u44 u45 u46 u47 u48 u49 u50 u51 u52 u53 u54:Value),a'={ tmps:=#[.slice (some ⟨bu,ou,none⟩) (q0 + (k + 2)) cu,.slice av (k + 2) cv,undef,undef,.slice none 0 0,.int .i64 ((k:Int) + 2),.int .i64 (m:Int),.slice (some ⟨w.heap.size,0,none⟩) q0 q0,u8,u9,u10,u11,u12,u13,u14,u15,u16,u17,u18,u19,u20,u21,u22,u23,u24,u25,u26,u27,u28,u29,u30,u31,u32,u33,u34,u35,u36,u37,u38,u39,u40,u41,u42,u43,u44,u45,u46,u47,u48,u49,u50,u51,u52,u53,u54],defers:=[] }/\m<=q0/\nI lu (val lv) q0 k m lq lu1/\At w' (some ⟨w.heap.size,0,none⟩) w.heap.size 0 lq/\dW w' w.heap.size 0 q0/\At w' (some ⟨bu,ou,none⟩) bu ou lu1/\dW w' bu ou (q0 + (k + 2))/\At w' av bv ov lv/\w.heap.size < w'.heap.size/\Below bu w w') (fun a' _=>(intOf (a'.tmps.getD 6 undef)).toNat) rfl ?_ ?_
 ·intro hpass;go_wp2_with (at_make; refine dB rfl _ _ rfl q0 _ _ rfl rfl (by omega) (by omega) (by omega) ?_; intro w1 hrow ab hsz);go_step3
  have hbu:bu < w.heap.size:=by
   rcases hu.lt with e | e
   ·subst e; simp at hlu
   ·exact e
  have hI:nI lu (val lv) q0 k q0 (List.replicate q0 0) lu:=⟨by simp,hlu,fI _,wu,by simp[val],hval⟩
  rename_i K hK;refine hK _ _ (hpass _ _ ⟨q0,List.replicate q0 0,lu,_,_,_,_,_,_,_,_,_,_,_,_,_,_,_,_,_,_,_,_,_,_,_,_,_,_,_,_,_,_,_,_,_,_,_,_,_,_,_,_,_,_,_,_,_,_,_,rfl,Nat.le_refl _,hI,hrow.at,hrow.free 0 q0,hu.keep ab,dW.below ab hfu hbu,hv.keep ab,by omega,ab.mono (Nat.le_of_lt hbu)⟩)
 ·rintro a' wr ⟨m,lq,lu1,u8,u9,u10,u11,u12,u13,u14,u15,u16,u17,u18,u19,u20,u21,u22,u23,u24,u25,u26,u27,u28,u29,u30,u31,u32,u33,u34,u35,u36,u37,u38,u39,u40,u41,u42,u43,u44,u45,u46,u47,u48,u49,u50,u51,u52,u53,u54,rfl,hm,hinv,hq,hfq,hu1,hfu1,hv1,hszr,hbl⟩;by_cases hm0:m=0
  ·subst hm0;go_wp2;rw[show ∀ J Q b w,Exit.jump 0 J Q .ret b w=Q .ret b w from fun _ _ _ _=>rfl];go_ret;exact⟨lq,lu1,rfl,hinv,hq,hfq,hu1,hfu1,hbl⟩
  ·obtain⟨a,rfl⟩:∃ a,m=a + 1:=⟨m - 1,by omega⟩
   have hlq:=hinv.G7;have hl1:=hinv.FJ
   have hk1:a + (k + 2) + 1 - a=k + 3:=by omega
   have hVB:=ee wv;rw[hlv] at hVB;obtain⟨hW1,hW2⟩:=hinv.gO (by omega) hVB;have hwin:=hu1.gO a (k + 3);have hfwin:=hfu1.gO (k:=a) (m:=k + 3) (by omega)
   have ag:((lu1.drop a).take (k + 3)).length=k + 3:=by simp; omega
   have ac:Words ((lu1.drop a).take (k + 3)):=(hinv.wu.drop a).take (k + 3);have hcall:=fun wx hx hy=>zN (some ⟨bu,ou + a,none⟩) (k + 3) bu (ou + a) av k cv bv ov ((lu1.drop a).take (k + 3)) lv wx ag hlv (by omega) ac wv hx hy htop hW2
   have aa:=fun d nw=>hinv.step (d:=d) (nw:=nw) (by omega) hVB
   have HH:=(show Hid _ from And.intro hW1 (And.intro ag (And.intro ac (And.intro hlq (And.intro hl1 aa)))))
   clear hinv hW1 ag ac hlq hl1 aa
   have e1:((a:Nat):Int) + 1 - 1=a:=by omega
   generalize hL:(lu1.drop a).take (k + 3)=L at *;go_wp2_with fail;rw[hk1];refine(hcall _ hwin hv1).mono ?_
   rintro e w2 ⟨g,rfl,hnear,ab⟩;obtain⟨hW1,ag,ac,hlq,hl1,aa⟩:=HH.out
   have hsz2:w.heap.size < w2.heap.size:=Nat.lt_of_lt_of_le hszr ab.size
   have hbu:bu < wr.heap.size:=by
    rcases hu1.lt with e | e
    ·subst e; simp at hl1
    ·exact e
   have HB2:=(show Hid _ from hbl.trans (ab.mono (Nat.le_of_lt hbu)))
   clear hbl;have hq2:=hq.keep ab;have hfq2:=dW.below ab hfq hszr;have hu2:=hu1.keep ab;have hfu2:=dW.below ab hfu1 hbu;have hv2:=hv1.keep ab;have hc:=hq2.cell a (by omega);have hf:=hfq2 a (by omega);rw[Nat.zero_add] at hc hf;clear hcall hwin;have hg0:=hnear.1;have hg1:=hnear.2.1;clear hW1 ag ac hlq hl1 aa hq hfq hu1 hfu1 hv1;go_wp2_with fail
   have hbq:bu≠w.heap.size:=by
    rcases hu.lt with e | e
    ·subst e; simp at hlu
    ·omega
   have hbq':bu<=w.heap.size:=by
    rcases hu.lt with e | e
    ·subst e; simp at hlu
    ·omega
   have hbv:bv≠w.heap.size:=by
    rcases hv.lt with e | e
    ·subst e; simp at hlv
    ·omega
   obtain⟨hW1,ag,ac,hlq,hl1,aa⟩:=HH.out
   have hwr3:Wr w.heap.size 0 q0 w2 (w2.setCell ⟨w.heap.size,a,none⟩ (.int .u64 g)):=(Wr.refl _ _ _ _).setCell (by omega) (by omega) _;have hq3:=hq2.setCell (i:=a) (by omega) g;rw[Nat.zero_add] at hq3;generalize w2.setCell ⟨w.heap.size,a,none⟩ (.int .u64 g)=w3 at *;have hfq3:=hwr3.free hfq2;have hfu3:=hwr3.free hfu2;have hu3:=hu2.wr hwr3 (.inr hbq);have hv3:=hv2.wr hwr3 (.inr hbv)
   have hsz3:w.heap.size < w3.heap.size:=by rw[hwr3.size]; exact hsz2
   have hwin3:=hu3.gO a (k + 3);rw[hL] at hwin3;have hfwin3:=hfu3.gO (k:=a) (m:=k + 3) (by omega);refine(kE (some ⟨bu,ou + a,none⟩) bu (ou + a) (k + 3) (k + 3) av bv ov (k + 2) cv g L lv w3 ag hlv (by omega) (by omega) (Nat.le_refl _) hcv hg0 hg1 ac wv hwin3 hfwin3 hv3 (.inr hne)).mono ?_
   rintro e w4 ⟨iu,rfl,ho0,ho1,nw,hnl,hnw,hat4,ae,hval4⟩;have HB4:=(show Hid _ from(HB2.out.trans (hwr3.below hbq')).trans (ae.below (Nat.le_refl _)))
   have hfq4:=ae.free hfq3;have hfu4:=ae.free hfu3;have hq4:=hq3.wr ae (.inr (Ne.symm hbq));have hv4:=hv3.wr ae (.inr hne);have hu4:=hu3.patch ae hat4 hnl (by omega)
   have hsz4:w.heap.size < w4.heap.size:=by rw[ae.size]; exact hsz3
   have hP:=gE (l:=lu1) (m:=nw) (k:=a) (by omega)
   have hVB3:val lv < 18446744073709551616 ^ (k + 3):=by
    have:=pow_pos (k + 2);rw[Int.pow_succ _ (k + 2)]; omega
   have hnl2:=ee hnw;rw[hnl] at hnl2;have hNO:=fun Z=>F4 (Z:=Z) (n:=k + 3) hnear hVB3 hval4 hnl2 (aQ ac) ho0
   clear hwr3 hfq2 hfu2 hu2 hv2 hq2 hfq3 hfu3 hu3 hv3 hwin3 hfwin3 ae hq3;by_cases ho:iu=0
   ·subst ho;have hx:=(hNO 0).1 rfl;have hJ:=aa g nw hg0 hg1 hnw hnl hx.1 hx.2;have HJ:=(show Hid _ from hJ)
    clear hJ hx hNO aa HH hW1 ag ac hlq hl1 hval4 hnl2 hP;go_wp2_with fail;go_step3;refine And.intro (Eq.refl 0) (And.intro ?_ ?_)
    ·exact⟨a,lq.set a g,patch lu1 a nw,_,_,_,_,_,_,_,_,_,_,_,_,_,_,_,_,_,_,_,_,_,_,_,_,_,_,_,_,_,_,_,_,_,_,_,_,_,_,_,_,_,_,_,_,_,_,_,rfl,by omega,HJ.out,hq4,hfq4,hu4,hfu4,hv4,hsz4,HB4.out⟩
    ·simp[intOf]
   ·have hg1':1<=g:=((hNO ((val nw + val lv * 1) % 18446744073709551616 ^ (k + 3))).2 ho rfl).1;have hq4c:=hq4.cell a (by simp; omega);have hq4f:=hfq4 a (by omega);rw[Nat.zero_add] at hq4c hq4f;rw[ep (by omega),if_pos rfl] at hq4c;have HN:=(show Hid _ from And.intro hNO (And.intro aa (And.intro hlq (And.intro hl1 (And.intro hW1 (And.intro ag (And.intro ac (And.intro hP hnl))))))))
    clear hNO aa HH hW1 ag ac hlq hl1 hval4 hnl2 hP
    have hgw:IntKind.u64.wrap (g - 1)=g - 1:=by rw[IntKind.wrap_u64]; omega
    have hob:(iu == 0)=false:=by simpa using ho
    go_wp2_with fail;obtain⟨hNO,aa,hlq,hl1,hW1,ag,ac,hP,hnl'⟩:=HN.out
    have ad:Wr w.heap.size 0 q0 w4 (w4.setCell ⟨w.heap.size,a,none⟩ (.int .u64 (g - 1))):=(Wr.refl _ _ _ _).setCell (by omega) (by omega) _;have hq5:=hq4.setCell (i:=a) (by simp; omega) (g - 1);rw[Nat.zero_add,List.set_set] at hq5;generalize w4.setCell ⟨w.heap.size,a,none⟩ (.int .u64 (g - 1))=w5 at *;have hfq5:=ad.free hfq4;have hfu5:=ad.free hfu4;have hu5:=hu4.wr ad (.inr hbq);have hv5:=hv4.wr ad (.inr hbv);have hat5:=hat4.wr ad (.inr hbq)
    have hsz5:w.heap.size < w5.heap.size:=by rw[ad.size]; exact hsz4
    have hfwin5:=hfu5.gO (k:=a) (m:=k + 3) (by omega);refine(fo (some ⟨bu,ou + a,none⟩) bu (ou + a) (k + 3) (k + 3) av bv ov (k + 2) cv 1 nw lv w5 hnl hlv (by omega) (by omega) (Nat.le_refl _) hcv (by omega) (by omega) hnw wv hat5 hfwin5 hv5 (.inr hne)).mono ?_
    rintro e w6 ⟨rfl,n2,hnl6,hnw6,hat6,af,hval6⟩;have HB6:=(show Hid _ from(HB4.out.trans (ad.below hbq')).trans (af.below (Nat.le_refl _)))
    have hfq6:=af.free hfq5;have hfu6:=af.free hfu5;have hq6:=hq5.wr af (.inr (Ne.symm hbq));have hv6:=hv5.wr af (.inr hne);have hu6:=hu5.patch af hat6 hnl6 (by omega);rw[tQ (by omega) (by omega)] at hu6
    have hsz6:w.heap.size < w6.heap.size:=by rw[af.size]; exact hsz5
    have hx:=(hNO (val n2)).2 ho hval6;have HJ:=(show Hid _ from aa (g - 1) n2 (by omega) (by omega) hnw6 hnl6 hx.2.1 hx.2.2)
    clear hx hNO aa HN hW1 ag ac hlq hl1 hP ad hq5 hfq5 hfu5 hu5 hv5 hat5 hfwin5 af hq4 hfq4 hu4 hv4 hfu4 hval6 hq4c hq4f;go_wp2_with fail;go_step3;refine And.intro (Eq.refl 0) (And.intro ?_ ?_)
    ·exact⟨a,lq.set a (g - 1),patch lu1 a n2,_,_,_,_,_,_,_,_,_,_,_,_,_,_,_,_,_,_,_,_,_,_,_,_,_,_,_,_,_,_,_,_,_,_,_,_,_,_,_,_,_,_,_,_,_,_,_,rfl,by omega,HJ.out,hq6,hfq6,hu6,hfu6,hv6,hsz6,HB6.out⟩
    ·simp[intOf]
end
end
section
open Go.RowKit Lim
section
variable {l L:List Int}{k s:Nat}
theorem Fj(wl:Words l){n:Nat}(hn:l.length=n + 1):nth l n * 18446744073709551616 ^ n<=val l/\val l < (nth l n + 1) * 18446744073709551616 ^ n:=by
 have e1:=bP l n (by omega);have b:=aQ (wl.take n);have a:=ee (wl.take n);rw[List.length_take,Nat.min_eq_left (by omega)] at a;rw[eN (by omega),List.drop_of_length_le (show l.length<=n + 1 by omega)] at e1
 have e2:(18446744073709551616:Int) ^ n * (nth l n + 18446744073709551616 * val [])=nth l n * 18446744073709551616 ^ n:=by
  rw[show val []=0 from rfl]; grind
 rw[e2] at e1;rw[Int.add_mul (nth l n) 1];omega
theorem gk{a b p:Int}(hp:0 < p)(h:a * p < b * p):a < b:=Int.lt_of_mul_lt_mul_right h (Int.le_of_lt hp)
theorem xB{a:List Int}(j:Words L)(hL:L.length=k + 2)(d:Words a)(hv:a.length=k + 3)(hs:s<=63)(e:val a=val L * 2 ^ s)(b0:9223372036854775808<=nth L (k + 1) * 2 ^ s)(b1:nth L (k + 1) * 2 ^ s < 18446744073709551616):aJ a=k + 2/\9223372036854775808<=nth a (k + 1):=by
 obtain⟨t1,t2⟩:=Fj (n:=k + 1) j hL;obtain⟨o,m⟩:=Fj (n:=k + 2) d hv
 have b:(0:Int) < 2 ^ s:=Int.pow_pos (by decide);have f:=pow_pos (k + 1);have hC:=pow_pos (k + 2)
 have c1:(nth L (k + 1) + 1) * 2 ^ s<=18446744073709551616:=by
  have h:(18446744073709551616:Int)=2 ^ (64 - s) * 2 ^ s:=by rw[<- Int.pow_add,show 64 - s + s=64 by omega]; rfl
  rw[h] at b1 ⊢;have:=gk b b1;exact Int.mul_le_mul_of_nonneg_right (by omega) (Int.le_of_lt b)
 have c2:val a < 1 * 18446744073709551616 ^ (k + 2):=by
  have k1:val L * 2 ^ s < (nth L (k + 1) + 1) * 18446744073709551616 ^ (k + 1) * 2 ^ s:=Int.mul_lt_mul_of_pos_right t2 b
  have k2:(nth L (k + 1) + 1) * 2 ^ s * 18446744073709551616 ^ (k + 1)<=18446744073709551616 * 18446744073709551616 ^ (k + 1):=Int.mul_le_mul_of_nonneg_right c1 (Int.le_of_lt f);rw[Int.mul_right_comm] at k1;rw[Int.pow_succ _ (k + 1),Int.mul_comm _ 18446744073709551616];omega
 have c3:nth a (k + 2) < 1:=gk hC (by omega)
 have g:nth a (k + 2)=0:=by have:=d.nth (k + 2); omega
 have e1:=bP a (k + 2) (by omega);rw[eN (by omega),List.drop_of_length_le (show a.length<=k + 2 + 1 by omega),g,show val []=0 from rfl] at e1;obtain⟨v1,v2⟩:=Fj (n:=k + 1) (d.take (k + 2)) (by simp; omega);rw[dq (by omega)] at v1 v2
 have c4:9223372036854775808 * 18446744073709551616 ^ (k + 1)<=val a:=by
  have k1:nth L (k + 1) * 18446744073709551616 ^ (k + 1) * 2 ^ s<=val L * 2 ^ s:=Int.mul_le_mul_of_nonneg_right t1 (Int.le_of_lt b)
  have k2:9223372036854775808 * 18446744073709551616 ^ (k + 1)<=nth L (k + 1) * 2 ^ s * 18446744073709551616 ^ (k + 1):=Int.mul_le_mul_of_nonneg_right b0 (Int.le_of_lt f);rw[Int.mul_right_comm] at k1;omega
 have l:9223372036854775808 < nth a (k + 1) + 1:=gk f (by omega);refine⟨lp (by omega) ?_ ?_,by omega⟩
 ·intro i hi;by_cases c:i=k + 2
  ·subst c; exact g
  ·simp[nth,List.getElem?_eq_none (show a.length<=i by omega)]
 ·intro _;rw[show k + 2 - 1=k + 1 from rfl]; omega
theorem FG{N:Nat}(wl:Words l)(b:l.length=N)(d:Words L)(hL:L.length=k + 2)(f:1<=nth L (k + 1))(h:k + 2<=N) :
  val l * 2 ^ s < val L * 2 ^ s * 18446744073709551616 ^ (N + 1 - (k + 2)):=by
 obtain⟨t1,t2⟩:=Fj (n:=k + 1) d hL
 have c:(0:Int) < 2 ^ s:=Int.pow_pos (by decide);have g:=pow_pos (k + 1);have e:=pow_pos (N + 1 - (k + 2));have a:=ee wl;rw[b] at a
 have k1:1 * 18446744073709551616 ^ (k + 1)<=nth L (k + 1) * 18446744073709551616 ^ (k + 1):=Int.mul_le_mul_of_nonneg_right f (Int.le_of_lt g)
 have k2:18446744073709551616 ^ (k + 1) * 18446744073709551616 ^ (N + 1 - (k + 2))<=val L * 18446744073709551616 ^ (N + 1 - (k + 2)):=Int.mul_le_mul_of_nonneg_right (by omega) (Int.le_of_lt e);rw[<- Int.pow_add,show k + 1 + (N + 1 - (k + 2))=N by omega] at k2;rw[Int.mul_right_comm];exact Int.mul_lt_mul_of_pos_right (by omega) c
theorem Ef{x V Q R P:Int}(g:0 < P)(i:0 < V)(e:x * P=Q * (V * P) + R)(r0:0<=R)(r1:R < V * P):Q=x / V/\R / P=x % V:=by
 have c:R=(x - Q * V) * P:=by rw[Int.sub_mul,e,Int.mul_assoc]; omega
 have f:R / P=x - Q * V:=by rw[c,Int.mul_ediv_cancel _ (by omega)]
 have h:0<=x - Q * V:=by rw[<- f]; exact Int.ediv_nonneg r0 (Int.le_of_lt g)
 have j:x - Q * V < V:=gk g (by rw[<- c]; exact r1);have d:=(Int.ediv_emod_unique (a:=x) (b:=V) (r:=x - Q * V) (q:=Q) i).2 ⟨by rw[Int.mul_comm V]; omega,h,j⟩;exact⟨d.1.symm,by rw[f]; exact d.2.symm⟩
theorem Eh(ao:Option Addr)(n c b o:Nat)(ao':Option Addr)(n' c' b' o':Nat)(l l':List Int)(w:World)(hl:l.length=n)(hl':l'.length=n')(hc:n<=c)(hc':n'<=c')(hbig:n<=1099511627776)(hbig':n'<=1099511627776)(wl:Words l)(wl':Words l')(ha:At w ao b o l)(ha':At w ao' b' o' l')(hge:val l'<=val l)(h2:2<=aJ l') :
  Calls Tryz.prog 70 #[.slice ao n c,.slice ao' n' c'] w fun e w'=>ke w w' e (val l) (val l') n n':=by
 have h0:=aQ wl;have hn:=bJ l
 have hn':=bJ l'
 have hNN:aJ l'<=aJ l:=by
  by_cases c:aJ l < aJ l'
  ·have:=de wl wl' c; omega
  ·omega
 have t1:=bL ao' n' c' l' w hl' hc' (by omega) ha'.cells
 have hs':=ha'.sub (aJ l');rw[show l'.take (aJ l')=norm l' from rfl] at hs';have t2:=jT ao n c b o ao' (aJ l') (aJ l') b' o' l (norm l') w hl (aM l') hc (Nat.le_refl _) (by omega) (by omega) wl wl'.norm ha hs';rw[dh] at t2
 have hs0:0<=sgn (val l) (val l'):=by unfold sgn; split<;>(try split)<;>omega
 have hnl':=aM l'
 have hw':=wl'.norm
 have hv':=dh l'
 have htop:nth (norm l') (aJ l' - 1)≠0:=by rw[iz]; exact ko (by omega)
 generalize norm l'=L' at *;generalize hN':aJ l'=N' at *;obtain⟨m,hm⟩:∃ m,N'=m + 1:=⟨N' - 1,by omega⟩
 rw[show N' - 1=m by omega] at htop
 have hmi:(N':Int) - 1=m:=by omega
 have hmN:m < N':=by omega
 have hmN':(m:Int) < N':=by omega
 have hty:=hw'.nth m;rcases hs'.loc with e | rfl
 ·subst e; simp at hnl'; omega
 generalize sgn (val l) (val l')=sg at *;have H1:=(show Hid _ from And.intro hv' (And.intro hm (And.intro hnl' (And.intro hge (And.intro hl hN')))))
 clear hv' hm hnl' hN';go_enter Tryz.func70,Tryz.ntmps70;go_wp2_with fail;refine t1.mono ?_
 rintro e w1 ⟨rfl,rfl⟩;go_wp2_with fail;refine t2.mono ?_
 rintro e w2 ⟨rfl,hb2⟩;have hcy:=(hs'.keep hb2).cell m (by rw[H1.out.2.2.1]; exact hmN);clear t1 t2;go_wp2_with fail;refine(Iy (nth L' m) w2 (by omega) hty.2).mono ?_
 rintro e w3 ⟨s,rfl,hs,HS,rfl⟩;have ta:=bL ao n c l w3 hl hc (by omega) (ha.keep hb2).cells;have hsa:=(ha.keep hb2).sub (aJ l);rw[show l.take (aJ l)=norm l from rfl] at hsa;have hnl:=aM l;have hwn:=wl.norm;have HV:=(show Hid _ from dh l)
 rw[hl] at hn;generalize norm l=L at *;generalize aJ l=N at *;clear hcy;go_wp2_with fail;refine ta.mono ?_
 rintro e w4 ⟨rfl,rfl⟩;clear ta;go_wp2_with fail;refine(qU ao N N b o s L w4 hnl (Nat.le_refl _) (by omega) hs hwn hsa).mono ?_
 rintro e w5 ⟨lu,rfl,hlu,hwu,hatu,hfu,hszu,hvu,hbu⟩;have hs5:=(hs'.keep hb2).keep hbu;have HU:=(show Hid _ from And.intro hlu (And.intro hvu hnl))
 clear hlu hvu hnl;go_wp2_with fail;refine(qU (some ⟨b',o',none⟩) N' N' b' o' s L' w5 H1.out.2.2.1 (Nat.le_refl _) (by omega) hs hw' hs5).mono ?_
 rintro e w6 ⟨lv,rfl,hlv,hwv,hatv,hfv,hszv,hvv,hbv⟩;obtain⟨k,hk⟩:∃ k,k + 2=N':=⟨N' - 2,by omega⟩
 obtain⟨q0,hq0⟩:∃ q0,q0 + (k + 2)=N + 1:=⟨N + 1 - (k + 2),by omega⟩
 obtain⟨hv',hm,hnl',hge',hl2,hN'⟩:=H1.out
 have hmk:m=k + 1:=by omega
 have hrt:=xB (k:=k) hw' (by omega) hwv (by omega) hs hvv (by rw[<- hmk]; exact HS.out.1) (by rw[<- hmk]; exact HS.out.2);have hro:=FG (s:=s) (N:=N) (k:=k) (l:=L) (L:=L') hwn HU.out.2.2 hw' (by omega) (by rw[<- hmk]; omega) (by omega);rw[<- HU.out.2.1,<- hvv,show N + 1 - (k + 2)=q0 by omega] at hro;have tv:=bL (some ⟨w5.heap.size,0,none⟩) (N' + 1) (N' + 1) lv w6 hlv (Nat.le_refl _) (by omega) hatv.cells;rw[hrt.1,hk] at tv;have hsv:=hatv.sub (aJ lv);rw[show lv.take (aJ lv)=norm lv from rfl] at hsv;have hnlv:=aM lv;rw[hrt.1] at hnlv;have hdl:=pP w4.heap.size 0 (N + 1) (some ⟨w5.heap.size,0,none⟩) k q0 N' w5.heap.size 0 lu (norm lv) w6 (by rw[hq0]; exact HU.out.1) hnlv (by omega) (by omega) (by omega) (by omega) hwu hwv.norm (hatu.keep hbv) (by rw[hq0]; exact dW.below hbv hfu hszu) hsv (by omega) (by rw[iz]; exact hrt.2) (by rw[dh]; exact hro);rw[hq0,hk,dh] at hdl;have HK:=(show Hid _ from And.intro hk (And.intro hq0 (And.intro hvv hmk)))
 have hq0n:q0<=N:=by omega
 clear hv' hm hnl' hN' hk hq0 hmk hrt hro hnlv hvv hl2;go_wp2_with fail;refine tv.mono ?_
 rintro e w7 ⟨rfl,rfl⟩;clear tv;go_wp2_with fail;refine hdl.mono ?_
 rintro e w8 ⟨lq,lr,rfl,hdi,hatq,hfq,hatr,hfr,hbd⟩;clear hdl
 have hlr:lr.length=N + 1:=by rw[hdi.FJ]; exact HK.out.2.1
 have HD:=(show Hid _ from hdi)
 have hwr':=hdi.wu;clear hdi;go_wp2_with fail;refine(Ah (some ⟨w4.heap.size,0,none⟩) w4.heap.size 0 (N + 1) (N + 1) s lr w8 hlr (by omega) (Nat.le_refl _) hs hwr' hatr hfr).mono ?_
 rintro e w9 ⟨rfl,lz,hlz,hwz,hatz,hwrz,hvz⟩;have hq9:=hatq.wr hwrz (.inr (by omega));have hfq9:=hwrz.free hfq;have hfz9:=hwrz.free hfr;have tq:=bL (some ⟨w7.heap.size,0,none⟩) q0 q0 lq w9 HD.out.G7 (Nat.le_refl _) (by omega) hq9.cells;have tr:=bL (some ⟨w4.heap.size,0,none⟩) (N + 1) (N + 1) lz w9 hlz (Nat.le_refl _) (by omega) hatz.cells;have hz1:=bJ lz;have hz2:=bJ lq;rw[HD.out.G7] at hz2;rw[hlz] at hz1;have HX:=(show Hid _ from And.intro hlr (And.intro hlz hvz))
 clear hlr hlz hvz;go_wp2_with fail;refine tq.mono ?_
 rintro e w10 ⟨rfl,rfl⟩;go_wp2_with fail;refine tr.mono ?_
 rintro e w11 ⟨rfl,rfl⟩;clear tq tr;go_wp2;go_ret3;have hsq:=hq9.sub (aJ lq);have hsz:=hatz.sub (aJ lz);have hsz2:=hb2.size;have hsz5:=hbu.size;have hsz7:=hbv.size
 have HB:Below w1.heap.size w1 w11:=(((hb2.trans (hbu.mono hsz2)).trans (hbv.mono (by omega))).trans (hbd.mono hsz2)).trans (hwrz.below hsz2);obtain⟨hv',hm,hnl',hge',hl2,hN'⟩:=H1.out;obtain⟨hlr,hlz,hvz⟩:=HX.out;have he:=HD.out.eq;have hlt:=HD.out.lt;rw[HU.out.2.1,HV.out,HK.out.2.2.1,hv',Int.pow_zero,Int.one_mul,List.drop_zero] at he;rw[HK.out.2.2.1,hv',Int.pow_zero,Int.mul_one] at hlt
 have hV:0 < val l':=by
  have:val l'≠0:=fun e=>by have:=(cy wl').2 e; omega
  have:=aQ wl';omega
 have hdb:=Ef (ic s hs).1 hV he (aQ hwr') hlt;have i1:=cI HD.out.wq;have i2:=cI hwz;rw[hdb.1] at i1;rw[hvz,hdb.2] at i2;exact⟨_,_,norm lq,norm lz,rfl,ey.of (aM lq).symm (Nat.le_refl _) (by omega) hsq (fun i hi=>hfq9 i (by omega)),ey.of (aM lz).symm (Nat.le_refl _) hsz2 hsz (fun i hi=>hfz9 i (by omega)),i1,i2,by rw[aM]; omega,by rw[aM]; omega,HB⟩
theorem sW(ao:Option Addr)(n c b o:Nat)(ao':Option Addr)(n' c' b' o':Nat)(l f:List Int)(w:World)(m:l.length=n)(i:f.length=n')(hc:n<=c)(j:n'<=c')(d:n<=1099511627776)(a:n'<=1099511627776)(wl:Words l)(g:Words f)(k:At w ao b o l)(h:At w ao' b' o' f)(p:val f≠0) :
  Calls Tryz.prog 70 #[.slice ao n c,.slice ao' n' c'] w fun e w'=>ke w w' e (val l) (val f) n n':=by
 by_cases r:val l < val f
 ·exact div_lt ao n c b o ao' n' c' b' o' l f w m i hc j d a wl g k h r
 ·have s:aJ f≠0:=fun e=>p ((cy g).1 e)
  by_cases q:aJ f=1
  ·exact div_one ao n c b o ao' n' c' b' o' l f w m i hc j d a wl g k h (by omega) q
  ·exact Eh ao n c b o ao' n' c' b' o' l f w m i hc j d a wl g k h (by omega) (by omega)
theorem pF(ao:Option Addr)(n c b o:Nat)(ao':Option Addr)(n' c' b' o':Nat)(ad:Option Addr)(nd cd bd od:Nat)(l l' ld:List Int)(w:World)(hl:l.length=n)(hl':l'.length=n')(hld:ld.length=nd)(hc:n<=c)(hc':n'<=c')(hcd:nd<=cd)(hbig:n<=274877906944)(hbig':n'<=274877906944)(hbigd:nd<=274877906944)(wl:Words l)(wl':Words l')(wd:Words ld)(ha:At w ao b o l)(ha':At w ao' b' o' l')(had:At w ad bd od ld)(hne:val ld≠0) :
  Calls Tryz.prog 93 #[.slice ao n c,.slice ao' n' c',.slice ad nd cd] w fun e w'=>ke w w' e (val l * val l') (val ld) (n + n') nd:=by
 go_enter Tryz.func93,Tryz.ntmps93;go_wp2_with fail;refine(oB ao n c b o ao' n' c' b' o' l l' w hl hl' hc hc' (by omega) (by omega) wl wl' ha ha').mono ?_
 rintro e w1 ⟨v,r,rfl,hnew,hI,hlen,aa⟩;obtain⟨ar,br,or',cr,rfl,hrc,hbr,hatr,_⟩:=hnew.is;have had1:=had.keep aa;have ab:=aa.size;have t2:=sW ar r.length cr br or' ad nd cd bd od r ld w1 rfl hld hrc hcd (by omega) (by omega) hI.1 wd hatr had1 hne;rw[hI.2.2] at t2;go_wp2_with fail;refine t2.mono ?_
 rintro e w2 ⟨q,u,rq,ru,rfl,hq,hu,hIq,hIu,hlq,hlu,hb2⟩;go_wp2;go_ret3;exact⟨q,u,rq,ru,rfl,hq.mono ab,hu.mono ab,hIq,hIu,by omega,by omega,aa.trans (hb2.mono ab)⟩
end
end
section
open Go.RowKit Lim
section
variable {w w':World}{B:Nat}{v:Value}{l l1:List Int}{c m c0:Int}
def dS(w:World)(B:Nat)(v:Value)(l:List Int):Prop:=w.ownsRow B 22 1 v l.length (l.map (Value.int .u64))
theorem dS.open(h:dS w B v l):∃ ao c,v=.slice ao l.length c/\l.length<=c/\c<=maxLen/\∃ g,(l=[]\/ao=some ⟨g,0,none⟩)/\B<=g/\At w ao g 0 l/\dW w g 0 l.length:=by
 obtain⟨_,a⟩:=h;rcases a with⟨rfl,h0⟩ | ⟨g,cap,cur,rfl,hB,hh,hle,hmx,hsz,htk⟩
 ·have e:l=[]:=List.eq_nil_of_length_eq_zero h0;subst e;exact⟨none,0,rfl,Nat.le_refl _,by decide,B,.inl rfl,Nat.le_refl _,⟨.inl rfl,fun i hi=>by simp at hi⟩,fun i hi=>by simp at hi⟩
 ·refine⟨some ⟨g,0,none⟩,cap,rfl,hle,hmx,g,.inr rfl,hB,⟨.inr rfl,fun i hi => ?_⟩,fun i hi => ?_⟩
  ·have e:cur.toList[i]? = some (.int .u64 (nth l i)):=by
    have b:(cur.toList.take (l.length * 1))[i]? = some (.int .u64 (nth l i)):=by
     rw[htk,List.getElem?_map,List.getElem?_eq_getElem hi,bT hi]; rfl
    rwa [Nat.mul_one,List.getElem?_take_of_lt hi] at b
   simp only[World.cell?,hh];simpa using e
  ·simp[World.frozen?,hh]
theorem dS.setCell(h:dS w B v l){c g:Nat}(hv:v=.slice (some ⟨g,0,none⟩) l.length c){i:Nat}(hi:i < l.length)(x:Int):dS (w.setCell ⟨g,0 + i,none⟩ (.int .u64 x)) B v (l.set i x):=by
 obtain⟨_,a⟩:=h;refine⟨by simp,?_⟩;rcases a with⟨rfl,h0⟩ | ⟨g',cap,cur,rfl,hB,hh,hle,hmx,hsz,htk⟩
 ·omega
 ·simp only[Value.slice.injEq,Option.some.injEq,Addr.mk.injEq,and_true,true_and] at hv;obtain⟨rfl,rfl⟩:=hv;right;refine⟨g',cap,cur.setIfInBounds i (.int .u64 x),by simp,hB,?_,by simpa using hle,hmx,by simpa using hsz,?_⟩
  ·simp only[World.setCell,Array.getElem?_modify,if_true,hh,Nat.zero_add];simp
  ·rw[List.length_set,Nat.mul_one] at *;rw[Array.toList_setIfInBounds,List.map_set,<- htk,List.take_set]
theorem dS.below{c:Nat}(h:dS w B v l)(hb:Below c w w')(i:∀ g,v.ownBlock=some g->g < c):dS w' B v l:=by
 obtain⟨f,a⟩:=h;refine⟨f,?_⟩;rcases a with a | ⟨g,cap,cur,rfl,b,e,d⟩
 ·exact .inl a
 ·exact .inr ⟨g,cap,cur,rfl,b,by rw[hb.block g (i g rfl)]; exact e,d⟩
theorem dS.new(h:dS w' w.heap.size v l):ey w w' v l:=by
 obtain⟨ao,c,rfl,hc,_,g,_,hg,hat,hf⟩:=h.open;exact⟨ao,g,0,c,rfl,hc,hg,hat,hf⟩
structure qh(l:List Int)(m c0:Int)(k:Nat)(l1:List Int)(c:Int):Prop where
 len:l1.length=l.length
 words:Words l1
 high:∀ i,k<=i->nth l1 i=nth l i
 val:Lim.val (l1.take k) + 18446744073709551616 ^ k * c=Lim.val (l.take k) * m + c0
theorem qh.step{a c':Int}{k:Nat}(h:qh l m c0 k l1 c)(g:k < l.length)(d:0<=a)(b:a < 18446744073709551616)(e:a + 18446744073709551616 * c'=nth l k * m + c):qh l m c0 (k + 1) (l1.set k a) c':=by
 have f:=h.len;refine⟨by simp[f],h.words.set k d b,fun i hi=>by rw[ep (by omega),if_neg (by omega)]; exact h.high i (by omega),?_⟩;have j:=h.val;rw[ed (by simp[f]; omega),ed g,List.take_set_of_le (Nat.le_refl _),ep (by omega),if_pos rfl,Int.pow_succ];have:18446744073709551616 ^ k * (a + 18446744073709551616 * c')=18446744073709551616 ^ k * (nth l k * m + c):=by rw[e]
 grind
theorem qC(n:Nat)(w:World)(hn:n<=19):Calls Tryz.prog 161 #[.int .i64 n] w fun e w'=>e=.returned (.int .u64 (10 ^ n))/\w'=w:=by
 go_enter Tryz.func161,Tryz.ntmps161;go_wp2;go_loop [3,5] (fun tx ti=>∃ (k:Nat) (p:Int),k<=n/\ti=.int .i64 k/\tx=.int .u64 p/\Hid (p=10 ^ k)) (fun _ ti=>n - (intOf ti).toNat)
 case atStart=>exact⟨0,1,Nat.zero_le _,rfl,rfl,rfl⟩
 case round =>
  obtain⟨k,p,hk,rfl,rfl,hp⟩:=hrel;by_cases hlt:k < n
  ·have h1:(1:Int)<=p:=by rw[hp.out]; exact Int.pow_pos (by decide)
   have h2:p<=1000000000000000000:=by
    rw[hp.out];have:(10:Nat) ^ k<=10 ^ 18:=Nat.pow_le_pow_right (by decide) (by omega)
    have e:((10 ^ k:Nat):Int)=(10:Int) ^ k:=by rw[Int.natCast_pow]; rfl
    rw[<- e]; omega
   go_wp2;go_round
   case rel=>exact⟨k + 1,p * 10,by omega,by go_num,rfl,by show _=_; rw[Int.pow_succ,<- hp.out]⟩
   case measure=>simp[intOf]; omega
  ·have hkn:k=n:=by omega
   subst hkn;go_wp2;go_ret;exact⟨mN hp.out,rfl⟩
theorem A9(hc:c≠0):aJ (l ++ [c])=(l ++ [c]).length:=by
 apply lp (Nat.le_refl _)
 ·intro i hi; exact gZ hi
 ·intro _; rw[List.length_append,List.length_singleton,Nat.add_sub_cancel,bV (Nat.le_refl _),Nat.sub_self,bW]; exact hc
theorem wo{r:List Int}(wl:Words l)(wr:Words r)(hlen:r.length=l.length)(hv:val r=val l * m + c)(hm:0 < m)(hc:0<=c)(hn:aJ l=l.length):aJ r=r.length:=by
 have h:=bJ r;by_cases d:l.length=0
 ·omega
 have e:=ft wl (by omega);have g:=jH wr;have a:=aQ wl
 have f:val l * 1<=val l * m:=Int.mul_le_mul_of_nonneg_left (by omega) a;by_cases b:aJ r < r.length
 ·have:=jq (show aJ r<=aJ l - 1 by omega);omega
 ·omega
theorem qh.fin(h:qh l m c0 l.length l1 c):Lim.val (l1 ++ [c])=Lim.val l * m + c0:=by
 have a:=h.val;rw[List.take_of_length_le (by rw[h.len]; exact Nat.le_refl _),List.take_of_length_le (Nat.le_refl _)] at a;rw[eB,fK,h.len]; exact a
theorem qH(B:Nat)(v:Value)(l:List Int)(m c0:Int)(w:World)(hB:B<=w.heap.size)(aa:dS w B v l)(al:l.length<=1099511627776)(wl:Words l)(ax:0<=m)(aD:m < 18446744073709551616)(ar:0<=c0)(hc1:c0 < 18446744073709551616) :
  Calls Tryz.prog 206 #[v,.int .u64 m,.int .u64 c0] w fun e w'=>∃ v' r,e=.returned v'/\dS w' B v' r/\Words r/\val r=val l * m + c0/\r.length<=l.length + 1/\(aJ l=l.length->0 < m->aJ r=r.length)/\Below B w w':=by
 obtain⟨i0,hi,aA,hz1,hz2⟩:=info_parts iB;obtain⟨ao,cap,rfl,ap,hmax,g,af,hBg,_,_⟩:=aa.open
 have aC:∃ n,n=l.length:=⟨_,rfl⟩
 obtain⟨n,hn⟩:=aC
 have hn1:n<=l.length:=by omega
 have hn2:l.length<=n:=by omega
 have ak:Hid (n=l.length):=hn;rw[<- hn] at aa al ap ⊢;clear hn;go_enter Tryz.func206,Tryz.ntmps206;go_wp2;go_loopw [2,13] (fun tc ti wr=>∃ (k:Nat) (c:Int) (l1:List Int),k<=n/\ti=.int .i64 k/\tc=.int .u64 c/\0<=c/\c < 18446744073709551616/\qh l m c0 k l1 c/\dS wr B (.slice ao n cap) l1/\Below B w wr) (fun _ ti _=>n - (intOf ti).toNat)
 case atStart=>exact⟨0,c0,l,Nat.zero_le _,rfl,rfl,ar,hc1,⟨rfl,wl,fun _ _=>rfl,by simp[val]⟩,aa,Below.refl _ _⟩
 case round =>
  clear aa;obtain⟨k,c,l1,hk,rfl,rfl,ag,an,hinv,aa,ab⟩:=hrel;have ae:=hinv.len;by_cases hlt:k < n
  ·rcases af with e | rfl
   ·subst e; simp at hn1; omega
   obtain⟨ao',c',e',_,_,g',ad,ay,aw,am⟩:=aa.open;simp only[Value.slice.injEq] at e';obtain⟨rfl,e1,rfl⟩:=e'
   have hg':g'=g:=by
    rcases ad with e | e
    ·subst e; simp at e1; omega
    ·simpa using e.symm
   subst hg';have au:=aw.cell k (by omega);have aB:=am k (by omega);rw[Nat.zero_add] at au aB;rw[hinv.high k (Nat.le_refl _)] at au;obtain⟨az,hx1⟩:=wl.nth k
   have HI:Hid (qh l m c0 k l1 c):=hinv
   have HM:Hid (dS wr B (.slice (some ⟨g',0,none⟩) n cap) l1):=aa
   have HB:Hid (Below B w wr):=ab
   have HE:Hid (n=l1.length):=e1;clear hinv aa ab aw am ad e1 wl
   go_wp2_with (first
    | (go_at_call 89; refine(oA _ _ az hx1 ax aD _).mono ?_; rintro e w' ⟨hi',lo,rfl,h1,h2,h3,h4,h5,rfl⟩)
    | simp only[uo _ _ h3 ag])
   have hxm:nth l k * m<=340282366920938463426481119284349108225:=by
    have:=Int.mul_le_mul (show nth l k<=18446744073709551615 by omega) (show m<=18446744073709551615 by omega) ax (by decide);simpa using this
   have h5':=h5.out
   have e5:(lo + c) % 18446744073709551616 + 18446744073709551616 * (hi' + (lo + c) / 18446744073709551616)=nth l k * m + c:=by omega
   have HN:=HM.out.setCell (c:=cap) (g:=g') (by rw[<- HE.out]) (i:=k) (by omega) ((lo + c) % 18446744073709551616);rw[Nat.zero_add] at HN;go_roundw
   case rel=>exact⟨k + 1,_,_,by omega,by go_num,rfl,by omega,by omega,HI.out.step (by omega) (Int.emod_nonneg _ (by decide)) (Int.emod_lt_of_pos _ (by decide)) e5,HN,HB.out.setCell ay _⟩
   case measure=>simp[intOf]; omega
  ·have hkn:k=n:=by omega
   subst hkn
   have HF:Hid (val (l1 ++ [c])=val l * m + c0):=by rw[ak.out] at hinv; exact hinv.fin
   have aj:=hinv.words;by_cases hc:c=0
   ·subst hc;go_wp2;go_ret
    have aq:val l1=val l * m + c0:=by rw[<- HF.out,eB]; simp[val]
    refine⟨_,l1,rfl,aa,aj,aq,by omega,fun h1 h2=>wo wl aj (by omega) aq h2 ar (by omega),ab⟩
   ·have hcb:(c != 0)=true:=by rw[bne_iff_ne]; exact hc
    have av:wr.ownsRow B 22 1 (.slice ao k cap) k (l1.map (Value.int .u64)):=by have:=aa; unfold dS at this; rwa [ae,<- ak.out] at this
    have hsz:=ab.size;go_wp2_with (at_builtin; refine wpList_append_own _ rfl _ _ 30 rfl B 22 i0 (.int .u64 0) 1 8 iC hi aA hz1 hz2 rfl (by decide) _ _ _ rfl (av.alloc _) ⟨wr.heap.size,0,none⟩ 1 1 [.int .u64 c] rfl rfl ?c1 ?c2 ?c3 ?c4 ?c5 ?_)
    case c1=>exact cell_one_new _ _ _
    case c2=>intro u hu; simp at hu; subst hu; rfl
    case c3=>unfold maxLen; omega
    case c4=>omega
    case c5=>simp; omega
    intro v' w1 ai ah _;go_wp2;go_ret
    have hM:dS w1 B v' (l1 ++ [c]):=by
     unfold dS;rw[List.length_append,ae,<- ak.out,List.map_append]; exact ai
    refine⟨_,l1 ++ [c],rfl,hM,aj.append (Words.cons ag an Words.nil),HF.out,by simp; omega,fun _ _=>A9 hc,?_⟩
    exact(ab.alloc (by omega) _).grown ah (by simp; omega) (by
     intro g1 ac;rcases af with e | rfl
     ·subst e;rcases aa.2 with⟨e2,_⟩ | ⟨g2,cap2,cur2,e2,hB2,_⟩
      ·rw[e2] at ac; simp[Value.ownBlock] at ac
      ·rw[e2] at ac; simp[Value.ownBlock] at ac; omega
     ·simp[Value.ownBlock] at ac; omega)
end
end
section
open Go.RowKit Lim
section
variable {w:World}{l:List Int}{ops:Array Oper}{rest:List Oper}
theorem dS.cell{B g n c:Nat}(h:dS w B (.slice (some ⟨g,0,none⟩) n c) l){i:Nat}(hi:i < l.length):w.cell? ⟨g,i,none⟩=some (.int .u64 (nth l i))/\w.frozen? ⟨g,i,none⟩=false:=by
 obtain⟨o,p,e,_,_,m,a,_,d,b⟩:=h.open;simp only[Value.slice.injEq] at e;obtain⟨rfl,_,_⟩:=e
 have k:m=g:=by
  rcases a with e | e
  ·subst e; simp at hi
  ·simpa using e.symm
 subst k;have j:=d.cell i hi;have f:=b i hi;rw[Nat.zero_add] at j f;exact⟨j,f⟩
theorem Aa{o:Oper}{a:Act}{Q:Exit->Act->World->Prop}(k:o.guard=none)(l c:Operand)(f:o.op=Op.makeSlice 30 l c)(n m:Nat)(L C:Int)(g:a.eval l=.int .i64 L)(hc:a.eval c=.int .i64 C)(hL:L=(n:Int))(hC:C=(m:Int))(d:n<=m)(hn:m<=17592186044416)(j:∀ w',dS w' w.heap.size (.slice (some ⟨w.heap.size,0,none⟩) n m) (List.replicate n 0)->Below w.heap.size w w'->w'.heap.size=w.heap.size + 1->wpList Tryz.prog ops Q rest (a.put o.dst (.slice (some ⟨w.heap.size,0,none⟩) n m)) w') :
  wpList Tryz.prog ops Q (o :: rest) a w:=by
 obtain⟨i,hi,h,hs,hb⟩:=info_parts iB;refine wpList_plain k fun K e => ?_
 have b:=run_make (P:=Tryz.prog) w 30 22 i (.int .u64 0) iC hi h .i64 .i64 (n:Int) (m:Int) (by omega) (by omega) (by rw[hb]; omega) (by omega);subst hL;subst hC;unfold Oper.wp;simp only[execOp,f,g,hc];simp[b,Result.andThen];refine e _ _ (j _ ⟨by simp,.inr ⟨w.heap.size,m,((List.replicate m 0).map (Value.int .u64)).toArray,by simp,Nat.le_refl _,?_,by simpa using d,by unfold maxLen; omega,by simp,?_⟩⟩ ?_ ?_)
 ·show (w.heap.push _)[w.heap.size]? = _
  rw[Array.getElem?_push_size,hs,Nat.mul_one,pJ]
 ·simp; omega
 ·exact(Below.refl _ _).alloc (Nat.le_refl _) _
 ·simp
theorem Av(n:Nat)(w:World)(hn:n<=4096) :
  Calls Tryz.prog 165 #[.int .i64 n] w fun e w'=>∃ v r,e=.returned (.tuple #[v,.int .i64 0])/\ey w w' v r/\IsN r (10 ^ n)/\r.length<=n + 2/\Below w.heap.size w w':=by
 obtain⟨q,hq⟩:∃ q:Nat,q=n / 19:=⟨_,rfl⟩
 obtain⟨t,ht⟩:∃ t:Nat,t=n % 19:=⟨_,rfl⟩
 have hqi:(n:Int) / 19=q:=by omega
 have hti:(n:Int) % 19=t:=by omega
 have ht1:t < 19:=by omega
 have HN:Hid (n=19 * q + t):=by show _=_; omega
 have hqn:q<=n:=by omega
 clear hq ht
 have hb0:decide ((n:Int) < 0)=false:=by simp
 have hb1:decide (4096 < (n:Int))=false:=by simp; omega
 go_enter Tryz.func165,Tryz.ntmps165;go_wp2_with (at_make; refine Aa rfl _ _ rfl 1 (q + 1) _ _ rfl rfl rfl (by omega) (by omega) (by omega) ?_; intro w1 aa ae ac; have ar:=aa.cell (i:=0) (by simp); obtain⟨hc0,aq⟩:=ar);have ah:=aa.setCell (c:=q + 1) (g:=w.heap.size) rfl (i:=0) (by simp) 1;rw[show (List.replicate 1 (0:Int)).set 0 1=[1] from rfl,Nat.add_zero] at ah;have am:=ae.setCell (p:=⟨w.heap.size,0,none⟩) (Nat.le_refl _) (.int .u64 1);clear aa ae hc0 aq;go_loopw [4,19] (fun tz ti wr=>∃ (k:Nat) (l:List Int),k<=q/\ti=.int .i64 k/\dS wr w.heap.size tz l/\Words l/\Hid (aJ l=l.length)/\Hid (val l=10 ^ (19 * k))/\l.length<=k + 1/\Below w.heap.size w wr) (fun _ ti _=>q - (intOf ti).toNat)
 case atStart=>exact⟨0,[1],Nat.zero_le _,rfl,ah,Words.cons (by decide) (by decide) Words.nil,rfl,rfl,by simp,am⟩
 case round =>
  clear ah am ac;obtain⟨k,l,hk,rfl,hm,wl,an,hv,hlen,al⟩:=hrel;have ac:=al.size;by_cases hlt:k < q
  ·go_wp2_with (go_at_call 206; refine(qH w.heap.size _ l 10000000000000000000 0 _ ac hm (by omega) wl (by decide) (by decide) (by decide) (by decide)).mono ?_; rintro e w5 ⟨v',r,rfl,ak,af,ad,ai,ag,ab⟩);have e1:=hv.out;have e2:=ag an.out (by decide);go_roundw
   case rel=>exact⟨k + 1,r,by omega,by go_num,ak,af,e2,by show _=_; rw[ad,e1,Int.add_zero,show 19 * (k + 1)=19 * k + 19 from by omega,Int.pow_add]; rfl,by omega,al.trans ab⟩
   case measure=>simp[intOf]; omega
  ·have ap:k=q:=by omega
   have HK:Hid (k=q):=ap;clear ap
   have ao:(0:Int) < 10 ^ t:=Int.pow_pos (by decide)
   have aj:(10:Int) ^ t < 18446744073709551616:=by
    have:(10:Nat) ^ t<=10 ^ 18:=Nat.pow_le_pow_right (by decide) (by omega)
    have e:((10 ^ t:Nat):Int)=(10:Int) ^ t:=by rw[Int.natCast_pow]; rfl
    have e2:(10:Nat) ^ 18=1000000000000000000:=by decide
    omega
   have tT:=qC t wr (by omega);generalize hp:(10:Int) ^ t=p at *
   have HP:Hid ((10:Int) ^ t=p):=hp;clear hp;go_wp2_with fail;refine tT.mono ?_
   rintro e w4 ⟨rfl,rfl⟩;go_wp2_with fail;refine(qH w.heap.size _ l p 0 _ ac hm (by omega) wl (by omega) aj (by decide) (by decide)).mono ?_
   rintro e w5 ⟨v',r,rfl,ak,af,ad,ai,ag,ab⟩;have e1:=hv.out;have e2:=ag an.out ao
   have e3:val r=10 ^ n:=by rw[ad,e1,Int.add_zero,HN.out,Int.pow_add,HP.out,HK.out]
   clear ad;go_wp2;go_ret2;exact⟨v',r,rfl,ak.new,⟨af,e2,e3⟩,by omega,al.trans ab⟩
end
end
section
open Go.RowKit Lim
def eqB (l l':List Int):Bool:=decide (l=l')
theorem eqB_true {l l':List Int} (h:l=l'):eqB l l'=true:=by simp[eqB,h]
theorem eqB_false {l l':List Int} (h:l≠l'):eqB l l'=false:=by simp[eqB,h]
theorem retB {a b:Bool} (h:a=b):Ending.returned (.bool a)=.returned (.bool b):=by rw[h]
end
section
open Go.RowKit Lim
section
variable {w w':World}{ao:Option Addr}{b o:Nat}{l:List Int}
structure AtB(w:World)(ao:Option Addr)(b o:Nat)(l:List Int):Prop where
 loc:l=[]\/ao=some ⟨b,o,none⟩
 cell:∀ i,i < l.length->w.cell? ⟨b,o + i,none⟩=some (.int .u8 (nth l i))
theorem AtB.lt(k:AtB w ao b o l):l=[]\/b < w.heap.size:=by
 cases l with
 | nil=>exact .inl rfl
 | cons x l=>exact .inr (aK (k.cell 0 (by simp)))
theorem AtB.keep(h:Below w.heap.size w w')(k:AtB w ao b o l):AtB w' ao b o l :=
 ⟨k.loc,fun i hi=>by
  rcases k.lt with e | e
  ·subst e; simp at hi
  ·rw[h.cell (p:=⟨b,o + i,none⟩) e]; exact k.cell i hi⟩
theorem AtB.wr{n:Nat}(h:Wr b o n w w'){b' o':Nat}(k:AtB w ao b' o' l)(hb:l=[]\/b'≠b):AtB w' ao b' o' l :=
 ⟨k.loc,fun i hi=>by
  rcases hb with e | e
  ·subst e; simp at hi
  ·rw[h.other e]; exact k.cell i hi⟩
theorem AtB.setCell(k : AtB w ao b o l){i:Nat}(hi : i < l.length)(x : Int) : AtB (w.setCell ⟨b, o + i, none⟩ (.int .u8 x)) ao b o (l.set i x) :=
  ⟨by rcases k.loc with e | e
      · subst e; simp at hi
      · exact .inr e, fun j g => by
    rw[List.length_set] at g;have hc := k.cell j g;rw[ep hi];have a := k.cell i hi;simp only[World.cell?, World.setCell, Array.getElem?_modify, if_true] at hc a ⊢
    cases hh : w.heap[b]? with
    | none => rw[hh] at hc; simp at hc
    | some ob =>
      rw[hh] at hc a
      cases ob with
      | cells c e f =>
        simp at hc a ⊢;rw[Array.getElem?_setIfInBounds];by_cases e : j = i
        · subst e
          obtain⟨d, _⟩:= Array.getElem?_eq_some_iff.1 a;simp[d]
        · rw[if_neg (by omega), if_neg e]; exact hc
      | _ => simp at hc⟩
structure FH(w w':World)(v:Value)(l:List Int):Prop where
 is:∃ ao b o c,v=.slice ao l.length c/\l.length<=c/\w.heap.size<=b/\AtB w' ao b o l/\dW w' b o l.length
def aV(l:List Int):Prop:=∀ x∈l,0<=x/\x < 256
theorem aV.nth(h:aV l)(i:Nat):0<=nth l i/\nth l i < 256:=by
 by_cases hi:i < l.length
 ·exact h _ (lC hi)
 ·rw[gZ (by omega)]; decide
def bO:List Int->Int
 | []=>0
 | x :: l=>x * 256 ^ l.length + bO l
theorem b8(h:aV l):0<=bO l/\bO l < 256 ^ l.length:=by
 induction l with
 | nil=>simp[bO]
 | cons x l ih =>
  have e:=ih (fun y hy=>h y (List.mem_cons_of_mem _ hy));have b:=h x List.mem_cons_self
  have a:(0:Int) < 256 ^ l.length:=Int.pow_pos (by decide)
  have d:0<=x * 256 ^ l.length:=Int.mul_nonneg b.1 (Int.le_of_lt a)
  have c:x * 256 ^ l.length<=255 * 256 ^ l.length:=Int.mul_le_mul_of_nonneg_right (by omega) (Int.le_of_lt a);rw[bO,List.length_cons,Int.pow_succ]; omega
def IsB(l:List Int)(n:Int):Prop:=aV l/\(l≠[]->nth l 0≠0)/\bO l=n
theorem ly:∀ {a b:List Int},aV a->aV b->a.length=b.length->bO a=bO b->a=b
 | [],[],_,_,_,_=>rfl
 | x :: a,y :: b,ha,hb,hl,hv=>by
  have ha':aV a:=fun z g=>ha z (List.mem_cons_of_mem _ g)
  have f:aV b:=fun z g=>hb z (List.mem_cons_of_mem _ g)
  have d:a.length=b.length:=by simpa using hl
  have i:=b8 ha';have j:=b8 f;rw[bO,bO,d] at hv;rw[d] at i
  have h:(0:Int) < 256 ^ b.length:=Int.pow_pos (by decide)
  have e:x=y:=by
   rcases Int.lt_trichotomy x y with c | c | c
   ·have:(x + 1) * 256 ^ b.length<=y * 256 ^ b.length:=Int.mul_le_mul_of_nonneg_right (by omega) (Int.le_of_lt h);rw[Int.add_mul] at this; omega
   ·exact c
   ·have:(y + 1) * 256 ^ b.length<=x * 256 ^ b.length:=Int.mul_le_mul_of_nonneg_right (by omega) (Int.le_of_lt h);rw[Int.add_mul] at this; omega
  subst e;rw[ly ha' f d (by omega)]
theorem yZ(h:aV l)(a:l≠[])(d:nth l 0≠0):256 ^ (l.length - 1)<=bO l:=by
 cases l with
 | nil=>exact absurd rfl a
 | cons x l =>
  rw[bW] at d;have e:=h x List.mem_cons_self;have f:=b8 (l:=l) (fun z c=>h z (List.mem_cons_of_mem _ c))
  have b:(0:Int) < 256 ^ l.length:=Int.pow_pos (by decide);have:1 * 256 ^ l.length<=x * 256 ^ l.length:=Int.mul_le_mul_of_nonneg_right (by omega) (Int.le_of_lt b);rw[bO,List.length_cons,Nat.add_sub_cancel]; omega
theorem jy{a:Nat}(h:a<=b):(256:Int) ^ a<=256 ^ b:=by
 have:(256:Nat) ^ a<=256 ^ b:=Nat.pow_le_pow_right (by decide) h
 have e1:((256 ^ a:Nat):Int)=(256:Int) ^ a:=by rw[Int.natCast_pow]; rfl
 have e2:((256 ^ b:Nat):Int)=(256:Int) ^ b:=by rw[Int.natCast_pow]; rfl
 omega
theorem pB{a b:List Int}{n:Int}(c:IsB a n)(hb:IsB b n):a=b:=by
 apply ly c.1 hb.1
 ·have key:∀ {a b:List Int},IsB a n->IsB b n->¬ a.length < b.length:=by
   intro a b c hb d;have g:=(b8 c.1).2;have f:=yZ hb.1 (fun e=>by subst e; simp at d) (hb.2.1 (fun e=>by subst e; simp at d));rw[c.2.2] at g;rw[hb.2.2] at f;have:=jy (show a.length<=b.length - 1 by omega);omega
  have g:=key c hb;have f:=key hb c;omega
 ·rw[c.2.2,hb.2.2]
end
end
section
open Go.RowKit Lim
section
variable {l:List Int}{i:Nat}
theorem bpow(k:Nat):(18446744073709551616:Int) ^ k=((2 ^ (64 * k):Nat):Int):=by
 rw[Nat.pow_mul,Int.natCast_pow]; rfl
theorem Ds(wl:Words l)(hn:aJ l≠0):bitLen (val l).toNat=64 * (aJ l - 1) + bitLen (nth l (aJ l - 1)).toNat:=by
 have f:=aQ wl;have hs:=bP (norm l) (aJ l - 1) (by rw[aM]; omega)
 have e:(norm l).drop (aJ l - 1)=[nth l (aJ l - 1)]:=by
  apply nY
  ·simp[aM]; omega
  ·intro i hi;simp[aM] at hi;have:i=0:=by omega
   subst this;rw[dX,iz,bW]; rfl
 rw[e,fK,dh] at hs;have c:=ee (wl.norm.take (aJ l - 1));have d:=aQ (wl.norm.take (aJ l - 1));rw[List.length_take,aM,Nat.min_eq_left (by omega)] at c;have g:=wl.nth (aJ l - 1);have h:=ko hn;generalize nth l (aJ l - 1)=x at *;generalize val ((norm l).take (aJ l - 1))=y at *;generalize aJ l - 1=k at *;rw[bpow] at hs c;obtain⟨x,rfl⟩:=Int.eq_ofNat_of_zero_le g.1;obtain⟨y,rfl⟩:=Int.eq_ofNat_of_zero_le d;obtain⟨v,hv⟩:=Int.eq_ofNat_of_zero_le f;rw[hv] at hs ⊢
 have b:v / 2 ^ (64 * k)=x:=by
  have a:v=y + 2 ^ (64 * k) * x:=by
   have:(v:Int)=((y + 2 ^ (64 * k) * x:Nat):Int):=by rw[hs,Int.natCast_add,Int.natCast_mul]
   exact Int.ofNat.inj this
  rw[a,Nat.add_mul_div_left _ _ (Nat.two_pow_pos _),Nat.div_eq_of_lt (by omega),Nat.zero_add]
 rw[Int.toNat_natCast,Int.toNat_natCast,bitLen_shift v (64 * k) (by rw[b]; omega),b]
theorem uf(ao:Option Addr)(n c b o:Nat)(l:List Int)(w:World)(hl:l.length=n)(hc:n<=c)(hbig:n<=1099511627776)(wl:Words l)(ha:At w ao b o l) :
  Calls Tryz.prog 55 #[.slice ao n c] w fun e w'=>e=.returned (.int .i64 (bitLen (val l).toNat))/\Below w.heap.size w w':=by
 have hn:=bJ l;have t1:=bL ao n c l w hl hc (by omega) ha.cells;by_cases h0:aJ l=0
 ·rw[h0] at t1
  have hv:(val l).toNat=0:=by rw[(cy wl).1 h0]; rfl
  rw[hv,show bitLen 0=0 from rfl];go_enter Tryz.func55,Tryz.ntmps55;go_wp2_with fail;refine t1.mono ?_
  rintro e w1 ⟨rfl,rfl⟩;go_wp2_with fail;go_ret;exact⟨rfl,Below.refl _ _⟩
 ·have ht:=Ds wl h0;have hx:=wl.nth (aJ l - 1);have aa:=ha.cell (aJ l - 1) (by omega);have hl64:=jL (n:=(nth l (aJ l - 1)).toNat) (by omega);have t2:=fun wx=>Hy (nth l (aJ l - 1)) wx hx.1 hx.2
  rcases ha.loc with e | rfl
  ·subst e; simp[aJ] at h0
  rw[ht];generalize nth l (aJ l - 1)=x at *;generalize bitLen x.toNat=L at *;clear ht ha;obtain⟨k,hk⟩:∃ k,aJ l=k + 1:=⟨aJ l - 1,by omega⟩
  rw[hk] at t1 aa hn ⊢;rw[Nat.add_sub_cancel] at aa ⊢;clear hk h0
  have hk0:(k:Int) < (k:Int) + 1:=by omega
  go_enter Tryz.func55,Tryz.ntmps55;go_wp2_with fail;refine t1.mono ?_
  rintro e w1 ⟨rfl,rfl⟩;clear t1;go_wp2_with fail;refine(t2 _).mono ?_
  rintro e w2 ⟨rfl,rfl⟩;go_wp2;go_ret;exact⟨mN (by omega),Below.refl _ _⟩
theorem BG:IsN [] 0:=⟨Words.nil,rfl,rfl⟩
structure DV(lb:List Int)(m k:Nat)(lz:List Int):Prop where
 len:lz.length=m
 words:Words lz
 val:Lim.val lz=bO (lb.drop (lb.length - k))
theorem qF(h:i < l.length):bO (l.drop i)=nth l i * 256 ^ (l.length - 1 - i) + bO (l.drop (i + 1)):=by
 rw[List.drop_eq_getElem_cons h,bO,bT h,List.length_drop,show l.length - (i + 1)=l.length - 1 - i from by omega]
theorem aV.drop(h:aV l)(k:Nat):aV (l.drop k):=fun x hx=>h x (List.mem_of_mem_drop hx)
theorem yG(h:i < l.length)(x:Int):val (l.set i x)=val l + 18446744073709551616 ^ i * (x - nth l i):=by
 have e1:=bP (l.set i x) i (by simp; omega);have e2:=bP l i (by omega);rw[List.take_set_of_le (Nat.le_refl _),List.drop_set,if_neg (by omega),Nat.sub_self] at e1;rw[List.drop_eq_getElem_cons h,List.set_cons_zero,val] at e1;rw[List.drop_eq_getElem_cons h,val] at e2;rw[e1,e2,bT h]; grind
theorem yM(wl:Words l)(h:i < l.length){P:Int}(f:val l < 18446744073709551616 ^ i * P):nth l i < P:=by
 have e2:=bP l i (by omega);rw[List.drop_eq_getElem_cons h,val] at e2;have e:=aQ (wl.take i);have c:=aQ (wl.drop (i + 1));have a:=pow_pos i
 have d:0<=18446744073709551616 ^ i * (18446744073709551616 * val (l.drop (i + 1))):=Int.mul_nonneg (Int.le_of_lt a) (by omega);rw[Int.mul_add] at e2
 have b:18446744073709551616 ^ i * nth l i < 18446744073709551616 ^ i * P:=by rw[bT h]; omega
 exact Int.lt_of_mul_lt_mul_left b (Int.le_of_lt a)
theorem mz(k:Nat):(256:Int) ^ k=18446744073709551616 ^ (k / 8) * 2 ^ (8 * (k % 8)):=by
 have e:(18446744073709551616:Int)=256 ^ 8:=by decide
 have e2:(2:Int) ^ (8 * (k % 8))=256 ^ (k % 8):=by rw[Int.pow_mul]; rfl
 rw[e,e2,<- Int.pow_mul,<- Int.pow_add]; congr 1; omega
theorem GK{lb lz:List Int}{m k:Nat}(hb:aV lb)(hm:(lb.length + 7) / 8=m)(h:DV lb m k lz)(j:k < lb.length) :
  bits .or .u64 (nth lz (k / 8)) (IntKind.u64.wrap (nth lb (lb.length - 1 - k) * 2 ^ (8 * (k % 8))))=nth lz (k / 8) + nth lb (lb.length - 1 - k) * 2 ^ (8 * (k % 8)) /\
  DV lb m (k + 1) (lz.set (k / 8) (nth lz (k / 8) + nth lb (lb.length - 1 - k) * 2 ^ (8 * (k % 8)))):=by
 have f:=h.len;have hx:=hb.nth (lb.length - 1 - k);have c:=b8 (hb.drop (lb.length - k));rw[List.length_drop,show lb.length - (lb.length - k)=k from by omega] at c;have hv:=h.val;have b:=h.words.nth (k / 8);have d:=yM h.words (i:=k / 8) (by omega) (P:=2 ^ (8 * (k % 8))) (by rw[<- mz,hv]; exact c.2)
 have hS:(0:Int) < 2 ^ (8 * (k % 8)):=Int.pow_pos (by decide)
 have n:(2:Int) ^ (8 * (k % 8)) * 256<=18446744073709551616:=by
  have:(2:Nat) ^ (8 * (k % 8))<=2 ^ 56:=Nat.pow_le_pow_right (by decide) (by omega)
  have e:((2 ^ (8 * (k % 8)):Nat):Int)=(2:Int) ^ (8 * (k % 8)):=by rw[Int.natCast_pow]; rfl
  have e2:(2:Nat) ^ 56=72057594037927936:=by decide
  omega
 have a:0<=nth lb (lb.length - 1 - k) * 2 ^ (8 * (k % 8)):=Int.mul_nonneg hx.1 (Int.le_of_lt hS)
 have g:nth lb (lb.length - 1 - k) * 2 ^ (8 * (k % 8))<=255 * 2 ^ (8 * (k % 8)):=Int.mul_le_mul_of_nonneg_right (by omega) (Int.le_of_lt hS);constructor
 ·rw[IntKind.wrap_u64,Int.emod_eq_of_lt a (by omega)];rw[u64_or _ _ b.1 b.2 a (by omega),Nat.or_comm,<- u64_or _ _ a (by omega) b.1 b.2];rw[pW _ _ (8 * (k % 8)) _ rfl hx.1 (by omega) b.1 d b.2,Int.add_comm]
 ·refine⟨by simp[f],h.words.set _ (by omega) (by omega),?_⟩;rw[yG (by omega),hv,show lb.length - (k + 1)=lb.length - 1 - k from by omega,qF (l:=lb) (i:=lb.length - 1 - k) (by omega),show lb.length - 1 - k + 1=lb.length - k from by omega,show lb.length - 1 - (lb.length - 1 - k)=k from by omega,mz k];grind
theorem zd(ao:Option Addr)(n c b o:Nat)(lb:List Int)(w:World)(hl:lb.length=n)(hn:0 < n)(ha:AtB w ao b o lb)(h0:nth lb 0=0) :
  Calls Tryz.prog 256 #[.slice ao n c] w fun e w'=>e=.returned (.tuple #[.slice none 0 0,.int .i64 13])/\w'=w:=by
 rcases ha.loc with e | rfl
 ·subst e; simp at hl; omega
 have hc:=ha.cell 0 (by omega);rw[h0,Nat.add_zero] at hc;go_enter Tryz.func256,Tryz.ntmps256;go_wp2;go_ret2;exact⟨rfl,rfl⟩
theorem uv(ao:Option Addr)(n c b o:Nat)(lb:List Int)(w:World)(hl:lb.length=n)(hbig:n<=1099511627776)(ho:aV lb)(ha:AtB w ao b o lb)(h0:0 < n->nth lb 0≠0) :
  Calls Tryz.prog 256 #[.slice ao n c] w fun e w'=>∃ v r,e=.returned (.tuple #[v,.int .i64 0])/\ey w w' v r/\IsN r (bO lb)/\r.length<=n/\Below w.heap.size w w':=by
 obtain⟨m,hm⟩:∃ m:Nat,((n:Int) + 7) / 8=m:=⟨(n + 7) / 8,by omega⟩
 have hm2:m<=n:=by omega
 have hne:lb=[]\/b≠w.heap.size:=by
  rcases ha.lt with e | e
  ·exact .inl e
  ·exact .inr (by omega)
 by_cases hn:0 < n
 ·rcases ha.loc with e | rfl
  ·subst e; simp at hl; omega
  have hc:=ha.cell 0 (by omega);rw[Nat.add_zero] at hc
  have hcz:(nth lb 0 == 0)=false:=beq_eq_false_iff_ne.2 (h0 hn)
  have hfin:nth lb 0≠0:=h0 hn;have HF:=(show Hid _ from hfin)
  clear hfin h0;go_enter Tryz.func256,Tryz.ntmps256;go_wp2_with (at_make; refine dB rfl _ _ rfl m _ _ rfl rfl (by omega) (by omega) (by omega) ?_; intro w1 aa ab hsz);have hatb:=ha.keep ab;clear hc hcz;go_loopw [22] (fun ti wr=>∃ (k:Nat) (lz:List Int),k<=n/\ti=.int .i64 k/\DV lb m k lz/\At wr (some ⟨w.heap.size,0,none⟩) w.heap.size 0 lz/\Wr w.heap.size 0 m w1 wr) (fun ti _=>n - (intOf ti).toNat)
  case atStart=>exact⟨0,_,Nat.zero_le _,rfl,⟨by simp,fI _,by rw[Nat.sub_zero,List.drop_length,gI fun i=>by simp[nth,List.getElem?_replicate]; split<;>rfl]; rfl⟩,aa.at,Wr.refl _ _ _ _⟩
  case round =>
   obtain⟨k,lz,hk,rfl,hinv,hat,ac⟩:=hrel;have hlen:=hinv.len;by_cases hlt:k < n
   ·obtain⟨i,hi⟩:∃ i:Nat,(k:Int) / 8=i:=⟨k / 8,by omega⟩
    obtain⟨j,hj⟩:∃ j:Nat,(k:Int) % 8=j:=⟨k % 8,by omega⟩
    obtain⟨h,hh⟩:∃ h:Nat,(n:Int) - 1 - k=h:=⟨n - 1 - k,by omega⟩
    have hi1:(i:Int) < m:=by omega
    have hh1:(h:Int) < n:=by omega
    have hj1:j < 8:=by omega
    have hcz:=hat.cell i (by omega);have hcb:=(hatb.wr ac hne).cell h (by omega);have hfr:=ac.free (aa.free 0 m) i (by omega);rw[Nat.zero_add] at hcz hfr;have hst:=GK ho (m:=m) (by omega) hinv (by omega);rw[show k / 8=i from by omega,show k % 8=j from by omega,show lb.length - 1 - k=h from by omega] at hst;obtain⟨hst1,hst2⟩:=hst;have HS:=(show Hid _ from hst2)
    have HA:=(show Hid _ from hat)
    have HW:=(show Hid _ from ac)
    have hxx:=ho.nth h;clear hst2 hat ac hinv aa hatb ho;generalize nth lz i=z at *;generalize nth lb h=x at *;go_wp2_with fail;go_region;go_wp2;rw[Nat.mul_comm j 8,hst1];refine⟨⟨k + 1,_,by omega,by go_num,HS.out,?_,?_⟩,by simp[intOf]; omega⟩
    ·have:=(HA.out.setCell (i:=i) (by omega) (z + x * 2 ^ (8 * j))).drew;rwa [Nat.zero_add] at this
    ·exact(HW.out.setCell (by omega) (by omega) _).drew
   ·have hkn:k=n:=by omega
    subst hkn;have hv:=hinv.val;rw[<- hl,Nat.sub_self,List.drop_zero] at hv;have hfz:=ac.free (aa.free 0 m);have HB:=ab.trans (ac.below (Nat.le_refl _));have hbb:=b8 ho;have hge:=yZ ho (fun e=>by subst e; simp at hl; omega) HF.out
    have hnm:aJ lz=lz.length:=by
     have h1:=bJ lz;by_cases c:aJ lz < lz.length
     ·have h2:=jH hinv.words;have h3:=jq (show aJ lz<=m - 1 by omega)
      have h4:(18446744073709551616:Int) ^ (m - 1)<=256 ^ (lb.length - 1):=by
       rw[show (18446744073709551616:Int)=256 ^ 8 from by decide,<- Int.pow_mul];exact jy (by omega)
      rw[hv] at h2;omega
     ·omega
    have HI:IsN lz (bO lb):=⟨hinv.words,hnm,hv⟩
    clear hinv aa ac ab hatb hv hbb hge hnm;go_wp2;go_ret2;exact⟨_,lz,rfl,ey.of hlen.symm (Nat.le_refl _) (Nat.le_refl _) hat hfz,HI,by omega,HB⟩
 ·have hn0:n=0:=by omega
  subst hn0
  have e0:lb=[]:=List.eq_nil_of_length_eq_zero hl;subst e0
  have hm0:m=0:=by omega
  subst hm0;clear hm ha hne;go_enter Tryz.func256,Tryz.ntmps256;go_wp2_with (at_make; refine dB rfl _ _ rfl 0 _ _ rfl rfl (by omega) (by omega) (by omega) ?_; intro w1 aa ab hsz);refine wp_loop_rounds 1 ?_
  rw[rounds_succ];go_wp2;go_ret2;exact⟨_,[],rfl,ey.of rfl (Nat.le_refl _) (Nat.le_refl _) aa.at (aa.free _ _),BG,by simp,ab⟩
end
end
section
open Go.RowKit Lim
def isD (c:UInt8):Bool:=decide (48<=c.toNat/\c.toNat<=57)
def jh (l:List UInt8):Int:=l.foldl (fun x c=>10 * x + ((c.toNat:Int) - 48)) 0
def isT (l:List UInt8):Bool := !l.isEmpty && (!(l.head? == some 48) || decide (l.length=1)) && l.all isD
def allD (l:List UInt8):Bool:=l.all isD
theorem dval_snoc (l:List UInt8) (c:UInt8):jh (l ++ [c])=10 * jh l + ((c.toNat:Int) - 48):=by simp[jh,List.foldl_append]
theorem Ai (l:List UInt8):∀ x:Int,l.foldl (fun x c=>10 * x + ((c.toNat:Int) - 48)) x=x * 10 ^ l.length + jh l:=by
 induction l with
 | nil=>intro x; simp[jh]
 | cons c l ih =>
  intro x
  have e:jh (c :: l)=((c.toNat:Int) - 48) * 10 ^ l.length + jh l:=by rw[jh,List.foldl_cons,ih]; simp
  rw[List.foldl_cons,ih,e,List.length_cons,Int.pow_succ]; grind
theorem vI (a b:List UInt8):jh (a ++ b)=jh a * 10 ^ b.length + jh b:=by
 rw[jh,List.foldl_append,Ai]; rfl
theorem dval_bound {l:List UInt8} (h:l.all isD=true):0<=jh l/\jh l < 10 ^ l.length:=by
 induction l with
 | nil=>simp[jh]
 | cons c l ih =>
  simp only[List.all_cons,Bool.and_eq_true,isD,decide_eq_true_eq] at h;have:=ih h.2
  have e:jh (c :: l)=((c.toNat:Int) - 48) * 10 ^ l.length + jh l:=by rw[show c :: l=[c] ++ l from rfl,vI]; simp[jh]
  have a:(0:Int) < 10 ^ l.length:=Int.pow_pos (by decide)
  have d:0<=((c.toNat:Int) - 48) * 10 ^ l.length:=Int.mul_nonneg (by omega) (Int.le_of_lt a)
  have b:((c.toNat:Int) - 48) * 10 ^ l.length<=9 * 10 ^ l.length:=Int.mul_le_mul_of_nonneg_right (by omega) (Int.le_of_lt a);rw[e,List.length_cons,Int.pow_succ];omega
theorem Dz {a b:Nat} (h:a<=b):(10:Int) ^ a<=10 ^ b:=by
 have:(10:Nat) ^ a<=10 ^ b:=Nat.pow_le_pow_right (by decide) h
 have e1:((10 ^ a:Nat):Int)=(10:Int) ^ a:=by rw[Int.natCast_pow]; rfl
 have e2:((10 ^ b:Nat):Int)=(10:Int) ^ b:=by rw[Int.natCast_pow]; rfl
 omega
theorem AO (s:ByteArray) (k:Nat) (h:k < s.size):s.data.toList.take (k + 1)=s.data.toList.take k ++ [s[k]]:=by
 rw[List.take_succ_eq_append_getElem (by simpa using h)]; rfl
theorem EK (s:ByteArray) (k:Nat) (h:k < s.size):(s.data.toList.take (k + 1)).all isD=((s.data.toList.take k).all isD && isD s[k]):=by
 rw[AO s k h,List.all_append]; simp
theorem vP (s:ByteArray):s.data.toList.length=s.size:=by simp
theorem toList_data (s:ByteArray):s.toList=s.data.toList:=ByteArray.toList_eq s
theorem retb {a b:Bool} (h:a=b):Ending.returned (.bool a)=.returned (.bool b):=by rw[h]
theorem isT_iff (s:ByteArray) (h:0 < s.size):isT s.data.toList=((!decide (s[0].toNat=48) || decide (s.size=1)) && s.data.toList.all isD):=by
 have e:s.data.toList.head? = some s[0]:=by rw[List.head?_eq_getElem?,List.getElem?_eq_getElem (by simpa using h)]; rfl
 have e1:s.data.toList.isEmpty=false:=by
  rw[List.isEmpty_eq_false_iff]; intro e2; have:=vP s; rw[e2] at this; simp at this; omega
 have e2:(some s[0] == some (48:UInt8))=decide (s[0].toNat=48):=by
  rw[Bool.eq_iff_iff]; simp; exact⟨fun h=>by rw[h]; rfl,fun h=>UInt8.toNat_inj.1 h⟩
 simp only[isT,e,e1,e2,vP,Bool.not_false,Bool.true_and]
end
section
open Go.RowKit Lim
theorem ext_data (s:ByteArray) (a b:Nat):(s.extract a b).data.toList=(s.data.toList.drop a).take (b - a):=by
 simp[ByteArray.data_extract,List.extract_eq_take_drop]
theorem dS.drewM {w:World} {B:Nat} {v:Value} {l:List Int} (h:dS w B v l):dS w.drew B v l:=h
end
section
open Go.RowKit Lim
section
variable {w w':World}{ao ao' ad:Option Addr}{n c n' c' nd cd g:Nat}{x y z:Int}{v:Value}{r l:List Int}{fn:Func}{p u:Tmp}{tmps:Array Value}
structure aN(w:World)(ao:Option Addr)(n c:Nat)(x:Int):Prop where
 ex:∃ b o l,l.length=n/\n<=c/\Words l/\At w ao b o l/\val l=x
structure bQ(w:World)(ao:Option Addr)(n c:Nat)(x:Int):Prop where
 ex:∃ b o l,l.length=n/\n<=c/\IsN l x/\At w ao b o l
theorem bQ.a(h:bQ w ao n c x):aN w ao n c x:=by
 obtain⟨b,o,l,h1,h2,h3,h4⟩:=h.ex;exact⟨b,o,l,h1,h2,h3.1,h4,h3.2.2⟩
theorem aN.keep(h:aN w ao n c x)(hb:Below w.heap.size w w'):aN w' ao n c x:=by
 obtain⟨b,o,l,h1,h2,h3,h4,h5⟩:=h.ex;exact⟨b,o,l,h1,h2,h3,h4.keep hb,h5⟩
theorem bQ.keep(h:bQ w ao n c x)(hb:Below w.heap.size w w'):bQ w' ao n c x:=by
 obtain⟨b,o,l,h1,h2,h3,h4⟩:=h.ex;exact⟨b,o,l,h1,h2,h3,h4.keep hb⟩
theorem aN.mT(h:aN w ao n c x):0<=x:=by
 obtain⟨b,o,l,h1,h2,h3,h4,h5⟩:=h.ex;rw[<- h5]; exact aQ h3
theorem bQ.Bq(h:bQ w ao n c x):n=0<->x=0:=by
 obtain⟨b,o,l,h1,h2,h3,h4⟩:=h.ex;rw[<- h3.2.2,<- cy h3.1,h3.2.1,h1]
theorem bQ.eqv(h:bQ w ao n c x)(e:x=y):bQ w ao n c y:=e▸h
theorem aN.eqv(h:aN w ao n c x)(e:x=y):aN w ao n c y:=e▸h
theorem uQ(w:World):bQ w none 0 0 0:=⟨0,0,[],rfl,Nat.le_refl _,l4,.inl rfl,fun i hi=>by simp at hi⟩
theorem ey.o(h:ey w w' v r)(hI:IsN r x):∃ a c,v=.slice a r.length c/\bQ w' a r.length c x:=by
 obtain⟨ao,b,o,c,e,h1,h2,h3,h4⟩:=h.is;exact⟨ao,c,e,b,o,r,rfl,h1,hI,h3⟩
theorem ai{wa:World}(b:Below w.heap.size w wa)(h:Below wa.heap.size wa w'):Below w.heap.size w w':=b.trans (h.mono b.size)
theorem nAdd(h:aN w ao n c x)(z:aN w ao' n' c' y)(hn:n<=1099511627776)(g:n'<=1099511627776) :
  Calls Tryz.prog 23 #[.slice ao n c,.slice ao' n' c'] w fun e w'=>∃ a k d,e=.returned (.slice a k d)/\bQ w' a k d (x + y)/\k<=n + n' + 1/\Below w.heap.size w w':=by
 obtain⟨b,o,l,E,q,D,B,rfl⟩:=h.ex;obtain⟨A,t,s,m,i,j,f,rfl⟩:=z.ex;refine(yz ao n c b o ao' n' c' A t l s w E m q i hn g D j B f).mono ?_
 rintro e w' ⟨v,r,rfl,p,u,hlen,F⟩;obtain⟨a,d,rfl,C⟩:=p.o u;exact⟨a,_,d,rfl,C,hlen,F⟩
theorem nMul(h:aN w ao n c x)(z:aN w ao' n' c' y)(hn:n<=1099511627776)(g:n'<=1099511627776) :
  Calls Tryz.prog 24 #[.slice ao n c,.slice ao' n' c'] w fun e w'=>∃ a k d,e=.returned (.slice a k d)/\bQ w' a k d (x * y)/\k<=n + n'/\Below w.heap.size w w':=by
 obtain⟨b,o,l,E,q,D,B,rfl⟩:=h.ex;obtain⟨A,t,s,m,i,j,f,rfl⟩:=z.ex;refine(oB ao n c b o ao' n' c' A t l s w E m q i hn g D j B f).mono ?_
 rintro e w' ⟨v,r,rfl,p,u,hlen,F⟩;obtain⟨a,d,rfl,C⟩:=p.o u;exact⟨a,_,d,rfl,C,hlen,F⟩
theorem nCmp(h:aN w ao n c x)(p:aN w ao' n' c' y)(hn:n<=1099511627776)(f:n'<=1099511627776) :
  Calls Tryz.prog 26 #[.slice ao n c,.slice ao' n' c'] w fun e w'=>e=.returned (.int .i64 (sgn x y))/\Below w.heap.size w w':=by
 obtain⟨b,o,l,t,j,s,r,rfl⟩:=h.ex;obtain⟨q,m,k,a,g,i,d,rfl⟩:=p.ex;exact jT ao n c b o ao' n' c' q m l k w t a j g hn f s i r d
theorem nSub(h:aN w ao n c x)(A:aN w ao' n' c' y)(hn:n<=1099511627776)(g:n'<=1099511627776)(m:y<=x) :
  Calls Tryz.prog 72 #[.slice ao n c,.slice ao' n' c'] w fun e w'=>∃ a k d,e=.returned (.tuple #[.slice a k d,.int .i64 0])/\bQ w' a k d (x - y)/\k<=n + n'/\Below w.heap.size w w':=by
 obtain⟨b,o,l,F,s,E,C,rfl⟩:=h.ex;obtain⟨B,u,t,p,i,j,f,rfl⟩:=A.ex;refine(DR ao n c b o ao' n' c' B u l t w F p s i hn g E j C f m).mono ?_
 rintro e w' ⟨v,r,rfl,q,z,hlen,G⟩;obtain⟨a,d,rfl,D⟩:=q.o z;exact⟨a,_,d,rfl,D,by omega,G⟩
theorem nSubLt(h:aN w ao n c x)(q:aN w ao' n' c' y)(hn:n<=1099511627776)(f:n'<=1099511627776)(g:x < y) :
  Calls Tryz.prog 72 #[.slice ao n c,.slice ao' n' c'] w fun e w'=>e=.returned (.tuple #[.slice none 0 0,.int .i64 10])/\Below w.heap.size w w':=by
 obtain⟨b,o,l,u,k,t,s,rfl⟩:=h.ex;obtain⟨r,p,m,a,i,j,d,rfl⟩:=q.ex;exact sub_lt ao n c b o ao' n' c' r p l m w u a k i hn f t j s d g
theorem nDiv(h:aN w ao n c x)(G:aN w ao' n' c' y)(hn:n<=1099511627776)(m:n'<=1099511627776)(A:y≠0) :
  Calls Tryz.prog 70 #[.slice ao n c,.slice ao' n' c'] w fun e w'=>∃ a k d a' k' d',e=.returned (.tuple #[.slice a k d,.slice a' k' d',.int .i64 0])/\bQ w' a k d (x / y)/\bQ w' a' k' d' (x % y)/\k<=n/\k'<=n + n'/\Below w.heap.size w w':=by
 obtain⟨b,o,l,M,C,L,J,rfl⟩:=h.ex;obtain⟨I,E,D,z,p,q,j,rfl⟩:=G.ex;refine(sW ao n c b o ao' n' c' I E l D w M z C p hn m L q J j A).mono ?_
 rintro e w' ⟨v,u,r,s,rfl,B,f,F,H,i,t,N⟩;obtain⟨a,d,rfl,K⟩:=B.o F;obtain⟨a',d',rfl,g⟩:=f.o H;exact⟨a,_,d,a',_,d',rfl,K,g,i,t,N⟩
theorem uz(i:aN w ao' n' c' y)(c:n'<=1099511627776)(k:y=0) :
  Calls Tryz.prog 70 #[v,.slice ao' n' c'] w fun e w'=>e=.returned (.tuple #[.slice none 0 0,.slice none 0 0,.int .i64 11])/\w'=w:=by
 obtain⟨j,h,g,a,d,f,b,rfl⟩:=i.ex;exact div_zero v ao' n' c' j h g w a d c f b k
theorem ET(h:aN w ao n c x)(K:aN w ao' n' c' y)(N:aN w ad nd cd z)(hn:n<=274877906944)(j:n'<=274877906944)(m:nd<=274877906944)(H:z≠0) :
  Calls Tryz.prog 93 #[.slice ao n c,.slice ao' n' c',.slice ad nd cd] w fun e w'=>∃ a k d a' k' d',e=.returned (.tuple #[.slice a k d,.slice a' k' d',.int .i64 0])/\bQ w' a k d (x * y / z)/\bQ w' a' k' d' (x * y % z)/\k<=n + n'/\k'<=n + n' + nd/\Below w.heap.size w w':=by
 obtain⟨b,o,l,X,R,P,V,rfl⟩:=h.ex;obtain⟨M,J,I,G,D,E,i,rfl⟩:=K.ex;obtain⟨U,W,L,f,p,C,B,rfl⟩:=N.ex;refine(pF ao n c b o ao' n' c' M J ad nd cd U W l I L w X G f R D p hn j m P E C V i B H).mono ?_
 rintro e w' ⟨v,u,r,s,rfl,q,g,S,T,t,F,Q⟩;obtain⟨a,d,rfl,O⟩:=q.o S;obtain⟨a',d',rfl,A⟩:=g.o T;exact⟨a,_,d,a',_,d',rfl,O,A,t,F,Q⟩
theorem nA(h:aN w ao n c x)(h':aN w ao' n' c' y)(hd:aN w ad nd cd z)(hn:n<=274877906944)(hn':n'<=274877906944)(hnd:nd<=274877906944)(hz:z=0) :
  Calls Tryz.prog 93 #[.slice ao n c,.slice ao' n' c',.slice ad nd cd] w fun e w'=>e=.returned (.tuple #[.slice none 0 0,.slice none 0 0,.int .i64 11])/\Below w.heap.size w w':=by
 go_enter Tryz.func93,Tryz.ntmps93;go_wp2_with fail;refine(nMul h h' (by omega) (by omega)).mono ?_
 rintro e w1 ⟨a,k,d,rfl,hO,hk,hB⟩;go_wp2_with fail;refine(uz (hd.keep hB) (by omega) hz).mono ?_
 rintro e w2 ⟨rfl,rfl⟩;go_wp2;go_ret3;exact⟨rfl,hB⟩
theorem nOf(c:0<=x)(g:x < 18446744073709551616) :
  Calls Tryz.prog 25 #[.int .u64 x] w fun e w'=>∃ a k d,e=.returned (.slice a k d)/\bQ w' a k d x/\k<=1/\Below w.heap.size w w':=by
 refine(wO x w c g).mono ?_
 rintro e w' ⟨v,r,rfl,b,f,hlen,i⟩;obtain⟨a,d,rfl,h⟩:=b.o f;exact⟨a,_,d,rfl,h,hlen,i⟩
theorem nNorm(h:aN w ao n c x)(hn:n<=1099511627776) :
  Calls Tryz.prog 112 #[.slice ao n c] w fun e w'=>∃ a k d,e=.returned (.slice a k d)/\bQ w' a k d x/\k<=n/\Below w.heap.size w w':=by
 obtain⟨b,o,l,m,g,j,i,rfl⟩:=h.ex;refine(jG ao n c b o l w m g hn i).mono ?_
 rintro e w' ⟨rfl,f,p⟩;exact⟨_,_,_,rfl,⟨_,_,norm l,aM l,Nat.le_refl _,cI j,f.at⟩,by have:=bJ l; omega,p⟩
theorem nBits(h:aN w ao n c x)(hn:n<=1099511627776) :
  Calls Tryz.prog 55 #[.slice ao n c] w fun e w'=>e=.returned (.int .i64 (bitLen x.toNat))/\Below w.heap.size w w':=by
 obtain⟨b,o,l,g,a,f,d,rfl⟩:=h.ex;exact uf ao n c b o l w g a hn f d
theorem nPow(n:Nat)(hn:n<=4096) :
  Calls Tryz.prog 165 #[.int .i64 n] w fun e w'=>∃ a k d,e=.returned (.tuple #[.slice a k d,.int .i64 0])/\bQ w' a k d (10 ^ n)/\k<=n + 2/\Below w.heap.size w w':=by
 refine(Av n w hn).mono ?_
 rintro e w' ⟨v,r,rfl,b,c,hlen,g⟩;obtain⟨a,d,rfl,f⟩:=b.o c;exact⟨a,_,d,rfl,f,hlen,g⟩
theorem vj(x:Int)(hx:0<=x):(bitLen x.toNat=0)<->x=0:=by
 constructor
 ·intro h;by_cases e:x.toNat=0
  ·omega
  ·have:=qa e; omega
 ·intro h; subst h; rfl
structure Slot(w:World)(g:Nat)(v:Value)(t:TypeId):Prop where
 blk:w.heap[g]? = some (.cells #[v] t (0,0))
theorem Slot.cell{t:TypeId}(h:Slot w g v t):w.cell? ⟨g,0,none⟩=some v:=cell_of_one h.blk
theorem Slot.free{t:TypeId}(h:Slot w g v t):w.frozen? ⟨g,0,none⟩=false:=free_of_one h.blk
theorem Slot.lt{t:TypeId}(h:Slot w g v t):g < w.heap.size:=lt_of_block h.blk
theorem Slot.keep{t:TypeId}(h:Slot w g v t)(hb:Below w.heap.size w w'):Slot w' g v t:=⟨by rw[hb.block g h.lt]; exact h.blk⟩
theorem Slot.put{t:TypeId}(h:Slot w g v t)(u:Value):Slot (w.setCell ⟨g,0,none⟩ u) g u t:=⟨one_setCell h.blk⟩
theorem Slot.other{g':Nat}{t:TypeId}(h:Slot w g v t)(hne:g≠g')(u:Value):Slot (w.setCell ⟨g',0,none⟩ u) g v t:=⟨by rw[Below.heap_setCell w _ u g hne]; exact h.blk⟩
theorem cM(w:World)(v:Value)(t:TypeId):Slot (w.alloc (.cells #[v] t)) w.heap.size v t:=⟨by
 show (w.heap.push _)[w.heap.size]? = _
 rw[Array.getElem?_push_size]⟩
theorem Slot.alloc{t:TypeId}(h:Slot w g v t)(o:Obj):Slot (w.alloc o) g v t:=h.keep (ae w o)
theorem gW(w:World)(o:Obj)(v:Value)(t:TypeId):Slot ((w.alloc o).alloc (.cells #[v] t)) (w.heap.size + 1) v t:=by
 have:=cM (w.alloc o) v t;rwa [show (w.alloc o).heap.size=w.heap.size + 1 by simp] at this
theorem gT(w:World)(o o':Obj)(v:Value)(t:TypeId):Slot (((w.alloc o).alloc o').alloc (.cells #[v] t)) (w.heap.size + 1 + 1) v t:=by
 have:=gW (w.alloc o) o' v t;rwa [show (w.alloc o).heap.size=w.heap.size + 1 by simp] at this
theorem slot_last4(w:World)(o o' a:Obj)(v:Value)(t:TypeId):Slot ((((w.alloc o).alloc o').alloc a).alloc (.cells #[v] t)) (w.heap.size + 1 + 1 + 1) v t:=by
 have:=gT (w.alloc o) o' a v t;rwa [show (w.alloc o).heap.size=w.heap.size + 1 by simp] at this
theorem kM(w:World)(o o':Obj):Below w.heap.size w ((w.alloc o).alloc o'):=ai (ae w o) (ae _ o')
theorem fJ(w:World)(o o' o'':Obj):Below w.heap.size w (((w.alloc o).alloc o').alloc o''):=ai (kM w o o') (ae _ o'')
theorem below4(w:World)(o o' o'' o3:Obj):Below w.heap.size w ((((w.alloc o).alloc o').alloc o'').alloc o3):=ai (fJ w o o' o'') (ae _ o3)
theorem At.put{b o:Nat}(k:At w ao b o l){t:TypeId}(s:Slot w g v t)(hv:∀ x,v≠.int .u64 x)(u:Value):At (w.setCell ⟨g,0,none⟩ u) ao b o l :=
 ⟨k.loc,fun i hi=>by
  have hc:=k.cell i hi;by_cases e:b=g
  ·subst e
   have c:o + i=0->False:=fun a=>by
    rw[a,s.cell] at hc;exact hv _ (Option.some.inj hc)
   have hs:=s.blk;simp only[World.cell?,hs] at hc;have:o + i < 1:=by
    have:=(Array.getElem?_eq_some_iff.1 hc).1;simpa using this
   exact(c (by omega)).elim
  ·rw[World.cell?_of_block (w:=w) (Below.heap_setCell w _ u b e)]; exact hc⟩
theorem bQ.put(h:bQ w ao n c x){t:TypeId}(s:Slot w g v t)(hv:∀ x,v≠.int .u64 x)(u:Value):bQ (w.setCell ⟨g,0,none⟩ u) ao n c x:=by
 obtain⟨b,o,l,h1,h2,h3,h4⟩:=h.ex;exact⟨b,o,l,h1,h2,h3,h4.put s hv u⟩
theorem aN.put(h:aN w ao n c x){t:TypeId}(s:Slot w g v t)(hv:∀ x,v≠.int .u64 x)(u:Value):aN (w.setCell ⟨g,0,none⟩ u) ao n c x:=by
 obtain⟨b,o,l,i,a,f,e,d⟩:=h.ex;exact⟨b,o,l,i,a,f,e.put s hv u,d⟩
theorem eQ:∀ x,Value.slice ao n c≠.int .u64 x:=fun _ h=>by cases h
theorem eK{W w1:World}(b:Below w.heap.size w W)(h:Below W.heap.size W w1)(hg:w.heap.size<=g)(u:Value):Below w.heap.size w (w1.setCell ⟨g,0,none⟩ u):=(ai b h).setCell hg u
theorem Slot.drew{t:TypeId}(h:Slot w g v t):Slot w.drew g v t:=⟨h.blk⟩
theorem aN.drew(h:aN w ao n c x):aN w.drew ao n c x:=by
 obtain⟨b,o,l,h1,h2,h3,h4,h5⟩:=h.ex;exact⟨b,o,l,h1,h2,h3,h4.drew,h5⟩
theorem bQ.drew(h:bQ w ao n c x):bQ w.drew ao n c x:=by
 obtain⟨b,o,l,h1,h2,h3,h4⟩:=h.ex;exact⟨b,o,l,h1,h2,h3,h4.drew⟩
theorem CQ:(Tryz.prog.info? 32).map (·.size)=some 1:=by kernel_rfl
theorem Bj : ∃ f, Tryz.prog.underlying 32 = some (.struct f) := by
  cases h : Tryz.prog.underlying 32 with
  | none => exact absurd h (by have : (Tryz.prog.underlying 32).isSome = true := by kernel_rfl
                               intro e; rw[e] at this; simp at this)
  | some d =>
    have : (match Tryz.prog.underlying 32 with | some (.struct _) => true | _ => false) = true := by kernel_rfl
    rw[h] at this
    cases d <;> first | exact⟨_, rfl⟩ | simp at this
theorem oO{t:TypeId}(s:Slot w g v t):(loadVar 32 ⟨g,0,none⟩).run Tryz.prog w=.ok (.agg #[v]) w:=by
 obtain⟨f,hu⟩:=Bj;exact run_loadVar_row w g t 32 #[v] (0,0) _ s.blk hu rfl CQ
theorem eU(h:fn.results=#[.cell p 32]){t:TypeId}(b:tmps.getD p undef=.pointer (some ⟨g,0,none⟩))(s:Slot w g v t) :
  (results fn tmps).run Tryz.prog w=.ok (.agg #[v]) w:=by
 have a:tmps[p]?.getD undef=.pointer (some ⟨g,0,none⟩):=by simpa using b
 simp[results,h,a,asAddr,oO s]
theorem ik(h:fn.results=#[.cell p 32,.tmp u]){x:Value}{t:TypeId}(c:tmps.getD p undef=.pointer (some ⟨g,0,none⟩))(hu:tmps.getD u undef=x)(s:Slot w g v t) :
  (results fn tmps).run Tryz.prog w=.ok (.tuple #[.agg #[v],x]) w:=by
 have a:tmps[p]?.getD undef=.pointer (some ⟨g,0,none⟩):=by simpa using c
 have b:tmps[u]?.getD undef=x:=by simpa using hu
 simp[results,h,a,b,asAddr,oO s]
theorem vm(h:fn.results=#[.tmp u,.cell p 32]){x:Value}{t:TypeId}(c:tmps.getD p undef=.pointer (some ⟨g,0,none⟩))(hu:tmps.getD u undef=x)(s:Slot w g v t) :
  (results fn tmps).run Tryz.prog w=.ok (.tuple #[x,.agg #[v]]) w:=by
 have a:tmps[p]?.getD undef=.pointer (some ⟨g,0,none⟩):=by simpa using c
 have b:tmps[u]?.getD undef=x:=by simpa using hu
 simp[results,h,a,b,asAddr,oO s]
end
end
end Go.Proofs.YthfepflplbahkaaGreatDoor
