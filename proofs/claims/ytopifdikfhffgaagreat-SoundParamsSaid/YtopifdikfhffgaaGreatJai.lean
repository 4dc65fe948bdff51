/- Several texts, joined: Num, Trim, Bits, Mem, Own, Cmp, Len, Div64, DivS, Norm, AddT, Add, TakeT, Sub, DivOne, DivL, Guess, Mul, DivLong, DivM, Scale, Pow, Help, ByteMem, FromB, Digits, Parse, Nm, Reg, RegA, ToB. -/
import Derived.Test.YtopifdikfhffgaaGreatJab
import Derived.Test.YtopifdikfhffgaaGreatChecked
import Derived.WalkKit
import Derived.WalkSpells
import Derived.WalkLawsBesides
import Derived.Laws.Externs
import Derived.Laws.MathBits
import Derived.Laws.CopyOwn
import Derived.Deep.QuietTactic
import Derived.BigQuiet
import Derived.Deep.RegionWith
import Derived.ScopeJumps
import Derived.WalkSmall
import Derived.OneCell
import Derived.Deep.RegionHeld3
import Derived.Laws.Tables
set_option maxRecDepth 100000
set_option maxHeartbeats 8000000
namespace Go.Proofs.YtopifdikfhffgaaGreat
section
namespace Lim
def nth (l:List Int) (i:Nat):Int:=l.getD i 0
def val:List Int->Int
 | []=>0
 | x :: l=>x + 18446744073709551616 * val l
def Words (l:List Int):Prop:=∀ x∈l,0<=x/\x < 18446744073709551616
def nlen:List Int->Nat
 | []=>0
 | x :: l=>if nlen l=0 then (if x=0 then 0 else 1) else nlen l + 1
def norm (l:List Int):List Int:=l.take (nlen l)
def IsN (l:List Int) (n:Int):Prop:=Words l/\nlen l=l.length/\val l=n
theorem nth_nil (i:Nat):nth [] i=0:=by simp [nth]
theorem nth_zero (x:Int) (l:List Int):nth (x :: l) 0=x:=by simp [nth]
theorem nth_succ (x:Int) (l:List Int) (i:Nat):nth (x :: l) (i + 1)=nth l i:=by simp [nth]
theorem nth_ge {l:List Int} {i:Nat} (h:l.length<=i):nth l i=0:=by
 simp [nth,List.getElem?_eq_none h]
theorem nth_eq {l:List Int} {i:Nat} (h:i < l.length):nth l i=l[i]:=by
 simp [nth,List.getElem?_eq_getElem h]
theorem nth_mem {l:List Int} {i:Nat} (h:i < l.length):nth l i∈l:=by
 rw [nth_eq h]; exact List.getElem_mem h
theorem Words.nth {l:List Int} (h:Words l) (i:Nat):0<=nth l i/\nth l i < 18446744073709551616:=by
 by_cases hi:i < l.length
 ·exact h _ (nth_mem hi)
 ·rw [nth_ge (by omega)]; decide
theorem Words.nil:Words []:=fun _ h=>by simp at h
theorem Words.cons {x:Int} {l:List Int} (h0:0<=x) (h1:x < 18446744073709551616) (h:Words l):Words (x :: l):=by
 intro y hy
 rcases List.mem_cons.1 hy with e | e
 ·subst e; exact ⟨h0,h1⟩
 ·exact h y e
theorem Words.tail {x:Int} {l:List Int} (h:Words (x :: l)):Words l:=fun y hy=>h y (List.mem_cons_of_mem _ hy)
theorem Words.head {x:Int} {l:List Int} (h:Words (x :: l)):0<=x/\x < 18446744073709551616:=h x (List.mem_cons_self)
theorem Words.take {l:List Int} (h:Words l) (k:Nat):Words (l.take k):=fun x hx=>h x (List.mem_of_mem_take hx)
theorem Words.drop {l:List Int} (h:Words l) (k:Nat):Words (l.drop k):=fun x hx=>h x (List.mem_of_mem_drop hx)
theorem Words.append {a b:List Int} (ha:Words a) (hb:Words b):Words (a ++ b):=by
 intro x hx
 rcases List.mem_append.1 hx with e | e
 ·exact ha x e
 ·exact hb x e
theorem nth_take {l:List Int} {k i:Nat} (h:i < k):nth (l.take k) i=nth l i:=by
 simp [nth,h]
theorem nth_drop (l:List Int) (k i:Nat):nth (l.drop k) i=nth l (k + i):=by
 simp [nth,List.getElem?_drop]
theorem nth_append_left {a b:List Int} {i:Nat} (h:i < a.length):nth (a ++ b) i=nth a i:=by
 simp [nth,List.getElem?_append_left h]
theorem nth_append_right {a b:List Int} {i:Nat} (h:a.length<=i):nth (a ++ b) i=nth b (i - a.length):=by
 simp [nth,List.getElem?_append_right h]
theorem nth_ext {a b:List Int} (hl:a.length=b.length) (h:∀ i,i < a.length->nth a i=nth b i):a=b:=by
 apply List.ext_getElem hl
 intro i h1 h2
 have:=h i h1
 rwa [nth_eq h1,nth_eq h2] at this
theorem nth_set {l:List Int} {k i:Nat} {x:Int} (hk:k < l.length):nth (l.set k x) i=if i=k then x else nth l i:=by
 simp only [nth,List.getD_eq_getElem?_getD,List.getElem?_set]
 by_cases h:k=i
 ·subst h; simp [hk]
 ·simp [h,show ¬ i=k from fun e=>h e.symm]
theorem Words.set {l:List Int} (h:Words l) (k:Nat) {x:Int} (h0:0<=x) (h1:x < 18446744073709551616):Words (l.set k x):=by
 intro y hy
 rcases List.mem_or_eq_of_mem_set hy with e | e
 ·exact h y e
 ·subst e; exact ⟨h0,h1⟩
theorem take_succ_nth {l:List Int} {k:Nat} (h:k < l.length):l.take (k + 1)=l.take k ++ [nth l k]:=by
 rw [nth_eq h,List.take_succ_eq_append_getElem h]
theorem val_nonneg {l:List Int} (h:Words l):0<=val l:=by
 induction l with
 | nil=>simp [val]
 | cons x l ih=>have:=h.head; have:=ih h.tail; simp only [val]; omega
theorem val_append (a b:List Int):val (a ++ b)=val a + 18446744073709551616 ^ a.length * val b:=by
 induction a with
 | nil=>simp [val]
 | cons x a ih=>simp only [List.cons_append,val,ih,List.length_cons,Int.pow_succ]; grind
theorem val_lt {l:List Int} (h:Words l):val l < 18446744073709551616 ^ l.length:=by
 induction l with
 | nil=>simp [val]
 | cons x l ih =>
  have:=h.head; have:=ih h.tail
  simp only [val,List.length_cons,Int.pow_succ]; omega
theorem val_single (x:Int):val [x]=x:=by simp [val]
theorem val_take_succ {l:List Int} {k:Nat} (h:k < l.length):val (l.take (k + 1))=val (l.take k) + 18446744073709551616 ^ k * nth l k:=by
 rw [take_succ_nth h,val_append,val_single,List.length_take,Nat.min_eq_left (by omega)]
theorem val_split (l:List Int) (k:Nat) (h:k<=l.length):val l=val (l.take k) + 18446744073709551616 ^ k * val (l.drop k):=by
 conv=>lhs; rw [<- List.take_append_drop k l]
 rw [val_append,List.length_take,Nat.min_eq_left h]
theorem nlen_le (l:List Int):nlen l<=l.length:=by
 induction l with
 | nil=>simp [nlen]
 | cons x l ih=>simp only [nlen,List.length_cons]; split<;>(try split)<;>omega
theorem nlen_zero_iff {l:List Int}:nlen l=0<->∀ i,nth l i=0:=by
 induction l with
 | nil=>simp [nlen,nth]
 | cons x l ih =>
  simp only [nlen]
  constructor
  ·intro h i
   by_cases e:nlen l=0
   ·by_cases x0:x=0
    ·cases i with
     | zero=>rw [nth_zero,x0]
     | succ i=>rw [nth_succ]; exact ih.1 e i
    ·simp [e,x0] at h
   ·simp [e] at h
  ·intro h
   have h0:x=0:=by have:=h 0; rwa [nth_zero] at this
   have hl:nlen l=0:=ih.2 fun i=>by have:=h (i + 1); rwa [nth_succ] at this
   simp [hl,h0]
theorem nlen_of {l:List Int} {k:Nat} (hk:k<=l.length) (h0:∀ i,k<=i->nth l i=0) (h1:k≠0->nth l (k - 1)≠0):nlen l=k:=by
 induction l generalizing k with
 | nil=>simp [nlen] at *; omega
 | cons x l ih =>
  cases k with
  | zero =>
   have:nlen (x :: l)=0:=nlen_zero_iff.2 fun i=>h0 i (Nat.zero_le _)
   exact this
  | succ k =>
   have e:nlen l=k:=ih (by simpa using hk) (fun i hi=>by have:=h0 (i + 1) (by omega); rwa [nth_succ] at this) (fun hk0=>by
    have:=h1 (by omega); rw [show k + 1 - 1=(k - 1) + 1 from by omega,nth_succ] at this; exact this)
   simp only [nlen,e]
   by_cases hk0:k=0
   ·subst hk0
    have:=h1 (by omega); rw [show (0 + 1 - 1)=0 from rfl,nth_zero] at this
    simp [this]
   ·simp [hk0]
theorem nlen_above {l : List Int} {i : Nat} (h : nlen l ≤ i) : nth l i = 0 := by
  induction l generalizing i with
  | nil => simp [nth]
  | cons x l ih =>
    simp only [nlen] at h
    by_cases e : nlen l = 0
    · simp only [e, if_true] at h
      cases i with
      | zero => by_cases x0 : x = 0
                · rw [nth_zero, x0]
                · simp [x0] at h
      | succ i => rw [nth_succ]; exact nlen_zero_iff.1 e i
    · simp only [e, if_false] at h
      cases i with
      | zero => omega
      | succ i => rw [nth_succ]; exact ih (by omega)
theorem nlen_last {l:List Int} (h:nlen l≠0):nth l (nlen l - 1)≠0:=by
 induction l with
 | nil=>simp [nlen] at h
 | cons x l ih =>
  simp only [nlen] at h ⊢
  by_cases e:nlen l=0
  ·simp only [e,if_true] at h ⊢
   by_cases x0:x=0
   ·simp [x0] at h
   ·simp [x0,nth_zero]
  ·simp only [e,if_false] at h ⊢
   have:=ih e
   rw [show nlen l + 1 - 1=(nlen l - 1) + 1 from by omega,nth_succ]; exact this
theorem norm_length (l:List Int):(norm l).length=nlen l:=by
 rw [norm,List.length_take,Nat.min_eq_left (nlen_le l)]
theorem norm_nth (l:List Int) (i:Nat):nth (norm l) i=nth l i:=by
 by_cases h:i < nlen l
 ·exact nth_take h
 ·rw [nth_ge (by rw [norm_length]; omega),nlen_above (by omega)]
theorem Words.norm {l:List Int} (h:Words l):Words (norm l):=h.take _
theorem nlen_norm (l:List Int):nlen (norm l)=(norm l).length:=by
 rw [norm_length]
 apply nlen_of (by rw [norm_length]; omega)
 ·intro i hi; rw [norm_nth]; exact nlen_above hi
 ·intro h; rw [norm_nth]; exact nlen_last h
theorem val_zeros {l:List Int} (h:∀ i,nth l i=0):val l=0:=by
 induction l with
 | nil=>rfl
 | cons x l ih =>
  have h0:=h 0; rw [nth_zero] at h0
  rw [val,h0,ih fun i=>by have:=h (i + 1); rwa [nth_succ] at this]; rfl
theorem val_norm (l:List Int):val (norm l)=val l:=by
 rw [val_split l (nlen l) (nlen_le l),val_zeros (l:=l.drop (nlen l)) fun i=>by rw [nth_drop]; exact nlen_above (by omega)]
 simp [norm]
theorem isN_norm {l:List Int} (h:Words l):IsN (norm l) (val l):=⟨h.norm,nlen_norm l,val_norm l⟩
theorem val_pos {l:List Int} (h:Words l) (hn:nlen l≠0):0 < val l:=by
 induction l with
 | nil=>simp [nlen] at hn
 | cons x l ih =>
  have hx:=h.head; have hv:=val_nonneg h.tail
  simp only [val]
  by_cases e:nlen l=0
  ·simp only [nlen,e,if_true] at hn
   have:x≠0:=by intro x0; simp [x0] at hn
   omega
  ·have:=ih h.tail e; omega
theorem nlen_eq_zero_iff_val {l:List Int} (h:Words l):nlen l=0<->val l=0:=by
 constructor
 ·intro e; exact val_zeros (nlen_zero_iff.1 e)
 ·intro e
  by_cases n:nlen l=0
  ·exact n
  ·have:=val_pos h n; omega
theorem val_ge_of_nlen {l:List Int} (h:Words l) (hn:nlen l≠0):18446744073709551616 ^ (nlen l - 1)<=val l:=by
 have e:=val_norm l
 have hl:=norm_length l
 have hw:=h.norm
 have hs:=val_split (norm l) (nlen l - 1) (by omega)
 have hd:(norm l).drop (nlen l - 1)=[nth l (nlen l - 1)]:=by
  apply nth_ext
  ·simp [hl]; omega
  ·intro i hi
   simp [hl] at hi
   have:i=0:=by omega
   subst this
   rw [nth_drop,norm_nth,nth_zero]; rfl
 have h0:=val_nonneg (hw.take (nlen l - 1))
 have hx:=h.nth (nlen l - 1)
 have hne:=nlen_last hn
 have hp:(0:Int) < 18446744073709551616 ^ (nlen l - 1):=Int.pow_pos (by decide)
 rw [hd,val_single] at hs
 have:18446744073709551616 ^ (nlen l - 1) * 1<=18446744073709551616 ^ (nlen l - 1) * nth l (nlen l - 1):=Int.mul_le_mul_of_nonneg_left (by omega) (Int.le_of_lt hp)
 omega
theorem val_lt_nlen {l:List Int} (h:Words l):val l < 18446744073709551616 ^ nlen l:=by
 have:=val_lt h.norm
 rwa [val_norm,norm_length] at this
theorem val_inj:∀ {a b:List Int},Words a->Words b->a.length=b.length->val a=val b->a=b
 | [],[],_,_,_,_=>rfl
 | x :: a,y :: b,ha,hb,hl,hv=>by
  have h1:=ha.head; have h2:=hb.head
  simp only [val] at hv
  have e:x=y:=by omega
  have e2:val a=val b:=by omega
  rw [e,val_inj ha.tail hb.tail (by simpa using hl) e2]
theorem pow_mono {a b:Nat} (h:a<=b):(18446744073709551616:Int) ^ a<=18446744073709551616 ^ b:=by
 obtain ⟨d,rfl⟩:=Nat.exists_eq_add_of_le h
 rw [Int.pow_add]
 have hp:(0:Int) < 18446744073709551616 ^ a:=Int.pow_pos (by decide)
 have hq:(0:Int) < 18446744073709551616 ^ d:=Int.pow_pos (by decide)
 have:(18446744073709551616:Int) ^ a * 1<=18446744073709551616 ^ a * 18446744073709551616 ^ d:=Int.mul_le_mul_of_nonneg_left (by omega) (Int.le_of_lt hp)
 omega
theorem val_lt_of_nlen_lt {a b:List Int} (ha:Words a) (hb:Words b) (h:nlen a < nlen b):val a < val b:=by
 have h1:=val_lt_nlen ha
 have h2:=val_ge_of_nlen hb (by omega)
 have:=pow_mono (show nlen a<=nlen b - 1 by omega)
 omega
theorem nlen_eq_of_val {a b:List Int} (ha:Words a) (hb:Words b) (h:val a=val b):nlen a=nlen b:=by
 rcases Nat.lt_trichotomy (nlen a) (nlen b) with h1 | h1 | h1
 ·have:=val_lt_of_nlen_lt ha hb h1; omega
 ·exact h1
 ·have:=val_lt_of_nlen_lt hb ha h1; omega
theorem isN_unique {a b:List Int} {n:Int} (ha:IsN a n) (hb:IsN b n):a=b:=by
 apply val_inj ha.1 hb.1
 ·rw [<- ha.2.1,<- hb.2.1]; exact nlen_eq_of_val ha.1 hb.1 (ha.2.2.trans hb.2.2.symm)
 ·exact ha.2.2.trans hb.2.2.symm
end Lim
end
section
open Go.RowKit Lim
def Cells (w:World) (ao:Option Addr) (l:List Int):Prop :=
 l=[]\/∃ b o,ao=some ⟨b,o,none⟩/\∀ i,i < l.length->w.cell? ⟨b,o + i,none⟩=some (.int .u64 (nth l i))
theorem trim_any (ao:Option Addr) (n c:Nat) (l:List Int) (w:World) (hl:l.length=n) (hc:n<=c) (hb:n<=4398046511104) (hcell:Cells w ao l) :
  Calls Tryz.prog 153 #[.slice ao n c] w fun e w'=>e=.returned (.slice ao (nlen l) (nlen l))/\w'=w:=by
 go_enter Tryz.func153,Tryz.ntmps153
 go_wp2
 go_loop [3] (fun t=>∃ k:Nat,k<=n/\t=.int .i64 k/\Hid (∀ i,k<=i->nth l i=0)) (fun t=>(intOf t).toNat)
 case atStart=>exact ⟨n,Nat.le_refl _,rfl,fun i hi=>nth_ge (by omega)⟩
 case round =>
  obtain ⟨k,hk,rfl,hz⟩:=hrel
  by_cases hk0:0 < k
  ·rcases hcell with e | ⟨b,o,rfl,hcell⟩
   ·subst e; simp at hl; omega
   ·have hcx:=hcell (k - 1) (by omega)
    have hcy:w.cell? ⟨b,o + k - 1,none⟩=some (.int .u64 (nth l (k - 1))):=by rw [<- hcx]; congr 2; omega
    clear hcell
    go_wp2
    ·go_round
     case rel=>exact ⟨k - 1,by omega,by go_num,fun i hi=>by
      by_cases e:i=k - 1
      ·subst e; exact beq_iff_eq.1 (by assumption)
      ·exact hz.out i (by omega)⟩
     case measure=>simp [intOf]; omega
    ·go_ret
     rw [nlen_of (k:=k) (by omega) hz.out (fun _=>beq_eq_false_iff_ne.1 (by assumption))]
     exact ⟨rfl,rfl⟩
  ·go_wp2
   go_ret
   rw [nlen_of (k:=k) (by omega) hz.out (fun _=>by omega)]
   exact ⟨rfl,rfl⟩
end
section
open Go.RowKit Lim
theorem add64 (x y:Int) (hx:0<=x) (hy:0<=y) (w:World):(callFunc 331 #[.int .u64 x,.int .u64 y,.int .u64 0]).run Tryz.prog w =
  .ok (.value (.tuple #[.int .u64 ((x + y) % 18446744073709551616),.int .u64 ((x + y) / 18446744073709551616)])) w:=by
 obtain ⟨x,rfl⟩:=Int.eq_ofNat_of_zero_le hx
 obtain ⟨y,rfl⟩:=Int.eq_ofNat_of_zero_le hy
 rw [run_callFunc_extern Tryz.func331 (by kernel_rfl) (by kernel_rfl) (by kernel_rfl) (e:=add64Entry) (by kernel_rfl),run_add64 (P:=Tryz.prog) x y 0 (by omega) (by omega) (by omega) (by omega),Int.add_zero]
 rfl
theorem add64_m (x y:Int) (hx:0<=x) (w:World):(callFunc 331 #[.int .u64 x,.int .u64 (y % 18446744073709551616),.int .u64 0]).run Tryz.prog w =
  .ok (.value (.tuple #[.int .u64 ((x + y % 18446744073709551616) % 18446744073709551616),.int .u64 ((x + y % 18446744073709551616) / 18446744073709551616)])) w :=
 add64 x _ hx (Int.emod_nonneg _ (by decide)) w
theorem ret2 {k k':IntKind} {a b c d:Int} (h:a=b) (h':c=d):Ending.returned (.tuple #[.int k a,.int k' c])=.returned (.tuple #[.int k b,.int k' d]):=by rw [h,h']
theorem and32 (z:Int) (h0:0<=z) (h1:z < 18446744073709551616):bits .and .u64 z 4294967295=z % 4294967296:=and_low32 z h0 h1
theorem mul64 (x y:Int) (hx:0<=x) (hx':x < 18446744073709551616) (hy:0<=y) (hy':y < 18446744073709551616) (w:World) :
  Calls Tryz.prog 330 #[.int .u64 x,.int .u64 y] w fun e w'=>e=.returned (.tuple #[.int .u64 (x * y / 18446744073709551616),.int .u64 (x * y % 18446744073709551616)])/\w'=w:=by
 go_enter Tryz.func330,Tryz.ntmps330
 go_wp2
 go_ret2
 refine ⟨ret2 ?_ ?_,rfl⟩
 ·show IntKind.u64.wrap (IntKind.u64.wrap (IntKind.u64.wrap (x / 4294967296 * (y / 4294967296)) + IntKind.u64.wrap (IntKind.u64.wrap (x / 4294967296 * bits BinOp.and IntKind.u64 y 4294967295) + IntKind.u64.wrap (bits BinOp.and IntKind.u64 x 4294967295 * bits BinOp.and IntKind.u64 y 4294967295) / 4294967296) / 4294967296) + IntKind.u64.wrap (bits BinOp.and IntKind.u64 (IntKind.u64.wrap (IntKind.u64.wrap (x / 4294967296 * bits BinOp.and IntKind.u64 y 4294967295) + IntKind.u64.wrap (bits BinOp.and IntKind.u64 x 4294967295 * bits BinOp.and IntKind.u64 y 4294967295) / 4294967296)) 4294967295 + IntKind.u64.wrap (bits BinOp.and IntKind.u64 x 4294967295 * (y / 4294967296))) / 4294967296)=_
  simp only [IntKind.wrap_u64]
  rw [and32 x hx hx',and32 y hy hy',and32 _ (Int.emod_nonneg _ (by decide)) (Int.emod_lt_of_pos _ (by decide))]
  exact mul64_arith x y hx hx' hy hy'
 ·show IntKind.u64.wrap (x * y)=_
  rw [IntKind.wrap_u64]
theorem mul64_n (x y:Int) (hx:0<=x) (hx':x < 18446744073709551616) (hy:0<=y) (hy':y < 18446744073709551616) (w:World) :
  Calls Tryz.prog 330 #[.int .u64 x,.int .u64 y] w fun e w'=>∃ hi lo:Int,e=.returned (.tuple #[.int .u64 hi,.int .u64 lo])/\0<=hi/\hi<=18446744073709551614/\0<=lo/\lo < 18446744073709551616/\Hid (hi * 18446744073709551616 + lo=x * y)/\w'=w:=by
 refine (mul64 x y hx hx' hy hy' w).mono ?_
 rintro e w' ⟨rfl,rfl⟩
 have h0:0<=x * y:=Int.mul_nonneg hx hy
 have h1:x * y<=18446744073709551615 * 18446744073709551615:=Int.mul_le_mul (by omega) (by omega) hy (by decide)
 exact ⟨_,_,rfl,by omega,by omega,by omega,by omega,by show _=_; omega,rfl⟩
end
section
open Go.RowKit Lim
structure At (w:World) (ao:Option Addr) (b o:Nat) (l:List Int):Prop where
 loc:l=[]\/ao=some ⟨b,o,none⟩
 cell:∀ i,i < l.length->w.cell? ⟨b,o + i,none⟩=some (.int .u64 (nth l i))
theorem At.cells {w:World} {ao:Option Addr} {b o:Nat} {l:List Int} (h:At w ao b o l):Cells w ao l:=by
 rcases h.loc with e | e
 ·exact .inl e
 ·exact .inr ⟨b,o,e,h.cell⟩
def Free (w:World) (b o n:Nat):Prop:=∀ i,i < n->w.frozen? ⟨b,o + i,none⟩=false
structure Wr (b o n:Nat) (w w':World):Prop where
 os:w'.os=w.os
 tape:w'.tape=w.tape
 output:w'.output=w.output
 size:w'.heap.size=w.heap.size
 block:∀ k,k≠b->w'.heap[k]? = w.heap[k]?
 cell:∀ i,(i < o\/o + n<=i)->w'.cell? ⟨b,i,none⟩=w.cell? ⟨b,i,none⟩
 frozen:∀ i,w'.frozen? ⟨b,i,none⟩=w.frozen? ⟨b,i,none⟩
theorem Wr.refl (b o n:Nat) (w:World):Wr b o n w w:=⟨rfl,rfl,rfl,rfl,fun _ _=>rfl,fun _ _=>rfl,fun _=>rfl⟩
theorem Wr.trans {b o n:Nat} {w w1 w2:World} (h:Wr b o n w w1) (k:Wr b o n w1 w2):Wr b o n w w2 :=
 ⟨k.os.trans h.os,k.tape.trans h.tape,k.output.trans h.output,k.size.trans h.size,fun i hi=>(k.block i hi).trans (h.block i hi),fun i hi=>(k.cell i hi).trans (h.cell i hi),fun i=>(k.frozen i).trans (h.frozen i)⟩
theorem Wr.mono {b o n o' n':Nat} {w w':World} (h:Wr b o n w w') (h1:o'<=o) (h2:o + n<=o' + n'):Wr b o' n' w w' :=
 ⟨h.os,h.tape,h.output,h.size,h.block,fun i hi=>h.cell i (by omega),h.frozen⟩
theorem Wr.setCell {b o n:Nat} {w w1:World} (h:Wr b o n w w1) {i:Nat} (h1:o<=i) (h2:i < o + n) (v:Value):Wr b o n w (w1.setCell ⟨b,i,none⟩ v) :=
 h.trans ⟨rfl,rfl,rfl,by simp [World.setCell],fun k hk=>Below.heap_setCell _ _ _ _ hk,fun j hj=>by
   simp only [World.cell?,World.setCell,Array.getElem?_modify,if_true]
   cases hh:w1.heap[b]? with
   | none=>simp
   | some ob =>
    cases ob<;>simp
    rw [Array.getElem?_setIfInBounds,if_neg (by omega)],fun j=>by
   simp only [World.frozen?,World.setCell,Array.getElem?_modify,if_true]
   cases hh:w1.heap[b]? with
   | none=>simp
   | some ob=>cases ob<;>simp⟩
theorem Wr.other {b o n:Nat} {w w':World} (h:Wr b o n w w') {k i:Nat} (hk:k≠b):w'.cell? ⟨k,i,none⟩=w.cell? ⟨k,i,none⟩:=World.cell?_of_block (w:=w) (h.block k hk)
theorem Wr.below {b o n B:Nat} {w w':World} (h:Wr b o n w w') (hB:B<=b):Below B w w' :=
 ⟨h.os,h.tape,h.output,by rw [h.size]; exact Nat.le_refl _,fun k hk=>h.block k (by omega)⟩
theorem Wr.free {b o n:Nat} {w w':World} (h:Wr b o n w w') {b' o' n':Nat} (k:Free w b' o' n'):Free w' b' o' n':=by
 intro i hi
 by_cases e:b'=b
 ·subst e; rw [h.frozen]; exact k i hi
 ·rw [World.frozen?_of_block (w:=w) (h.block b' e)]; exact k i hi
theorem At.wr {b o n:Nat} {w w':World} (h:Wr b o n w w') {ao:Option Addr} {b' o':Nat} {l:List Int} (k:At w ao b' o' l) (hb:l=[]\/b'≠b):At w' ao b' o' l :=
 ⟨k.loc,fun i hi=>by
  rcases hb with e | e
  ·subst e; simp at hi
  ·rw [h.other e]; exact k.cell i hi⟩
theorem At.below {B:Nat} {w w':World} (h:Below B w w') {ao:Option Addr} {b o:Nat} {l:List Int} (k:At w ao b o l) (hb:l=[]\/b < B):At w' ao b o l :=
 ⟨k.loc,fun i hi=>by
  rcases hb with e | e
  ·subst e; simp at hi
  ·rw [h.cell (p:=⟨b,o + i,none⟩) e]; exact k.cell i hi⟩
theorem cell_lt {w:World} {b o:Nat} {v:Value} (h:w.cell? ⟨b,o,none⟩=some v):b < w.heap.size:=by
 simp only [World.cell?] at h
 by_cases hb:b < w.heap.size
 ·exact hb
 ·rw [Array.getElem?_eq_none (by omega)] at h; simp at h
theorem At.lt {w:World} {ao:Option Addr} {b o:Nat} {l:List Int} (k:At w ao b o l):l=[]\/b < w.heap.size:=by
 cases l with
 | nil=>exact .inl rfl
 | cons x l=>exact .inr (cell_lt (k.cell 0 (by simp)))
theorem At.keep {w w':World} (h:Below w.heap.size w w') {ao:Option Addr} {b o:Nat} {l:List Int} (k:At w ao b o l):At w' ao b o l:=k.below h k.lt
theorem At.setCell {w : World} {ao : Option Addr} {b o : Nat} {l : List Int} (k : At w ao b o l) {i : Nat} (hi : i < l.length) (x : Int) : At (w.setCell ⟨b, o + i, none⟩ (.int .u64 x)) ao b o (l.set i x) :=
  ⟨by rcases k.loc with e | e
      · subst e; simp at hi
      · exact .inr e, fun j hj => by
    rw [List.length_set] at hj
    have hc := k.cell j hj
    rw [nth_set hi]
    have hci := k.cell i hi
    simp only [World.cell?, World.setCell, Array.getElem?_modify, if_true] at hc hci ⊢
    cases hh : w.heap[b]? with
    | none => rw [hh] at hc; simp at hc
    | some ob =>
      rw [hh] at hc hci
      cases ob with
      | cells c e f =>
        simp at hc hci ⊢
        rw [Array.getElem?_setIfInBounds]
        by_cases e : j = i
        · subst e
          obtain ⟨hlt, _⟩ := Array.getElem?_eq_some_iff.1 hci
          simp [hlt]
        · rw [if_neg (by omega), if_neg e]; exact hc
      | _ => simp at hc⟩
theorem At.drew {w:World} {ao:Option Addr} {b o:Nat} {l:List Int} (h:At w ao b o l):At w.drew ao b o l:=⟨h.loc,h.cell⟩
theorem Free.drew {w:World} {b o n:Nat} (h:Free w b o n):Free w.drew b o n:=h
theorem Wr.drew {b o n:Nat} {w w':World} (h:Wr b o n w w'):Wr b o n w w'.drew:=⟨h.os,h.tape,h.output,h.size,h.block,h.cell,h.frozen⟩
def patch (l:List Int) (k:Nat) (m:List Int):List Int:=l.take k ++ (m ++ l.drop (k + m.length))
theorem patch_length {l m:List Int} {k:Nat} (h:k + m.length<=l.length):(patch l k m).length=l.length:=by simp [patch]; omega
theorem patch_words {l m:List Int} {k:Nat} (hl:Words l) (hm:Words m):Words (patch l k m):=(hl.take k).append (hm.append (hl.drop _))
theorem patch_nth_in {l m:List Int} {k i:Nat} (h:k + m.length<=l.length) (hi:i < m.length):nth (patch l k m) (k + i)=nth m i:=by
 have e:(l.take k).length=k:=by simp; omega
 rw [patch,nth_append_right (by omega),e,Nat.add_sub_cancel_left,nth_append_left hi]
theorem patch_nth_out {l m:List Int} {k i:Nat} (h:k + m.length<=l.length) (hi:i < k\/k + m.length<=i):nth (patch l k m) i=nth l i:=by
 have e:(l.take k).length=k:=by simp; omega
 rcases hi with hi | hi
 ·rw [patch,nth_append_left (by omega),nth_take hi]
 ·rw [patch,nth_append_right (by omega),e,nth_append_right (by omega),nth_drop]; congr 1; omega
theorem patch_val {l m:List Int} {k:Nat} (h:k + m.length<=l.length):val (patch l k m)=val l + 18446744073709551616 ^ k * (val m - val ((l.drop k).take m.length)):=by
 have e:(l.take k).length=k:=by simp; omega
 have h1:=val_split l k (by omega)
 have h2:=val_split (l.drop k) m.length (by simp; omega)
 rw [List.drop_drop] at h2
 rw [patch,val_append,val_append,e,h1,h2]
 grind
theorem At.patch {w w' : World} {ao ao' : Option Addr} {b o k n : Nat} {l m : List Int} (h : At w ao b o l) (hw : Wr b (o + k) n w w') (hm : At w' ao' b (o + k) m) (hn : m.length = n) (hk : k + n ≤ l.length) : At w' ao b o (patch l k m) :=
  ⟨by rcases h.loc with e | e
      · left; subst e; simp at hk; simp [Go.Proofs.YtopifdikfhffgaaGreat.patch, List.eq_nil_of_length_eq_zero (show m.length = 0 by omega)]
      · exact .inr e, fun i hi => by
    rw [patch_length (by omega)] at hi
    by_cases hin : k ≤ i ∧ i < k + n
    · obtain ⟨j, rfl⟩ := Nat.exists_eq_add_of_le hin.1
      rw [patch_nth_in (by omega) (by omega), ← hm.cell j (by omega), Nat.add_assoc]
    · rw [patch_nth_out (by omega) (by omega), hw.cell _ (by omega)]; exact h.cell i hi⟩
theorem At.window {w:World} {ao:Option Addr} {b o:Nat} {l:List Int} (h:At w ao b o l) (k n:Nat):At w (some ⟨b,o + k,none⟩) b (o + k) ((l.drop k).take n) :=
 ⟨.inr rfl,fun i hi=>by
  simp only [List.length_take,List.length_drop] at hi
  rw [nth_take (by omega),nth_drop,Nat.add_assoc]; exact h.cell _ (by omega)⟩
theorem Free.window {w:World} {b o n:Nat} (h:Free w b o n) {k m:Nat} (hk:k + m<=n):Free w b (o + k) m:=fun i hi=>by
 rw [Nat.add_assoc]; exact h _ (by omega)
theorem At.sub {w : World} {ao : Option Addr} {b o : Nat} {l : List Int} (k : At w ao b o l) (n : Nat) : At w ao b o (l.take n) :=
  ⟨by rcases k.loc with e | e
      · subst e; exact .inl (by simp)
      · exact .inr e, fun i hi => by
    rw [List.length_take] at hi
    rw [nth_take (by omega)]; exact k.cell i (by omega)⟩
end
section
open Go.RowKit Lim
theorem info_u64:(Tryz.prog.info? 22).map (fun i=>(i.zero,i.size,i.bytes))=some (some (.int .u64 0),1,8):=by kernel_rfl
theorem under_nat:Tryz.prog.underlying 105=some (.slice 22):=by kernel_rfl
def Row (w:World) (g:Nat) (l:List Int):Prop:=w.heap[g]? = some (.cells (l.map (Value.int .u64)).toArray 22 (0,0))
theorem Row.at {w:World} {g:Nat} {l:List Int} (h:Row w g l):At w (some ⟨g,0,none⟩) g 0 l :=
 ⟨.inr rfl,fun i hi=>by
  unfold Row at h
  simp only [World.cell?,h]
  simp [nth_eq hi,hi]⟩
theorem Row.free {w:World} {g:Nat} {l:List Int} (h:Row w g l) (o n:Nat):Free w g o n:=by
 intro i _
 unfold Row at h
 simp [World.frozen?,h]
structure NewV (w w':World) (v:Value) (l:List Int):Prop where
 is:∃ ao b o c,v=.slice ao l.length c/\l.length<=c/\w.heap.size<=b/\At w' ao b o l/\Free w' b o l.length
theorem made_u64 (n:Nat):madeCells (Value.int .u64 0).cells n=((List.replicate n 0).map (Value.int .u64)).toArray:=by
 apply Array.ext
 ·simp [size_madeCells]
 ·intro j h1 h2
  simp [madeCells,Value.cells,Nat.mod_one]
theorem wpList_makeN {w:World} {ops:Array Oper} {rest:List Oper} {o:Oper} {a:Act} {Q:Exit->Act->World->Prop}
  (hg:o.guard=none) (l c:Operand) (hop:o.op=Op.makeSlice 105 l c) (n:Nat) (L C:Int) (hl:a.eval l=.int .i64 L) (hc:a.eval c=.int .i64 C) (hL:L=(n:Int)) (hC:C=(n:Int)) (hn:n<=17592186044416)
  (hK:∀ w',Row w' w.heap.size (List.replicate n 0)->Below w.heap.size w w'->w'.heap.size=w.heap.size + 1->wpList Tryz.prog ops Q rest (a.put o.dst (.slice (some ⟨w.heap.size,0,none⟩) n n)) w') :
  wpList Tryz.prog ops Q (o :: rest) a w:=by
 obtain ⟨i,hi,hz,hs,hb⟩:=info_parts info_u64
 refine wpList_plain hg fun K hK' => ?_
 have hrun:=run_make (P:=Tryz.prog) w 105 22 i (.int .u64 0) under_nat hi hz .i64 .i64 (n:Int) (n:Int) (by omega) (by omega) (by rw [hb]; omega) (by omega)
 subst hL
 subst hC
 unfold Oper.wp
 simp only [execOp,hop,hl,hc]
 simp [hrun,Result.andThen]
 refine hK' _ _ (hK _ ?_ ?_ ?_)
 ·show (w.heap.push _)[w.heap.size]? = _
  rw [Array.getElem?_push_size,hs,Nat.mul_one,made_u64]
 ·exact (Below.refl _ _).alloc (Nat.le_refl _) _
 ·simp
theorem wpList_copyN {w:World} {ops:Array Oper} {rest:List Oper} {o:Oper} {a:Act} {Q:Exit->Act->World->Prop} (hgd:o.guard=none) (d s:Operand)
  (ho:o.op=.call { callee:=.builtin .copy,args:=#[d,s],argTypes:=#[105,105] })
  (g dLen dCap sLen sCap:Nat) (sp:Option Addr) (hd:a.eval d=.slice (some ⟨g,0,none⟩) dLen dCap) (hs:a.eval s=.slice sp sLen sCap)
  (lz ls:List Int) (hrow:Row w g lz) (hdl:lz.length=dLen) (b' o':Nat) (hsl:ls.length=sLen) (hle:sLen<=dLen) (hat:At w sp b' o' ls)
  (h:∀ w',Row w' g (ls ++ lz.drop sLen)->Wr g 0 dLen w w'->wpList Tryz.prog ops Q rest (a.put o.dst (goInt sLen)) w'):wpList Tryz.prog ops Q (o :: rest) a w:=by
 obtain ⟨i,hi,hz,hsz,hb⟩:=info_parts info_u64
 have hinf:(Tryz.prog.info? 22).map (·.size)=some 1:=by rw [hi]; simp [hsz]
 by_cases h0:sLen=0
 ·have e0:ls=[]:=List.eq_nil_of_length_eq_zero (by omega)
  subst e0
  refine wpList_copy_nothing hgd d s _ _ ho _ under_nat hinf _ sp dLen dCap sLen sCap hd hs (by subst h0; exact Nat.zero_min _) ?_
  have:=h w (by rw [h0]; simpa using hrow) (Wr.refl _ _ _ _)
  rwa [h0] at this
 ·obtain rfl:sp=some ⟨b',o',none⟩:=by
   rcases hat.loc with e | e
   ·subst e; simp at hsl; omega
   ·exact e
  have hmin:Nat.min sLen dLen=sLen:=Nat.min_eq_left hle
  have hlen:(ls.map (Value.int .u64)).length=sLen:=by simp [hsl]
  refine wpList_copy_own hgd d s _ _ ho _ under_nat hinf g 0 dLen dCap ⟨b',o',none⟩ sLen sCap hd hs _ _ hrow (ls.map (Value.int .u64)) (by rw [hmin,hlen]) ?_ (by simp [hsl,hdl]; omega) (ints_oneCell _ _) ?_
  ·intro j v hv
   rw [List.getElem?_map] at hv
   have hj:j < ls.length:=by
    rcases Nat.lt_or_ge j ls.length with hj | hj
    ·exact hj
    ·rw [List.getElem?_eq_none hj] at hv; simp at hv
   rw [List.getElem?_eq_getElem hj] at hv
   simp at hv
   subst hv
   have:=hat.cell j hj
   rw [nth_eq hj] at this
   rw [<- this]
   by_cases hj0:j=0
   ·subst hj0; exact congrArg w.cell? (by simp [Addr.add])
   ·exact congrArg w.cell? (by simp [Addr.add,hj0])
  ·rw [hlen]
   have hR:Row (w.setRow g (List.take 0 (List.map (Value.int .u64) lz).toArray.toList ++ (List.map (Value.int .u64) ls ++ List.drop (0 + sLen) (List.map (Value.int .u64) lz).toArray.toList)).toArray) g (ls ++ lz.drop sLen):=by
    unfold Row
    rw [setRow_heap w g _ _ _ _ hrow,Nat.zero_add]
    simp only [List.take_zero,List.nil_append,<- List.map_drop,<- List.map_append]
   refine h _ hR ⟨rfl,rfl,rfl,by simp [World.setRow],fun k hk=>setRow_other w g k _ hk,fun j hj => ?_,fun j => ?_⟩
   ·have h1:w.heap[g]? = _:=hrow
    have h2:(w.setRow g (List.take 0 (List.map (Value.int .u64) lz).toArray.toList ++ (List.map (Value.int .u64) ls ++ List.drop (0 + sLen) (List.map (Value.int .u64) lz).toArray.toList)).toArray).heap[g]? = _:=hR
    simp only [World.cell?,h1,h2]
    simp
    rw [List.getElem?_eq_none (by simp; omega),List.getElem?_eq_none (by omega)]
    rfl
   ·have h1:w.heap[g]? = _:=hrow
    have h2:(w.setRow g (List.take 0 (List.map (Value.int .u64) lz).toArray.toList ++ (List.map (Value.int .u64) ls ++ List.drop (0 + sLen) (List.map (Value.int .u64) lz).toArray.toList)).toArray).heap[g]? = _:=hR
    simp only [World.frozen?,h1,h2]
end
section
open Go.RowKit Lim
def sgn (x y:Int):Int:=if x < y then -1 else if y < x then 1 else 0
theorem sgn_lt {x y:Int} (h:x < y):sgn x y = -1:=by simp [sgn,h]
theorem sgn_gt {x y:Int} (h:y < x):sgn x y=1:=by simp only [sgn]; rw [if_neg (by omega),if_pos h]
theorem sgn_eq {x y:Int} (h:x=y):sgn x y=0:=by simp [sgn,h]
theorem val_cons (l:List Int):val l=nth l 0 + 18446744073709551616 * val l.tail:=by
 cases l with
 | nil=>simp [val,nth]
 | cons x l=>simp [val,nth]
theorem nth_tail (l:List Int) (i:Nat):nth l.tail i=nth l (i + 1):=by
 cases l with
 | nil=>simp [nth]
 | cons x l=>simp [nth]
theorem Lim.Words.tl {l:List Int} (h:Words l):Words l.tail:=fun x hx=>h x (List.mem_of_mem_tail hx)
theorem val_ext:∀ {a b:List Int},(∀ i,nth a i=nth b i)->val a=val b
 | [],b,h=>by rw [val_zeros (l:=b) fun i=>by rw [<- h i,nth_nil]]; rfl
 | x :: a,b,h=>by
  rw [val_cons (x :: a),val_cons b,h 0,List.tail_cons,val_ext (a:=a) (b:=b.tail) fun i=>by rw [nth_tail,<- h (i + 1),nth_succ]]
theorem val_lt_at:∀ (h:Nat) {a b:List Int},Words a->Words b->(∀ i,h < i->nth a i=nth b i)->nth a h < nth b h->val a < val b
 | 0,a,b,_,_,he,hl=>by
  rw [val_cons a,val_cons b,val_ext (a:=a.tail) (b:=b.tail) fun i=>by rw [nth_tail,nth_tail]; exact he _ (by omega)]
  omega
 | h + 1,a,b,ha,hb,he,hl=>by
  have:=val_lt_at h ha.tl hb.tl (fun i hi=>by rw [nth_tail,nth_tail]; exact he _ (by omega)) (by rw [nth_tail,nth_tail]; exact hl)
  have h1:=ha.nth 0; have h2:=hb.nth 0
  rw [val_cons a,val_cons b]
  omega
theorem sgn_at {a b:List Int} (ha:Words a) (hb:Words b) (h:Nat) (he:∀ i,h < i->nth a i=nth b i) (hne:nth a h≠nth b h):sgn (nth a h) (nth b h)=sgn (val a) (val b):=by
 rcases Int.lt_or_gt_of_ne hne with hl | hl
 ·rw [sgn_lt hl,sgn_lt (val_lt_at h ha hb he hl)]
 ·rw [sgn_gt hl,sgn_gt (val_lt_at h hb ha (fun i hi=>(he i hi).symm) hl)]
theorem sgn_nlen {a b:List Int} (ha:Words a) (hb:Words b) (hne:nlen a≠nlen b):sgn (nlen a) (nlen b)=sgn (val a) (val b):=by
 rcases Nat.lt_or_gt_of_ne hne with hl | hl
 ·rw [sgn_lt (by omega),sgn_lt (val_lt_of_nlen_lt ha hb hl)]
 ·rw [sgn_gt (by omega),sgn_gt (val_lt_of_nlen_lt hb ha hl)]
theorem compare_int (x y:Int) (w:World):Calls Tryz.prog 154 #[.int .i64 x,.int .i64 y] w fun e w'=>e=.returned (.int .i64 (sgn x y))/\w'=w:=by
 rcases Int.lt_trichotomy x y with h | h | h
 ·rw [sgn_lt h]
  go_enter Tryz.func154,Tryz.ntmps154
  go_wp2
  go_ret
  exact ⟨rfl,rfl⟩
 ·rw [sgn_eq h]; subst h
  go_enter Tryz.func154,Tryz.ntmps154
  go_wp2
  go_ret
  exact ⟨rfl,rfl⟩
 ·rw [sgn_gt h]
  have h':¬ x < y:=by omega
  go_enter Tryz.func154,Tryz.ntmps154
  go_wp2
  go_ret
  exact ⟨rfl,rfl⟩
theorem compare_u64 (x y:Int) (w:World):Calls Tryz.prog 155 #[.int .u64 x,.int .u64 y] w fun e w'=>e=.returned (.int .i64 (sgn x y))/\w'=w:=by
 rcases Int.lt_trichotomy x y with h | h | h
 ·rw [sgn_lt h]
  go_enter Tryz.func155,Tryz.ntmps155
  go_wp2
  go_ret
  exact ⟨rfl,rfl⟩
 ·rw [sgn_eq h]; subst h
  go_enter Tryz.func155,Tryz.ntmps155
  go_wp2
  go_ret
  exact ⟨rfl,rfl⟩
 ·rw [sgn_gt h]
  have h':¬ x < y:=by omega
  go_enter Tryz.func155,Tryz.ntmps155
  go_wp2
  go_ret
  exact ⟨rfl,rfl⟩
theorem ret1 {k:IntKind} {a b:Int} (h:a=b):Ending.returned (.int k a)=.returned (.int k b):=by rw [h]
theorem cmp_any (ao:Option Addr) (n c b o:Nat) (ao':Option Addr) (n' c' b' o':Nat) (l l':List Int) (w:World) (hl:l.length=n) (hl':l'.length=n') (hc:n<=c) (hc':n'<=c') (hbig:n<=1099511627776) (hbig':n'<=1099511627776)
  (wl:Words l) (wl':Words l') (ha:At w ao b o l) (ha':At w ao' b' o' l') :
  Calls Tryz.prog 78 #[.slice ao n c,.slice ao' n' c'] w fun e w'=>e=.returned (.int .i64 (sgn (val l) (val l')))/\Below w.heap.size w w':=by
 have hn:=nlen_le l
 have hn':=nlen_le l'
 have t1:=trim_any ao n c l w hl hc (by omega) ha.cells
 have t2:=trim_any ao' n' c' l' w hl' hc' (by omega) ha'.cells
 have hab:∀ i,nlen l<=i->nth l i=0:=fun i hi=>nlen_above hi
 have hab':∀ i,nlen l'<=i->nth l' i=0:=fun i hi=>nlen_above hi
 have hsn:Hid (nlen l≠nlen l'->sgn (nlen l) (nlen l')=sgn (val l) (val l')):=sgn_nlen wl wl'
 have H0:Hid (∀ i,nlen l<=i->nth l i=0):=hab
 have H0':Hid (∀ i,nlen l'<=i->nth l' i=0):=hab'
 clear hab hab'
 generalize nlen l=N at *
 generalize nlen l'=N' at *
 go_enter Tryz.func78,Tryz.ntmps78
 go_wp2_with fail
 refine t1.mono ?_
 rintro e w1 ⟨rfl,rfl⟩
 go_wp2_with fail
 refine t2.mono ?_
 rintro e w2 ⟨rfl,rfl⟩
 clear t1 t2
 by_cases hne:N=N'
 ·subst hne
  go_wp2_with fail
  go_loopw [25] (fun ti wr=>∃ k:Nat,k<=N/\ti=.int .i64 k/\Hid (∀ i,N - k<=i->nth l i=nth l' i)/\Below w2.heap.size w2 wr) (fun ti _=>N - (intOf ti).toNat)
  case atStart=>exact ⟨0,Nat.zero_le _,rfl,fun i hi=>by rw [H0.out i (by omega),H0'.out i (by omega)],Below.refl _ _⟩
  case round =>
   obtain ⟨k,hk,rfl,hz,hbe⟩:=hrel
   by_cases hlt:k < N
   ·have hat:=ha.keep hbe
    have hat':=ha'.keep hbe
    rcases ha.loc with e | rfl
    ·subst e; simp at hn; omega
    rcases ha'.loc with e | rfl
    ·subst e; simp at hn'; omega
    obtain ⟨h,hh⟩:∃ h:Nat,N=h + 1 + k:=⟨N - 1 - k,by omega⟩
    have q1:=hat.cell h (by omega)
    have q2:=hat'.cell h (by omega)
    have HN:Hid (N=h + 1 + k):=hh
    have hidx:(N:Int) - 1 - k=h:=by omega
    have HZ:Hid (∀ i,h < i->nth l i=nth l' i):=fun i hi=>hz.out i (by omega)
    have HS:Hid (nth l h≠nth l' h->sgn (nth l h) (nth l' h)=sgn (val l) (val l')):=sgn_at wl wl' h HZ.out
    have hh0:(h:Int) < N:=by omega
    clear hh hz H0 H0' hsn ha ha' hat hat' wl wl'
    generalize hx:nth l h=x at *
    generalize hy:nth l' h=y at *
    have HX:Hid (x=y->nth l h=nth l' h):=fun e=>hx.trans (e.trans hy.symm)
    clear hx hy
    by_cases hd:x=y
    ·have HY:Hid (nth l h=nth l' h):=HX.out hd
     clear HX
     subst hd
     go_wp2_with fail
     go_quiet (fail)
     go_wp2
     go_roundw
     case rel=>exact ⟨k + 1,by omega,by go_num,fun i hi=>by
      by_cases e:i=h
      ·subst e; exact HY.out
      ·exact HZ.out i (by have:=HN.out; omega),below_drewN hbe _⟩
     case measure=>simp [intOf]; omega
    ·have hd':(x != y)=true:=by rw [bne_iff_ne]; exact hd
     go_wp2_with fail
     go_quiet (fail)
     go_wp2_with fail
     have q3:(wr.drewN nq).cell? ⟨b,o + h,none⟩=some (.int .u64 x):=q1
     have q4:(wr.drewN nq).cell? ⟨b',o' + h,none⟩=some (.int .u64 y):=q2
     have hbf:=below_drewN hbe nq
     clear q1 q2 hbe
     generalize wr.drewN nq=W at *
     go_quiet ((go_at_call 155; exact Calls.quiet_of_same (compare_u64 _ _ _)))
     go_wp2
     go_ret
     exact ⟨ret1 (HS.out hd),below_drewN hbf _⟩
   ·have hkN:k=N:=by omega
    subst hkN
    go_wp2
    go_ret
    rw [sgn_eq (val_ext fun i=>hz.out i (by omega))]
    exact ⟨rfl,hbe⟩
 ·have hb1:((N:Int) != (N':Int))=true:=by rw [bne_iff_ne]; omega
  go_wp2_with (go_at_call 154; refine (compare_int _ _ _).mono ?_; rintro e w' ⟨rfl,rfl⟩)
  go_ret
  exact ⟨ret1 (hsn.out hne),Below.refl _ _⟩
end
section
open Go.RowKit Lim
theorem w64 (z:Int) (h0:0<=z) (h1:z<=1000):wrap64 z=z:=by
 unfold wrap64; omega
theorem len_arm (k:Int) (i:Nat) (h0:0<=k) (hk:k<=56) (h:i < 256):wrap64 (k + wrap64 (bitLen i:Int))=k + bitLen i:=by
 have:=bitLen_le8 i h
 rw [w64 (bitLen i) (by omega) (by omega),w64 _ (by omega) (by omega)]
theorem len_up (x:Int) (b i:Nat) (h:x.toNat / 2 ^ b=i) (hi:i≠0):((bitLen x.toNat:Nat):Int)=b + bitLen i:=by
 rw [bitLen_shift x.toNat b (by rw [h]; exact hi),h]; omega
theorem len64 (x:Int) (w:World) (h0:0<=x) (h1:x < 18446744073709551616) :
  Calls Tryz.prog 344 #[.int .u64 x] w fun e w'=>e=.returned (.int .i64 (bitLen x.toNat))/\w'=w:=by
 by_cases c0:4294967296<=x
 ·by_cases c1:65536<=x / 4294967296
  ·by_cases c2:256<=x / 4294967296 / 65536
   ·go_enter Tryz.func344,Tryz.ntmps344
    go_wp2
    go_ret
    refine ⟨ret1 ?_,rfl⟩
    rw [len8tab_get,len_arm 56 (x / 4294967296 / 65536 / 256).toNat (by decide) (by decide) (by omega),len_up x 56 (x / 4294967296 / 65536 / 256).toNat (by rw [show (2:Nat) ^ 56=72057594037927936 from rfl]; omega) (by omega)]
    rfl
   ·go_enter Tryz.func344,Tryz.ntmps344
    go_wp2
    go_ret
    refine ⟨ret1 ?_,rfl⟩
    rw [len8tab_get,len_arm 48 (x / 4294967296 / 65536).toNat (by decide) (by decide) (by omega),len_up x 48 (x / 4294967296 / 65536).toNat (by rw [show (2:Nat) ^ 48=281474976710656 from rfl]; omega) (by omega)]
    rfl
  ·by_cases c2:256<=x / 4294967296
   ·go_enter Tryz.func344,Tryz.ntmps344
    go_wp2
    go_ret
    refine ⟨ret1 ?_,rfl⟩
    rw [len8tab_get,len_arm 40 (x / 4294967296 / 256).toNat (by decide) (by decide) (by omega),len_up x 40 (x / 4294967296 / 256).toNat (by rw [show (2:Nat) ^ 40=1099511627776 from rfl]; omega) (by omega)]
    rfl
   ·go_enter Tryz.func344,Tryz.ntmps344
    go_wp2
    go_ret
    refine ⟨ret1 ?_,rfl⟩
    rw [len8tab_get,len_arm 32 (x / 4294967296).toNat (by decide) (by decide) (by omega),len_up x 32 (x / 4294967296).toNat (by rw [show (2:Nat) ^ 32=4294967296 from rfl]; omega) (by omega)]
    rfl
 ·by_cases c1:65536<=x
  ·by_cases c2:256<=x / 65536
   ·go_enter Tryz.func344,Tryz.ntmps344
    go_wp2
    go_ret
    refine ⟨ret1 ?_,rfl⟩
    rw [len8tab_get,len_arm 24 (x / 65536 / 256).toNat (by decide) (by decide) (by omega),len_up x 24 (x / 65536 / 256).toNat (by rw [show (2:Nat) ^ 24=16777216 from rfl]; omega) (by omega)]
    rfl
   ·go_enter Tryz.func344,Tryz.ntmps344
    go_wp2
    go_ret
    refine ⟨ret1 ?_,rfl⟩
    rw [len8tab_get,len_arm 16 (x / 65536).toNat (by decide) (by decide) (by omega),len_up x 16 (x / 65536).toNat (by rw [show (2:Nat) ^ 16=65536 from rfl]; omega) (by omega)]
    rfl
  ·by_cases c2:256<=x
   ·go_enter Tryz.func344,Tryz.ntmps344
    go_wp2
    go_ret
    refine ⟨ret1 ?_,rfl⟩
    rw [len8tab_get,len_arm 8 (x / 256).toNat (by decide) (by decide) (by omega),len_up x 8 (x / 256).toNat (by rw [show (2:Nat) ^ 8=256 from rfl]; omega) (by omega)]
    rfl
   ·go_enter Tryz.func344,Tryz.ntmps344
    go_wp2
    go_ret
    refine ⟨ret1 ?_,rfl⟩
    rw [len8tab_get]
    have:=bitLen_le8 x.toNat (by omega)
    rw [w64 (bitLen x.toNat:Int) (by omega) (by omega),w64 _ (by omega) (by omega)]
theorem bitLen_le64 {n:Nat} (h:n < 18446744073709551616):bitLen n<=64:=by
 unfold bitLen
 split
 ·omega
 ·have:=(Nat.log2_lt (k:=64) ‹_›).2 (by omega); omega
theorem clz64 (x:Int) (w:World) (h0:0<=x) (h1:x < 18446744073709551616) :
  Calls Tryz.prog 317 #[.int .u64 x] w fun e w'=>e=.returned (.int .i64 (64 - bitLen x.toNat))/\w'=w:=by
 have hl:=bitLen_le64 (n:=x.toNat) (by omega)
 have t1:=len64 x w h0 h1
 generalize bitLen x.toNat=L at *
 go_enter Tryz.func317,Tryz.ntmps317
 go_wp2_with fail
 refine t1.mono ?_
 rintro e w1 ⟨rfl,rfl⟩
 go_wp2
 go_ret
 exact ⟨rfl,rfl⟩
end
section
open Go.RowKit Lim
theorem or_add (a b:Int) (s:Nat) (k:Int) (ha:a=k * 2 ^ s) (hk:0<=k) (ha1:a < 18446744073709551616) (hb0:0<=b) (hb1:b < 2 ^ s) (hb2:b < 18446744073709551616):bits .or .u64 a b=a + b:=by
 have h2:(0:Int) < 2 ^ s:=Int.pow_pos (by decide)
 have ha0:0<=a:=by rw [ha]; exact Int.mul_nonneg hk (Int.le_of_lt h2)
 rw [u64_or a b ha0 ha1 hb0 hb2]
 obtain ⟨k,rfl⟩:=Int.eq_ofNat_of_zero_le hk
 obtain ⟨b,rfl⟩:=Int.eq_ofNat_of_zero_le hb0
 have e:a.toNat=2 ^ s * k:=by
  have:a=((2 ^ s * k:Nat):Int):=by rw [ha,Int.natCast_mul,Int.natCast_pow,Int.mul_comm]; rfl
  rw [this,Int.toNat_natCast]
 have hb':b < 2 ^ s:=by
  have:((2 ^ s:Nat):Int)=2 ^ s:=by rw [Int.natCast_pow]; rfl
  omega
 rw [e,Int.toNat_natCast,<- Nat.two_pow_add_eq_or_of_lt hb',<- e]
 omega
end
section
open Go.RowKit Lim
end
section
open Go.RowKit Lim
theorem NewV.of {w w':World} {l:List Int} {ao:Option Addr} {n c b o:Nat} (hn:n=l.length) (h1:n<=c) (h2:w.heap.size<=b) (h3:At w' ao b o l) (h4:Free w' b o n):NewV w w' (.slice ao n c) l:=by
 subst hn; exact ⟨ao,b,o,c,rfl,h1,h2,h3,h4⟩
end
section
open Go.RowKit Lim
theorem add_step (z x m c hi lo:Int) (hz:0<=z/\z < 18446744073709551616) (hc:0<=c/\c < 18446744073709551616) (h1:0<=hi) (h2:hi<=18446744073709551614) (h3:0<=lo) (h4:lo < 18446744073709551616) (h5:hi * 18446744073709551616 + lo=x * m)
  (hb:x * m<=340282366920938463426481119284349108225) :
  0<=hi + (lo + c) / 18446744073709551616/\hi + (lo + c) / 18446744073709551616<=18446744073709551615 /\
  0<=hi + (lo + c) / 18446744073709551616 + (z + (lo + c) % 18446744073709551616) / 18446744073709551616 /\
  hi + (lo + c) / 18446744073709551616 + (z + (lo + c) % 18446744073709551616) / 18446744073709551616<=18446744073709551615 /\
  (z + (lo + c) % 18446744073709551616) % 18446744073709551616 + 18446744073709551616 * (hi + (lo + c) / 18446744073709551616 + (z + (lo + c) % 18446744073709551616) / 18446744073709551616)=z + x * m + c:=by
 omega
def AddInv (lz lb:List Int) (m:Int) (k:Nat) (lz1:List Int) (c:Int):Prop :=
 lz1.length=lz.length/\Words lz1/\(∀ i,k<=i->nth lz1 i=nth lz i)/\val (lz1.take k) + 18446744073709551616 ^ k * c=val (lz.take k) + val (lb.take k) * m
theorem AddInv.step {lz lb lz1:List Int} {m c z' c':Int} {k:Nat} (h:AddInv lz lb m k lz1 c) (hk:k < lz.length) (hz0:0<=z') (hz1:z' < 18446744073709551616)
  (e:z' + 18446744073709551616 * c'=nth lz k + nth lb k * m + c):AddInv lz lb m (k + 1) (lz1.set k z') c':=by
 obtain ⟨h1,h2,h3,h4⟩:=h
 refine ⟨by simp [h1],h2.set k hz0 hz1,fun i hi => ?_,?_⟩
 ·rw [nth_set (by omega),if_neg (by omega)]; exact h3 i (by omega)
 ·have hb:val (lb.take (k + 1))=val (lb.take k) + 18446744073709551616 ^ k * nth lb k:=by
   by_cases hl:k < lb.length
   ·exact val_take_succ hl
   ·rw [List.take_of_length_le (by omega),List.take_of_length_le (by omega),nth_ge (by omega)]; simp
  rw [val_take_succ (by simp [h1]; omega),val_take_succ hk,hb,List.take_set_of_le (Nat.le_refl _),nth_set (by omega),if_pos rfl,Int.pow_succ]
  have:18446744073709551616 ^ k * (z' + 18446744073709551616 * c')=18446744073709551616 ^ k * (nth lz k + nth lb k * m + c):=by rw [e]
  grind
theorem AddInv.done {lz lb lz1:List Int} {m c:Int} {k n:Nat} (hn:lz.length=n) (h:AddInv lz lb m k lz1 c) (hc:c=0\/lz.length=k) (hk:lb.length<=k) (hkn:k<=n) :
  val lz1=(val lz + val lb * m) % 18446744073709551616 ^ n:=by
 obtain ⟨h1,h2,h3,h4⟩:=h
 rw [List.take_of_length_le (l:=lb) (by omega)] at h4
 have hlt:=val_lt h2
 have h0:=val_nonneg h2
 rw [h1,hn] at hlt
 rcases hc with e | e
 ·subst e
  have hd:lz1.drop k=lz.drop k:=nth_ext (by simp [h1]) fun i hi=>by rw [nth_drop,nth_drop]; exact h3 _ (by omega)
  have e1:=val_split lz1 k (by omega)
  have e2:=val_split lz k (by omega)
  rw [hd] at e1
  have:val lz + val lb * m=val lz1:=by rw [e1,e2]; simp only [Int.mul_zero,Int.add_zero] at h4; omega
  rw [this]
  exact (Int.emod_eq_of_lt h0 hlt).symm
 ·have ek:k=n:=by omega
  subst ek
  rw [List.take_of_length_le (l:=lz1) (by omega),List.take_of_length_le (l:=lz) (by omega)] at h4
  rw [<- h4,Int.add_mul_emod_self_left]
  exact (Int.emod_eq_of_lt h0 hlt).symm
theorem addTimes_any (az : Option Addr) (bz oz nz cz : Nat) (ab : Option Addr) (bb ob nb cb : Nat) (m : Int) (lz lb : List Int) (w : World)
    (hnz : lz.length = nz) (hnb : lb.length = nb) (hle : nb ≤ nz) (hbig : nz ≤ 2199023255552) (hcz : nz ≤ cz) (hcb : nb ≤ cb) (hm0 : 0 ≤ m) (hm1 : m < 18446744073709551616)
    (wz : Words lz) (wb : Words lb) (hz : At w az bz oz lz) (hfz : Free w bz oz nz) (hb : At w ab bb ob lb) (hne : lb = [] ∨ bb ≠ bz) :
    Calls Tryz.prog 263 #[.slice az nz cz, .slice ab nb cb, .int .u64 m] w fun e w' => e = .returned (.tuple #[]) ∧
      ∃ lz', lz'.length = nz ∧ Words lz' ∧ At w' az bz oz lz' ∧ Wr bz oz nz w w' ∧ val lz' = (val lz + val lb * m) % 18446744073709551616 ^ nz := by
  go_enter Tryz.func263, Tryz.ntmps263
  go_wp2
  go_loopw [6, 14] (fun tc ti wr => ∃ (k : Nat) (c : Int) (lz1 : List Int), k ≤ nb ∧ ti = .int .i64 k ∧ tc = .int .u64 c ∧ 0 ≤ c ∧ c < 18446744073709551616 ∧ AddInv lz lb m k lz1 c ∧ At wr az bz oz lz1 ∧ Wr bz oz nz w wr) (fun _ ti _ => nb - (intOf ti).toNat)
  case atStart => exact ⟨0, 0, lz, Nat.zero_le _, rfl, rfl, by decide, by decide, ⟨rfl, wz, fun _ _ => rfl, by simp [val]⟩, hz, Wr.refl _ _ _ _⟩
  case round =>
    obtain ⟨k, c, lz1, hk, rfl, rfl, hc0, hc1, hinv, hat, hwr⟩ := hrel
    have hlen1 := hinv.1
    by_cases hlt : k < nb
    · rcases hb.loc with e | rfl
      · subst e; simp at hnb; omega
      rcases hz.loc with e | rfl
      · subst e; simp at hnz; omega
      have hb' := hb.wr hwr hne
      have hcb := hb'.cell k (by omega)
      have hcz := hat.cell k (by omega)
      have hfr := hwr.free hfz k (by omega)
      have hx := wb.nth k
      have hzz := wz.nth k
      rw [hinv.2.2.1 k (Nat.le_refl _)] at hcz
      obtain ⟨hx0, hx1⟩ := hx
      obtain ⟨hz0, hz1⟩ := hzz
      have HI : Hid (AddInv lz lb m k lz1 c) := hinv
      have HA : Hid (At wr (some ⟨bz, oz, none⟩) bz oz lz1) := hat
      have HW : Hid (Wr bz oz nz w wr) := hwr
      clear hinv hat hwr hb' hz hb hfz wz wb hne
      go_wp2_with (first
        | (go_at_call 330; refine (mul64_n _ _ hx0 hx1 hm0 hm1 _).mono ?_; rintro e w' ⟨hi, lo, rfl, h1, h2, h3, h4, h5, rfl⟩)
        | simp only [add64 _ _ h3 hc0]
        | simp only [add64_m _ _ hz0])
      have hxm : nth lb k * m ≤ 340282366920938463426481119284349108225 := by
        have := Int.mul_le_mul (show nth lb k ≤ 18446744073709551615 by omega) (show m ≤ 18446744073709551615 by omega) hm0 (by decide)
        simpa using this
      obtain ⟨s1, s2, s3, s4, s5⟩ := add_step (nth lz k) (nth lb k) m c hi lo ⟨hz0, hz1⟩ ⟨hc0, hc1⟩ h1 h2 h3 h4 h5 hxm
      rw [Int.add_emod_emod] at s5
      rw [IntWalk.u64_in _ ⟨s3, s4⟩]
      refine ⟨⟨k + 1, _, _, by omega, by go_num, rfl, s3, by omega, HI.out.step (by omega) (Int.emod_nonneg _ (by decide)) (Int.emod_lt_of_pos _ (by decide)) s5, HA.out.setCell (by omega) _, HW.out.setCell (by omega) (by omega) _⟩, by simp [intOf]; omega⟩
    · have hkn : k = nb := by omega
      subst hkn
      have HI : Hid (AddInv lz lb m k lz1 c) := hinv
      clear hinv
      go_wp2
      go_loopw [6, 11] (fun tc ti wr => ∃ (j : Nat) (c : Int) (lz1 : List Int), k ≤ j ∧ j ≤ nz ∧ ti = .int .i64 j ∧ tc = .int .u64 c ∧ 0 ≤ c ∧ c < 18446744073709551616 ∧ AddInv lz lb m j lz1 c ∧ At wr az bz oz lz1 ∧ Wr bz oz nz w wr) (fun _ ti _ => nz - (intOf ti).toNat)
      case atStart => exact ⟨k, c, lz1, Nat.le_refl _, by omega, rfl, rfl, hc0, hc1, HI.out, hat, hwr⟩
      case round =>
        clear hat hwr HI hlen1 hc0 hc1
        obtain ⟨j, d, lz2, hkj, hj, rfl, rfl, hd0, hd1, hinv, hat, hwr⟩ := hrel
        have hlen2 := hinv.1
        by_cases hlt2 : j < nz
        · by_cases hd : d = 0
          · subst hd
            go_wp2
            go_end0
            refine ⟨rfl, lz2, by omega, hinv.2.1, hat, hwr, ?_⟩
            exact AddInv.done (by omega) hinv (.inl rfl) (by omega) (by omega)
          · rcases hz.loc with e | rfl
            · subst e; simp at hnz; omega
            have hcz := hat.cell j (by omega)
            have hfr := hwr.free hfz j (by omega)
            have hzz := wz.nth j
            rw [hinv.2.2.1 j (Nat.le_refl _)] at hcz
            obtain ⟨hz0, hz1⟩ := hzz
            have hdb : (d != 0) = true := by rw [bne_iff_ne]; exact hd
            have HI : Hid (AddInv lz lb m j lz2 d) := hinv
            have HA : Hid (At wr (some ⟨bz, oz, none⟩) bz oz lz2) := hat
            have HW : Hid (Wr bz oz nz w wr) := hwr
            clear hinv hat hwr hz hb hfz wz wb hne
            go_wp2_with (simp only [add64 _ _ hz0 hd0])
            have s5 : (nth lz j + d) % 18446744073709551616 + 18446744073709551616 * ((nth lz j + d) / 18446744073709551616) = nth lz j + nth lb j * m + d := by
              rw [nth_ge (l := lb) (by omega)]; omega
            refine ⟨⟨j + 1, _, _, by omega, by omega, by go_num, rfl, by omega, by omega, HI.out.step (by omega) (Int.emod_nonneg _ (by decide)) (Int.emod_lt_of_pos _ (by decide)) s5, HA.out.setCell (by omega) _, HW.out.setCell (by omega) (by omega) _⟩, by simp [intOf]; omega⟩
        · have hjn : j = nz := by omega
          subst hjn
          go_wp2
          go_end0
          refine ⟨rfl, lz2, by omega, hinv.2.1, hat, hwr, ?_⟩
          exact AddInv.done (by omega) hinv (.inr hnz) (by omega) (by omega)
end
section
open Go.RowKit Lim
theorem isN_lt {l:List Int} {n:Int} (h:IsN l n):0<=n/\n < 18446744073709551616 ^ l.length:=by
 rw [<- h.2.2]; exact ⟨val_nonneg h.1,val_lt h.1⟩
theorem pow_pos (k:Nat):(0:Int) < 18446744073709551616 ^ k:=Int.pow_pos (by decide)
theorem add_fin {L L' lz:List Int} {x y:Int} (hL:IsN L x) (hL':IsN L' y) (hle:L'.length<=L.length) (hw:Words lz)
  (hv:val lz=(val (L ++ [0]) + val L' * 1) % 18446744073709551616 ^ (L.length + 1)):IsN (norm lz) (x + y):=by
 have h1:=isN_lt hL
 have h2:=isN_lt hL'
 have h3:=pow_mono hle
 have hp:=pow_pos L.length
 have e:val (L ++ [0]) + val L' * 1=x + y:=by rw [val_append,hL.2.2,hL'.2.2]; simp [val]
 rw [e,Int.emod_eq_of_lt (by omega) (by rw [Int.pow_succ]; omega)] at hv
 rw [<- hv]
 exact isN_norm hw
theorem words_zero (n:Nat):Words (List.replicate n 0):=fun x hx=>by rw [List.eq_of_mem_replicate hx]; decide
theorem add_any (ao:Option Addr) (n c b o:Nat) (ao':Option Addr) (n' c' b' o':Nat) (l l':List Int) (w:World) (hl:l.length=n) (hl':l'.length=n') (hc:n<=c) (hc':n'<=c') (hbig:n<=1099511627776) (hbig':n'<=1099511627776)
  (wl:Words l) (wl':Words l') (ha:At w ao b o l) (ha':At w ao' b' o' l') :
  Calls Tryz.prog 182 #[.slice ao n c,.slice ao' n' c'] w fun e w'=>∃ v r,e=.returned v/\NewV w w' v r/\IsN r (val l + val l')/\r.length<=n + n' + 1/\Below w.heap.size w w':=by
 have hn:=nlen_le l
 have hn':=nlen_le l'
 have t1:=trim_any ao n c l w hl hc (by omega) ha.cells
 have t2:=trim_any ao' n' c' l' w hl' hc' (by omega) ha'.cells
 have hs:=ha.sub (nlen l)
 have hs':=ha'.sub (nlen l')
 have hnl:=norm_length l
 have hnl':=norm_length l'
 have hI:=isN_norm wl
 have hI':=isN_norm wl'
 rw [show l.take (nlen l)=norm l from rfl] at hs
 rw [show l'.take (nlen l')=norm l' from rfl] at hs'
 generalize nlen l=N at *
 generalize nlen l'=N' at *
 generalize norm l=L at *
 generalize norm l'=L' at *
 clear ha ha'
 go_enter Tryz.func182,Tryz.ntmps182
 go_wp2_with fail
 refine t1.mono ?_
 rintro e w1 ⟨rfl,rfl⟩
 go_wp2_with fail
 refine t2.mono ?_
 rintro e w2 ⟨rfl,rfl⟩
 clear t1 t2
 by_cases hlt:N < N'
 ·have hne:L=[]\/b≠w2.heap.size:=by
   rcases hs.lt with e | e
   ·exact .inl e
   ·exact .inr (by omega)
  go_wp2_with (first
   | (at_make; refine wpList_makeN rfl _ _ rfl (N' + 1) _ _ rfl rfl (by omega) (by omega) (by omega) ?_; intro w3 hrow hbel hsz; have hs3:=hs'.keep hbel; have hs4:=hs.keep hbel)
   | (refine wpList_copyN rfl (.tmp 23) (.tmp 24) rfl _ _ _ _ _ _ rfl rfl _ _ hrow (by simp) _ _ hnl' (by omega) hs3 ?_; intro w4 hrow4 hwr4))
  have hr4:Row w4 w2.heap.size (L' ++ [0]):=by
   have:=hrow4; rw [List.drop_replicate,show N' + 1 - N'=1 from by omega] at this; simpa using this
  have hs5:=hs4.wr hwr4 hne
  refine (addTimes_any _ w2.heap.size 0 _ _ _ b o _ _ 1 (L' ++ [0]) L w4 (by simp [hnl']) hnl (by omega) (by omega) (Nat.le_refl _) (Nat.le_refl _) (by decide) (by decide) (hI'.1.append (words_zero 1)) hI.1 hr4.at (hr4.free _ _) hs5 hne).mono ?_
  rintro e w5 ⟨rfl,lz,hlz,hwz,hatz,hwr5,hvz⟩
  have HF:IsN (norm lz) (_ + _):=add_fin hI' hI (by omega) hwz (by rw [hvz,hnl'])
  have hfz:=hwr5.free (hr4.free 0 (N' + 1))
  have hz1:=nlen_le lz
  have hz2:=norm_length lz
  have hz3:=hatz.sub (nlen lz)
  have HB:=(hbel.trans (hwr4.below (Nat.le_refl _))).trans (hwr5.below (Nat.le_refl _))
  rw [show lz.take (nlen lz)=norm lz from rfl] at hz3
  have t3:=trim_any (some ⟨w2.heap.size,0,none⟩) (N' + 1) (N' + 1) lz w5 hlz (Nat.le_refl _) (by omega) hatz.cells
  clear hr4 hs5 hs4 hs3 hrow hrow4 hwr4 hwr5 hbel hatz hvz
  generalize nlen lz=K at *
  generalize norm lz=R at *
  go_wp2_with fail
  refine t3.mono ?_
  rintro e w6 ⟨rfl,rfl⟩
  go_wp2
  go_ret
  exact ⟨_,R,rfl,NewV.of hz2.symm (Nat.le_refl _) (Nat.le_refl _) hz3 (fun i hi=>hfz i (by omega)),by rw [Int.add_comm]; exact HF,by omega,HB⟩
 ·have hne:L'=[]\/b'≠w2.heap.size:=by
   rcases hs'.lt with e | e
   ·exact .inl e
   ·exact .inr (by omega)
  go_wp2_with (first
   | (at_make; refine wpList_makeN rfl _ _ rfl (N + 1) _ _ rfl rfl (by omega) (by omega) (by omega) ?_; intro w3 hrow hbel hsz; have hs3:=hs.keep hbel; have hs4:=hs'.keep hbel)
   | (refine wpList_copyN rfl (.tmp 23) (.tmp 24) rfl _ _ _ _ _ _ rfl rfl _ _ hrow (by simp) _ _ hnl (by omega) hs3 ?_; intro w4 hrow4 hwr4))
  have hr4:Row w4 w2.heap.size (L ++ [0]):=by
   have:=hrow4; rw [List.drop_replicate,show N + 1 - N=1 from by omega] at this; simpa using this
  have hs5:=hs4.wr hwr4 hne
  refine (addTimes_any _ w2.heap.size 0 _ _ _ b' o' _ _ 1 (L ++ [0]) L' w4 (by simp [hnl]) hnl' (by omega) (by omega) (Nat.le_refl _) (Nat.le_refl _) (by decide) (by decide) (hI.1.append (words_zero 1)) hI'.1 hr4.at (hr4.free _ _) hs5 hne).mono ?_
  rintro e w5 ⟨rfl,lz,hlz,hwz,hatz,hwr5,hvz⟩
  have HF:IsN (norm lz) (_ + _):=add_fin hI hI' (by omega) hwz (by rw [hvz,hnl])
  have hfz:=hwr5.free (hr4.free 0 (N + 1))
  have hz1:=nlen_le lz
  have hz2:=norm_length lz
  have hz3:=hatz.sub (nlen lz)
  have HB:=(hbel.trans (hwr4.below (Nat.le_refl _))).trans (hwr5.below (Nat.le_refl _))
  rw [show lz.take (nlen lz)=norm lz from rfl] at hz3
  have t3:=trim_any (some ⟨w2.heap.size,0,none⟩) (N + 1) (N + 1) lz w5 hlz (Nat.le_refl _) (by omega) hatz.cells
  clear hr4 hs5 hs4 hs3 hrow hrow4 hwr4 hwr5 hbel hatz hvz
  generalize nlen lz=K at *
  generalize norm lz=R at *
  go_wp2_with fail
  refine t3.mono ?_
  rintro e w6 ⟨rfl,rfl⟩
  go_wp2
  go_ret
  exact ⟨_,R,rfl,NewV.of hz2.symm (Nat.le_refl _) (Nat.le_refl _) hz3 (fun i hi=>hfz i (by omega)),HF,by omega,HB⟩
end
section
open Go.RowKit Lim
end
section
open Go.RowKit Lim
end
section
open Go.RowKit Lim
theorem Row.built (w:World) (l:List Int):Row (w.alloc (.cells (l.map (Value.int .u64)).toArray 22)) w.heap.size l:=by
 show (w.heap.push _)[w.heap.size]? = _
 rw [Array.getElem?_push_size]
theorem Row.built1 (w:World) (x:Int):Row (w.alloc (.cells #[.int .u64 x] 22)) w.heap.size [x]:=Row.built w [x]
theorem below_alloc (w:World) (o:Obj):Below w.heap.size w (w.alloc o):=(Below.refl _ _).alloc (Nat.le_refl _) _
theorem of_any (x:Int) (w:World) (h0:0<=x) (h1:x < 18446744073709551616) :
  Calls Tryz.prog 80 #[.int .u64 x] w fun e w'=>∃ v r,e=.returned v/\NewV w w' v r/\IsN r x/\r.length<=1/\Below w.heap.size w w':=by
 have hr:=Row.built1 w x
 have hb:=below_alloc w (.cells #[.int .u64 x] 22)
 have hw:Words [x]:=Words.cons h0 h1 Words.nil
 have t1:=trim_any (some ⟨w.heap.size,0,none⟩) 1 1 [x] (w.alloc (.cells #[.int .u64 x] 22)) rfl (by decide) (by decide) hr.at.cells
 have hz1:=nlen_le [x]
 have hz2:=norm_length [x]
 have hz3:=hr.at.sub (nlen [x])
 have HF:IsN (norm [x]) x:=by have:=isN_norm hw; rwa [val_single] at this
 have hfz:=hr.free 0 1
 rw [show [x].take (nlen [x])=norm [x] from rfl] at hz3
 rw [List.length_singleton] at hz1
 generalize nlen [x]=K at *
 generalize norm [x]=R at *
 clear hr
 go_enter Tryz.func80,Tryz.ntmps80
 go_wp2_with fail
 refine t1.mono ?_
 rintro e w6 ⟨rfl,rfl⟩
 go_wp2
 go_ret
 exact ⟨_,R,rfl,NewV.of hz2.symm (Nat.le_refl _) (Nat.le_refl _) hz3 (fun i hi=>hfz i (by omega)),HF,by omega,hb⟩
theorem isN_nil:IsN [] 0:=⟨Words.nil,rfl,rfl⟩
end
section
open Go.RowKit Lim
end
section
open Go.RowKit Lim
end
section
open Go.RowKit Lim
theorem mul_room {L L' lz:List Int} {k:Nat} (hL:Words L) (hL':Words L') (hz:Words lz) (hk:k < L.length) (hl:lz.length=L.length + L'.length) (hv:val lz=val (L.take k) * val L') :
  0<=val ((lz.drop k).take (L'.length + 1)) + val L' * nth L k/\val ((lz.drop k).take (L'.length + 1)) + val L' * nth L k < 18446744073709551616 ^ (L'.length + 1):=by
 have h1:=val_lt (hL.take k)
 have h2:=val_lt hL'
 have h3:=val_nonneg (hL.take k)
 have h4:=val_nonneg hL'
 have h5:=val_nonneg (hz.take k)
 have h6:=val_nonneg ((hz.drop k).take (L'.length + 1))
 have h7:=val_nonneg ((hz.drop k).drop (L'.length + 1))
 have h8:=hL.nth k
 rw [List.length_take,Nat.min_eq_left (by omega)] at h1
 have e1:=val_split lz k (by omega)
 have e2:=val_split (lz.drop k) (L'.length + 1) (by simp; omega)
 have hp:=pow_pos k
 have hq:=pow_pos L'.length
 have hr:=pow_pos (L'.length + 1)
 have m1:val (L.take k) * val L'<=18446744073709551616 ^ k * val L':=Int.mul_le_mul_of_nonneg_right (by omega) h4
 have m2:(18446744073709551616:Int) ^ k * val (lz.drop k)<=18446744073709551616 ^ k * val L':=by omega
 have m3:val (lz.drop k)<=val L':=Int.le_of_mul_le_mul_left m2 hp
 have m4:0<=18446744073709551616 ^ (L'.length + 1) * val ((lz.drop k).drop (L'.length + 1)):=Int.mul_nonneg (Int.le_of_lt hr) h7
 have m5:val L' * nth L k<=val L' * 18446744073709551615:=Int.mul_le_mul_of_nonneg_left (by omega) h4
 have m6:0<=val L' * nth L k:=Int.mul_nonneg h4 h8.1
 refine ⟨by omega,?_⟩
 rw [Int.pow_succ]
 omega
structure MulInv (L L' lz:List Int) (k:Nat):Prop where
 len:lz.length=L.length + L'.length
 words:Words lz
 val:Lim.val lz=Lim.val (L.take k) * Lim.val L'
theorem MulInv.step {L L' lz lw:List Int} {k:Nat} (hL:Words L) (hL':Words L') (hk:k < L.length) (h:MulInv L L' lz k) (hw:Words lw) (hlw:lw.length=L'.length + 1)
  (hv:Lim.val lw=(Lim.val ((lz.drop k).take (L'.length + 1)) + Lim.val L' * nth L k) % 18446744073709551616 ^ (L'.length + 1)):MulInv L L' (patch lz k lw) (k + 1):=by
 have hroom:=mul_room hL hL' h.words hk h.len h.val
 rw [Int.emod_eq_of_lt hroom.1 hroom.2] at hv
 have hl:=h.len
 refine ⟨by rw [patch_length (by omega)]; exact h.len,patch_words h.words hw,?_⟩
 rw [patch_val (by omega),hlw,hv,h.val,val_take_succ hk]
 grind
theorem mul_any (ao:Option Addr) (n c b o:Nat) (ao':Option Addr) (n' c' b' o':Nat) (l l':List Int) (w:World) (hl:l.length=n) (hl':l'.length=n') (hc:n<=c) (hc':n'<=c') (hbig:n<=1099511627776) (hbig':n'<=1099511627776)
  (wl:Words l) (wl':Words l') (ha:At w ao b o l) (ha':At w ao' b' o' l') :
  Calls Tryz.prog 258 #[.slice ao n c,.slice ao' n' c'] w fun e w'=>∃ v r,e=.returned v/\NewV w w' v r/\IsN r (val l * val l')/\r.length<=n + n'/\Below w.heap.size w w':=by
 have hn:=nlen_le l
 have hn':=nlen_le l'
 have t1:=trim_any ao n c l w hl hc (by omega) ha.cells
 have t2:=trim_any ao' n' c' l' w hl' hc' (by omega) ha'.cells
 have hs:=ha.sub (nlen l)
 have hs':=ha'.sub (nlen l')
 have hnl:=norm_length l
 have hnl':=norm_length l'
 have hI:=isN_norm wl
 have hI':=isN_norm wl'
 rw [show l.take (nlen l)=norm l from rfl] at hs
 rw [show l'.take (nlen l')=norm l' from rfl] at hs'
 generalize nlen l=N at *
 generalize nlen l'=N' at *
 generalize norm l=L at *
 generalize norm l'=L' at *
 have hneL:L=[]\/b≠w.heap.size:=by
  rcases hs.lt with e | e
  ·exact .inl e
  ·exact .inr (by omega)
 have hne:L'=[]\/b'≠w.heap.size:=by
  rcases hs'.lt with e | e
  ·exact .inl e
  ·exact .inr (by omega)
 clear ha ha'
 go_enter Tryz.func258,Tryz.ntmps258
 go_wp2_with fail
 refine t1.mono ?_
 rintro e w1 ⟨rfl,rfl⟩
 go_wp2_with fail
 refine t2.mono ?_
 rintro e w2 ⟨rfl,rfl⟩
 clear t1 t2
 go_wp2_with (at_make; refine wpList_makeN rfl _ _ rfl (N + N') _ _ rfl rfl (by omega) (by omega) (by omega) ?_; intro w3 hrow hbel hsz)
 have hs3:=hs.keep hbel
 have hs4:=hs'.keep hbel
 have hat0:=hrow.at
 have hfr0:=hrow.free 0 (N + N')
 clear hs hs' hrow
 go_loopw [22] (fun ti wr=>∃ (k:Nat) (lz:List Int),k<=N/\ti=.int .i64 k/\MulInv L L' lz k/\At wr (some ⟨w2.heap.size,0,none⟩) w2.heap.size 0 lz/\Wr w2.heap.size 0 (N + N') w3 wr) (fun ti _=>N - (intOf ti).toNat)
 case atStart=>exact ⟨0,_,Nat.zero_le _,rfl,⟨by simp [hnl,hnl'],words_zero _,by simp [val,val_zeros (l:=List.replicate (N + N') 0) fun i=>by simp [nth,List.getElem?_replicate]; split<;>rfl]⟩,hat0,Wr.refl _ _ _ _⟩
 case round =>
  clear hat0
  obtain ⟨k,lz,hk,rfl,hinv,hat,hwr⟩:=hrel
  by_cases hlt:k < N
  ·have hlen:=hinv.len
   rcases hs3.loc with e | rfl
   ·subst e; simp at hnl; omega
   have hneL:=hneL
   have hcx:=(hs3.wr hwr hneL).cell k (by omega)
   have hat':=hs4.wr hwr hne
   have hx:=hI.1.nth k
   have hfr:=(hwr.free hfr0).window (k:=k) (m:=N' + 1) (by omega)
   have hwin:=(hat.drew).window k (N' + 1)
   rw [Nat.zero_add] at hwin hfr
   have hkn:k + N' + 1 - k=N' + 1:=by omega
   have hcall:=addTimes_any (some ⟨w2.heap.size,k,none⟩) w2.heap.size k (N' + 1) (N' + 1) ao' b' o' N' N' (nth L k) ((lz.drop k).take (N' + 1)) L' wr.drew (by simp; omega) hnl' (by omega) (by omega) (Nat.le_refl _) (Nat.le_refl _) hx.1 hx.2 ((hinv.words.drop k).take _) hI'.1 hwin hfr.drew hat'.drew hne
   have HX:Hid (∀ lw,Words lw->lw.length=N' + 1->val lw=(val ((lz.drop k).take (N' + 1)) + val L' * nth L k) % 18446744073709551616 ^ (N' + 1)->MulInv L L' (patch lz k lw) (k + 1)):=by
    intro lw h1 h2 h3
    rw [<- hnl'] at h2 h3
    exact MulInv.step hI.1 hI'.1 (by omega) hinv h1 h2 h3
   have HA:Hid (At wr.drew (some ⟨w2.heap.size,0,none⟩) w2.heap.size 0 lz):=hat.drew
   have HW:Hid (Wr w2.heap.size 0 (N + N') w3 wr.drew):=hwr.drew
   clear hfr hwin hat' hinv hwr hat
   generalize nth L k=x at *
   go_wp2_with fail
   go_region_with (go_at_call 263; refine hcall.mono ?_; rintro e w5 ⟨rfl,lw,hlw,hww,hatw,hwrw,hvw⟩)
   all_goals go_wp2
   all_goals exact ⟨⟨k + 1,patch lz k lw,by omega,by go_num,HX.out lw hww hlw hvw,HA.out.patch (k:=k) (n:=N' + 1) (by rw [Nat.zero_add]; exact hwrw) (by rw [Nat.zero_add]; exact hatw) (by omega) (by omega),HW.out.trans (hwrw.mono (by omega) (by omega))⟩,by simp [intOf]; omega⟩
  ·have hkN:k=N:=by omega
   subst hkN
   have hv:=hinv.val
   have hlen:=hinv.len
   have hwz:=hinv.words
   rw [List.take_of_length_le (by omega),hI.2.2,hI'.2.2] at hv
   have hfz:=hwr.free hfr0
   have hz1:=nlen_le lz
   have hz2:=norm_length lz
   have hz3:=hat.sub (nlen lz)
   have HF:IsN (norm lz) (val l * val l'):=by rw [<- hv]; exact isN_norm hwz
   have HB:=hbel.trans (hwr.below (Nat.le_refl _))
   rw [show lz.take (nlen lz)=norm lz from rfl] at hz3
   have t3:=trim_any (some ⟨w2.heap.size,0,none⟩) (k + N') (k + N') lz wr (by omega) (Nat.le_refl _) (by omega) hat.cells
   clear hs3 hs4 hat hwr hbel hinv hv
   generalize nlen lz=K at *
   generalize norm lz=R at *
   go_wp2_with fail
   refine t3.mono ?_
   rintro e w6 ⟨rfl,rfl⟩
   go_wp2
   go_ret
   exact ⟨_,R,rfl,NewV.of hz2.symm (Nat.le_refl _) (Nat.le_refl _) hz3 (fun i hi=>hfz i (by omega)),HF,by omega,HB⟩
end
section
open Go.RowKit Lim
end
section
open Go.RowKit Lim
end
section
open Go.RowKit Lim
def Mine (w:World) (B:Nat) (v:Value) (l:List Int):Prop:=w.ownsRow B 22 1 v l.length (l.map (Value.int .u64))
theorem Mine.open {w:World} {B:Nat} {v:Value} {l:List Int} (h:Mine w B v l):∃ ao c,v=.slice ao l.length c/\l.length<=c/\c<=maxLen/\∃ g,(l=[]\/ao=some ⟨g,0,none⟩)/\B<=g/\At w ao g 0 l/\Free w g 0 l.length:=by
 obtain ⟨_,h2⟩:=h
 rcases h2 with ⟨rfl,h0⟩ | ⟨g,cap,cur,rfl,hB,hh,hle,hmx,hsz,htk⟩
 ·have e:l=[]:=List.eq_nil_of_length_eq_zero h0
  subst e
  exact ⟨none,0,rfl,Nat.le_refl _,by decide,B,.inl rfl,Nat.le_refl _,⟨.inl rfl,fun i hi=>by simp at hi⟩,fun i hi=>by simp at hi⟩
 ·refine ⟨some ⟨g,0,none⟩,cap,rfl,hle,hmx,g,.inr rfl,hB,⟨.inr rfl,fun i hi => ?_⟩,fun i hi => ?_⟩
  ·have e:cur.toList[i]? = some (.int .u64 (nth l i)):=by
    have h1:(cur.toList.take (l.length * 1))[i]? = some (.int .u64 (nth l i)):=by
     rw [htk,List.getElem?_map,List.getElem?_eq_getElem hi,nth_eq hi]; rfl
    rwa [Nat.mul_one,List.getElem?_take_of_lt hi] at h1
   simp only [World.cell?,hh]
   simpa using e
  ·simp [World.frozen?,hh]
theorem Mine.setCell {w:World} {B:Nat} {v:Value} {l:List Int} (h:Mine w B v l) {c g:Nat} (hv:v=.slice (some ⟨g,0,none⟩) l.length c) {i:Nat} (hi:i < l.length) (x:Int):Mine (w.setCell ⟨g,0 + i,none⟩ (.int .u64 x)) B v (l.set i x):=by
 obtain ⟨_,h2⟩:=h
 refine ⟨by simp,?_⟩
 rcases h2 with ⟨rfl,h0⟩ | ⟨g',cap,cur,rfl,hB,hh,hle,hmx,hsz,htk⟩
 ·omega
 ·simp only [Value.slice.injEq,Option.some.injEq,Addr.mk.injEq,and_true,true_and] at hv
  obtain ⟨rfl,rfl⟩:=hv
  right
  refine ⟨g',cap,cur.setIfInBounds i (.int .u64 x),by simp,hB,?_,by simpa using hle,hmx,by simpa using hsz,?_⟩
  ·simp only [World.setCell,Array.getElem?_modify,if_true,hh,Nat.zero_add]
   simp
  ·rw [List.length_set,Nat.mul_one] at *
   rw [Array.toList_setIfInBounds,List.map_set,<- htk,List.take_set]
theorem Mine.new {w w':World} {v:Value} {l:List Int} (h:Mine w' w.heap.size v l):NewV w w' v l:=by
 obtain ⟨ao,c,rfl,hc,_,g,_,hg,hat,hf⟩:=h.open
 exact ⟨ao,g,0,c,rfl,hc,hg,hat,hf⟩
structure ScInv (l:List Int) (m c0:Int) (k:Nat) (l1:List Int) (c:Int):Prop where
 len:l1.length=l.length
 words:Words l1
 high:∀ i,k<=i->nth l1 i=nth l i
 val:Lim.val (l1.take k) + 18446744073709551616 ^ k * c=Lim.val (l.take k) * m + c0
theorem ScInv.step {l l1:List Int} {m c0 c z' c':Int} {k:Nat} (h:ScInv l m c0 k l1 c) (hk:k < l.length) (hz0:0<=z') (hz1:z' < 18446744073709551616)
  (e:z' + 18446744073709551616 * c'=nth l k * m + c):ScInv l m c0 (k + 1) (l1.set k z') c':=by
 have h1:=h.len
 refine ⟨by simp [h1],h.words.set k hz0 hz1,fun i hi=>by rw [nth_set (by omega),if_neg (by omega)]; exact h.high i (by omega),?_⟩
 have h4:=h.val
 rw [val_take_succ (by simp [h1]; omega),val_take_succ hk,List.take_set_of_le (Nat.le_refl _),nth_set (by omega),if_pos rfl,Int.pow_succ]
 have:18446744073709551616 ^ k * (z' + 18446744073709551616 * c')=18446744073709551616 ^ k * (nth l k * m + c):=by rw [e]
 grind
theorem tenTo_any (n:Nat) (w:World) (hn:n<=19):Calls Tryz.prog 319 #[.int .i64 n] w fun e w'=>e=.returned (.int .u64 (10 ^ n))/\w'=w:=by
 go_enter Tryz.func319,Tryz.ntmps319
 go_wp2
 go_loop [3,5] (fun tx ti=>∃ (k:Nat) (p:Int),k<=n/\ti=.int .i64 k/\tx=.int .u64 p/\Hid (p=10 ^ k)) (fun _ ti=>n - (intOf ti).toNat)
 case atStart=>exact ⟨0,1,Nat.zero_le _,rfl,rfl,rfl⟩
 case round =>
  obtain ⟨k,p,hk,rfl,rfl,hp⟩:=hrel
  by_cases hlt:k < n
  ·have h1:(1:Int)<=p:=by rw [hp.out]; exact Int.pow_pos (by decide)
   have h2:p<=1000000000000000000:=by
    rw [hp.out]
    have:(10:Nat) ^ k<=10 ^ 18:=Nat.pow_le_pow_right (by decide) (by omega)
    have e:((10 ^ k:Nat):Int)=(10:Int) ^ k:=by rw [Int.natCast_pow]; rfl
    rw [<- e]; omega
   go_wp2
   go_round
   case rel=>exact ⟨k + 1,p * 10,by omega,by go_num,rfl,by show _=_; rw [Int.pow_succ,<- hp.out]⟩
   case measure=>simp [intOf]; omega
  ·have hkn:k=n:=by omega
   subst hkn
   go_wp2
   go_ret
   exact ⟨ret1 hp.out,rfl⟩
theorem nlen_snoc {l:List Int} {c:Int} (hc:c≠0):nlen (l ++ [c])=(l ++ [c]).length:=by
 apply nlen_of (Nat.le_refl _)
 ·intro i hi; exact nth_ge hi
 ·intro _; rw [List.length_append,List.length_singleton,Nat.add_sub_cancel,nth_append_right (Nat.le_refl _),Nat.sub_self,nth_zero]; exact hc
theorem scale_norm {l r:List Int} {m c:Int} (wl:Words l) (wr:Words r) (hlen:r.length=l.length) (hv:val r=val l * m + c) (hm:0 < m) (hc:0<=c) (hn:nlen l=l.length):nlen r=r.length:=by
 have h1:=nlen_le r
 by_cases h0:l.length=0
 ·omega
 have h2:=val_ge_of_nlen wl (by omega)
 have h3:=val_lt_nlen wr
 have h4:=val_nonneg wl
 have h5:val l * 1<=val l * m:=Int.mul_le_mul_of_nonneg_left (by omega) h4
 by_cases hlt:nlen r < r.length
 ·have:=pow_mono (show nlen r<=nlen l - 1 by omega)
  omega
 ·omega
theorem ScInv.fin {l l1:List Int} {m c0 c:Int} (h:ScInv l m c0 l.length l1 c):Lim.val (l1 ++ [c])=Lim.val l * m + c0:=by
 have h4:=h.val
 rw [List.take_of_length_le (by rw [h.len]; exact Nat.le_refl _),List.take_of_length_le (Nat.le_refl _)] at h4
 rw [val_append,val_single,h.len]; exact h4
theorem scale_any (B:Nat) (v:Value) (l:List Int) (m c0:Int) (w:World) (hB:B<=w.heap.size) (hmine:Mine w B v l) (hbig:l.length<=1099511627776) (wl:Words l) (hm0:0<=m) (hm1:m < 18446744073709551616) (hc0:0<=c0) (hc1:c0 < 18446744073709551616) :
  Calls Tryz.prog 318 #[v,.int .u64 m,.int .u64 c0] w fun e w'=>∃ v' r,e=.returned v'/\Mine w' B v' r/\Words r/\val r=val l * m + c0/\r.length<=l.length + 1/\(nlen l=l.length->0 < m->nlen r=r.length)/\Below B w w':=by
 obtain ⟨i0,hi,hz0,hz1,hz2⟩:=info_parts info_u64
 obtain ⟨ao,cap,rfl,hcap,hmax,g,hloc,hBg,_,_⟩:=hmine.open
 have hn0:∃ n,n=l.length:=⟨_,rfl⟩
 obtain ⟨n,hn⟩:=hn0
 have hn1:n<=l.length:=by omega
 have hn2:l.length<=n:=by omega
 have HN0:Hid (n=l.length):=hn
 rw [<- hn] at hmine hbig hcap ⊢
 clear hn
 go_enter Tryz.func318,Tryz.ntmps318
 go_wp2
 go_loopw [2,13] (fun tc ti wr=>∃ (k:Nat) (c:Int) (l1:List Int),k<=n/\ti=.int .i64 k/\tc=.int .u64 c/\0<=c/\c < 18446744073709551616/\ScInv l m c0 k l1 c/\Mine wr B (.slice ao n cap) l1/\Below B w wr) (fun _ ti _=>n - (intOf ti).toNat)
 case atStart=>exact ⟨0,c0,l,Nat.zero_le _,rfl,rfl,hc0,hc1,⟨rfl,wl,fun _ _=>rfl,by simp [val]⟩,hmine,Below.refl _ _⟩
 case round =>
  clear hmine
  obtain ⟨k,c,l1,hk,rfl,rfl,hcc0,hcc1,hinv,hmine,hbel⟩:=hrel
  have hlen1:=hinv.len
  by_cases hlt:k < n
  ·rcases hloc with e | rfl
   ·subst e; simp at hn1; omega
   obtain ⟨ao',c',e',_,_,g',hloc',hBg',hat,hfr⟩:=hmine.open
   simp only [Value.slice.injEq] at e'
   obtain ⟨rfl,e1,rfl⟩:=e'
   have hg':g'=g:=by
    rcases hloc' with e | e
    ·subst e; simp at e1; omega
    ·simpa using e.symm
   subst hg'
   have hcz:=hat.cell k (by omega)
   have hfz:=hfr k (by omega)
   rw [Nat.zero_add] at hcz hfz
   rw [hinv.high k (Nat.le_refl _)] at hcz
   obtain ⟨hx0,hx1⟩:=wl.nth k
   have HI:Hid (ScInv l m c0 k l1 c):=hinv
   have HM:Hid (Mine wr B (.slice (some ⟨g',0,none⟩) n cap) l1):=hmine
   have HB:Hid (Below B w wr):=hbel
   have HE:Hid (n=l1.length):=e1
   clear hinv hmine hbel hat hfr hloc' e1 wl
   go_wp2_with (first
    | (go_at_call 330; refine (mul64_n _ _ hx0 hx1 hm0 hm1 _).mono ?_; rintro e w' ⟨hi',lo,rfl,h1,h2,h3,h4,h5,rfl⟩)
    | simp only [add64 _ _ h3 hcc0])
   have hxm:nth l k * m<=340282366920938463426481119284349108225:=by
    have:=Int.mul_le_mul (show nth l k<=18446744073709551615 by omega) (show m<=18446744073709551615 by omega) hm0 (by decide)
    simpa using this
   have h5':=h5.out
   have e5:(lo + c) % 18446744073709551616 + 18446744073709551616 * (hi' + (lo + c) / 18446744073709551616)=nth l k * m + c:=by omega
   have HN:=HM.out.setCell (c:=cap) (g:=g') (by rw [<- HE.out]) (i:=k) (by omega) ((lo + c) % 18446744073709551616)
   rw [Nat.zero_add] at HN
   go_roundw
   case rel=>exact ⟨k + 1,_,_,by omega,by go_num,rfl,by omega,by omega,HI.out.step (by omega) (Int.emod_nonneg _ (by decide)) (Int.emod_lt_of_pos _ (by decide)) e5,HN,HB.out.setCell hBg' _⟩
   case measure=>simp [intOf]; omega
  ·have hkn:k=n:=by omega
   subst hkn
   have HF:Hid (val (l1 ++ [c])=val l * m + c0):=by rw [HN0.out] at hinv; exact hinv.fin
   have hw1:=hinv.words
   by_cases hc:c=0
   ·subst hc
    go_wp2
    go_ret
    have hv1:val l1=val l * m + c0:=by rw [<- HF.out,val_append]; simp [val]
    refine ⟨_,l1,rfl,hmine,hw1,hv1,by omega,fun h1 h2=>scale_norm wl hw1 (by omega) hv1 h2 hc0 (by omega),hbel⟩
   ·have hcb:(c != 0)=true:=by rw [bne_iff_ne]; exact hc
    have hown:wr.ownsRow B 22 1 (.slice ao k cap) k (l1.map (Value.int .u64)):=by have:=hmine; unfold Mine at this; rwa [hlen1,<- HN0.out] at this
    have hsz:=hbel.size
    go_wp2_with (at_builtin; refine wpList_append_own _ rfl _ _ 105 rfl B 22 i0 (.int .u64 0) 1 8 under_nat hi hz0 hz1 hz2 rfl (by decide) _ _ _ rfl (hown.alloc _) ⟨wr.heap.size,0,none⟩ 1 1 [.int .u64 c] rfl rfl ?c1 ?c2 ?c3 ?c4 ?c5 ?_)
    case c1=>exact cell_one_new _ _ _
    case c2=>intro u hu; simp at hu; subst hu; rfl
    case c3=>unfold maxLen; omega
    case c4=>omega
    case c5=>simp; omega
    intro v' w1 hown' hgrow _
    go_wp2
    go_ret
    have hM:Mine w1 B v' (l1 ++ [c]):=by
     unfold Mine
     rw [List.length_append,hlen1,<- HN0.out,List.map_append]; exact hown'
    refine ⟨_,l1 ++ [c],rfl,hM,hw1.append (Words.cons hcc0 hcc1 Words.nil),HF.out,by simp; omega,fun _ _=>nlen_snoc hc,?_⟩
    exact (hbel.alloc (by omega) _).grown hgrow (by simp; omega) (by
     intro g1 hg1
     rcases hloc with e | rfl
     ·subst e
      rcases hmine.2 with ⟨e2,_⟩ | ⟨g2,cap2,cur2,e2,hB2,_⟩
      ·rw [e2] at hg1; simp [Value.ownBlock] at hg1
      ·rw [e2] at hg1; simp [Value.ownBlock] at hg1; omega
     ·simp [Value.ownBlock] at hg1; omega)
end
section
open Go.RowKit Lim
theorem Mine.cell {w:World} {B g n c:Nat} {l:List Int} (h:Mine w B (.slice (some ⟨g,0,none⟩) n c) l) {i:Nat} (hi:i < l.length):w.cell? ⟨g,i,none⟩=some (.int .u64 (nth l i))/\w.frozen? ⟨g,i,none⟩=false:=by
 obtain ⟨ao,c',e,_,_,g',hloc,_,hat,hfr⟩:=h.open
 simp only [Value.slice.injEq] at e
 obtain ⟨rfl,_,_⟩:=e
 have hg:g'=g:=by
  rcases hloc with e | e
  ·subst e; simp at hi
  ·simpa using e.symm
 subst hg
 have h1:=hat.cell i hi
 have h2:=hfr i hi
 rw [Nat.zero_add] at h1 h2
 exact ⟨h1,h2⟩
theorem make_mine {w:World} {ops:Array Oper} {rest:List Oper} {o:Oper} {a:Act} {Q:Exit->Act->World->Prop}
  (hg:o.guard=none) (l c:Operand) (hop:o.op=Op.makeSlice 105 l c) (n m:Nat) (L C:Int) (hl:a.eval l=.int .i64 L) (hc:a.eval c=.int .i64 C) (hL:L=(n:Int)) (hC:C=(m:Int)) (hnm:n<=m) (hn:m<=17592186044416)
  (hK:∀ w',Mine w' w.heap.size (.slice (some ⟨w.heap.size,0,none⟩) n m) (List.replicate n 0)->Below w.heap.size w w'->w'.heap.size=w.heap.size + 1->wpList Tryz.prog ops Q rest (a.put o.dst (.slice (some ⟨w.heap.size,0,none⟩) n m)) w') :
  wpList Tryz.prog ops Q (o :: rest) a w:=by
 obtain ⟨i,hi,hz,hs,hb⟩:=info_parts info_u64
 refine wpList_plain hg fun K hK' => ?_
 have hrun:=run_make (P:=Tryz.prog) w 105 22 i (.int .u64 0) under_nat hi hz .i64 .i64 (n:Int) (m:Int) (by omega) (by omega) (by rw [hb]; omega) (by omega)
 subst hL
 subst hC
 unfold Oper.wp
 simp only [execOp,hop,hl,hc]
 simp [hrun,Result.andThen]
 refine hK' _ _ (hK _ ⟨by simp,.inr ⟨w.heap.size,m,((List.replicate m 0).map (Value.int .u64)).toArray,by simp,Nat.le_refl _,?_,by simpa using hnm,by unfold maxLen; omega,by simp,?_⟩⟩ ?_ ?_)
 ·show (w.heap.push _)[w.heap.size]? = _
  rw [Array.getElem?_push_size,hs,Nat.mul_one,made_u64]
 ·simp; omega
 ·exact (Below.refl _ _).alloc (Nat.le_refl _) _
 ·simp
theorem pow10_any (n:Nat) (w:World) (hn:n<=4096) :
  Calls Tryz.prog 245 #[.int .i64 n] w fun e w'=>∃ v r,e=.returned (.tuple #[v,.int .i64 0])/\NewV w w' v r/\IsN r (10 ^ n)/\r.length<=n + 2/\Below w.heap.size w w':=by
 obtain ⟨q,hq⟩:∃ q:Nat,q=n / 19:=⟨_,rfl⟩
 obtain ⟨t,ht⟩:∃ t:Nat,t=n % 19:=⟨_,rfl⟩
 have hqi:(n:Int) / 19=q:=by omega
 have hti:(n:Int) % 19=t:=by omega
 have ht1:t < 19:=by omega
 have HN:Hid (n=19 * q + t):=by show _=_; omega
 have hqn:q<=n:=by omega
 clear hq ht
 have hb0:decide ((n:Int) < 0)=false:=by simp
 have hb1:decide (4096 < (n:Int))=false:=by simp; omega
 go_enter Tryz.func245,Tryz.ntmps245
 go_wp2_with (at_make; refine make_mine rfl _ _ rfl 1 (q + 1) _ _ rfl rfl rfl (by omega) (by omega) (by omega) ?_; intro w1 hmine hbel hsz; have hcf:=hmine.cell (i:=0) (by simp); obtain ⟨hc0,hf0⟩:=hcf)
 have hm1:=hmine.setCell (c:=q + 1) (g:=w.heap.size) rfl (i:=0) (by simp) 1
 rw [show (List.replicate 1 (0:Int)).set 0 1=[1] from rfl,Nat.add_zero] at hm1
 have hb2:=hbel.setCell (p:=⟨w.heap.size,0,none⟩) (Nat.le_refl _) (.int .u64 1)
 clear hmine hbel hc0 hf0
 go_loopw [4,19] (fun tz ti wr=>∃ (k:Nat) (l:List Int),k<=q/\ti=.int .i64 k/\Mine wr w.heap.size tz l/\Words l/\Hid (nlen l=l.length)/\Hid (val l=10 ^ (19 * k))/\l.length<=k + 1/\Below w.heap.size w wr) (fun _ ti _=>q - (intOf ti).toNat)
 case atStart=>exact ⟨0,[1],Nat.zero_le _,rfl,hm1,Words.cons (by decide) (by decide) Words.nil,rfl,rfl,by simp,hb2⟩
 case round =>
  clear hm1 hb2 hsz
  obtain ⟨k,l,hk,rfl,hm,wl,hnl,hv,hlen,hbe⟩:=hrel
  have hsz:=hbe.size
  by_cases hlt:k < q
  ·go_wp2_with (go_at_call 318; refine (scale_any w.heap.size _ l 10000000000000000000 0 _ hsz hm (by omega) wl (by decide) (by decide) (by decide) (by decide)).mono ?_; rintro e w5 ⟨v',r,rfl,hm',wr',hv',hlen',hn',hbe'⟩)
   have e1:=hv.out
   have e2:=hn' hnl.out (by decide)
   go_roundw
   case rel=>exact ⟨k + 1,r,by omega,by go_num,hm',wr',e2,by show _=_; rw [hv',e1,Int.add_zero,show 19 * (k + 1)=19 * k + 19 from by omega,Int.pow_add]; rfl,by omega,hbe.trans hbe'⟩
   case measure=>simp [intOf]; omega
  ·have hkq:k=q:=by omega
   have HK:Hid (k=q):=hkq
   clear hkq
   have hten:(0:Int) < 10 ^ t:=Int.pow_pos (by decide)
   have hten1:(10:Int) ^ t < 18446744073709551616:=by
    have:(10:Nat) ^ t<=10 ^ 18:=Nat.pow_le_pow_right (by decide) (by omega)
    have e:((10 ^ t:Nat):Int)=(10:Int) ^ t:=by rw [Int.natCast_pow]; rfl
    have e2:(10:Nat) ^ 18=1000000000000000000:=by decide
    omega
   have tT:=tenTo_any t wr (by omega)
   generalize hp:(10:Int) ^ t=p at *
   have HP:Hid ((10:Int) ^ t=p):=hp
   clear hp
   go_wp2_with fail
   refine tT.mono ?_
   rintro e w4 ⟨rfl,rfl⟩
   go_wp2_with fail
   refine (scale_any w.heap.size _ l p 0 _ hsz hm (by omega) wl (by omega) hten1 (by decide) (by decide)).mono ?_
   rintro e w5 ⟨v',r,rfl,hm',wr',hv',hlen',hn',hbe'⟩
   have e1:=hv.out
   have e2:=hn' hnl.out hten
   have e3:val r=10 ^ n:=by rw [hv',e1,Int.add_zero,HN.out,Int.pow_add,HP.out,HK.out]
   clear hv'
   go_wp2
   go_ret2
   exact ⟨v',r,rfl,hm'.new,⟨wr',e2,e3⟩,by omega,hbe.trans hbe'⟩
end
section
open Go.RowKit Lim
end
section
open Go.RowKit Lim
structure AtB (w:World) (ao:Option Addr) (b o:Nat) (l:List Int):Prop where
 loc:l=[]\/ao=some ⟨b,o,none⟩
 cell:∀ i,i < l.length->w.cell? ⟨b,o + i,none⟩=some (.int .u8 (nth l i))
theorem AtB.lt {w:World} {ao:Option Addr} {b o:Nat} {l:List Int} (k:AtB w ao b o l):l=[]\/b < w.heap.size:=by
 cases l with
 | nil=>exact .inl rfl
 | cons x l=>exact .inr (cell_lt (k.cell 0 (by simp)))
theorem AtB.keep {w w':World} (h:Below w.heap.size w w') {ao:Option Addr} {b o:Nat} {l:List Int} (k:AtB w ao b o l):AtB w' ao b o l :=
 ⟨k.loc,fun i hi=>by
  rcases k.lt with e | e
  ·subst e; simp at hi
  ·rw [h.cell (p:=⟨b,o + i,none⟩) e]; exact k.cell i hi⟩
theorem AtB.wr {b o n:Nat} {w w':World} (h:Wr b o n w w') {ao:Option Addr} {b' o':Nat} {l:List Int} (k:AtB w ao b' o' l) (hb:l=[]\/b'≠b):AtB w' ao b' o' l :=
 ⟨k.loc,fun i hi=>by
  rcases hb with e | e
  ·subst e; simp at hi
  ·rw [h.other e]; exact k.cell i hi⟩
theorem AtB.setCell {w : World} {ao : Option Addr} {b o : Nat} {l : List Int} (k : AtB w ao b o l) {i : Nat} (hi : i < l.length) (x : Int) : AtB (w.setCell ⟨b, o + i, none⟩ (.int .u8 x)) ao b o (l.set i x) :=
  ⟨by rcases k.loc with e | e
      · subst e; simp at hi
      · exact .inr e, fun j hj => by
    rw [List.length_set] at hj
    have hc := k.cell j hj
    rw [nth_set hi]
    have hci := k.cell i hi
    simp only [World.cell?, World.setCell, Array.getElem?_modify, if_true] at hc hci ⊢
    cases hh : w.heap[b]? with
    | none => rw [hh] at hc; simp at hc
    | some ob =>
      rw [hh] at hc hci
      cases ob with
      | cells c e f =>
        simp at hc hci ⊢
        rw [Array.getElem?_setIfInBounds]
        by_cases e : j = i
        · subst e
          obtain ⟨hlt, _⟩ := Array.getElem?_eq_some_iff.1 hci
          simp [hlt]
        · rw [if_neg (by omega), if_neg e]; exact hc
      | _ => simp at hc⟩
structure NewB (w w':World) (v:Value) (l:List Int):Prop where
 is:∃ ao b o c,v=.slice ao l.length c/\l.length<=c/\w.heap.size<=b/\AtB w' ao b o l/\Free w' b o l.length
def Octets (l:List Int):Prop:=∀ x∈l,0<=x/\x < 256
theorem Octets.nth {l:List Int} (h:Octets l) (i:Nat):0<=nth l i/\nth l i < 256:=by
 by_cases hi:i < l.length
 ·exact h _ (nth_mem hi)
 ·rw [nth_ge (by omega)]; decide
def bval:List Int->Int
 | []=>0
 | x :: l=>x * 256 ^ l.length + bval l
theorem bval_bound {l:List Int} (h:Octets l):0<=bval l/\bval l < 256 ^ l.length:=by
 induction l with
 | nil=>simp [bval]
 | cons x l ih =>
  have h1:=ih (fun y hy=>h y (List.mem_cons_of_mem _ hy))
  have h2:=h x List.mem_cons_self
  have hp:(0:Int) < 256 ^ l.length:=Int.pow_pos (by decide)
  have h3:0<=x * 256 ^ l.length:=Int.mul_nonneg h2.1 (Int.le_of_lt hp)
  have h4:x * 256 ^ l.length<=255 * 256 ^ l.length:=Int.mul_le_mul_of_nonneg_right (by omega) (Int.le_of_lt hp)
  rw [bval,List.length_cons,Int.pow_succ]; omega
def IsB (l:List Int) (n:Int):Prop:=Octets l/\(l≠[]->nth l 0≠0)/\bval l=n
theorem bval_inj:∀ {a b:List Int},Octets a->Octets b->a.length=b.length->bval a=bval b->a=b
 | [],[],_,_,_,_=>rfl
 | x :: a,y :: b,ha,hb,hl,hv=>by
  have ha':Octets a:=fun z hz=>ha z (List.mem_cons_of_mem _ hz)
  have hb':Octets b:=fun z hz=>hb z (List.mem_cons_of_mem _ hz)
  have hl':a.length=b.length:=by simpa using hl
  have h1:=bval_bound ha'
  have h2:=bval_bound hb'
  rw [bval,bval,hl'] at hv
  rw [hl'] at h1
  have hp:(0:Int) < 256 ^ b.length:=Int.pow_pos (by decide)
  have e:x=y:=by
   rcases Int.lt_trichotomy x y with c | c | c
   ·have:(x + 1) * 256 ^ b.length<=y * 256 ^ b.length:=Int.mul_le_mul_of_nonneg_right (by omega) (Int.le_of_lt hp)
    rw [Int.add_mul] at this; omega
   ·exact c
   ·have:(y + 1) * 256 ^ b.length<=x * 256 ^ b.length:=Int.mul_le_mul_of_nonneg_right (by omega) (Int.le_of_lt hp)
    rw [Int.add_mul] at this; omega
  subst e
  rw [bval_inj ha' hb' hl' (by omega)]
theorem bval_ge {l:List Int} (h:Octets l) (h0:l≠[]) (h1:nth l 0≠0):256 ^ (l.length - 1)<=bval l:=by
 cases l with
 | nil=>exact absurd rfl h0
 | cons x l =>
  rw [nth_zero] at h1
  have h2:=h x List.mem_cons_self
  have h3:=bval_bound (l:=l) (fun z hz=>h z (List.mem_cons_of_mem _ hz))
  have hp:(0:Int) < 256 ^ l.length:=Int.pow_pos (by decide)
  have:1 * 256 ^ l.length<=x * 256 ^ l.length:=Int.mul_le_mul_of_nonneg_right (by omega) (Int.le_of_lt hp)
  rw [bval,List.length_cons,Nat.add_sub_cancel]; omega
theorem pow256_mono {a b:Nat} (h:a<=b):(256:Int) ^ a<=256 ^ b:=by
 have:(256:Nat) ^ a<=256 ^ b:=Nat.pow_le_pow_right (by decide) h
 have e1:((256 ^ a:Nat):Int)=(256:Int) ^ a:=by rw [Int.natCast_pow]; rfl
 have e2:((256 ^ b:Nat):Int)=(256:Int) ^ b:=by rw [Int.natCast_pow]; rfl
 omega
theorem isB_unique {a b:List Int} {n:Int} (ha:IsB a n) (hb:IsB b n):a=b:=by
 apply bval_inj ha.1 hb.1
 ·have key:∀ {a b:List Int},IsB a n->IsB b n->¬ a.length < b.length:=by
   intro a b ha hb hlt
   have h1:=(bval_bound ha.1).2
   have h2:=bval_ge hb.1 (fun e=>by subst e; simp at hlt) (hb.2.1 (fun e=>by subst e; simp at hlt))
   rw [ha.2.2] at h1
   rw [hb.2.2] at h2
   have:=pow256_mono (show a.length<=b.length - 1 by omega)
   omega
  have h1:=key ha hb
  have h2:=key hb ha
  omega
 ·rw [ha.2.2,hb.2.2]
end
section
open Go.RowKit Lim
theorem bpow (k:Nat):(18446744073709551616:Int) ^ k=((2 ^ (64 * k):Nat):Int):=by
 rw [Nat.pow_mul,Int.natCast_pow]; rfl
theorem bits_top {l:List Int} (wl:Words l) (hn:nlen l≠0):bitLen (val l).toNat=64 * (nlen l - 1) + bitLen (nth l (nlen l - 1)).toNat:=by
 have h0:=val_nonneg wl
 have hs:=val_split (norm l) (nlen l - 1) (by rw [norm_length]; omega)
 have hd:(norm l).drop (nlen l - 1)=[nth l (nlen l - 1)]:=by
  apply nth_ext
  ·simp [norm_length]; omega
  ·intro i hi
   simp [norm_length] at hi
   have:i=0:=by omega
   subst this
   rw [nth_drop,norm_nth,nth_zero]; rfl
 rw [hd,val_single,val_norm] at hs
 have h1:=val_lt (wl.norm.take (nlen l - 1))
 have h2:=val_nonneg (wl.norm.take (nlen l - 1))
 rw [List.length_take,norm_length,Nat.min_eq_left (by omega)] at h1
 have h3:=wl.nth (nlen l - 1)
 have h4:=nlen_last hn
 generalize nth l (nlen l - 1)=x at *
 generalize val ((norm l).take (nlen l - 1))=y at *
 generalize nlen l - 1=k at *
 rw [bpow] at hs h1
 obtain ⟨x,rfl⟩:=Int.eq_ofNat_of_zero_le h3.1
 obtain ⟨y,rfl⟩:=Int.eq_ofNat_of_zero_le h2
 obtain ⟨v,hv⟩:=Int.eq_ofNat_of_zero_le h0
 rw [hv] at hs ⊢
 have hq:v / 2 ^ (64 * k)=x:=by
  have hv2:v=y + 2 ^ (64 * k) * x:=by
   have:(v:Int)=((y + 2 ^ (64 * k) * x:Nat):Int):=by rw [hs,Int.natCast_add,Int.natCast_mul]
   exact Int.ofNat.inj this
  rw [hv2,Nat.add_mul_div_left _ _ (Nat.two_pow_pos _),Nat.div_eq_of_lt (by omega),Nat.zero_add]
 rw [Int.toNat_natCast,Int.toNat_natCast,bitLen_shift v (64 * k) (by rw [hq]; omega),hq]
theorem bits_any (ao:Option Addr) (n c b o:Nat) (l:List Int) (w:World) (hl:l.length=n) (hc:n<=c) (hbig:n<=1099511627776) (wl:Words l) (ha:At w ao b o l) :
  Calls Tryz.prog 244 #[.slice ao n c] w fun e w'=>e=.returned (.int .i64 (bitLen (val l).toNat))/\Below w.heap.size w w':=by
 have hn:=nlen_le l
 have t1:=trim_any ao n c l w hl hc (by omega) ha.cells
 by_cases h0:nlen l=0
 ·rw [h0] at t1
  have hv:(val l).toNat=0:=by rw [(nlen_eq_zero_iff_val wl).1 h0]; rfl
  rw [hv,show bitLen 0=0 from rfl]
  go_enter Tryz.func244,Tryz.ntmps244
  go_wp2_with fail
  refine t1.mono ?_
  rintro e w1 ⟨rfl,rfl⟩
  go_wp2_with fail
  go_ret
  exact ⟨rfl,Below.refl _ _⟩
 ·have ht:=bits_top wl h0
  have hx:=wl.nth (nlen l - 1)
  have hcell:=ha.cell (nlen l - 1) (by omega)
  have hl64:=bitLen_le64 (n:=(nth l (nlen l - 1)).toNat) (by omega)
  have t2:=fun wx=>clz64 (nth l (nlen l - 1)) wx hx.1 hx.2
  rcases ha.loc with e | rfl
  ·subst e; simp [nlen] at h0
  rw [ht]
  generalize nth l (nlen l - 1)=x at *
  generalize bitLen x.toNat=L at *
  clear ht ha
  obtain ⟨k,hk⟩:∃ k,nlen l=k + 1:=⟨nlen l - 1,by omega⟩
  rw [hk] at t1 hcell hn ⊢
  rw [Nat.add_sub_cancel] at hcell ⊢
  clear hk h0
  have hk0:(k:Int) < (k:Int) + 1:=by omega
  go_enter Tryz.func244,Tryz.ntmps244
  go_wp2_with fail
  refine t1.mono ?_
  rintro e w1 ⟨rfl,rfl⟩
  clear t1
  go_wp2_with fail
  refine (t2 _).mono ?_
  rintro e w2 ⟨rfl,rfl⟩
  go_wp2
  go_ret
  exact ⟨ret1 (by omega),Below.refl _ _⟩
theorem isN_nil':IsN [] 0:=⟨Words.nil,rfl,rfl⟩
structure FbInv (lb:List Int) (m k:Nat) (lz:List Int):Prop where
 len:lz.length=m
 words:Words lz
 val:Lim.val lz=bval (lb.drop (lb.length - k))
theorem bval_drop {l:List Int} {i:Nat} (h:i < l.length):bval (l.drop i)=nth l i * 256 ^ (l.length - 1 - i) + bval (l.drop (i + 1)):=by
 rw [List.drop_eq_getElem_cons h,bval,nth_eq h,List.length_drop,show l.length - (i + 1)=l.length - 1 - i from by omega]
theorem Octets.drop {l:List Int} (h:Octets l) (k:Nat):Octets (l.drop k):=fun x hx=>h x (List.mem_of_mem_drop hx)
theorem val_set {l:List Int} {i:Nat} (h:i < l.length) (x:Int):val (l.set i x)=val l + 18446744073709551616 ^ i * (x - nth l i):=by
 have e1:=val_split (l.set i x) i (by simp; omega)
 have e2:=val_split l i (by omega)
 rw [List.take_set_of_le (Nat.le_refl _),List.drop_set,if_neg (by omega),Nat.sub_self] at e1
 rw [List.drop_eq_getElem_cons h,List.set_cons_zero,val] at e1
 rw [List.drop_eq_getElem_cons h,val] at e2
 rw [e1,e2,nth_eq h]; grind
theorem limb_lt {l:List Int} (wl:Words l) {i:Nat} (h:i < l.length) {P:Int} (hP:val l < 18446744073709551616 ^ i * P):nth l i < P:=by
 have e2:=val_split l i (by omega)
 rw [List.drop_eq_getElem_cons h,val] at e2
 have h1:=val_nonneg (wl.take i)
 have h2:=val_nonneg (wl.drop (i + 1))
 have hp:=pow_pos i
 have h3:0<=18446744073709551616 ^ i * (18446744073709551616 * val (l.drop (i + 1))):=Int.mul_nonneg (Int.le_of_lt hp) (by omega)
 rw [Int.mul_add] at e2
 have h4:18446744073709551616 ^ i * nth l i < 18446744073709551616 ^ i * P:=by rw [nth_eq h]; omega
 exact Int.lt_of_mul_lt_mul_left h4 (Int.le_of_lt hp)
theorem pow_parts (k:Nat):(256:Int) ^ k=18446744073709551616 ^ (k / 8) * 2 ^ (8 * (k % 8)):=by
 have e:(18446744073709551616:Int)=256 ^ 8:=by decide
 have e2:(2:Int) ^ (8 * (k % 8))=256 ^ (k % 8):=by rw [Int.pow_mul]; rfl
 rw [e,e2,<- Int.pow_mul,<- Int.pow_add]; congr 1; omega
theorem fb_step {lb lz:List Int} {m k:Nat} (hb:Octets lb) (hm:(lb.length + 7) / 8=m) (h:FbInv lb m k lz) (hk:k < lb.length) :
  bits .or .u64 (nth lz (k / 8)) (IntKind.u64.wrap (nth lb (lb.length - 1 - k) * 2 ^ (8 * (k % 8))))=nth lz (k / 8) + nth lb (lb.length - 1 - k) * 2 ^ (8 * (k % 8)) /\
  FbInv lb m (k + 1) (lz.set (k / 8) (nth lz (k / 8) + nth lb (lb.length - 1 - k) * 2 ^ (8 * (k % 8)))):=by
 have hl:=h.len
 have hx:=hb.nth (lb.length - 1 - k)
 have hbd:=bval_bound (hb.drop (lb.length - k))
 rw [List.length_drop,show lb.length - (lb.length - k)=k from by omega] at hbd
 have hv:=h.val
 have hz:=h.words.nth (k / 8)
 have hlt:=limb_lt h.words (i:=k / 8) (by omega) (P:=2 ^ (8 * (k % 8))) (by rw [<- pow_parts,hv]; exact hbd.2)
 have hS:(0:Int) < 2 ^ (8 * (k % 8)):=Int.pow_pos (by decide)
 have hT:(2:Int) ^ (8 * (k % 8)) * 256<=18446744073709551616:=by
  have:(2:Nat) ^ (8 * (k % 8))<=2 ^ 56:=Nat.pow_le_pow_right (by decide) (by omega)
  have e:((2 ^ (8 * (k % 8)):Nat):Int)=(2:Int) ^ (8 * (k % 8)):=by rw [Int.natCast_pow]; rfl
  have e2:(2:Nat) ^ 56=72057594037927936:=by decide
  omega
 have hx1:0<=nth lb (lb.length - 1 - k) * 2 ^ (8 * (k % 8)):=Int.mul_nonneg hx.1 (Int.le_of_lt hS)
 have hx2:nth lb (lb.length - 1 - k) * 2 ^ (8 * (k % 8))<=255 * 2 ^ (8 * (k % 8)):=Int.mul_le_mul_of_nonneg_right (by omega) (Int.le_of_lt hS)
 constructor
 ·rw [IntKind.wrap_u64,Int.emod_eq_of_lt hx1 (by omega)]
  rw [u64_or _ _ hz.1 hz.2 hx1 (by omega),Nat.or_comm,<- u64_or _ _ hx1 (by omega) hz.1 hz.2]
  rw [or_add _ _ (8 * (k % 8)) _ rfl hx.1 (by omega) hz.1 hlt hz.2,Int.add_comm]
 ·refine ⟨by simp [hl],h.words.set _ (by omega) (by omega),?_⟩
  rw [val_set (by omega),hv,show lb.length - (k + 1)=lb.length - 1 - k from by omega,bval_drop (l:=lb) (i:=lb.length - 1 - k) (by omega),show lb.length - 1 - k + 1=lb.length - k from by omega,show lb.length - 1 - (lb.length - 1 - k)=k from by omega,pow_parts k]
  grind
theorem from_no (ao:Option Addr) (n c b o:Nat) (lb:List Int) (w:World) (hl:lb.length=n) (hn:0 < n) (ha:AtB w ao b o lb) (h0:nth lb 0=0) :
  Calls Tryz.prog 356 #[.slice ao n c] w fun e w'=>e=.returned (.tuple #[.slice none 0 0,.int .i64 13])/\w'=w:=by
 rcases ha.loc with e | rfl
 ·subst e; simp at hl; omega
 have hc:=ha.cell 0 (by omega)
 rw [h0,Nat.add_zero] at hc
 go_enter Tryz.func356,Tryz.ntmps356
 go_wp2
 go_ret2
 exact ⟨rfl,rfl⟩
theorem from_yes (ao:Option Addr) (n c b o:Nat) (lb:List Int) (w:World) (hl:lb.length=n) (hbig:n<=1099511627776) (ho:Octets lb) (ha:AtB w ao b o lb) (h0:0 < n->nth lb 0≠0) :
  Calls Tryz.prog 356 #[.slice ao n c] w fun e w'=>∃ v r,e=.returned (.tuple #[v,.int .i64 0])/\NewV w w' v r/\IsN r (bval lb)/\r.length<=n/\Below w.heap.size w w':=by
 obtain ⟨m,hm⟩:∃ m:Nat,((n:Int) + 7) / 8=m:=⟨(n + 7) / 8,by omega⟩
 have hm2:m<=n:=by omega
 have hne:lb=[]\/b≠w.heap.size:=by
  rcases ha.lt with e | e
  ·exact .inl e
  ·exact .inr (by omega)
 by_cases hn:0 < n
 ·rcases ha.loc with e | rfl
  ·subst e; simp at hl; omega
  have hc:=ha.cell 0 (by omega)
  rw [Nat.add_zero] at hc
  have hcz:(nth lb 0 == 0)=false:=beq_eq_false_iff_ne.2 (h0 hn)
  have hfin:nth lb 0≠0:=h0 hn
  have HF:=(show Hid _ from hfin)
  clear hfin h0
  go_enter Tryz.func356,Tryz.ntmps356
  go_wp2_with (at_make; refine wpList_makeN rfl _ _ rfl m _ _ rfl rfl (by omega) (by omega) (by omega) ?_; intro w1 hrow hbel hsz)
  have hatb:=ha.keep hbel
  clear hc hcz
  go_loopw [22] (fun ti wr=>∃ (k:Nat) (lz:List Int),k<=n/\ti=.int .i64 k/\FbInv lb m k lz/\At wr (some ⟨w.heap.size,0,none⟩) w.heap.size 0 lz/\Wr w.heap.size 0 m w1 wr) (fun ti _=>n - (intOf ti).toNat)
  case atStart=>exact ⟨0,_,Nat.zero_le _,rfl,⟨by simp,words_zero _,by rw [Nat.sub_zero,List.drop_length,val_zeros fun i=>by simp [nth,List.getElem?_replicate]; split<;>rfl]; rfl⟩,hrow.at,Wr.refl _ _ _ _⟩
  case round =>
   obtain ⟨k,lz,hk,rfl,hinv,hat,hwr⟩:=hrel
   have hlen:=hinv.len
   by_cases hlt:k < n
   ·obtain ⟨i,hi⟩:∃ i:Nat,(k:Int) / 8=i:=⟨k / 8,by omega⟩
    obtain ⟨j,hj⟩:∃ j:Nat,(k:Int) % 8=j:=⟨k % 8,by omega⟩
    obtain ⟨h,hh⟩:∃ h:Nat,(n:Int) - 1 - k=h:=⟨n - 1 - k,by omega⟩
    have hi1:(i:Int) < m:=by omega
    have hh1:(h:Int) < n:=by omega
    have hj1:j < 8:=by omega
    have hcz:=hat.cell i (by omega)
    have hcb:=(hatb.wr hwr hne).cell h (by omega)
    have hfr:=hwr.free (hrow.free 0 m) i (by omega)
    rw [Nat.zero_add] at hcz hfr
    have hst:=fb_step ho (m:=m) (by omega) hinv (by omega)
    rw [show k / 8=i from by omega,show k % 8=j from by omega,show lb.length - 1 - k=h from by omega] at hst
    obtain ⟨hst1,hst2⟩:=hst
    have HS:=(show Hid _ from hst2)
    have HA:=(show Hid _ from hat)
    have HW:=(show Hid _ from hwr)
    have hxx:=ho.nth h
    clear hst2 hat hwr hinv hrow hatb ho
    generalize nth lz i=z at *
    generalize nth lb h=x at *
    go_wp2_with fail
    go_region
    go_wp2
    rw [Nat.mul_comm j 8,hst1]
    refine ⟨⟨k + 1,_,by omega,by go_num,HS.out,?_,?_⟩,by simp [intOf]; omega⟩
    ·have:=(HA.out.setCell (i:=i) (by omega) (z + x * 2 ^ (8 * j))).drew
     rwa [Nat.zero_add] at this
    ·exact (HW.out.setCell (by omega) (by omega) _).drew
   ·have hkn:k=n:=by omega
    subst hkn
    have hv:=hinv.val
    rw [<- hl,Nat.sub_self,List.drop_zero] at hv
    have hfz:=hwr.free (hrow.free 0 m)
    have HB:=hbel.trans (hwr.below (Nat.le_refl _))
    have hbb:=bval_bound ho
    have hge:=bval_ge ho (fun e=>by subst e; simp at hl; omega) HF.out
    have hnm:nlen lz=lz.length:=by
     have h1:=nlen_le lz
     by_cases c:nlen lz < lz.length
     ·have h2:=val_lt_nlen hinv.words
      have h3:=pow_mono (show nlen lz<=m - 1 by omega)
      have h4:(18446744073709551616:Int) ^ (m - 1)<=256 ^ (lb.length - 1):=by
       rw [show (18446744073709551616:Int)=256 ^ 8 from by decide,<- Int.pow_mul]
       exact pow256_mono (by omega)
      rw [hv] at h2
      omega
     ·omega
    have HI:IsN lz (bval lb):=⟨hinv.words,hnm,hv⟩
    clear hinv hrow hwr hbel hatb hv hbb hge hnm
    go_wp2
    go_ret2
    exact ⟨_,lz,rfl,NewV.of hlen.symm (Nat.le_refl _) (Nat.le_refl _) hat hfz,HI,by omega,HB⟩
 ·have hn0:n=0:=by omega
  subst hn0
  have e0:lb=[]:=List.eq_nil_of_length_eq_zero hl
  subst e0
  have hm0:m=0:=by omega
  subst hm0
  clear hm ha hne
  go_enter Tryz.func356,Tryz.ntmps356
  go_wp2_with (at_make; refine wpList_makeN rfl _ _ rfl 0 _ _ rfl rfl (by omega) (by omega) (by omega) ?_; intro w1 hrow hbel hsz)
  refine wp_loop_rounds 1 ?_
  rw [rounds_succ]
  go_wp2
  go_ret2
  exact ⟨_,[],rfl,NewV.of rfl (Nat.le_refl _) (Nat.le_refl _) hrow.at (hrow.free _ _),isN_nil',by simp,hbel⟩
end
section
open Go.RowKit Lim
end
section
open Go.RowKit Lim
end
section
open Go.RowKit Lim
structure NatA (w:World) (ao:Option Addr) (n c:Nat) (x:Int):Prop where
 ex:∃ b o l,l.length=n/\n<=c/\Words l/\At w ao b o l/\val l=x
structure NatO (w:World) (ao:Option Addr) (n c:Nat) (x:Int):Prop where
 ex:∃ b o l,l.length=n/\n<=c/\IsN l x/\At w ao b o l
theorem NatO.a {w:World} {ao:Option Addr} {n c:Nat} {x:Int} (h:NatO w ao n c x):NatA w ao n c x:=by
 obtain ⟨b,o,l,h1,h2,h3,h4⟩:=h.ex
 exact ⟨b,o,l,h1,h2,h3.1,h4,h3.2.2⟩
theorem NatA.keep {w w':World} {ao:Option Addr} {n c:Nat} {x:Int} (h:NatA w ao n c x) (hb:Below w.heap.size w w'):NatA w' ao n c x:=by
 obtain ⟨b,o,l,h1,h2,h3,h4,h5⟩:=h.ex
 exact ⟨b,o,l,h1,h2,h3,h4.keep hb,h5⟩
theorem NatO.keep {w w':World} {ao:Option Addr} {n c:Nat} {x:Int} (h:NatO w ao n c x) (hb:Below w.heap.size w w'):NatO w' ao n c x:=by
 obtain ⟨b,o,l,h1,h2,h3,h4⟩:=h.ex
 exact ⟨b,o,l,h1,h2,h3,h4.keep hb⟩
theorem natO_nil (w:World):NatO w none 0 0 0:=⟨0,0,[],rfl,Nat.le_refl _,isN_nil,.inl rfl,fun i hi=>by simp at hi⟩
theorem NewV.o {w w':World} {v:Value} {r:List Int} {x:Int} (h:NewV w w' v r) (hI:IsN r x):∃ a c,v=.slice a r.length c/\NatO w' a r.length c x:=by
 obtain ⟨ao,b,o,c,e,h1,h2,h3,h4⟩:=h.is
 exact ⟨ao,c,e,b,o,r,rfl,h1,hI,h3⟩
theorem joinB {w wa w':World} (b:Below w.heap.size w wa) (h:Below wa.heap.size wa w'):Below w.heap.size w w':=b.trans (h.mono b.size)
theorem nCmp {w:World} {ao ao':Option Addr} {n c n' c':Nat} {x y:Int} (h:NatA w ao n c x) (h':NatA w ao' n' c' y) (hn:n<=1099511627776) (hn':n'<=1099511627776) :
  Calls Tryz.prog 78 #[.slice ao n c,.slice ao' n' c'] w fun e w'=>e=.returned (.int .i64 (sgn x y))/\Below w.heap.size w w':=by
 obtain ⟨b,o,l,h1,h2,h3,h4,rfl⟩:=h.ex
 obtain ⟨b',o',l',h1',h2',h3',h4',rfl⟩:=h'.ex
 exact cmp_any ao n c b o ao' n' c' b' o' l l' w h1 h1' h2 h2' hn hn' h3 h3' h4 h4'
theorem nPow {w:World} (n:Nat) (hn:n<=4096) :
  Calls Tryz.prog 245 #[.int .i64 n] w fun e w'=>∃ a k d,e=.returned (.tuple #[.slice a k d,.int .i64 0])/\NatO w' a k d (10 ^ n)/\k<=n + 2/\Below w.heap.size w w':=by
 refine (pow10_any n w hn).mono ?_
 rintro e w' ⟨v,r,rfl,hnw,hI,hlen,hB⟩
 obtain ⟨a,d,rfl,hO⟩:=hnw.o hI
 exact ⟨a,_,d,rfl,hO,hlen,hB⟩
structure Slot (w:World) (g:Nat) (v:Value) (t:TypeId):Prop where
 blk:w.heap[g]? = some (.cells #[v] t (0,0))
theorem Slot.cell {w:World} {g:Nat} {v:Value} {t:TypeId} (h:Slot w g v t):w.cell? ⟨g,0,none⟩=some v:=cell_of_one h.blk
theorem Slot.free {w:World} {g:Nat} {v:Value} {t:TypeId} (h:Slot w g v t):w.frozen? ⟨g,0,none⟩=false:=free_of_one h.blk
theorem Slot.lt {w:World} {g:Nat} {v:Value} {t:TypeId} (h:Slot w g v t):g < w.heap.size:=lt_of_block h.blk
theorem Slot.keep {w w':World} {g:Nat} {v:Value} {t:TypeId} (h:Slot w g v t) (hb:Below w.heap.size w w'):Slot w' g v t:=⟨by rw [hb.block g h.lt]; exact h.blk⟩
theorem Slot.put {w:World} {g:Nat} {v:Value} {t:TypeId} (h:Slot w g v t) (u:Value):Slot (w.setCell ⟨g,0,none⟩ u) g u t:=⟨one_setCell h.blk⟩
theorem slot_new (w:World) (v:Value) (t:TypeId):Slot (w.alloc (.cells #[v] t)) w.heap.size v t:=⟨by
 show (w.heap.push _)[w.heap.size]? = _
 rw [Array.getElem?_push_size]⟩
theorem Slot.alloc {w:World} {g:Nat} {v:Value} {t:TypeId} (h:Slot w g v t) (o:Obj):Slot (w.alloc o) g v t:=h.keep (below_alloc w o)
theorem slot_last2 (w:World) (o:Obj) (v:Value) (t:TypeId):Slot ((w.alloc o).alloc (.cells #[v] t)) (w.heap.size + 1) v t:=by
 have:=slot_new (w.alloc o) v t
 rwa [show (w.alloc o).heap.size=w.heap.size + 1 by simp] at this
theorem below2 (w:World) (o o':Obj):Below w.heap.size w ((w.alloc o).alloc o'):=joinB (below_alloc w o) (below_alloc _ o')
theorem info_dec:(Tryz.prog.info? 107).map (·.size)=some 1:=by kernel_rfl
theorem under_dec : ∃ f, Tryz.prog.underlying 107 = some (.struct f) := by
  cases h : Tryz.prog.underlying 107 with
  | none => exact absurd h (by have : (Tryz.prog.underlying 107).isSome = true := by kernel_rfl
                               intro e; rw [e] at this; simp at this)
  | some d =>
    have : (match Tryz.prog.underlying 107 with | some (.struct _) => true | _ => false) = true := by kernel_rfl
    rw [h] at this
    cases d <;> first | exact ⟨_, rfl⟩ | simp at this
theorem load_dec {w:World} {g:Nat} {v:Value} {t:TypeId} (s:Slot w g v t):(loadVar 107 ⟨g,0,none⟩).run Tryz.prog w=.ok (.agg #[v]) w:=by
 obtain ⟨f,hu⟩:=under_dec
 exact run_loadVar_row w g t 107 #[v] (0,0) _ s.blk hu rfl info_dec
theorem ret_dec {fn:Func} {p:Tmp} (h:fn.results=#[.cell p 107]) {tmps:Array Value} {w:World} {g:Nat} {v:Value} {t:TypeId} (hp:tmps.getD p undef=.pointer (some ⟨g,0,none⟩)) (s:Slot w g v t) :
  (results fn tmps).run Tryz.prog w=.ok (.agg #[v]) w:=by
 have hp':tmps[p]?.getD undef=.pointer (some ⟨g,0,none⟩):=by simpa using hp
 simp [results,h,hp',asAddr,load_dec s]
end
section
open Go.RowKit Lim
section
variable {ops:Array Oper} {Q:Exit->Act->World->Prop} {S:World->Prop} {fuel:Nat} {listed:Array Bool} {a:Act} {w:World}
theorem at_getD {i:Nat} (h:i < ops.size):ops[i]? = some (ops.getD i default):=by
 simp [Array.getD,h]
theorem i3 {α β γ:Type} {p:α->β->γ->Prop}:∀ c a w,p c a w->p c a w:=fun _ _ _ h=>h
theorem rg_done (hr:Region.ready .any ops listed=[]) (h:Q .normal a w):wpAnyH Tryz.prog .any ops Q S fuel listed a w:=wpAnyH_done hr h fuel
end
end
section
open Pg (rgWant ar_val)
open Go.RowKit Lim
structure Box (w:World) (g:Nat) (cs:List Value) (t:TypeId):Prop where
 blk:w.heap[g]? = some (.cells cs.toArray t (0,0))
theorem Box.lt {w:World} {g:Nat} {cs:List Value} {t:TypeId} (h:Box w g cs t):g < w.heap.size:=lt_of_block h.blk
theorem Box.keep {w w':World} {g:Nat} {cs:List Value} {t:TypeId} (h:Box w g cs t) (hb:Below w.heap.size w w'):Box w' g cs t:=⟨by rw [hb.block g h.lt]; exact h.blk⟩
theorem Box.drew {w:World} {g:Nat} {cs:List Value} {t:TypeId} (h:Box w g cs t):Box w.drew g cs t:=⟨h.blk⟩
theorem box_new (w:World) (cs:List Value) (t:TypeId):Box (w.alloc (.cells cs.toArray t)) w.heap.size cs t:=⟨by
 show (w.heap.push _)[w.heap.size]? = _
 rw [Array.getElem?_push_size]⟩
theorem Box.row {w:World} {g:Nat} {cs ds:List Value} {t:TypeId} (h:Box w g cs t):Box (w.setRow g ds.toArray) g ds t:=⟨by rw [setRow_heap w g _ _ _ _ h.blk]⟩
theorem below_row {B g:Nat} {w w':World} (h:Below B w w') (hB:B<=g) (ds:Array Value):Below B w (w'.setRow g ds) :=
 h.trans ⟨rfl,rfl,rfl,by simp [World.setRow],fun k hk=>setRow_other w' g k ds (by omega)⟩
theorem Box.off {w w':World} {g g':Nat} {cs:List Value} {t:TypeId} (h:Box w g cs t) (hne:g≠g') (hw:∀ k,k≠g'->w'.heap[k]? = w.heap[k]?):Box w' g cs t:=⟨by rw [hw g hne]; exact h.blk⟩
section
variable {ops:Array Oper} {Q:Exit->Act->World->Prop} {S:World->Prop} {fuel:Nat} {listed:Array Bool} {a:Act} {w:World}
theorem ar_nil:AllReadyH Tryz.prog .any ops Q S fuel listed a w []:=AllReadyH.nil
theorem ar_alloc {rs:List Nat} (i:Nat) (d:Option Tmp) (T:TypeId) (cs:List Value) (hc:rgWant ops a i d=true) (hrun:(execOp a.eval (ops.getD i default)).run Tryz.prog w=.ok (.value (.pointer (some ⟨w.heap.size,0,none⟩))) (w.alloc (.cells cs.toArray T)))
  (hk:∀ V,Box V w.heap.size cs T->Below w.heap.size w V->S V/\wpAnyH Tryz.prog .any ops Q S fuel (listed.setIfInBounds i true) (a.put d (.pointer (some ⟨w.heap.size,0,none⟩))) V)
  (hs:AllReadyH Tryz.prog .any ops Q S fuel listed a w rs):AllReadyH Tryz.prog .any ops Q S fuel listed a w (i :: rs):=by
 obtain ⟨h1,h2⟩:=hk _ (box_new w cs T) (below_alloc w _)
 exact ar_val i d _ _ hc hrun h1 h2 hs
end
end
section
open Go.RowKit Lim
theorem info_u8:(Tryz.prog.info? 5).map (fun i=>(i.zero,i.size,i.bytes))=some (some (.int .u8 0),1,1):=by kernel_rfl
theorem under_bytes:Tryz.prog.underlying 30=some (.slice 5):=by kernel_rfl
def RowB (w:World) (g:Nat) (l:List Int):Prop:=w.heap[g]? = some (.cells (l.map (Value.int .u8)).toArray 5 (0,0))
theorem RowB.at {w:World} {g:Nat} {l:List Int} (h:RowB w g l):AtB w (some ⟨g,0,none⟩) g 0 l :=
 ⟨.inr rfl,fun i hi=>by
  unfold RowB at h
  simp only [World.cell?,h]
  simp [nth_eq hi,hi]⟩
theorem RowB.free {w:World} {g:Nat} {l:List Int} (h:RowB w g l) (o n:Nat):Free w g o n:=by
 intro i _
 unfold RowB at h
 simp [World.frozen?,h]
theorem made_u8 (n:Nat):madeCells (Value.int .u8 0).cells n=((List.replicate n 0).map (Value.int .u8)).toArray:=by
 apply Array.ext
 ·simp [size_madeCells]
 ·intro j h1 h2
  simp [madeCells,Value.cells,Nat.mod_one]
theorem wpList_makeB {w:World} {ops:Array Oper} {rest:List Oper} {o:Oper} {a:Act} {Q:Exit->Act->World->Prop}
  (hg:o.guard=none) (l c:Operand) (hop:o.op=Op.makeSlice 30 l c) (n:Nat) (L C:Int) (hl:a.eval l=.int .i64 L) (hc:a.eval c=.int .i64 C) (hL:L=(n:Int)) (hC:C=(n:Int)) (hn:n<=17592186044416)
  (hK:∀ w',RowB w' w.heap.size (List.replicate n 0)->Below w.heap.size w w'->w'.heap.size=w.heap.size + 1->wpList Tryz.prog ops Q rest (a.put o.dst (.slice (some ⟨w.heap.size,0,none⟩) n n)) w') :
  wpList Tryz.prog ops Q (o :: rest) a w:=by
 obtain ⟨i,hi,hz,hs,hb⟩:=info_parts info_u8
 refine wpList_plain hg fun K hK' => ?_
 have hrun:=run_make (P:=Tryz.prog) w 30 5 i (.int .u8 0) under_bytes hi hz .i64 .i64 (n:Int) (n:Int) (by omega) (by omega) (by rw [hb]; omega) (by omega)
 subst hL
 subst hC
 unfold Oper.wp
 simp only [execOp,hop,hl,hc]
 simp [hrun,Result.andThen]
 refine hK' _ _ (hK _ ?_ ?_ ?_)
 ·show (w.heap.push _)[w.heap.size]? = _
  rw [Array.getElem?_push_size,hs,Nat.mul_one,made_u8]
 ·exact (Below.refl _ _).alloc (Nat.le_refl _) _
 ·simp
theorem emod_parts (V:Int) (hV:0<=V) (k:Nat):V % 256 ^ (k + 1)=(V / 256 ^ k % 256) * 256 ^ k + V % 256 ^ k:=by
 obtain ⟨v,rfl⟩:=Int.eq_ofNat_of_zero_le hV
 have e:∀ j:Nat,(256:Int) ^ j=((256 ^ j:Nat):Int):=fun j=>by rw [Int.natCast_pow]; rfl
 rw [e,e]
 have:=Nat.mod_mul (x:=v) (a:=256 ^ k) (b:=256)
 rw [<- Nat.pow_succ] at this
 have h2:((v % 256 ^ (k + 1):Nat):Int)=((v % 256 ^ k + 256 ^ k * (v / 256 ^ k % 256):Nat):Int):=by rw [this]
 rw [Int.natCast_add,Int.natCast_mul] at h2
 simp only [Int.natCast_emod,Int.natCast_ediv] at h2
 rw [h2,Int.add_comm,Int.mul_comm]; rfl
theorem bval_digits {r:List Int} {V:Int} (hV:0<=V) (h:∀ i,i < r.length->nth r (r.length - 1 - i)=V / 256 ^ i % 256):∀ k,k<=r.length->bval (r.drop (r.length - k))=V % 256 ^ k
 | 0,_=>by rw [Nat.sub_zero,List.drop_length]; simp [bval]
 | k + 1,hk=>by
  have ih:=bval_digits hV h k (by omega)
  rw [show r.length - (k + 1)=r.length - 1 - k from by omega,bval_drop (by omega),show r.length - 1 - k + 1=r.length - k from by omega,ih,h k (by omega),show r.length - 1 - (r.length - 1 - k)=k from by omega,emod_parts V hV k]
theorem byte_at {l:List Int} (wl:Words l) (i:Nat) (hi:i / 8 < l.length):nth l (i / 8) / 2 ^ (8 * (i % 8)) % 256=val l / 256 ^ i % 256:=by
 have e2:=val_split l (i / 8) (by omega)
 rw [List.drop_eq_getElem_cons hi,val,<- nth_eq hi] at e2
 have h1:=val_nonneg (wl.take (i / 8))
 have h2:=val_lt (wl.take (i / 8))
 rw [List.length_take,Nat.min_eq_left (by omega)] at h2
 have hp:=pow_pos (i / 8)
 have hS:(0:Int) < 2 ^ (8 * (i % 8)):=Int.pow_pos (by decide)
 have hB:(18446744073709551616:Int)=2 ^ (8 * (i % 8)) * (256 * 2 ^ (56 - 8 * (i % 8))):=by
  rw [show (256:Int)=2 ^ 8 from rfl,<- Int.pow_add,<- Int.pow_add,show 8 * (i % 8) + (8 + (56 - 8 * (i % 8)))=64 from by omega]; rfl
 rw [pow_parts,<- Int.ediv_ediv_of_nonneg (Int.le_of_lt hp),e2,Int.add_mul_ediv_left _ _ (by omega),Int.ediv_eq_zero_of_lt h1 h2,Int.zero_add]
 generalize nth l (i / 8)=x at *
 generalize val (l.drop (i / 8 + 1))=y at *
 conv=>rhs; rw [hB]
 rw [Int.mul_assoc,Int.add_mul_ediv_left _ _ (by omega),Int.mul_assoc,Int.add_mul_emod_self_left]
structure TbInv (V:Int) (m k:Nat) (r:List Int):Prop where
 len:r.length=m
 oct:Octets r
 dig:∀ i,i < k->nth r (m - 1 - i)=V / 256 ^ i % 256
theorem TbInv.step {V:Int} {m k:Nat} {r:List Int} {x:Int} (h:TbInv V m k r) (hk:k < m) (hx:x=V / 256 ^ k % 256):TbInv V m (k + 1) (r.set (m - 1 - k) x):=by
 have hl:=h.len
 refine ⟨by simp [hl],fun y hy => ?_,fun i hi => ?_⟩
 ·rcases List.mem_or_eq_of_mem_set hy with e | e
  ·exact h.oct y e
  ·subst e; rw [hx]; exact ⟨Int.emod_nonneg _ (by decide),Int.emod_lt_of_pos _ (by decide)⟩
 ·rw [nth_set (by omega)]
  by_cases e:i=k
  ·subst e; rw [if_pos rfl]; exact hx
  ·rw [if_neg (by omega)]; exact h.dig i (by omega)
theorem TbInv.done {V:Int} {m:Nat} {r:List Int} (h:TbInv V m m r) (hV:0<=V) (h1:V < 256 ^ m) (h2:m≠0->256 ^ (m - 1)<=V):IsB r V:=by
 have hl:=h.len
 have hv:=bval_digits hV (r:=r) (fun i hi=>by rw [hl]; exact h.dig i (by omega)) m (by omega)
 rw [hl,Nat.sub_self,List.drop_zero,Int.emod_eq_of_lt hV h1] at hv
 refine ⟨h.oct,fun hne => ?_,hv⟩
 have hm:m≠0:=fun e=>hne (List.eq_nil_of_length_eq_zero (by omega))
 have hd:=h.dig (m - 1) (by omega)
 rw [show m - 1 - (m - 1)=0 from by omega] at hd
 rw [hd]
 have hp:(0:Int) < 256 ^ (m - 1):=Int.pow_pos (by decide)
 have q1:1<=V / 256 ^ (m - 1):=by rw [Int.le_ediv_iff_mul_le hp]; have:=h2 hm; omega
 have q2:V / 256 ^ (m - 1) < 256:=by
  rw [Int.ediv_lt_iff_lt_mul hp,Int.mul_comm,<- Int.pow_succ,show (m - 1).succ=m from by omega]; exact h1
 rw [Int.emod_eq_of_lt (by omega) q2]; omega
theorem bytes_len {V:Int} (hV:0<=V):V < 256 ^ ((bitLen V.toNat + 7) / 8)/\((bitLen V.toNat + 7) / 8≠0->256 ^ ((bitLen V.toNat + 7) / 8 - 1)<=V):=by
 obtain ⟨v,rfl⟩:=Int.eq_ofNat_of_zero_le hV
 rw [Int.toNat_natCast]
 have hs:=bitLen_spec v
 have e:∀ j:Nat,(256:Int) ^ j=((2 ^ (8 * j):Nat):Int):=fun j=>by rw [Nat.pow_mul,Int.natCast_pow]; rfl
 rw [e,e]
 constructor
 ·have:=Nat.pow_le_pow_right (n:=2) (by decide) (show bitLen v<=8 * ((bitLen v + 7) / 8) by omega)
  have h1:=hs.1
  omega
 ·intro hm
  have hv0:v≠0:=by intro e; subst e; simp [bitLen] at hm
  have:=Nat.pow_le_pow_right (n:=2) (by decide) (show 8 * ((bitLen v + 7) / 8 - 1)<=bitLen v - 1 by omega)
  have h1:=hs.2 hv0
  omega
theorem NewB.of {w w':World} {l:List Int} {ao:Option Addr} {n c b o:Nat} (hn:n=l.length) (h1:n<=c) (h2:w.heap.size<=b) (h3:AtB w' ao b o l) (h4:Free w' b o n):NewB w w' (.slice ao n c) l:=by
 subst hn; exact ⟨ao,b,o,c,rfl,h1,h2,h3,h4⟩
theorem bytes_any (ao:Option Addr) (n c b o:Nat) (l:List Int) (w:World) (hl:l.length=n) (hc:n<=c) (hbig:n<=1099511627776) (wl:Words l) (ha:At w ao b o l) :
  Calls Tryz.prog 204 #[.slice ao n c] w fun e w'=>∃ v r,e=.returned v/\NewB w w' v r/\IsB r (val l)/\r.length=(bitLen (val l).toNat + 7) / 8/\r.length<=8 * n/\Below w.heap.size w w':=by
 have hV:=val_nonneg wl
 obtain ⟨hB1,hB2⟩:=bytes_len hV
 have t1:=bits_any ao n c b o l w hl hc hbig wl ha
 have hb64:bitLen (val l).toNat<=64 * n:=by
  have h1:=val_lt wl
  rw [hl,bpow] at h1
  have h2:=(bitLen_spec (val l).toNat).2
  by_cases c:bitLen (val l).toNat<=64 * n
  ·exact c
  ·have h3:(val l).toNat≠0:=by intro e; rw [e] at c; simp [bitLen] at c
   have h4:=Nat.pow_le_pow_right (n:=2) (by decide) (show 64 * n<=bitLen (val l).toNat - 1 by omega)
   have:=h2 h3
   omega
 obtain ⟨m,hm⟩:∃ m:Nat,((bitLen (val l).toNat:Int) + 7) / 8=m:=⟨(bitLen (val l).toNat + 7) / 8,by omega⟩
 have hm':(bitLen (val l).toNat + 7) / 8=m:=by omega
 rw [hm'] at hB1 hB2 ⊢
 generalize bitLen (val l).toNat=L at *
 have HM:=(show Hid ((L + 7) / 8=m) from hm')
 have hm8:m<=8 * n:=by omega
 clear hm'
 go_enter Tryz.func204,Tryz.ntmps204
 go_wp2_with fail
 refine t1.mono ?_
 rintro e w1 ⟨rfl,hb1⟩
 have ha1:=ha.keep hb1
 have hsz1:=hb1.size
 clear t1 ha
 go_wp2_with (at_make; refine wpList_makeB rfl _ _ rfl m _ _ rfl rfl (by omega) (by omega) (by omega) ?_; intro w2 hrow hbel hsz)
 have ha2:=ha1.keep hbel
 have hne:l=[]\/b≠w1.heap.size:=by
  rcases ha1.lt with e | e
  ·exact .inl e
  ·exact .inr (by omega)
 clear ha1
 go_loopw [12] (fun ti wr=>∃ (k:Nat) (r:List Int),k<=m/\ti=.int .i64 k/\TbInv (val l) m k r/\AtB wr (some ⟨w1.heap.size,0,none⟩) w1.heap.size 0 r/\Wr w1.heap.size 0 m w2 wr) (fun ti _=>m - (intOf ti).toNat)
 case atStart=>exact ⟨0,_,Nat.zero_le _,rfl,⟨by simp,fun x hx=>by rw [List.eq_of_mem_replicate hx]; decide,fun i hi=>by omega⟩,hrow.at,Wr.refl _ _ _ _⟩
 case round =>
  obtain ⟨k,r,hk,rfl,hinv,hat,hwr⟩:=hrel
  have hlen:=hinv.len
  by_cases hlt:k < m
  ·obtain ⟨i,hi⟩:∃ i:Nat,(k:Int) / 8=i:=⟨k / 8,by omega⟩
   obtain ⟨j,hj⟩:∃ j:Nat,(k:Int) % 8=j:=⟨k % 8,by omega⟩
   obtain ⟨h,hh⟩:∃ h:Nat,(m:Int) - 1 - k=h:=⟨m - 1 - k,by omega⟩
   have hi1:(i:Int) < n:=by omega
   have hh1:(h:Int) < m:=by omega
   have hj1:j < 8:=by omega
   rcases ha2.loc with e | rfl
   ·subst e; simp at hl; omega
   have hcz:=(ha2.wr hwr hne).cell i (by omega)
   have hfr:=hwr.free (hrow.free 0 m) h (by omega)
   have hco:=hat.cell h (by omega)
   rw [Nat.zero_add] at hfr hco
   have hx:=wl.nth i
   have hby:=byte_at wl k (by omega)
   rw [show k / 8=i from by omega,show k % 8=j from by omega] at hby
   have HS:Hid (TbInv (val l) m (k + 1) (r.set h (nth l i / 2 ^ (8 * j) % 256))):=by
    have:=hinv.step (x:=nth l i / 2 ^ (8 * j) % 256) hlt hby
    rwa [show m - 1 - k=h from by omega] at this
   have HA:=(show Hid _ from hat)
   have HW:=(show Hid _ from hwr)
   clear hat hwr hinv hrow ha2 wl hby
   generalize nth l i=x at *
   go_wp2_with fail
   rw [Nat.mul_comm j 8]
   refine ⟨⟨k + 1,_,by omega,by go_num,HS.out,?_,?_⟩,by simp [intOf]; omega⟩
   ·have:=HA.out.setCell (i:=h) (by omega) (x / 2 ^ (8 * j) % 256)
    rwa [Nat.zero_add] at this
   ·exact HW.out.setCell (by omega) (by omega) _
  ·have hkn:k=m:=by omega
   subst hkn
   have HI:=hinv.done hV hB1 hB2
   have hfz:=hwr.free (hrow.free 0 k)
   have HB:=(hb1.trans (hbel.mono hsz1)).trans (hwr.below hsz1)
   clear hinv hrow hwr hbel ha2 hb1
   go_wp2
   go_ret
   exact ⟨_,r,rfl,NewB.of hlen.symm (Nat.le_refl _) hsz1 hat hfz,HI,by omega,by omega,HB⟩
end
end Go.Proofs.YtopifdikfhffgaaGreat
